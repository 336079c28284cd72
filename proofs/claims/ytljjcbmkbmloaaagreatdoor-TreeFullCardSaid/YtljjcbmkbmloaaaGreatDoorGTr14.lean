import Derived.Test.YtljjcbmkbmloaaaGreatDoorGTr12
import Derived.Test.YtljjcbmkbmloaaaGreatDoorGTr13
import Derived.Test.YtljjcbmkbmloaaaGreatDoorGTrA
namespace Go.Proofs.YtljjcbmkbmloaaaGreatDoor
set_option maxHeartbeats 6400000
set_option maxRecDepth 100000
set_option linter.unusedVariables false
open Lib (hid)
section
set_option linter.unusedVariables false
open Go.ChangeShapes Go.WideShapes Go.ChangeAt Go.RowKit
def mO (lf:Bool)(s:List ByteArray×List ByteArray×bI):List ByteArray×List ByteArray×bI :=
 if lf then (s.1++[(jV s.2.2).1],s.2.1++[(jV (jV s.2.2).2.2).1],(jV (jV s.2.2).2.2).2.2) else (s.1++[(jV s.2.2).1],s.2.1,(jV s.2.2).2.2)
def dX (lf:Bool):Nat→bI→List ByteArray×List ByteArray×bI
 | 0,l=>([], [],l)
 | n+1,l=>mO lf (dX lf n l)
def wH (s:List ay×bI):List ay×bI:=(s.1++[(xW s.2).1],(xW s.2).2.2)
def kF:Nat→bI→List ay×bI
 | 0,l=>([],l)
 | n+1,l=>wH (kF n l)
def Vy (l:bI):Int:=(iO 1 l).1
def eP (l:bI):bI:=(iO 1 l).2.2
def qV (l:bI):Nat:=(iO 1 (eP l)).1.toNat
def lC (l:bI):Bool:=Vy l == 1
def dC (l:bI):aC :=
 ⟨lC l,(dX (lC l) (qV l) (eP (eP l))).1,(dX (lC l) (qV l) (eP (eP l))).2.1,
   if lC l then [] else (kF (qV l+1) (dX (lC l) (qV l) (eP (eP l))).2.2).1⟩
theorem x9 (lf:Bool):∀ n l,(dX lf n l).1.length=n∧(dX lf n l).2.1.length=if lf then n else 0
 | 0,l=>by cases lf <;> exact ⟨rfl,rfl⟩
 | n+1,l=>by
   obtain ⟨h1,h2⟩:=x9 lf n l
   unfold dX mO
   cases lf with
   | true=>simp only [if_true] at h2 ⊢; simp [h1,h2]
   | false=>simp only [Bool.false_eq_true,if_false] at h2 ⊢; simp [h1,h2]
theorem yf:∀ n l,(kF n l).1.length=n
 | 0,l=>rfl
 | n+1,l=>by unfold kF wH; simp [yf n l]
theorem yg (l:bI)(h:fP l):0≤(iO 1 l).1∧(iO 1 l).1≤255:=by
 rw [jr]
 split
 ·simp
 ·rename_i hne
  have e:l.getD 0 0=l[0]'(List.length_pos_iff.2 hne):=by simp [List.getD,List.length_pos_iff.2 hne]
  dsimp only
  rw [e]
  exact h _ (List.getElem_mem _)
theorem oD {l:bI}(h:fP l):fP (eP l):=by
 unfold eP
 rw [jr]
 split
 ·exact h
 ·exact wo l h 1
theorem Vz {l:bI}(h:fP l):qV l≤255:=by
 have:=yg (eP l) (oD h)
 unfold qV
 omega
theorem XO {l:bI}(h:fP l):(iO 1 (eP l)).1=(qV l:Int):=by
 have:=yg (eP l) (oD h)
 unfold qV
 omega
theorem yh (l:bI)(h:fP l):(jV l).1.size≤255:=by
 unfold jV
 split
 ·exact Nat.zero_le _
 ·rename_i hc
  have hne:l ≠ []:=fun e=>hc (.inl e)
  have e:l.getD 0 0=l[0]'(List.length_pos_iff.2 hne):=by simp [List.getD,List.length_pos_iff.2 hne]
  have hb:=h _ (List.getElem_mem (List.length_pos_iff.2 hne))
  rw [← e] at hb
  have hs:(strOfNums ((l.drop 1).take (l.getD 0 0).toNat)).size=((l.drop 1).take (l.getD 0 0).toNat).length:=by
   have:=congrArg List.length (strOfNums_data ((l.drop 1).take (l.getD 0 0).toNat))
   simpa using this
  show (strOfNums ((l.drop 1).take (l.getD 0 0).toNat)).size≤255
  rw [hs,List.length_take]
  omega
theorem Oo (l:bI)(h:fP l):fP (jV l).2.2:=by
 unfold jV
 split
 ·exact h
 ·exact wo l h _
theorem EN (lf:Bool):∀ n l,fP l→fP (dX lf n l).2.2∧(∀ s ∈ (dX lf n l).1,s.size≤255)∧(∀ s ∈ (dX lf n l).2.1,s.size≤255)
 | 0,l,h=>⟨h,nofun,nofun⟩
 | n+1,l,h=>by
   obtain ⟨h1,h2,h3⟩:=EN lf n l h
   have b1:=Oo _ h1
   unfold dX mO
   cases lf with
   | true =>
     simp only [if_true]
     refine ⟨Oo _ b1,fun s hs=>?_,fun s hs=>?_⟩
     ·rcases List.mem_append.1 hs with hs | hs
      ·exact h2 s hs
      ·rw [List.mem_singleton.1 hs]; exact yh _ h1
     ·rcases List.mem_append.1 hs with hs | hs
      ·exact h3 s hs
      ·rw [List.mem_singleton.1 hs]; exact yh _ b1
   | false =>
     simp only [Bool.false_eq_true,if_false]
     refine ⟨b1,fun s hs=>?_,h3⟩
     rcases List.mem_append.1 hs with hs | hs
     ·exact h2 s hs
     ·rw [List.mem_singleton.1 hs]; exact yh _ h1
theorem aeK {l:bI}(h:fP l):NB (dC l):=by
 have hb:=EN (lC l) (qV l) _ (oD (oD h))
 have hl:=x9 (lC l) (qV l) (eP (eP l))
 have hc:=Vz h
 refine ⟨?_,fun s hs=>Nat.le_trans (hb.2.1 s hs) (by decide), ?_,fun s hs=>Nat.le_trans (hb.2.2 s hs) (by decide), ?_⟩
 ·show (dX _ _ _).1.length≤_
  rw [hl.1]; omega
 ·show (dX _ _ _).2.1.length≤_
  rw [hl.2]; split <;> omega
 ·show (if lC l then [] else (kF (qV l+1) _).1).length≤_
  split
  ·exact Nat.zero_le _
  ·rw [yf]; omega
structure TN (B:Nat)(w:World)(G:Nat)(lf:Bool)(k v p:Value)(ks vs:List ByteArray)(ps:List ay):Prop where
 cell:w.heap[G]? = some (.cells #[.bool lf,k,v,p] 118 (0,0))
 ok:w.ownsRow B 9 1 k ks.length (ks.map Value.string)
 ov:w.ownsRow B 9 1 v vs.length (vs.map Value.string)
 op:w.ownsRow B 51 34 p ps.length (kL ps)
 ap:∀ g,k.ownBlock=some g→v.ownBlock ≠ some g
theorem AX {w:World}{B n m e e' k k':Nat}{v v':Value}{xs xs':List Value}(h:w.ownsRow B e k v n xs)(h':w.ownsRow B e' k' v' m xs')(hne:e ≠ e'):∀ g,v.ownBlock=some g→v'.ownBlock ≠ some g:=by
 intro g hg hg'
 obtain ⟨cur,hc⟩:=Es h hg
 obtain ⟨cur',hc'⟩:=Es h' hg'
 rw [hc] at hc'
 simp only [Option.some.injEq,Obj.cells.injEq] at hc'
 exact hne hc'.2.1
theorem TN.touch {B:Nat}{w w':World}{G:Nat}{lf:Bool}{k v p:Value}{ks vs:List ByteArray}{ps:List ay}{l:List Nat}(h:TN B w G lf k v p ks vs ps)(t:Touch l w w')(hG:B≤G)(hl:∀ g ∈ l,g<B):TN B w' G lf k v p ks vs ps:=by
 have hn:∀ {v:Value} {e n k:Nat} {xs:List Value},w.ownsRow B e k v n xs→∀ g,v.ownBlock=some g→g ∉ l:=fun ho g hg hm=>by
  have:=(ho.lt g hg).1
  have:=hl g hm
  omega
 exact ⟨(t.block G (Array.getElem?_eq_some_iff.1 h.cell).1 (fun hm=>by have:=hl G hm; omega)).trans h.cell,bD h.ok t (hn h.ok),bD h.ov t (hn h.ov),bD h.op t (hn h.op),h.ap⟩
theorem TN.below {B:Nat}{w w':World}{G:Nat}{lf:Bool}{k v p:Value}{ks vs:List ByteArray}{ps:List ay}(h:TN B w G lf k v p ks vs ps)(b:Below w.heap.size w w'):TN B w' G lf k v p ks vs ps :=
 ⟨(b.block G (Array.getElem?_eq_some_iff.1 h.cell).1).trans h.cell,oN h.ok b,oN h.ov b,oN h.op b,h.ap⟩
theorem TN.lt {B:Nat}{w:World}{G:Nat}{lf:Bool}{k v p:Value}{ks vs:List ByteArray}{ps:List ay}(h:TN B w G lf k v p ks vs ps):G<w.heap.size:=(Array.getElem?_eq_some_iff.1 h.cell).1
theorem TN.nr {B:Nat}{w:World}{G:Nat}{lf:Bool}{k v p:Value}{ks vs:List ByteArray}{ps:List ay}(h:TN B w G lf k v p ks vs ps):NR w k v p ⟨lf,ks,vs,ps⟩:=⟨KH h.ok,KH h.ov,aa3 h.op⟩
theorem jw {w:World}{B e k n:Nat}{v:Value}{xs:List Value}(h:w.ownsRow B e k v n xs):∃ a c,v = .slice a n c:=by
 rcases h.2 with ⟨rfl,h0⟩ | ⟨g,cap,_,rfl,_⟩
 ·exact ⟨none,0,by rw [h0]⟩
 ·exact ⟨_,_,rfl⟩
theorem abg:(Tryz.prog.info? 9).map (fun i=>(i.zero,i.size,i.bytes))=some (some (.string ⟨#[]⟩),1,16):=by kernel_rfl
theorem sJ (w:World)(B n:Nat)(v:Value)(xs:List ByteArray)(s:ByteArray)(hown:w.ownsRow B 9 1 v n (xs.map Value.string))(hn:n≤1000000)(hB:B≤w.heap.size) :
 ∃ a c w',(Builtin.append_ #[115,115] 115 #[v,.slice (some ⟨w.heap.size,0,none⟩) 1 1]).run Tryz.prog (w.alloc (.cells #[.string s] 9)) = .ok (.slice a (n+1) c) w' ∧
   w'.ownsRow B 9 1 (.slice a (n+1) c) (n+1) ((xs++[s]).map Value.string)∧(w.alloc (.cells #[.string s] 9)).grownBy w' v.ownBlock ∧
   ((Value.slice a (n+1) c).ownBlock=v.ownBlock∨(Value.slice a (n+1) c).ownBlock=some (w.heap.size+1)):=by
 obtain ⟨i0,hi,hz0,hz1,hz2⟩:=info_parts abg
 have hb:=(Below.refl w.heap.size w).alloc (Nat.le_refl _) (.cells #[.string s] 9)
 have hs:(w.alloc (.cells #[.string s] 9)).heap.size=w.heap.size+1:=by simp
 obtain ⟨v',w',hr,ho,hg,_,hnb⟩:=run_append_own_at (P:=Tryz.prog) (w.alloc (.cells #[.string s] 9)) B 115 115 9 i0 _ 1 16 Tryz.underlying115 hi hz0 hz1 hz2 rfl (by decide) v n (xs.map Value.string) (oN hown hb) ⟨w.heap.size,0,none⟩ 1 1 [.string s] rfl (fun j u hj=>by
  have hj0:j=0:=by have:=(List.getElem?_eq_some_iff.1 hj).1; simp at this; exact this
  subst hj0
  simp at hj
  subst hj
  rw [Addr.add_mid,Nat.add_zero,cell_of_row _ _ _ _ _ _ (heap_alloc_new w _)]
  rfl) (fun u hu=>by rw [List.mem_singleton.1 hu]; rfl) (by unfold maxLen; omega) (by omega) (by rw [hs]; omega)
 obtain ⟨a,c,rfl⟩:=jw ho
 refine ⟨a,c,w',hr,by rw [List.map_append]; exact ho,hg, ?_⟩
 rw [hs] at hnb
 exact hnb
theorem sN {w w':World}{B:Nat}{row:Option Nat}(h:w.grownBy w' row)(hB:B≤w.heap.size)(hr:∀ g,row=some g→B≤g):Below B w w':=(Touch.grown h).below hB (fun k hk=>by
 cases row with
 | none=>simp at hk
 | some g=>simp at hk; subst hk; exact hr _ rfl)
theorem abh {B:Nat}{w:World}{G:Nat}{lf:Bool}{k v p:Value}{ks vs:List ByteArray}{ps:List ay}(h:TN B w G lf k v p ks vs ps)(s:ByteArray)(hB:B≤w.heap.size)(hG:B≤G)(hn:ks.length≤100000) :
 ∃ a c w',(Builtin.append_ #[115,115] 115 #[k,.slice (some ⟨w.heap.size,0,none⟩) 1 1]).run Tryz.prog (w.alloc (.cells #[.string s] 9)) = .ok (.slice a (ks.length+1) c) w' ∧
   w'.cell? ⟨G,1,none⟩=some k∧w'.frozen? ⟨G,1,none⟩=false∧TN B (w'.setCell ⟨G,1,none⟩ (.slice a (ks.length+1) c)) G lf (.slice a (ks.length+1) c) v p (ks++[s]) vs ps ∧
   Below B w (w'.setCell ⟨G,1,none⟩ (.slice a (ks.length+1) c))∧∀ F,F<w.heap.size→k.ownBlock ≠ some F→F ≠ G→(w'.setCell ⟨G,1,none⟩ (.slice a (ks.length+1) c)).heap[F]? = w.heap[F]? := by
 obtain ⟨a,c,w',hr,ho,hg,hnb⟩:=sJ w B ks.length k ks s h.ok (by omega) hB
 have hb:=(Below.refl w.heap.size w).alloc (Nat.le_refl _) (.cells #[.string s] 9)
 have h1:=h.below hb
 have hs:(w.alloc (.cells #[.string s] 9)).heap.size=w.heap.size+1:=by simp
 have hkG:k.ownBlock ≠ some G:=own_ne h.ok h.cell (by decide)
 have hc1:w'.heap[G]? = some (.cells #[.bool lf,k,v,p] 118 (0,0)):=(hg.block G h1.lt (fun e=>hkG e.symm)).trans h1.cell
 have hnG:(Value.slice a (ks.length+1) c).ownBlock ≠ some G:=own_ne ho hc1 (by decide)
 have hO:=(Only.refl G w').setCell 1 (.slice a (ks.length+1) c)
 have tg:=Touch.grown hg
 have tO:=Touch.dQ (l:=[G]) hO (by simp)
 have hvk:∀ g,v.ownBlock=some g→g ∉ k.ownBlock.toList:=fun g hv hm=>by
  rw [Option.mem_toList] at hm
  exact h.ap g hm hv
 have hpk:∀ g,p.ownBlock=some g→g ∉ k.ownBlock.toList:=fun g hp hm=>by
  rw [Option.mem_toList] at hm
  exact AX h.op h.ok (by decide) g hp hm
 have hG1:∀ {e k' n:Nat} {u:Value} {xs:List Value},w'.ownsRow B e k' u n xs→e ≠ 118→∀ g,u.ownBlock=some g→g ∉ [G]:=fun hu he g hg2 hm=>by
  rw [List.mem_singleton] at hm
  subst hm
  exact own_ne hu hc1 (fun e=>he e.symm) hg2
 have ov':=bD h1.ov tg hvk
 have op':=bD h1.op tg hpk
 refine ⟨a,c,w',hr,cell_of_row _ _ _ _ _ _ hc1,frozen_of_row _ _ _ _ _ hc1,⟨heap_setCell_same _ _ _ _ _ _ hc1, ?_,bD ov' tO (hG1 ov' (by decide)),bD op' tO (hG1 op' (by decide)),fun g hk hv=>?_⟩, ?_,fun F hF hkF hFG=>?_⟩
 ·rw [List.length_append]
  exact bD ho tO (hG1 ho (by decide))
 ·rcases hnb with e | e
  ·rw [e] at hk; exact h.ap g hk hv
  ·rw [e] at hk
   cases hk
   have:=(h.ov.lt _ hv).2
   omega
 ·have hgb:=sN hg (B:=B) (by rw [hs]; omega) (fun g e=>(h.ok.lt g e).1)
  exact ((hb.mono hB).trans hgb).trans (hO.bel B hG)
 ·exact (hO.rest F hFG).trans ((hg.block F (by rw [hs]; omega) (fun e=>hkF e.symm)).trans (hb.block F hF))
theorem abj {B:Nat}{w:World}{G:Nat}{lf:Bool}{k v p:Value}{ks vs:List ByteArray}{ps:List ay}(h:TN B w G lf k v p ks vs ps)(s:ByteArray)(hB:B≤w.heap.size)(hG:B≤G)(hn:vs.length≤100000) :
 ∃ a c w',(Builtin.append_ #[115,115] 115 #[v,.slice (some ⟨w.heap.size,0,none⟩) 1 1]).run Tryz.prog (w.alloc (.cells #[.string s] 9)) = .ok (.slice a (vs.length+1) c) w' ∧
   w'.cell? ⟨G,2,none⟩=some v∧w'.frozen? ⟨G,2,none⟩=false∧TN B (w'.setCell ⟨G,2,none⟩ (.slice a (vs.length+1) c)) G lf k (.slice a (vs.length+1) c) p ks (vs++[s]) ps ∧
   Below B w (w'.setCell ⟨G,2,none⟩ (.slice a (vs.length+1) c))∧∀ F,F<w.heap.size→v.ownBlock ≠ some F→F ≠ G→(w'.setCell ⟨G,2,none⟩ (.slice a (vs.length+1) c)).heap[F]? = w.heap[F]? := by
 obtain ⟨a,c,w',hr,ho,hg,hnb⟩:=sJ w B vs.length v vs s h.ov (by omega) hB
 have hb:=(Below.refl w.heap.size w).alloc (Nat.le_refl _) (.cells #[.string s] 9)
 have h1:=h.below hb
 have hs:(w.alloc (.cells #[.string s] 9)).heap.size=w.heap.size+1:=by simp
 have hkG:v.ownBlock ≠ some G:=own_ne h.ov h.cell (by decide)
 have hc1:w'.heap[G]? = some (.cells #[.bool lf,k,v,p] 118 (0,0)):=(hg.block G h1.lt (fun e=>hkG e.symm)).trans h1.cell
 have hO:=(Only.refl G w').setCell 2 (.slice a (vs.length+1) c)
 have tg:=Touch.grown hg
 have tO:=Touch.dQ (l:=[G]) hO (by simp)
 have hvk:∀ g,k.ownBlock=some g→g ∉ v.ownBlock.toList:=fun g hv hm=>by
  rw [Option.mem_toList] at hm
  exact h.ap g hv hm
 have hpk:∀ g,p.ownBlock=some g→g ∉ v.ownBlock.toList:=fun g hp hm=>by
  rw [Option.mem_toList] at hm
  exact AX h.op h.ov (by decide) g hp hm
 have hG1:∀ {e k' n:Nat} {u:Value} {xs:List Value},w'.ownsRow B e k' u n xs→e ≠ 118→∀ g,u.ownBlock=some g→g ∉ [G]:=fun hu he g hg2 hm=>by
  rw [List.mem_singleton] at hm
  subst hm
  exact own_ne hu hc1 (fun e=>he e.symm) hg2
 have ok':=bD h1.ok tg hvk
 have op':=bD h1.op tg hpk
 refine ⟨a,c,w',hr,cell_of_row _ _ _ _ _ _ hc1,frozen_of_row _ _ _ _ _ hc1,⟨heap_setCell_same _ _ _ _ _ _ hc1,bD ok' tO (hG1 ok' (by decide)), ?_,bD op' tO (hG1 op' (by decide)),fun g hk hv=>?_⟩, ?_,fun F hF hkF hFG=>?_⟩
 ·rw [List.length_append]
  exact bD ho tO (hG1 ho (by decide))
 ·rcases hnb with e | e
  ·rw [e] at hv; exact h.ap g hk hv
  ·rw [e] at hv
   cases hv
   have:=(h.ok.lt _ hk).2
   omega
 ·have hgb:=sN hg (B:=B) (by rw [hs]; omega) (fun g e=>(h.ov.lt g e).1)
  exact ((hb.mono hB).trans hgb).trans (hO.bel B hG)
 ·exact (hO.rest F hFG).trans ((hg.block F (by rw [hs]; omega) (fun e=>hkF e.symm)).trans (hb.block F hF))
theorem abk {B:Nat}{w:World}{G:Nat}{lf:Bool}{k v p:Value}{ks vs:List ByteArray}{ps:List ay}(h:TN B w G lf k v p ks vs ps)(q:ay)(hB:B≤w.heap.size)(hG:B≤G)(hn:ps.length≤100000) :
 ∃ a c w',(Builtin.append_ #[116,116] 116 #[p,.slice (some ⟨w.heap.size,0,none⟩) 1 1]).run Tryz.prog (w.alloc (.cells (ag q).toArray 51)) = .ok (.slice a (ps.length+1) c) w' ∧
   w'.cell? ⟨G,3,none⟩=some p∧w'.frozen? ⟨G,3,none⟩=false∧TN B (w'.setCell ⟨G,3,none⟩ (.slice a (ps.length+1) c)) G lf k v (.slice a (ps.length+1) c) ks vs (ps++[q]) ∧
   Below B w (w'.setCell ⟨G,3,none⟩ (.slice a (ps.length+1) c))∧∀ F,F<w.heap.size→p.ownBlock ≠ some F→F ≠ G→(w'.setCell ⟨G,3,none⟩ (.slice a (ps.length+1) c)).heap[F]? = w.heap[F]? := by
 have hb:=(Below.refl w.heap.size w).alloc (Nat.le_refl _) (.cells (ag q).toArray 51)
 have h1:=h.below hb
 have hs:(w.alloc (.cells (ag q).toArray 51)).heap.size=w.heap.size+1:=by simp
 obtain ⟨a,c,w',hr,ho,hg,hnb⟩:=IX (w.alloc (.cells (ag q).toArray 51)) B ps.length p (.slice (some ⟨w.heap.size,0,none⟩) 1 1) ps [q] h1.op (abf (l:=[q]) 1 (by rw [show kL [q]=ag q by simp [kL]]; exact heap_alloc_new w _)) (by omega) (by simp) (by rw [hs]; omega)
 have hkG:p.ownBlock ≠ some G:=own_ne h.op h.cell (by decide)
 have hc1:w'.heap[G]? = some (.cells #[.bool lf,k,v,p] 118 (0,0)):=(hg.block G h1.lt (fun e=>hkG e.symm)).trans h1.cell
 have hO:=(Only.refl G w').setCell 3 (.slice a (ps.length+1) c)
 have tg:=Touch.grown hg
 have tO:=Touch.dQ (l:=[G]) hO (by simp)
 have hvk:∀ {u:Value} {n:Nat} {xs:List Value},w.ownsRow B 9 1 u n xs→∀ g,u.ownBlock=some g→g ∉ p.ownBlock.toList:=fun hu g hv hm=>by
  rw [Option.mem_toList] at hm
  exact AX hu h.op (by decide) g hv hm
 have hG1:∀ {e k' n:Nat} {u:Value} {xs:List Value},w'.ownsRow B e k' u n xs→e ≠ 118→∀ g,u.ownBlock=some g→g ∉ [G]:=fun hu he g hg2 hm=>by
  rw [List.mem_singleton] at hm
  subst hm
  exact own_ne hu hc1 (fun e=>he e.symm) hg2
 have ok':=bD h1.ok tg (hvk h.ok)
 have ov':=bD h1.ov tg (hvk h.ov)
 refine ⟨a,c,w',hr,cell_of_row _ _ _ _ _ _ hc1,frozen_of_row _ _ _ _ _ hc1,⟨heap_setCell_same _ _ _ _ _ _ hc1,bD ok' tO (hG1 ok' (by decide)),bD ov' tO (hG1 ov' (by decide)), ?_,h.ap⟩, ?_,fun F hF hkF hFG=>?_⟩
 ·rw [List.length_append]
  exact bD ho tO (hG1 ho (by decide))
 ·have hgb:=sN hg (B:=B) (by rw [hs]; omega) (fun g e=>(h.op.lt g e).1)
  exact ((hb.mono hB).trans hgb).trans (hO.bel B hG)
 ·exact (hO.rest F hFG).trans ((hg.block F (by rw [hs]; omega) (fun e=>hkF e.symm)).trans (hb.block F hF))
end
section
set_option linter.unusedVariables false
open Go.ChangeShapes Go.WideShapes Go.ChangeAt Go.RowKit
theorem rM.touch {R:Nat}{w w':World}(h:rM R w w'):Touch [R] w w':=⟨h.os,h.tape,h.output,h.size,fun k hk hn=>h.block k hk (by simpa using hn)⟩
theorem TN.chg {B R:Nat}{w w':World}{G:Nat}{lf:Bool}{k v p:Value}{ks vs:List ByteArray}{ps:List ay}(h:TN B w G lf k v p ks vs ps)(t:rM R w w')(hG:B≤G)(hR:R<B):TN B w' G lf k v p ks vs ps :=
 h.touch t.touch hG (fun g hg=>by rw [List.mem_singleton.1 hg]; exact hR)
structure TS (w0 w:World)(R G F:Nat)(t:TypeId)(lf:Bool)(k v p:Value)(ks vs:List ByteArray)(ps:List ay)(r:bI):Prop where
 tn:TN w0.heap.size w G lf k v p ks vs ps
 rt:RT w0.heap.size w t R r
 ch:rM R w0 w
 fc:w.heap[F]? = some (.cells #[.bool false,.slice none 0 0,.slice none 0 0,.slice none 0 0] 118 (0,0))
 hG:w0.heap.size≤G
 hF:w0.heap.size≤F
 ne:F ≠ G
theorem TS.reads {w0 w w':World}{R G F:Nat}{t:TypeId}{lf:Bool}{k v p:Value}{ks vs:List ByteArray}{ps:List ay}{r r':bI}(h:TS w0 w R G F t lf k v p ks vs ps r)(hr:RT w0.heap.size w' t R r')(hc:rM R w w'):TS w0 w' R G F t lf k v p ks vs ps r' :=
 ⟨h.tn.chg hc h.hG h.rt.lt,hr,h.ch.trans hc,(hc.block F (Array.getElem?_eq_some_iff.1 h.fc).1 (by have:=h.rt.lt; have:=h.hF; omega)).trans h.fc,h.hG,h.hF,h.ne⟩
theorem TS.grows {w0 w w':World}{R G F:Nat}{t:TypeId}{lf:Bool}{k v p k' v' p':Value}{ks vs ks' vs':List ByteArray}{ps ps':List ay}{r:bI}(h:TS w0 w R G F t lf k v p ks vs ps r)(ht:TN w0.heap.size w' G lf k' v' p' ks' vs' ps')(hb:Below w0.heap.size w w')(hf:w'.heap[F]? = w.heap[F]?):TS w0 w' R G F t lf k' v' p' ks' vs' ps' r :=
 ⟨ht,h.rt.keep (Nat.le_trans h.rt.1 hb.size) (fun k hk=>hb.block k hk),IW h.ch (Nat.le_refl _) hb,hf.trans h.fc,h.hG,h.hF,h.ne⟩
theorem TS.size {w0 w:World}{R G F:Nat}{t:TypeId}{lf:Bool}{k v p:Value}{ks vs:List ByteArray}{ps:List ay}{r:bI}(h:TS w0 w R G F t lf k v p ks vs ps r):w0.heap.size≤w.heap.size:=h.rt.1
theorem ahM {w0 w:World}{R G F:Nat}{t:TypeId}{lf:Bool}{k v p:Value}{ks vs:List ByteArray}{ps:List ay}{r:bI}(h:TS w0 w R G F t lf k v p ks vs ps r)(s:ByteArray)(hn:ks.length≤100000) :
 ∃ a c w',(Builtin.append_ #[115,115] 115 #[k,.slice (some ⟨w.heap.size,0,none⟩) 1 1]).run Tryz.prog (w.alloc (.cells #[.string s] 9)) = .ok (.slice a (ks.length+1) c) w' ∧
   w'.cell? ⟨G,1,none⟩=some k∧w'.frozen? ⟨G,1,none⟩=false∧TS w0 (w'.setCell ⟨G,1,none⟩ (.slice a (ks.length+1) c)) R G F t lf (.slice a (ks.length+1) c) v p (ks++[s]) vs ps r:=by
 obtain ⟨a,c,w',h1,h2,h3,h4,h5,h6⟩:=abh h.tn s h.size h.hG hn
 exact ⟨a,c,w',h1,h2,h3,h.grows h4 h5 (h6 F (Array.getElem?_eq_some_iff.1 h.fc).1 (own_ne h.tn.ok h.fc (by decide)) h.ne)⟩
theorem ahN {w0 w:World}{R G F:Nat}{t:TypeId}{lf:Bool}{k v p:Value}{ks vs:List ByteArray}{ps:List ay}{r:bI}(h:TS w0 w R G F t lf k v p ks vs ps r)(s:ByteArray)(hn:vs.length≤100000) :
 ∃ a c w',(Builtin.append_ #[115,115] 115 #[v,.slice (some ⟨w.heap.size,0,none⟩) 1 1]).run Tryz.prog (w.alloc (.cells #[.string s] 9)) = .ok (.slice a (vs.length+1) c) w' ∧
   w'.cell? ⟨G,2,none⟩=some v∧w'.frozen? ⟨G,2,none⟩=false∧TS w0 (w'.setCell ⟨G,2,none⟩ (.slice a (vs.length+1) c)) R G F t lf k (.slice a (vs.length+1) c) p ks (vs++[s]) ps r:=by
 obtain ⟨a,c,w',h1,h2,h3,h4,h5,h6⟩:=abj h.tn s h.size h.hG hn
 exact ⟨a,c,w',h1,h2,h3,h.grows h4 h5 (h6 F (Array.getElem?_eq_some_iff.1 h.fc).1 (own_ne h.tn.ov h.fc (by decide)) h.ne)⟩
theorem ahO {w0 w:World}{R G F:Nat}{t:TypeId}{lf:Bool}{k v p:Value}{ks vs:List ByteArray}{ps:List ay}{r:bI}(h:TS w0 w R G F t lf k v p ks vs ps r)(q:ay)(hn:ps.length≤100000) :
 ∃ a c w',(Builtin.append_ #[116,116] 116 #[p,.slice (some ⟨w.heap.size,0,none⟩) 1 1]).run Tryz.prog (w.alloc (.cells (ag q).toArray 51)) = .ok (.slice a (ps.length+1) c) w' ∧
   w'.cell? ⟨G,3,none⟩=some p∧w'.frozen? ⟨G,3,none⟩=false∧TS w0 (w'.setCell ⟨G,3,none⟩ (.slice a (ps.length+1) c)) R G F t lf k v (.slice a (ps.length+1) c) ks vs (ps++[q]) r:=by
 obtain ⟨a,c,w',h1,h2,h3,h4,h5,h6⟩:=abk h.tn q h.size h.hG hn
 exact ⟨a,c,w',h1,h2,h3,h.grows h4 h5 (h6 F (Array.getElem?_eq_some_iff.1 h.fc).1 (own_ne h.tn.op h.fc (by decide)) h.ne)⟩
theorem TS.done {w0 w:World}{R G F:Nat}{t:TypeId}{lf:Bool}{k v p:Value}{ks vs:List ByteArray}{ps:List ay}{r:bI}(h:TS w0 w R G F t lf k v p ks vs ps r)(row:Array Value):NR (w.setRow F row) k v p ⟨lf,ks,vs,ps⟩∧rM R w0 (w.setRow F row):=by
 have tch:Touch [F] w (w.setRow F row):=⟨rfl,rfl,rfl,by simp,fun j hj hn=>setRow_other w F j row (by simpa using hn)⟩
 have hn:∀ {u:Value} {e n m:Nat} {xs:List Value},w.ownsRow w0.heap.size e m u n xs→e ≠ 118→∀ g,u.ownBlock=some g→g ∉ [F]:=fun ho he g hg hm=>by
  rw [List.mem_singleton] at hm
  subst hm
  exact own_ne ho h.fc (fun e=>he e.symm) hg
 exact ⟨⟨KH (bD h.tn.ok tch (hn h.tn.ok (by decide))),KH (bD h.tn.ov tch (hn h.tn.ov (by decide))),aa3 (bD h.tn.op tch (hn h.tn.op (by decide)))⟩,
  IW h.ch (Nat.le_refl _) (aF ((Below.refl w.heap.size w).mono h.size) h.hF _)⟩
theorem TS.below {w0 w w':World}{R G F:Nat}{t:TypeId}{lf:Bool}{k v p:Value}{ks vs:List ByteArray}{ps:List ay}{r:bI}(h:TS w0 w R G F t lf k v p ks vs ps r)(b:Below w.heap.size w w'):TS w0 w' R G F t lf k v p ks vs ps r :=
 h.grows (h.tn.below b) (b.mono h.size) (b.block F (Array.getElem?_eq_some_iff.1 h.fc).1)
theorem XP (R:Nat)(l:bI)(w0:World)(h:RT w0.heap.size w0 217 R l) :
 Calls Tryz.prog 86 #[.pointer (some ⟨R,0,none⟩)] w0 fun e w'=>∃ k v p,e = .returned (.agg #[.bool (dC l).lf,k,v,p])∧NR w' k v p (dC l)∧rM R w0 w':=by
 have hby:=h.Dp
 have hb1:=(Below.refl w0.heap.size w0).alloc (Nat.le_refl _) (.cells #[.bool false,.slice none 0 0,.slice none 0 0,.slice none 0 0] 118)
 have hF1:=heap_alloc_new w0 (.cells #[.bool false,.slice none 0 0,.slice none 0 0,.slice none 0 0] 118)
 have h1:=uX h hb1
 have AO:=hid (KE w0.heap.size R l 1 _ h1 (by omega))
 have hkb:=yg l hby
 have HTD:=hid (show dC l=⟨lC l,(dX (lC l) (qV l) (eP (eP l))).1,(dX (lC l) (qV l) (eP (eP l))).2.1,if lC l then [] else (kF (qV l+1) (dX (lC l) (qV l) (eP (eP l))).2.2).1⟩ from rfl)
 have HC:=hid (Vz hby)
 have HCC:=hid (XO hby)
 have aou:=hid (oD (oD hby))
 have BQ:=hid h.lt
 rw [show (iO 1 l).2.2=eP l from rfl] at AO
 obtain ⟨K,hK⟩:∃ K,(iO 1 l).1=K:=⟨_,rfl⟩
 rw [hK] at AO hkb
 have xk:IntKind.u8.wrap K=K:=IntWalk.u8_in _ (by omega)
 have CZ:=hid (show lC l=(K == 1) by unfold lC Vy; rw [hK])
 generalize hw1:w0.alloc (.cells #[.bool false,.slice none 0 0,.slice none 0 0,.slice none 0 0] 118)=w1 at *
 have HB1:=hid hb1
 have HF1:=hid hF1
 have S9:=hid (show w0.heap.size<w1.heap.size from (Array.getElem?_eq_some_iff.1 hF1).1)
 clear h hb1 hF1 h1 hby hkb hK
 go_enter Tryz.func86,Tryz.ntmps86
 go_upto_region 1 with fail
 try rw [hw1]
 clear hw1
 go_wp2_with fail
 refine AO.out.mono ?_
 rintro e w2 ⟨rfl,hr2,hO2⟩
 have HN2:=hid (KE w0.heap.size R (eP l) 1 w2 hr2 (by omega))
 rw [show (iO 1 (eP l)).2.2=eP (eP l) from rfl,HCC.out] at HN2
 have HC2:=hid ((rM.of_below HB1.out).trans (rM.dQ hO2))
 have HF2:=hid ((hO2.rest w0.heap.size (by have:=BQ.out; omega)).trans HF1.out)
 clear hr2 hO2 AO HB1 HF1
 go_wp2_with fail
 refine HN2.out.mono ?_
 rintro e w3 ⟨rfl,hr3,hO3⟩
 obtain ⟨lf,hlf⟩:∃ lf,(K == 1)=lf:=⟨_,rfl⟩
 rw [hlf] at CZ
 have hS3:w0.heap.size<w3.heap.size:=by rw [hO3.size]; exact (Array.getElem?_eq_some_iff.1 HF2.out).1
 have hb4:=(Below.refl w3.heap.size w3).alloc (Nat.le_refl _) (.cells #[.bool lf,.slice none 0 0,.slice none 0 0,.slice none 0 0] 118)
 have HT0:=hid (show TS w0 (w3.alloc (.cells #[.bool lf,.slice none 0 0,.slice none 0 0,.slice none 0 0] 118)) R w3.heap.size w0.heap.size 217 lf (.slice none 0 0) (.slice none 0 0) (.slice none 0 0) [] [] [] (eP (eP l)) from
  ⟨⟨heap_alloc_new w3 _,World.ownsRow_nil _ _ _ _,World.ownsRow_nil _ _ _ _,World.ownsRow_nil _ _ _ _,fun g hg=>by cases hg⟩,uX hr3 hb4,(HC2.out.trans (rM.dQ hO3)).trans (rM.of_below hb4),
    (hb4.block _ hS3).trans ((hO3.rest w0.heap.size (by have:=BQ.out; omega)).trans HF2.out),Nat.le_of_lt hS3,Nat.le_refl _,by omega⟩)
 obtain ⟨G,hG⟩:∃ G,w3.heap.size=G:=⟨_,rfl⟩
 obtain ⟨l2,hl2⟩:∃ l2,eP (eP l)=l2:=⟨_,rfl⟩
 obtain ⟨c,hc⟩:∃ c,qV l=c:=⟨_,rfl⟩
 rw [hl2] at HT0 aou
 rw [hc] at HC
 rw [hG] at HT0
 clear hr3 hO3 hb4 hS3 HN2 HC2 HF2 S9
 go_upto_region 4 with fail
 try simp only [hlf,hl2,hc,hG]
 generalize World.alloc w3 _=w4 at *
 clear hlf xk
 have HE:=hid (And.intro hl2 hc)
 clear hl2 hc hG
 go_wp2_with fail
 go_loopw [8,9,10,11,29] (fun _ _ _ _ v29 wr=>∃ (i:Nat) (k v p:Value),i≤c∧v29 = .int .u64 (i:Int)∧TS w0 wr R G w0.heap.size 217 lf k v p (dX lf i l2).1 (dX lf i l2).2.1 [] (dX lf i l2).2.2) (fun _ _ _ _ v _=>c - (intOf v).toNat)
 case atStart=>exact ⟨0,_,_,_,by omega,rfl,HT0.out⟩
 case round =>
  clear HT0
  obtain ⟨i,k,v,p,hi,rfl,hT⟩:=hrel
  have hkl:=x9 lf i l2
  have hc255:=HC.out
  by_cases hlt:i<c
  ·have hst:dX lf (i+1) l2=mO lf (dX lf i l2):=rfl
   obtain ⟨⟨ks,vs,r⟩,hS⟩:∃ S,dX lf i l2=S:=⟨_,rfl⟩
   rw [hS] at hT hst hkl
   dsimp only at hT hkl
   have HST:=hid hst
   have GX:=hid hkl.1
   have HVL:=hid hkl.2
   clear hS hst hkl
   have HK:=hid (aa2 w0.heap.size R r wr hT.rt)
   have hT':=hT
   obtain ⟨ak,ck,hk⟩:=jw hT.tn.ok
   subst hk
   have HT:=hid hT
   have bz:=hid hlt
   have iI:(i:Int)<(c:Int):=by omega
   have i0:(0:Int)≤(i:Int):=by omega
   have cI:(c:Int)≤255:=by omega
   clear hi hlt hT hT'
   go_wp2_with fail
   refine HK.out.mono ?_
   rintro e w5 ⟨rfl,lT,hc5⟩
   have hT5:=HT.out.reads lT hc5
   obtain ⟨c0,c1,c2,c3⟩:=dW hT5.tn.cell
   obtain ⟨a6,cc6,w6,hrun,d1,f1,QQ⟩:=ahM hT5 (jV r).1 (by rw [GX.out]; omega)
   have D7:=hid hrun
   have KP:=hid QQ
   clear lT hc5 hT5 hrun QQ HT HK
   go_upto_region 8 with (first
    | (at_builtin; refine wpList_append_run (o:=⟨some 40,_,_,_,_,_⟩) rfl _ _ _ _ rfl _ _ _ _ rfl rfl D7.out ?_))
   clear c0 c1 c2 c3 d1 f1
   generalize World.setCell _ ⟨G,1,none⟩ _=w7 at *
   obtain ⟨c0,c1,c2,c3⟩:=dW KP.out.tn.cell
   cases lf with
   | true =>
     rw [if_pos rfl] at HVL
     have HK2:=hid (aa2 w0.heap.size R _ w7 KP.out.rt)
     obtain ⟨av,cv,hv⟩:=jw KP.out.tn.ov
     subst hv
     go_wp2_with fail
     refine HK2.out.mono ?_
     rintro e w8 ⟨rfl,yj,hc8⟩
     have hT8:=KP.out.reads yj hc8
     obtain ⟨g0,g1,g2,g3⟩:=dW hT8.tn.cell
     obtain ⟨a9,cc9,w9,hrun,d1,f1,hT9⟩:=ahN hT8 (jV (jV r).2.2).1 (by rw [HVL.out]; omega)
     have QS:=hid hrun
     have HT9:=hid hT9
     clear yj hc8 hT8 hrun hT9 KP HK2 c0 c1 c2 c3
     go_wp2_with (first
      | (at_builtin; refine wpList_append_run (o:=⟨some 53,_,_,_,_,_⟩) rfl _ _ _ _ rfl _ _ _ _ rfl rfl QS.out ?_))
     go_roundw
     case rel=>exact ⟨i+1,_,_,_,by have:=bz.out; omega,by go_num,by rw [HST.out,show mO true (ks,vs,r)=(ks++[(jV r).1],vs++[(jV (jV r).2.2).1],(jV (jV r).2.2).2.2) from rfl]; exact HT9.out⟩
     case measure=>simp [intOf]; have:=bz.out; omega
   | false =>
     go_wp2_with fail
     go_roundw
     case rel=>exact ⟨i+1,_,_,_,by have:=bz.out; omega,by go_num,by rw [HST.out,show mO false (ks,vs,r)=(ks++[(jV r).1],vs,(jV r).2.2) from rfl]; exact KP.out⟩
     case measure=>simp [intOf]; have:=bz.out; omega
  ·obtain rfl:i=c:=by omega
   obtain ⟨⟨ks,vs,r⟩,hS⟩:∃ S,dX lf i l2=S:=⟨_,rfl⟩
   rw [hS] at hT hkl
   dsimp only at hT hkl
   have HS:=hid hS
   obtain ⟨c0,c1,c2,c3⟩:=dW hT.tn.cell
   obtain ⟨ak,ck,hk⟩:=jw hT.tn.ok
   obtain ⟨av,cv,hv⟩:=jw hT.tn.ov
   subst hk hv
   have WO:=hid (fun (b:Bool) (x y z n m q:Nat) (a1 a2 a3:bO)=>show (#[.bool b,.slice a1 x n,.slice a2 y m,.slice a3 z q]:Array Value).all (·.oneCell')=true from by simp [Value.oneCell'])
   have cI:(i:Int)≤255:=by omega
   have c00:(0:Int)≤(i:Int):=by omega
   have HT:=hid hT
   clear hi hlt hS hkl
   cases lf with
   | true =>
     obtain ⟨ap,cp,hp⟩:=jw hT.tn.op
     subst hp
     have SEN:=hid (dU true (.slice ak ks.length ck) (.slice av vs.length cv) (.slice ap ([]:List ay).length cp))
     clear hT
     go_wp2_with (first
      | (with_reducible refine wpList_store_row (o:=⟨none,.store _ (.tmp 2) _,_,_,_,_⟩) rfl 118 _ _ rfl w0.heap.size _ rfl rfl 118 _ HT.out.fc SEN.out rfl (WO.out _ _ _ _ _ _ _ _ _ _) ?_))
     have mJ:=hid (show dC l=⟨true,ks,vs, []⟩ by rw [HTD.out,CZ.out,HE.out.1,HE.out.2,HS.out]; rfl)
     have HD:=hid (HT.out.done #[.bool true,.slice ak ks.length ck,.slice av vs.length cv,.slice ap ([]:List ay).length cp])
     refine bodyPost_ret (results_cell_row Tryz.results86 _ _ w0.heap.size 118 _ (0,0) _ rfl (setRow_heap _ w0.heap.size _ _ _ _ HT.out.fc) Tryz.underlying118 rfl SEN.out) rfl ⟨_,_,_,by rw [mJ.out],by rw [mJ.out]; exact HD.out.1,HD.out.2⟩
   | false =>
     clear hT
     go_wp2_with fail
     go_loopw [12,13,61] (fun _ _ v61 wr2=>∃ (j:Nat) (p:Value),j≤i+1∧v61 = .int .u64 (j:Int)∧TS w0 wr2 R G w0.heap.size 217 false (.slice ak ks.length ck) (.slice av vs.length cv) p ks vs (kF j r).1 (kF j r).2) (fun _ _ v _=>i+1 - (intOf v).toNat)
     case atStart=>exact ⟨0,_,by omega,rfl,HT.out⟩
     case round =>
      clear HT c0 c1 c2 c3
      obtain ⟨j,p2,hj,rfl,hT⟩:=hrel
      have hkl:=yf j r
      by_cases hlt:j<i+1
      ·have hst:kF (j+1) r=wH (kF j r):=rfl
       obtain ⟨⟨ps,r2⟩,hS2⟩:∃ S,kF j r=S:=⟨_,rfl⟩
       rw [hS2] at hT hst hkl
       dsimp only at hT hkl
       have HST:=hid hst
       have GX:=hid hkl
       obtain ⟨ap,cp,hp⟩:=jw hT.tn.op
       subst hp
       have HG:=hid (ahE w0.heap.size R r2 wr hT.rt)
       have HT:=hid hT
       have bz:=hid hlt
       have iI:(j:Int)<(i:Int)+1:=by omega
       have i0:(0:Int)≤(j:Int):=by omega
       obtain ⟨q,hq⟩:∃ q,(xW r2).1=q:=⟨_,rfl⟩
       rw [hq] at HG
       have HQ:=hid hq
       have hzp:=dK
       have QP:=hid (dG q)
       have EW:=hid (show (ag ai).toArray.size=(ag q).toArray.size by simp [aO])
       have WOQ:=hid (bf q)
       obtain ⟨ZA,hZA⟩:∃ ZA,(ag ai).toArray=ZA:=⟨_,rfl⟩
       rw [hZA] at hzp EW
       have HLP:=hid (KG q)
       have GG:=hid (fun w5 (h5:TS w0 w5 R G w0.heap.size 217 false (.slice ak ks.length ck) (.slice av vs.length cv) (.slice ap ps.length cp) ks vs ps (xW r2).2.2)=>ahO h5 q (by rw [GX.out]; omega))
       clear hj hlt hT hS2 hst hkl hq hZA
       obtain ⟨QR,hQR⟩:∃ QR,(ag q).toArray=QR:=⟨_,rfl⟩
       rw [hQR] at HG QP EW WOQ HLP GG
       clear hQR
       go_upto_region 16 with fail
       go_wp2_with fail
       refine HG.out.mono ?_
       rintro e w5 ⟨rfl,lT,hc5⟩
       have hT5:=HT.out.reads lT hc5
       have Hf:=hid hT5
       clear lT hc5 hT5 HT HG
       go_upto_region 17 with (first
        | (with_reducible refine wpList_store_row (o:=⟨none,.store _ (.tmp 12) _,_,_,_,_⟩) rfl 51 _ _ rfl w5.heap.size QR rfl rfl 51 ZA (heap_alloc_new w5 _) QP.out EW.out WOQ.out ?_))
       obtain ⟨h7,hb7⟩:=zh w5 ZA QR
       generalize World.setRow _ w5.heap.size _=w6 at *
       have QQ:=Hf.out.below hb7
       have H7:=hid h7
       obtain ⟨c0,c1,c2,c3⟩:=dW QQ.tn.cell
       obtain ⟨a9,cc9,w9,hrun,d1,f1,hT9⟩:=GG.out w6 QQ
       have QS:=hid hrun
       have HT9:=hid hT9
       clear h7 hb7 QQ hrun hT9 Hf GG hzp EW WOQ
       go_wp2_with (first
        | (with_reducible refine wpList_load_row (o:=⟨some 70,_,_,_,_,_⟩) rfl 51 _ rfl w5.heap.size rfl 51 QR (0,0) _ H7.out Tryz.underlying51 rfl QP.out ?_)
        | (refine En (o:=⟨some 71,_,_,_,_,_⟩) rfl _ _ _ rfl #[(0,.agg QR)] (by simp [Act.eval,Act.put]) _ _ (HLP.out w6) ?_)
        | (at_builtin; refine wpList_append_run (o:=⟨some 72,_,_,_,_,_⟩) rfl _ _ _ _ rfl _ _ _ _ rfl rfl QS.out ?_))
       go_roundw
       case rel=>exact ⟨j+1,_,by have:=bz.out; omega,by go_num,by rw [HST.out,show wH (ps,r2)=(ps++[(xW r2).1],(xW r2).2.2) from rfl,HQ.out]; exact HT9.out⟩
       case measure=>simp [intOf]; have:=bz.out; omega
      ·obtain rfl:j=i+1:=by omega
       obtain ⟨⟨ps,r2⟩,hS2⟩:∃ S,kF (i+1) r=S:=⟨_,rfl⟩
       rw [hS2] at hT hkl
       dsimp only at hT hkl
       have HS2:=hid hS2
       obtain ⟨ap,cp,hp⟩:=jw hT.tn.op
       subst hp
       obtain ⟨c0,c1,c2,c3⟩:=dW hT.tn.cell
       have SEN:=hid (dU false (.slice ak ks.length ck) (.slice av vs.length cv) (.slice ap ps.length cp))
       have HT:=hid hT
       have mJ:=hid (show dC l=⟨false,ks,vs,ps⟩ by rw [HTD.out,CZ.out,HE.out.1,HE.out.2,HS.out,if_neg (by decide),HS2.out])
       have HD:=hid (hT.done #[.bool false,.slice ak ks.length ck,.slice av vs.length cv,.slice ap ps.length cp])
       have Gz:=hid (show ((i+1:Nat):Int)=(i:Int)+1 by omega)
       clear hj hlt hT hS2 hkl
       go_wp2_with (first
        | (with_reducible refine wpList_store_row (o:=⟨none,.store _ (.tmp 2) _,_,_,_,_⟩) rfl 118 _ _ rfl w0.heap.size _ rfl rfl 118 _ HT.out.fc SEN.out rfl (WO.out _ _ _ _ _ _ _ _ _ _) ?_))
       refine bodyPost_ret (results_cell_row Tryz.results86 _ _ w0.heap.size 118 _ (0,0) _ rfl (setRow_heap _ w0.heap.size _ _ _ _ HT.out.fc) Tryz.underlying118 rfl SEN.out) rfl ⟨_,_,_,by rw [mJ.out],by rw [mJ.out]; exact HD.out.1,HD.out.2⟩
end
section
set_option linter.unusedVariables false
open Go.ChangeShapes Go.WideShapes Go.ChangeAt Go.RowKit
theorem Oq (n:aC):checkN n=0∨checkN n=4∨checkN n=6:=by
 unfold checkN
 split
 ·split
  ·exact .inl rfl
  ·exact .inr (.inr rfl)
 ·exact .inr (.inl rfl)
def yl (l:bI):aC×Int:=if l.length ≠ 512 then (iW,2) else if checkN (dC l)=0∧jX (dC l)=l then (dC l,0) else (iW,4)
theorem lF {w:World}{F:Nat}(N:Nat)(row:Array Value)(hN:N≤w.heap.size)(hF:N≤F):Below N w (w.setRow F row):=aF ((Below.refl w.heap.size w).mono hN) hF _
theorem abm {w:World}{k v p:Value}{n:aC}(h:NR w k v p n){F:Nat}{cs row:Array Value}(hF:w.heap[F]? = some (.cells cs 118 (0,0)))(hk:∀ i s,w.cell? ⟨F,i,none⟩ ≠ some (.string s))(hp:∀ i a,w.cell? ⟨F,i,none⟩ ≠ some (.int .u32 a)):NR (w.setRow F row) k v p n:=by
 have keep:∀ a x,w.cell? a=some x→a.block ≠ F→(w.setRow F row).cell? a=some x:=fun a x hx hne=>by
  have e:(w.setRow F row).heap[a.block]? = w.heap[a.block]? := setRow_other w F a.block row hne
  rw [← hx]
  simp [World.cell?,e]
 have ss:∀ {u l},SS w u l→SS (w.setRow F row) u l:=fun ⟨a,c,e,hc,h⟩=>⟨a,c,e,hc,fun i s hs=>by
  obtain ⟨b,off,h1,h2⟩:=h i s hs
  exact ⟨b,off,h1,keep _ _ h2 (fun e2=>hk (off+i) s (by rw [← h2]; exact congrArg w.cell? (by simpa using e2.symm)))⟩⟩
 refine ⟨ss h.ks,ss h.vs, ?_⟩
 obtain ⟨a,c,e,h⟩:=h.ps
 refine ⟨a,c,e,fun i q hq=>?_⟩
 obtain ⟨b,off,h1,h2⟩:=h i q hq
 refine ⟨b,off,h1,fun j x hj=>?_⟩
 have h0:=h2 0 (.int .u32 q.ad) rfl
 have hne:b ≠ F:=by
  intro e2
  subst e2
  exact hp _ _ h0
 exact keep _ _ (h2 j x hj) hne
theorem Tf {w:World}{F:Nat}(hF:w.heap[F]? = some (.cells #[.bool false,.slice none 0 0,.slice none 0 0,.slice none 0 0] 118 (0,0))):(∀ i s,w.cell? ⟨F,i,none⟩ ≠ some (.string s))∧(∀ i a,w.cell? ⟨F,i,none⟩ ≠ some (.int .u32 a)):=by
 refine ⟨fun i s h=>?_,fun i a h=>?_⟩ <;>
 ·rw [cell_of_row _ _ _ _ _ _ hF] at h
  match i with
  | 0=>simp at h
  | 1=>simp at h
  | 2=>simp at h
  | 3=>simp at h
  | i+4=>simp at h
theorem abn (u:Value)(l:bI)(w:World)(h:BS w u l)(h63:l.length≤140737488351232) :
 Calls Tryz.prog 65 #[u] w fun e w'=>∃ k v p,e = .returned (.tuple #[.agg #[.bool (yl l).1.lf,k,v,p],.int .i64 (yl l).2])∧NR w' k v p (yl l).1∧Below w.heap.size w w':=by
 have hby:=h.Dp
 have hb1:=(Below.refl w.heap.size w).alloc (Nat.le_refl _) (.cells #[.bool false,.slice none 0 0,.slice none 0 0,.slice none 0 0] 118)
 have hF1:=heap_alloc_new w (.cells #[.bool false,.slice none 0 0,.slice none 0 0,.slice none 0 0] 118)
 have hs1:w.heap.size<(w.alloc (.cells #[.bool false,.slice none 0 0,.slice none 0 0,.slice none 0 0] 118)).heap.size:=by simp
 have h1:=h.kept hb1
 obtain ⟨au,cu,rfl,_⟩:=id h
 have SEZ:=hid (dU false (.slice none 0 0) (.slice none 0 0) (.slice none 0 0))
 have WOZ:=hid (show (#[.bool false,.slice none 0 0,.slice none 0 0,.slice none 0 0]:Array Value).all (·.oneCell')=true by simp [Value.oneCell'])
 have lI:(l.length:Int)≤140737488351232:=by omega
 generalize hw1:w.alloc (.cells #[.bool false,.slice none 0 0,.slice none 0 0,.slice none 0 0] 118)=w1 at *
 by_cases hl:l.length=512
 ·have hlb:((l.length:Int) == 512)=true:=by rw [hl]; rfl
  have ui:=hid (RY _ l w1 h1 h63)
  have HB1:=hid hb1
  have HF1:=hid hF1
  have S9:=hid hs1
  have HU1:=hid h1
  have Vw:=hid (aeK hby)
  have HGN:=hid (show yl l=if checkN (dC l)=0∧jX (dC l)=l then (dC l,0) else (iW,4) by unfold yl; rw [if_neg (by simp [hl])])
  have HHL:=hid hl
  clear h hb1 hF1 hs1 h1 h63 hl hby
  go_enter Tryz.func65,Tryz.ntmps65
  go_upto_region 1 with fail
  try rw [hw1]
  clear hw1
  go_wp2_with fail
  refine ui.out.mono ?_
  rintro e w2 ⟨R,ab,cb,rfl,hrr,hR,hb2,_⟩
  have HRN:=hid (XP R l w2 (RT.now hrr))
  have HF2:=hid ((hb2.block _ S9.out).trans HF1.out)
  have HB2:=hid hb2
  have HRW:=hid hR
  clear hrr hR hb2 ui
  go_wp2_with fail
  refine HRN.out.mono ?_
  rintro e w3 ⟨k,v,p,rfl,hnr,hch⟩
  obtain ⟨ak,ck,hk⟩:=hnr.ks.shape
  obtain ⟨av,cv,hv⟩:=hnr.vs.shape
  obtain ⟨ap,cp,hp⟩:=hnr.ps.shape
  subst hk hv hp
  have hb3:Below w1.heap.size w1 w3:=HB2.out.trans (hch.below HRW.out HB2.out.size)
  have hb4:=(Below.refl w3.heap.size w3).alloc (Nat.le_refl _) (.cells #[.bool (dC l).lf,.slice ak (dC l).ks.length ck,.slice av (dC l).vs.length cv,.slice ap (dC l).ps.length cp] 118)
  have hN4:=hnr.below hb4
  have hA4:=heap_alloc_new w3 (.cells #[.bool (dC l).lf,.slice ak (dC l).ks.length ck,.slice av (dC l).vs.length cv,.slice ap (dC l).ps.length cp] 118)
  have HB4:=hid (hb3.trans (hb4.mono hb3.size))
  have HF4:=hid ((hb4.block _ (Nat.lt_of_lt_of_le S9.out hb3.size)).trans ((hb3.block _ S9.out).trans HF1.out))
  have HU4:=hid ((HU1.out.kept hb3).kept hb4)
  have qL:=hid (show ∀ W,Below w1.heap.size w1 W→Below w.heap.size w W from fun W b=>HB1.out.trans (b.mono (Nat.le_of_lt S9.out)))
  clear hnr hb3 hb4 hch HRN HB2 HF2 HRW
  go_upto_region 4 with fail
  generalize World.alloc w3 _=w4 at *
  have HN4:=hid hN4
  have Bz:=hid hA4
  have SE:=hid (dU (dC l).lf (.slice ak (dC l).ks.length ck) (.slice av (dC l).vs.length cv) (.slice ap (dC l).ps.length cp))
  have HC3:=hid (Oq (dC l))
  obtain ⟨G,hG⟩:∃ G,w3.heap.size=G:=⟨_,rfl⟩
  try rw [hG]
  rw [hG] at Bz
  have HT4:=hid (show G<w4.heap.size from (Array.getElem?_eq_some_iff.1 Bz.out).1)
  clear hN4 hA4 hG
  by_cases hck:checkN (dC l)=0
  ·have KN:=hid (EM _ _ _ (dC l) w4 HN4.out Vw.out hck)
   go_wp2_with (first
    | (with_reducible refine wpList_load_row (o:=⟨some 15,_,_,_,_,_⟩) rfl 118 _ rfl G rfl 118 _ (0,0) _ Bz.out Tryz.underlying118 rfl SE.out ?_))
   refine KN.out.mono ?_
   rintro e w5 ⟨a5,c5,rfl,_,alL,hb5⟩
   have fQ:=hid (HB4.out.trans (hb5.mono HB4.out.size))
   have I7:=hid ((hb5.block _ (Nat.lt_of_lt_of_le S9.out HB4.out.size)).trans HF4.out)
   have HA5:=hid ((hb5.block _ HT4.out).trans Bz.out)
   have Hg:=hid (HN4.out.below hb5)
   have HEQ:=hid (Td _ _ _ _ w5 alL (HU4.out.kept hb5))
   clear alL hb5 KN Bz HN4 HF4 HB4 HU4
   by_cases hsl:jX (dC l)=l
   ·have HG:=hid (show yl l=(dC l,0) by rw [HGN.out,if_pos ⟨hck,hsl⟩])
    rw [decide_eq_true hsl] at HEQ
    clear hck hsl
    go_wp2_with fail
    refine HEQ.out.mono ?_
    rintro e w6 ⟨rfl,rfl⟩
    have HNR:=hid (abm Hg.out I7.out (row:=#[.bool (dC l).lf,.slice ak (dC l).ks.length ck,.slice av (dC l).vs.length cv,.slice ap (dC l).ps.length cp]) (Tf I7.out).1 (Tf I7.out).2)
    have WO:=hid (show (#[.bool (dC l).lf,.slice ak (dC l).ks.length ck,.slice av (dC l).vs.length cv,.slice ap (dC l).ps.length cp]:Array Value).all (·.oneCell')=true by simp [Value.oneCell'])
    go_wp2_with (first
     | (with_reducible refine wpList_load_row (o:=⟨some 28,_,_,_,_,_⟩) rfl 118 _ rfl G rfl 118 _ (0,0) _ HA5.out Tryz.underlying118 rfl SE.out ?_)
     | (with_reducible refine wpList_store_row (o:=⟨none,.store _ (.tmp 2) _,_,_,_,_⟩) rfl 118 _ _ rfl w.heap.size _ rfl rfl 118 _ I7.out SE.out rfl WO.out ?_))
    refine bodyPost_ret (v := .tuple #[.agg #[.bool (dC l).lf,.slice ak (dC l).ks.length ck,.slice av (dC l).vs.length cv,.slice ap (dC l).ps.length cp],.int .i64 0]) (aj Tryz.results65 _ _ w.heap.size 118 _ (0,0) _ rfl (setRow_heap _ w.heap.size _ _ _ _ I7.out) Tryz.underlying118 rfl SE.out _ (by simp)) rfl ⟨_,_,_,(by rw [HG.out]; try rfl),by rw [HG.out]; exact HNR.out,(qL.out _ fQ.out).trans (lF _ _ (qL.out _ fQ.out).size (Nat.le_refl _))⟩
   ·have HG:=hid (show yl l=(iW,4) by rw [HGN.out,if_neg (fun h=>hsl h.2)])
    rw [decide_eq_false hsl] at HEQ
    clear hck hsl
    go_wp2_with fail
    refine HEQ.out.mono ?_
    rintro e w6 ⟨rfl,rfl⟩
    go_wp2_with (first
     | (with_reducible refine wpList_store_row (o:=⟨none,.store _ (.tmp 2) _,_,_,_,_⟩) rfl 118 _ _ rfl w.heap.size _ rfl rfl 118 _ I7.out SEZ.out rfl WOZ.out ?_))
    refine bodyPost_ret (v := .tuple #[.agg #[.bool false,.slice none 0 0,.slice none 0 0,.slice none 0 0],.int .i64 4]) (aj Tryz.results65 _ _ w.heap.size 118 #[.bool false,.slice none 0 0,.slice none 0 0,.slice none 0 0] (0,0) _ rfl (setRow_heap _ w.heap.size _ _ _ _ I7.out) Tryz.underlying118 rfl SEZ.out _ (by simp)) rfl ⟨_,_,_,(by rw [HG.out]; try rfl),by rw [HG.out]; exact pX _,(qL.out _ fQ.out).trans (lF _ _ (qL.out _ fQ.out).size (Nat.le_refl _))⟩
  ·have KN:=hid (abd _ _ _ (dC l) w4 HN4.out Vw.out hck)
   have HG:=hid (show yl l=(iW,4) by rw [HGN.out,if_neg (fun h=>hck h.1)])
   obtain ⟨ce,hce⟩:∃ ce,checkN (dC l)=ce:=⟨_,rfl⟩
   rw [hce] at KN HC3 hck
   clear hce
   go_wp2_with (first
    | (with_reducible refine wpList_load_row (o:=⟨some 15,_,_,_,_,_⟩) rfl 118 _ rfl G rfl 118 _ (0,0) _ Bz.out Tryz.underlying118 rfl SE.out ?_))
   refine KN.out.mono ?_
   rintro e w5 ⟨rfl,hb5⟩
   have fQ:=hid (HB4.out.trans (hb5.mono HB4.out.size))
   have I7:=hid ((hb5.block _ (Nat.lt_of_lt_of_le S9.out HB4.out.size)).trans HF4.out)
   clear hb5 KN Bz HN4 HF4 HB4 HU4
   rcases HC3.out with rfl | rfl | rfl
   ·exact absurd rfl hck
   ·clear hck
    go_wp2_with (first
     | (with_reducible refine wpList_store_row (o:=⟨none,.store _ (.tmp 2) _,_,_,_,_⟩) rfl 118 _ _ rfl w.heap.size _ rfl rfl 118 _ I7.out SEZ.out rfl WOZ.out ?_))
    refine bodyPost_ret (v := .tuple #[.agg #[.bool false,.slice none 0 0,.slice none 0 0,.slice none 0 0],.int .i64 4]) (aj Tryz.results65 _ _ w.heap.size 118 #[.bool false,.slice none 0 0,.slice none 0 0,.slice none 0 0] (0,0) _ rfl (setRow_heap _ w.heap.size _ _ _ _ I7.out) Tryz.underlying118 rfl SEZ.out _ (by simp)) rfl ⟨_,_,_,(by rw [HG.out]; try rfl),by rw [HG.out]; exact pX _,(qL.out _ fQ.out).trans (lF _ _ (qL.out _ fQ.out).size (Nat.le_refl _))⟩
   ·clear hck
    go_wp2_with (first
     | (with_reducible refine wpList_store_row (o:=⟨none,.store _ (.tmp 2) _,_,_,_,_⟩) rfl 118 _ _ rfl w.heap.size _ rfl rfl 118 _ I7.out SEZ.out rfl WOZ.out ?_))
    refine bodyPost_ret (v := .tuple #[.agg #[.bool false,.slice none 0 0,.slice none 0 0,.slice none 0 0],.int .i64 4]) (aj Tryz.results65 _ _ w.heap.size 118 #[.bool false,.slice none 0 0,.slice none 0 0,.slice none 0 0] (0,0) _ rfl (setRow_heap _ w.heap.size _ _ _ _ I7.out) Tryz.underlying118 rfl SEZ.out _ (by simp)) rfl ⟨_,_,_,(by rw [HG.out]; try rfl),by rw [HG.out]; exact pX _,(qL.out _ fQ.out).trans (lF _ _ (qL.out _ fQ.out).size (Nat.le_refl _))⟩
 ·have hlb:((l.length:Int) == 512)=false:=by rw [show ((l.length:Int) == 512)=((l.length:Int) == ((512:Nat):Int)) from rfl,zi,decide_eq_false hl]
  have HG:=hid (show yl l=(iW,2) by unfold yl; rw [if_pos hl])
  have HB1:=hid hb1
  have HF1:=hid hF1
  have qL:=hid (show ∀ W,Below w1.heap.size w1 W→Below w.heap.size w W from fun W b=>hb1.trans (b.mono (Nat.le_of_lt hs1)))
  have Zu:=hid (Below.refl w1.heap.size w1)
  clear h hb1 hF1 h1 h63 hl hby hs1
  go_enter Tryz.func65,Tryz.ntmps65
  go_upto_region 1 with fail
  try rw [hw1]
  clear hw1
  go_wp2_with (first
   | (with_reducible refine wpList_store_row (o:=⟨none,.store _ (.tmp 2) _,_,_,_,_⟩) rfl 118 _ _ rfl w.heap.size _ rfl rfl 118 _ HF1.out SEZ.out rfl WOZ.out ?_))
  refine bodyPost_ret (v := .tuple #[.agg #[.bool false,.slice none 0 0,.slice none 0 0,.slice none 0 0],.int .i64 2]) (aj Tryz.results65 _ _ w.heap.size 118 #[.bool false,.slice none 0 0,.slice none 0 0,.slice none 0 0] (0,0) _ rfl (setRow_heap _ w.heap.size _ _ _ _ HF1.out) Tryz.underlying118 rfl SEZ.out _ (by simp)) rfl ⟨_,_,_,(by rw [HG.out]; try rfl),by rw [HG.out]; exact pX _,(qL.out _ Zu.out).trans (lF _ _ (qL.out _ Zu.out).size (Nat.le_refl _))⟩
end
section
set_option linter.unusedVariables false
open Go.ChangeShapes Go.WideShapes Go.ChangeAt Go.RowKit
theorem XQ (s:ByteArray):strOfNums (wZ s)=s:=by
 have h:(strOfNums (wZ s)).data.toList=s.data.toList:=by
  rw [strOfNums_data]
  unfold wZ
  rw [List.map_map]
  conv=>rhs; rw [← List.map_id s.data.toList]
  apply List.map_congr_left
  intro b _
  simp
 cases s with
 | mk d =>
   have h2:(strOfNums (wZ ⟨d⟩)).data=d:=Array.toList_inj.1 h
   exact (show strOfNums (wZ ⟨d⟩)=⟨(strOfNums (wZ ⟨d⟩)).data⟩ from rfl).trans (by rw [h2])
theorem AY {s:ByteArray}(h:s.size≤255)(R:bI):jV (eG s++R)=(s,0,R):=by
 rw [EK h]
 unfold jV
 rw [if_neg (by simp [gU]; omega)]
 simp only [List.cons_append,List.getD_cons_zero,Int.toNat_natCast,List.drop_succ_cons,List.drop_zero]
 rw [List.take_append_of_le_length (by rw [gU]; omega),List.take_of_length_le (by rw [gU]; omega),XQ,Nat.add_comm 1,List.drop_succ_cons,← gU,List.drop_left]
theorem VA:∀ (n:Nat) (k v:List ByteArray) (X:bI),v.length=k.length→(∀ s ∈ k,s.size≤255)→(∀ s ∈ v,s.size≤255)→n≤k.length→dX true n ((k.zip v).flatMap fH++X)=(k.take n,v.take n,((k.drop n).zip (v.drop n)).flatMap fH++X)
 | 0,k,v,X,_,_,_,_=>by simp [dX]
 | n+1,k,v,X,hl,hk,hv,hn=>by
   have ih:=VA n k v X hl hk hv (by omega)
   show mO true (dX true n _)=_
   rw [ih]
   have e1:k.drop n=k[n]::k.drop (n+1):=List.drop_eq_getElem_cons (by omega)
   have e2:v.drop n=v[n]::v.drop (n+1):=List.drop_eq_getElem_cons (by omega)
   rw [e1,e2,List.zip_cons_cons,List.flatMap_cons]
   unfold mO
   have hkb:=hk k[n] (List.getElem_mem _)
   have hvb:=hv v[n] (List.getElem_mem _)
   have e3:fH (k[n],v[n])=eG k[n]++eG v[n]:=rfl
   rw [e3,if_pos rfl]
   dsimp only
   rw [List.append_assoc,List.append_assoc,AY hkb]
   dsimp only
   rw [AY hvb]
   dsimp only
   rw [List.take_add_one,List.take_add_one,List.getElem?_eq_getElem (by omega),List.getElem?_eq_getElem (by omega)]
   rfl
theorem I8:∀ (n:Nat) (k:List ByteArray) (X:bI),(∀ s ∈ k,s.size≤255)→n≤k.length→dX false n (k.flatMap eG++X)=(k.take n, [],(k.drop n).flatMap eG++X)
 | 0,k,X,_,_=>by simp [dX]
 | n+1,k,X,hk,hn=>by
   have ih:=I8 n k X hk (by omega)
   show mO false (dX false n _)=_
   rw [ih]
   have e1:k.drop n=k[n]::k.drop (n+1):=List.drop_eq_getElem_cons (by omega)
   rw [e1,List.flatMap_cons]
   unfold mO
   have hkb:=hk k[n] (List.getElem_mem _)
   rw [if_neg (by decide)]
   dsimp only
   rw [List.append_assoc,AY hkb,List.take_add_one,List.getElem?_eq_getElem (by omega)]
   rfl
theorem VB:∀ (n:Nat) (p:List ay) (X:bI),fP X→n≤p.length→kF n (p.flatMap fZ++X)=(p.take n,(p.drop n).flatMap fZ++X)
 | 0,p,X,_,_=>by simp [kF]
 | n+1,p,X,hX,hn=>by
   have ih:=VB n p X hX (by omega)
   show wH (kF n _)=_
   rw [ih]
   have e1:p.drop n=p[n]::p.drop (n+1):=List.drop_eq_getElem_cons (by omega)
   rw [e1,List.flatMap_cons]
   unfold wH
   dsimp only
   rw [List.append_assoc,XF _ _ (by
    intro z hz
    rcases List.mem_append.1 hz with hz | hz
    ·exact zl fZ _ (fun q _=>EG q) z hz
    ·exact hX z hz),List.take_add_one,List.getElem?_eq_getElem (by omega)]
   rfl
theorem XR {n:aC}(h:checkN n=0)(Z:bI)(hZ:fP Z):dC (uZ n++Z)=n:=by
 obtain ⟨hf,_⟩:=mX h
 have KJ:=wG h
 obtain ⟨hk,hv⟩:=oO hf
 have hk':∀ s ∈ n.ks,s.size≤255:=fun s hs=>Nat.le_trans (hk s hs) (by decide)
 have hv':∀ s ∈ n.vs,s.size≤255:=fun s hs=>Nat.le_trans (hv s hs) (by decide)
 have hc:=mW hf
 obtain ⟨lf,ks,vs,ps⟩:=n
 cases lf with
 | true =>
   obtain ⟨h1,h2⟩:=pY rfl hc
   dsimp only at *
   subst h2
   have e0:uZ ⟨true,ks,vs, []⟩++Z=1::(ks.length:Int)::((ks.zip vs).flatMap fH++Z):=rfl
   rw [e0]
   have r1:eP (1::(ks.length:Int)::((ks.zip vs).flatMap fH++Z))=(ks.length:Int)::((ks.zip vs).flatMap fH++Z):=by unfold eP; rw [jr,if_neg (by simp)]; rfl
   have r2:eP ((ks.length:Int)::((ks.zip vs).flatMap fH++Z))=(ks.zip vs).flatMap fH++Z:=by unfold eP; rw [jr,if_neg (by simp)]; rfl
   have k1:lC (1::(ks.length:Int)::((ks.zip vs).flatMap fH++Z))=true:=by unfold lC Vy; rw [jr,if_neg (by simp)]; rfl
   have c1:qV (1::(ks.length:Int)::((ks.zip vs).flatMap fH++Z))=ks.length:=by unfold qV; rw [r1,jr,if_neg (by simp)]; simp
   unfold dC
   rw [k1,c1,r1,r2,VA ks.length ks vs Z h1 hk' hv' (Nat.le_refl _)]
   dsimp only
   rw [List.take_length,show vs.take ks.length=vs by rw [← h1,List.take_length]]
   rfl
 | false =>
   obtain ⟨h0,h1,h2⟩:=mM rfl hc
   dsimp only at *
   subst h1
   have e0:uZ ⟨false,ks, [],ps⟩++Z=2::(ks.length:Int)::(ks.flatMap eG++(ps.flatMap fZ++Z)):=by
    show 2::(ks.length:Int)::(ks.flatMap eG++ps.flatMap fZ)++Z=_
    simp
   rw [e0]
   generalize hX:ks.flatMap eG++(ps.flatMap fZ++Z)=X
   have r1:eP (2::(ks.length:Int)::X)=(ks.length:Int)::X:=by unfold eP; rw [jr,if_neg (by simp)]; rfl
   have r2:eP ((ks.length:Int)::X)=X:=by unfold eP; rw [jr,if_neg (by simp)]; rfl
   have k1:lC (2::(ks.length:Int)::X)=false:=by unfold lC Vy; rw [jr,if_neg (by simp)]; rfl
   have c1:qV (2::(ks.length:Int)::X)=ks.length:=by unfold qV; rw [r1,jr,if_neg (by simp)]; simp
   unfold dC
   rw [k1,c1,r1,r2,← hX,I8 ks.length ks _ hk' (Nat.le_refl _)]
   dsimp only
   rw [if_neg (by decide),List.drop_length,List.flatMap_nil,List.nil_append,← h2,VB ps.length ps Z hZ (Nat.le_refl _)]
   simp
theorem XT {n:aC}(h:checkN n=0):fP (uZ n):=by
 have KJ:=wG h
 intro z hz
 unfold uZ at hz
 split at hz
 ·rcases List.mem_cons.1 hz with rfl | hz
  ·omega
  ·rcases List.mem_cons.1 hz with rfl | hz
   ·omega
   ·exact zl fH _ (fun q _ z hz=>by
     rcases List.mem_append.1 hz with hz | hz
     ·exact AQ _ z hz
     ·exact AQ _ z hz) z hz
 ·rcases List.mem_cons.1 hz with rfl | hz
  ·omega
  ·rcases List.mem_cons.1 hz with rfl | hz
   ·omega
   ·rcases List.mem_append.1 hz with hz | hz
    ·exact zl eG _ (fun s _=>AQ s) z hz
    ·exact zl fZ _ (fun q _=>EG q) z hz
theorem zn {n:aC}(h:checkN n=0):(jX n).length=512:=by
 obtain ⟨hf,hz⟩:=mX h
 unfold jX
 rw [List.length_append,List.length_replicate,sH hf]
 omega
theorem aeL {n:aC}(h:checkN n=0):yl (jX n)=(n,0):=by
 have e:dC (jX n)=n:=XR h _ (Iz _)
 unfold yl
 rw [if_neg (by rw [zn h]; simp),e,if_pos ⟨h,rfl⟩]
end
end Go.Proofs.YtljjcbmkbmloaaaGreatDoor
