import Derived.Test.YtljjcbmkbmloaaaGreatDoorGTu12
import Derived.Test.YtljjcbmkbmloaaaGreatDoorGTu13
import Derived.Test.YtljjcbmkbmloaaaGreatDoorGTuA
namespace Go.Proofs.YtljjcbmkbmloaaaGreatDoor
set_option maxHeartbeats 6400000
set_option maxRecDepth 100000
set_option linter.unusedVariables false
open Lib (hid)
section
set_option linter.unusedVariables false
open Go.ChangeShapes Go.WideShapes Go.ChangeAt Go.RowKit
def ni (lf:Bool)(s:List ByteArray×List ByteArray×bI):List ByteArray×List ByteArray×bI :=
 if lf then (s.1++[(ku s.2.2).1],s.2.1++[(ku (ku s.2.2).2.2).1],(ku (ku s.2.2).2.2).2.2) else (s.1++[(ku s.2.2).1],s.2.1,(ku s.2.2).2.2)
def dY (lf:Bool):Nat→bI→List ByteArray×List ByteArray×bI
 | 0,l=>([], [],l)
 | n+1,l=>ni lf (dY lf n l)
def wM (s:List ay×bI):List ay×bI:=(s.1++[(yh s.2).1],(yh s.2).2.2)
def kJ:Nat→bI→List ay×bI
 | 0,l=>([],l)
 | n+1,l=>wM (kJ n l)
def VT (l:bI):Int:=(iV 1 l).1
def eU (l:bI):bI:=(iV 1 l).2.2
def rG (l:bI):Nat:=(iV 1 (eU l)).1.toNat
def lK (l:bI):Bool:=VT l == 1
def dG (l:bI):az :=
 ⟨lK l,(dY (lK l) (rG l) (eU (eU l))).1,(dY (lK l) (rG l) (eU (eU l))).2.1,
   if lK l then [] else (kJ (rG l+1) (dY (lK l) (rG l) (eU (eU l))).2.2).1⟩
theorem yw (lf:Bool):∀ n l,(dY lf n l).1.length=n∧(dY lf n l).2.1.length=if lf then n else 0
 | 0,l=>by cases lf <;> exact ⟨rfl,rfl⟩
 | n+1,l=>by
   obtain ⟨h1,h2⟩:=yw lf n l;unfold dY ni;cases lf with
   | true=>simp only [if_true] at h2 ⊢; simp [h1,h2]
   | false=>simp only [Bool.false_eq_true,if_false] at h2 ⊢; simp [h1,h2]
theorem yx:∀ n l,(kJ n l).1.length=n
 | 0,l=>rfl
 | n+1,l=>by unfold kJ wM; simp [yx n l]
theorem yz (l:bI)(h:gm l):0≤(iV 1 l).1∧(iV 1 l).1≤255:=by
 rw [jB];split
 ·simp
 rename_i hne
 have e:l.getD 0 0=l[0]'(List.length_pos_iff.2 hne):=by simp [List.getD,List.length_pos_iff.2 hne]
 dsimp only;rw [e];exact h _ (List.getElem_mem _)
theorem oP {l:bI}(h:gm l):gm (eU l):=by
 unfold eU;rw [jB];split
 ·exact h
 exact wJ l h 1
theorem VU {l:bI}(h:gm l):rG l≤255:=by
 have:=yz (eU l) (oP h);unfold rG;omega
theorem Yi {l:bI}(h:gm l):(iV 1 (eU l)).1=(rG l:Int):=by
 have:=yz (eU l) (oP h);unfold rG;omega
theorem yA (l:bI)(h:gm l):(ku l).1.size≤255:=by
 unfold ku;split
 ·exact Nat.zero_le _
 rename_i hc
 have hne:l ≠ []:=fun e=>hc (.inl e)
 have e:l.getD 0 0=l[0]'(List.length_pos_iff.2 hne):=by simp [List.getD,List.length_pos_iff.2 hne]
 have hb:=h _ (List.getElem_mem (List.length_pos_iff.2 hne));rw [← e] at hb;have hs:(strOfNums ((l.drop 1).take (l.getD 0 0).toNat)).size=((l.drop 1).take (l.getD 0 0).toNat).length:=by
  have:=congrArg List.length (strOfNums_data ((l.drop 1).take (l.getD 0 0).toNat));simpa using this
 show (strOfNums ((l.drop 1).take (l.getD 0 0).toNat)).size≤255;rw [hs,List.length_take];omega
theorem OJ (l:bI)(h:gm l):gm (ku l).2.2:=by
 unfold ku;split
 ·exact h
 exact wJ l h _
theorem Fv (lf:Bool):∀ n l,gm l→gm (dY lf n l).2.2∧(∀ s ∈ (dY lf n l).1,s.size≤255)∧(∀ s ∈ (dY lf n l).2.1,s.size≤255)
 | 0,l,h=>⟨h,nofun,nofun⟩
 | n+1,l,h=>by
   obtain ⟨h1,h2,h3⟩:=Fv lf n l h;have b1:=OJ _ h1;unfold dY ni;cases lf with
   | true =>
     simp only [if_true];refine ⟨OJ _ b1,fun s hs=>?_,fun s hs=>?_⟩
     ·rcases List.mem_append.1 hs with hs | hs
      ·exact h2 s hs
      rw [List.mem_singleton.1 hs]; exact yA _ h1
     rcases List.mem_append.1 hs with hs | hs
     ·exact h3 s hs
     rw [List.mem_singleton.1 hs]; exact yA _ b1
   | false =>
     simp only [Bool.false_eq_true,if_false];refine ⟨b1,fun s hs=>?_,h3⟩;rcases List.mem_append.1 hs with hs | hs
     ·exact h2 s hs
     rw [List.mem_singleton.1 hs]; exact yA _ h1
theorem ae3 {l:bI}(h:gm l):NB (dG l):=by
 have hb:=Fv (lK l) (rG l) _ (oP (oP h));have hl:=yw (lK l) (rG l) (eU (eU l));have hc:=VU h;refine ⟨?_,fun s hs=>Nat.le_trans (hb.2.1 s hs) (by decide), ?_,fun s hs=>Nat.le_trans (hb.2.2 s hs) (by decide), ?_⟩
 ·show (dY _ _ _).1.length≤_
  rw [hl.1]; omega
 ·show (dY _ _ _).2.1.length≤_
  rw [hl.2]; split <;> omega
 show (if lK l then [] else (kJ (rG l+1) _).1).length≤_;split
 ·exact Nat.zero_le _
 rw [yx]; omega
structure TN (B:Nat)(w:World)(G:Nat)(lf:Bool)(k v p:Value)(ks vs:List ByteArray)(ps:List ay):Prop where
 cell:w.heap[G]? = some (.cells #[.bool lf,k,v,p] 118 (0,0))
 ok:w.ownsRow B 9 1 k ks.length (ks.map Value.string)
 ov:w.ownsRow B 9 1 v vs.length (vs.map Value.string)
 op:w.ownsRow B 51 34 p ps.length (kP ps)
 ap:∀ g,k.ownBlock=some g→v.ownBlock ≠ some g
theorem Be {w:World}{B n m e e' k k':Nat}{v v':Value}{xs xs':List Value}(h:w.ownsRow B e k v n xs)(h':w.ownsRow B e' k' v' m xs')(hne:e ≠ e'):∀ g,v.ownBlock=some g→v'.ownBlock ≠ some g:=by
 intro g hg hg';obtain ⟨cur,hc⟩:=ES h hg;obtain ⟨cur',hc'⟩:=ES h' hg';rw [hc] at hc';simp only [Option.some.injEq,Obj.cells.injEq] at hc';exact hne hc'.2.1
theorem TN.touch {B:Nat}{w w':World}{G:Nat}{lf:Bool}{k v p:Value}{ks vs:List ByteArray}{ps:List ay}{l:List Nat}(h:TN B w G lf k v p ks vs ps)(t:Touch l w w')(hG:B≤G)(hl:∀ g ∈ l,g<B):TN B w' G lf k v p ks vs ps:=by
 have hn:∀ {v:Value} {e n k:Nat} {xs:List Value},w.ownsRow B e k v n xs→∀ g,v.ownBlock=some g→g ∉ l:=fun ho g hg hm=>by
  have:=(ho.lt g hg).1;have:=hl g hm;omega
 exact ⟨(t.block G (Array.getElem?_eq_some_iff.1 h.cell).1 (fun hm=>by have:=hl G hm; omega)).trans h.cell,bG h.ok t (hn h.ok),bG h.ov t (hn h.ov),bG h.op t (hn h.op),h.ap⟩
theorem TN.below {B:Nat}{w w':World}{G:Nat}{lf:Bool}{k v p:Value}{ks vs:List ByteArray}{ps:List ay}(h:TN B w G lf k v p ks vs ps)(b:Below w.heap.size w w'):TN B w' G lf k v p ks vs ps :=
 ⟨(b.block G (Array.getElem?_eq_some_iff.1 h.cell).1).trans h.cell,pG h.ok b,pG h.ov b,pG h.op b,h.ap⟩
theorem TN.lt {B:Nat}{w:World}{G:Nat}{lf:Bool}{k v p:Value}{ks vs:List ByteArray}{ps:List ay}(h:TN B w G lf k v p ks vs ps):G<w.heap.size:=(Array.getElem?_eq_some_iff.1 h.cell).1
theorem TN.nr {B:Nat}{w:World}{G:Nat}{lf:Bool}{k v p:Value}{ks vs:List ByteArray}{ps:List ay}(h:TN B w G lf k v p ks vs ps):NR w k v p ⟨lf,ks,vs,ps⟩:=⟨Lu h.ok,Lu h.ov,abk h.op⟩
theorem jD {w:World}{B e k n:Nat}{v:Value}{xs:List Value}(h:w.ownsRow B e k v n xs):∃ a c,v = .slice a n c:=by
 rcases h.2 with ⟨rfl,h0⟩ | ⟨g,cap,_,rfl,_⟩
 ·exact ⟨none,0,by rw [h0]⟩
 exact ⟨_,_,rfl⟩
theorem abv:(Tryz.prog.info? 9).map (fun i=>(i.zero,i.size,i.bytes))=some (some (.string ⟨#[]⟩),1,16):=by kernel_rfl
theorem tH (w:World)(B n:Nat)(v:Value)(xs:List ByteArray)(s:ByteArray)(hown:w.ownsRow B 9 1 v n (xs.map Value.string))(hn:n≤1000000)(hB:B≤w.heap.size) :
 ∃ a c w',(Builtin.append_ #[115,115] 115 #[v,.slice (some ⟨w.heap.size,0,none⟩) 1 1]).run Tryz.prog (w.alloc (.cells #[.string s] 9)) = .ok (.slice a (n+1) c) w' ∧
   w'.ownsRow B 9 1 (.slice a (n+1) c) (n+1) ((xs++[s]).map Value.string)∧(w.alloc (.cells #[.string s] 9)).grownBy w' v.ownBlock ∧
   ((Value.slice a (n+1) c).ownBlock=v.ownBlock∨(Value.slice a (n+1) c).ownBlock=some (w.heap.size+1)):=by
 obtain ⟨i0,hi,hz0,hz1,hz2⟩:=info_parts abv
 have hb:=(Below.refl w.heap.size w).alloc (Nat.le_refl _) (.cells #[.string s] 9)
 have hs:(w.alloc (.cells #[.string s] 9)).heap.size=w.heap.size+1:=by simp
 obtain ⟨v',w',hr,ho,hg,_,hnb⟩:=run_append_own_at (P:=Tryz.prog) (w.alloc (.cells #[.string s] 9)) B 115 115 9 i0 _ 1 16 Tryz.underlying115 hi hz0 hz1 hz2 rfl (by decide) v n (xs.map Value.string) (pG hown hb) ⟨w.heap.size,0,none⟩ 1 1 [.string s] rfl (fun j u hj=>by
  have hj0:j=0:=by have:=(List.getElem?_eq_some_iff.1 hj).1; simp at this; exact this
  subst hj0;simp at hj;subst hj;rw [Addr.add_mid,Nat.add_zero,cell_of_row _ _ _ _ _ _ (heap_alloc_new w _)];rfl) (fun u hu=>by rw [List.mem_singleton.1 hu]; rfl) (by unfold maxLen; omega) (by omega) (by rw [hs]; omega)
 obtain ⟨a,c,rfl⟩:=jD ho
 refine ⟨a,c,w',hr,by rw [List.map_append]; exact ho,hg, ?_⟩
 rw [hs] at hnb
 exact hnb
theorem tJ {w w':World}{B:Nat}{row:Option Nat}(h:w.grownBy w' row)(hB:B≤w.heap.size)(hr:∀ g,row=some g→B≤g):Below B w w':=(Touch.grown h).below hB (fun k hk=>by
 cases row with
 | none=>simp at hk
 | some g=>simp at hk; subst hk; exact hr _ rfl)
theorem abw {B:Nat}{w:World}{G:Nat}{lf:Bool}{k v p:Value}{ks vs:List ByteArray}{ps:List ay}(h:TN B w G lf k v p ks vs ps)(s:ByteArray)(hB:B≤w.heap.size)(hG:B≤G)(hn:ks.length≤100000) :
 ∃ a c w',(Builtin.append_ #[115,115] 115 #[k,.slice (some ⟨w.heap.size,0,none⟩) 1 1]).run Tryz.prog (w.alloc (.cells #[.string s] 9)) = .ok (.slice a (ks.length+1) c) w' ∧
   w'.cell? ⟨G,1,none⟩=some k∧w'.frozen? ⟨G,1,none⟩=false∧TN B (w'.setCell ⟨G,1,none⟩ (.slice a (ks.length+1) c)) G lf (.slice a (ks.length+1) c) v p (ks++[s]) vs ps ∧
   Below B w (w'.setCell ⟨G,1,none⟩ (.slice a (ks.length+1) c))∧∀ F,F<w.heap.size→k.ownBlock ≠ some F→F ≠ G→(w'.setCell ⟨G,1,none⟩ (.slice a (ks.length+1) c)).heap[F]? = w.heap[F]? := by
 obtain ⟨a,c,w',hr,ho,hg,hnb⟩:=tH w B ks.length k ks s h.ok (by omega) hB
 have hb:=(Below.refl w.heap.size w).alloc (Nat.le_refl _) (.cells #[.string s] 9)
 have h1:=h.below hb
 have hs:(w.alloc (.cells #[.string s] 9)).heap.size=w.heap.size+1:=by simp
 have hkG:k.ownBlock ≠ some G:=own_ne h.ok h.cell (by decide)
 have hc1:w'.heap[G]? = some (.cells #[.bool lf,k,v,p] 118 (0,0)):=(hg.block G h1.lt (fun e=>hkG e.symm)).trans h1.cell
 have hnG:(Value.slice a (ks.length+1) c).ownBlock ≠ some G:=own_ne ho hc1 (by decide)
 have hO:=(Only.refl G w').setCell 1 (.slice a (ks.length+1) c)
 have tg:=Touch.grown hg
 have tO:=Touch.dC (l:=[G]) hO (by simp)
 have hvk:∀ g,v.ownBlock=some g→g ∉ k.ownBlock.toList:=fun g hv hm=>by
  rw [Option.mem_toList] at hm;exact h.ap g hm hv
 have hpk:∀ g,p.ownBlock=some g→g ∉ k.ownBlock.toList:=fun g hp hm=>by
  rw [Option.mem_toList] at hm;exact Be h.op h.ok (by decide) g hp hm
 have hG1:∀ {e k' n:Nat} {u:Value} {xs:List Value},w'.ownsRow B e k' u n xs→e ≠ 118→∀ g,u.ownBlock=some g→g ∉ [G]:=fun hu he g hg2 hm=>by
  rw [List.mem_singleton] at hm;subst hm;exact own_ne hu hc1 (fun e=>he e.symm) hg2
 have ov':=bG h1.ov tg hvk
 have op':=bG h1.op tg hpk
 refine ⟨a,c,w',hr,cell_of_row _ _ _ _ _ _ hc1,frozen_of_row _ _ _ _ _ hc1,⟨heap_setCell_same _ _ _ _ _ _ hc1, ?_,bG ov' tO (hG1 ov' (by decide)),bG op' tO (hG1 op' (by decide)),fun g hk hv=>?_⟩, ?_,fun F hF hkF hFG=>?_⟩
 ·rw [List.length_append]
  exact bG ho tO (hG1 ho (by decide))
 ·rcases hnb with e | e
  ·rw [e] at hk; exact h.ap g hk hv
  rw [e] at hk;cases hk
  have:=(h.ov.lt _ hv).2;omega
 ·have hgb:=tJ hg (B:=B) (by rw [hs]; omega) (fun g e=>(h.ok.lt g e).1)
  exact ((hb.mono hB).trans hgb).trans (hO.bel B hG)
 ·exact (hO.rest F hFG).trans ((hg.block F (by rw [hs]; omega) (fun e=>hkF e.symm)).trans (hb.block F hF))
theorem abx {B:Nat}{w:World}{G:Nat}{lf:Bool}{k v p:Value}{ks vs:List ByteArray}{ps:List ay}(h:TN B w G lf k v p ks vs ps)(s:ByteArray)(hB:B≤w.heap.size)(hG:B≤G)(hn:vs.length≤100000) :
 ∃ a c w',(Builtin.append_ #[115,115] 115 #[v,.slice (some ⟨w.heap.size,0,none⟩) 1 1]).run Tryz.prog (w.alloc (.cells #[.string s] 9)) = .ok (.slice a (vs.length+1) c) w' ∧
   w'.cell? ⟨G,2,none⟩=some v∧w'.frozen? ⟨G,2,none⟩=false∧TN B (w'.setCell ⟨G,2,none⟩ (.slice a (vs.length+1) c)) G lf k (.slice a (vs.length+1) c) p ks (vs++[s]) ps ∧
   Below B w (w'.setCell ⟨G,2,none⟩ (.slice a (vs.length+1) c))∧∀ F,F<w.heap.size→v.ownBlock ≠ some F→F ≠ G→(w'.setCell ⟨G,2,none⟩ (.slice a (vs.length+1) c)).heap[F]? = w.heap[F]? := by
 obtain ⟨a,c,w',hr,ho,hg,hnb⟩:=tH w B vs.length v vs s h.ov (by omega) hB
 have hb:=(Below.refl w.heap.size w).alloc (Nat.le_refl _) (.cells #[.string s] 9)
 have h1:=h.below hb
 have hs:(w.alloc (.cells #[.string s] 9)).heap.size=w.heap.size+1:=by simp
 have hkG:v.ownBlock ≠ some G:=own_ne h.ov h.cell (by decide)
 have hc1:w'.heap[G]? = some (.cells #[.bool lf,k,v,p] 118 (0,0)):=(hg.block G h1.lt (fun e=>hkG e.symm)).trans h1.cell
 have hO:=(Only.refl G w').setCell 2 (.slice a (vs.length+1) c)
 have tg:=Touch.grown hg
 have tO:=Touch.dC (l:=[G]) hO (by simp)
 have hvk:∀ g,k.ownBlock=some g→g ∉ v.ownBlock.toList:=fun g hv hm=>by
  rw [Option.mem_toList] at hm;exact h.ap g hv hm
 have hpk:∀ g,p.ownBlock=some g→g ∉ v.ownBlock.toList:=fun g hp hm=>by
  rw [Option.mem_toList] at hm;exact Be h.op h.ov (by decide) g hp hm
 have hG1:∀ {e k' n:Nat} {u:Value} {xs:List Value},w'.ownsRow B e k' u n xs→e ≠ 118→∀ g,u.ownBlock=some g→g ∉ [G]:=fun hu he g hg2 hm=>by
  rw [List.mem_singleton] at hm;subst hm;exact own_ne hu hc1 (fun e=>he e.symm) hg2
 have ok':=bG h1.ok tg hvk
 have op':=bG h1.op tg hpk
 refine ⟨a,c,w',hr,cell_of_row _ _ _ _ _ _ hc1,frozen_of_row _ _ _ _ _ hc1,⟨heap_setCell_same _ _ _ _ _ _ hc1,bG ok' tO (hG1 ok' (by decide)), ?_,bG op' tO (hG1 op' (by decide)),fun g hk hv=>?_⟩, ?_,fun F hF hkF hFG=>?_⟩
 ·rw [List.length_append]
  exact bG ho tO (hG1 ho (by decide))
 ·rcases hnb with e | e
  ·rw [e] at hv; exact h.ap g hk hv
  rw [e] at hv;cases hv
  have:=(h.ok.lt _ hk).2;omega
 ·have hgb:=tJ hg (B:=B) (by rw [hs]; omega) (fun g e=>(h.ov.lt g e).1)
  exact ((hb.mono hB).trans hgb).trans (hO.bel B hG)
 ·exact (hO.rest F hFG).trans ((hg.block F (by rw [hs]; omega) (fun e=>hkF e.symm)).trans (hb.block F hF))
theorem aby {B:Nat}{w:World}{G:Nat}{lf:Bool}{k v p:Value}{ks vs:List ByteArray}{ps:List ay}(h:TN B w G lf k v p ks vs ps)(q:ay)(hB:B≤w.heap.size)(hG:B≤G)(hn:ps.length≤100000) :
 ∃ a c w',(Builtin.append_ #[116,116] 116 #[p,.slice (some ⟨w.heap.size,0,none⟩) 1 1]).run Tryz.prog (w.alloc (.cells (ag q).toArray 51)) = .ok (.slice a (ps.length+1) c) w' ∧
   w'.cell? ⟨G,3,none⟩=some p∧w'.frozen? ⟨G,3,none⟩=false∧TN B (w'.setCell ⟨G,3,none⟩ (.slice a (ps.length+1) c)) G lf k v (.slice a (ps.length+1) c) ks vs (ps++[q]) ∧
   Below B w (w'.setCell ⟨G,3,none⟩ (.slice a (ps.length+1) c))∧∀ F,F<w.heap.size→p.ownBlock ≠ some F→F ≠ G→(w'.setCell ⟨G,3,none⟩ (.slice a (ps.length+1) c)).heap[F]? = w.heap[F]? := by
 have hb:=(Below.refl w.heap.size w).alloc (Nat.le_refl _) (.cells (ag q).toArray 51)
 have h1:=h.below hb
 have hs:(w.alloc (.cells (ag q).toArray 51)).heap.size=w.heap.size+1:=by simp
 obtain ⟨a,c,w',hr,ho,hg,hnb⟩:=Jo (w.alloc (.cells (ag q).toArray 51)) B ps.length p (.slice (some ⟨w.heap.size,0,none⟩) 1 1) ps [q] h1.op (abu (l:=[q]) 1 (by rw [show kP [q]=ag q by simp [kP]]; exact heap_alloc_new w _)) (by omega) (by simp) (by rw [hs]; omega)
 have hkG:p.ownBlock ≠ some G:=own_ne h.op h.cell (by decide)
 have hc1:w'.heap[G]? = some (.cells #[.bool lf,k,v,p] 118 (0,0)):=(hg.block G h1.lt (fun e=>hkG e.symm)).trans h1.cell
 have hO:=(Only.refl G w').setCell 3 (.slice a (ps.length+1) c)
 have tg:=Touch.grown hg
 have tO:=Touch.dC (l:=[G]) hO (by simp)
 have hvk:∀ {u:Value} {n:Nat} {xs:List Value},w.ownsRow B 9 1 u n xs→∀ g,u.ownBlock=some g→g ∉ p.ownBlock.toList:=fun hu g hv hm=>by
  rw [Option.mem_toList] at hm;exact Be hu h.op (by decide) g hv hm
 have hG1:∀ {e k' n:Nat} {u:Value} {xs:List Value},w'.ownsRow B e k' u n xs→e ≠ 118→∀ g,u.ownBlock=some g→g ∉ [G]:=fun hu he g hg2 hm=>by
  rw [List.mem_singleton] at hm;subst hm;exact own_ne hu hc1 (fun e=>he e.symm) hg2
 have ok':=bG h1.ok tg (hvk h.ok)
 have ov':=bG h1.ov tg (hvk h.ov)
 refine ⟨a,c,w',hr,cell_of_row _ _ _ _ _ _ hc1,frozen_of_row _ _ _ _ _ hc1,⟨heap_setCell_same _ _ _ _ _ _ hc1,bG ok' tO (hG1 ok' (by decide)),bG ov' tO (hG1 ov' (by decide)), ?_,h.ap⟩, ?_,fun F hF hkF hFG=>?_⟩
 ·rw [List.length_append]
  exact bG ho tO (hG1 ho (by decide))
 ·have hgb:=tJ hg (B:=B) (by rw [hs]; omega) (fun g e=>(h.op.lt g e).1)
  exact ((hb.mono hB).trans hgb).trans (hO.bel B hG)
 ·exact (hO.rest F hFG).trans ((hg.block F (by rw [hs]; omega) (fun e=>hkF e.symm)).trans (hb.block F hF))
end
section
set_option linter.unusedVariables false
open Go.ChangeShapes Go.WideShapes Go.ChangeAt Go.RowKit
theorem sH.touch {R:Nat}{w w':World}(h:sH R w w'):Touch [R] w w':=⟨h.os,h.tape,h.output,h.size,fun k hk hn=>h.block k hk (by simpa using hn)⟩
theorem TN.chg {B R:Nat}{w w':World}{G:Nat}{lf:Bool}{k v p:Value}{ks vs:List ByteArray}{ps:List ay}(h:TN B w G lf k v p ks vs ps)(t:sH R w w')(hG:B≤G)(hR:R<B):TN B w' G lf k v p ks vs ps :=
 h.touch t.touch hG (fun g hg=>by rw [List.mem_singleton.1 hg]; exact hR)
structure TS (w0 w:World)(R G F:Nat)(t:TypeId)(lf:Bool)(k v p:Value)(ks vs:List ByteArray)(ps:List ay)(r:bI):Prop where
 tn:TN w0.heap.size w G lf k v p ks vs ps
 rt:RT w0.heap.size w t R r
 ch:sH R w0 w
 fc:w.heap[F]? = some (.cells #[.bool false,.slice none 0 0,.slice none 0 0,.slice none 0 0] 118 (0,0))
 hG:w0.heap.size≤G
 hF:w0.heap.size≤F
 ne:F ≠ G
theorem TS.reads {w0 w w':World}{R G F:Nat}{t:TypeId}{lf:Bool}{k v p:Value}{ks vs:List ByteArray}{ps:List ay}{r r':bI}(h:TS w0 w R G F t lf k v p ks vs ps r)(hr:RT w0.heap.size w' t R r')(hc:sH R w w'):TS w0 w' R G F t lf k v p ks vs ps r' :=
 ⟨h.tn.chg hc h.hG h.rt.lt,hr,h.ch.trans hc,(hc.block F (Array.getElem?_eq_some_iff.1 h.fc).1 (by have:=h.rt.lt; have:=h.hF; omega)).trans h.fc,h.hG,h.hF,h.ne⟩
theorem TS.grows {w0 w w':World}{R G F:Nat}{t:TypeId}{lf:Bool}{k v p k' v' p':Value}{ks vs ks' vs':List ByteArray}{ps ps':List ay}{r:bI}(h:TS w0 w R G F t lf k v p ks vs ps r)(ht:TN w0.heap.size w' G lf k' v' p' ks' vs' ps')(hb:Below w0.heap.size w w')(hf:w'.heap[F]? = w.heap[F]?):TS w0 w' R G F t lf k' v' p' ks' vs' ps' r :=
 ⟨ht,h.rt.keep (Nat.le_trans h.rt.1 hb.size) (fun k hk=>hb.block k hk),Jn h.ch (Nat.le_refl _) hb,hf.trans h.fc,h.hG,h.hF,h.ne⟩
theorem TS.size {w0 w:World}{R G F:Nat}{t:TypeId}{lf:Bool}{k v p:Value}{ks vs:List ByteArray}{ps:List ay}{r:bI}(h:TS w0 w R G F t lf k v p ks vs ps r):w0.heap.size≤w.heap.size:=h.rt.1
theorem air {w0 w:World}{R G F:Nat}{t:TypeId}{lf:Bool}{k v p:Value}{ks vs:List ByteArray}{ps:List ay}{r:bI}(h:TS w0 w R G F t lf k v p ks vs ps r)(s:ByteArray)(hn:ks.length≤100000) :
 ∃ a c w',(Builtin.append_ #[115,115] 115 #[k,.slice (some ⟨w.heap.size,0,none⟩) 1 1]).run Tryz.prog (w.alloc (.cells #[.string s] 9)) = .ok (.slice a (ks.length+1) c) w' ∧
   w'.cell? ⟨G,1,none⟩=some k∧w'.frozen? ⟨G,1,none⟩=false∧TS w0 (w'.setCell ⟨G,1,none⟩ (.slice a (ks.length+1) c)) R G F t lf (.slice a (ks.length+1) c) v p (ks++[s]) vs ps r:=by
 obtain ⟨a,c,w',h1,h2,h3,h4,h5,h6⟩:=abw h.tn s h.size h.hG hn
 exact ⟨a,c,w',h1,h2,h3,h.grows h4 h5 (h6 F (Array.getElem?_eq_some_iff.1 h.fc).1 (own_ne h.tn.ok h.fc (by decide)) h.ne)⟩
theorem ais {w0 w:World}{R G F:Nat}{t:TypeId}{lf:Bool}{k v p:Value}{ks vs:List ByteArray}{ps:List ay}{r:bI}(h:TS w0 w R G F t lf k v p ks vs ps r)(s:ByteArray)(hn:vs.length≤100000) :
 ∃ a c w',(Builtin.append_ #[115,115] 115 #[v,.slice (some ⟨w.heap.size,0,none⟩) 1 1]).run Tryz.prog (w.alloc (.cells #[.string s] 9)) = .ok (.slice a (vs.length+1) c) w' ∧
   w'.cell? ⟨G,2,none⟩=some v∧w'.frozen? ⟨G,2,none⟩=false∧TS w0 (w'.setCell ⟨G,2,none⟩ (.slice a (vs.length+1) c)) R G F t lf k (.slice a (vs.length+1) c) p ks (vs++[s]) ps r:=by
 obtain ⟨a,c,w',h1,h2,h3,h4,h5,h6⟩:=abx h.tn s h.size h.hG hn
 exact ⟨a,c,w',h1,h2,h3,h.grows h4 h5 (h6 F (Array.getElem?_eq_some_iff.1 h.fc).1 (own_ne h.tn.ov h.fc (by decide)) h.ne)⟩
theorem ait {w0 w:World}{R G F:Nat}{t:TypeId}{lf:Bool}{k v p:Value}{ks vs:List ByteArray}{ps:List ay}{r:bI}(h:TS w0 w R G F t lf k v p ks vs ps r)(q:ay)(hn:ps.length≤100000) :
 ∃ a c w',(Builtin.append_ #[116,116] 116 #[p,.slice (some ⟨w.heap.size,0,none⟩) 1 1]).run Tryz.prog (w.alloc (.cells (ag q).toArray 51)) = .ok (.slice a (ps.length+1) c) w' ∧
   w'.cell? ⟨G,3,none⟩=some p∧w'.frozen? ⟨G,3,none⟩=false∧TS w0 (w'.setCell ⟨G,3,none⟩ (.slice a (ps.length+1) c)) R G F t lf k v (.slice a (ps.length+1) c) ks vs (ps++[q]) r:=by
 obtain ⟨a,c,w',h1,h2,h3,h4,h5,h6⟩:=aby h.tn q h.size h.hG hn
 exact ⟨a,c,w',h1,h2,h3,h.grows h4 h5 (h6 F (Array.getElem?_eq_some_iff.1 h.fc).1 (own_ne h.tn.op h.fc (by decide)) h.ne)⟩
theorem TS.done {w0 w:World}{R G F:Nat}{t:TypeId}{lf:Bool}{k v p:Value}{ks vs:List ByteArray}{ps:List ay}{r:bI}(h:TS w0 w R G F t lf k v p ks vs ps r)(row:Array Value):NR (w.setRow F row) k v p ⟨lf,ks,vs,ps⟩∧sH R w0 (w.setRow F row):=by
 have tch:Touch [F] w (w.setRow F row):=⟨rfl,rfl,rfl,by simp,fun j hj hn=>setRow_other w F j row (by simpa using hn)⟩
 have hn:∀ {u:Value} {e n m:Nat} {xs:List Value},w.ownsRow w0.heap.size e m u n xs→e ≠ 118→∀ g,u.ownBlock=some g→g ∉ [F]:=fun ho he g hg hm=>by
  rw [List.mem_singleton] at hm;subst hm;exact own_ne ho h.fc (fun e=>he e.symm) hg
 exact ⟨⟨Lu (bG h.tn.ok tch (hn h.tn.ok (by decide))),Lu (bG h.tn.ov tch (hn h.tn.ov (by decide))),abk (bG h.tn.op tch (hn h.tn.op (by decide)))⟩,
  Jn h.ch (Nat.le_refl _) (aG ((Below.refl w.heap.size w).mono h.size) h.hF _)⟩
theorem TS.below {w0 w w':World}{R G F:Nat}{t:TypeId}{lf:Bool}{k v p:Value}{ks vs:List ByteArray}{ps:List ay}{r:bI}(h:TS w0 w R G F t lf k v p ks vs ps r)(b:Below w.heap.size w w'):TS w0 w' R G F t lf k v p ks vs ps r :=
 h.grows (h.tn.below b) (b.mono h.size) (b.block F (Array.getElem?_eq_some_iff.1 h.fc).1)
theorem Yj (R:Nat)(l:bI)(w0:World)(h:RT w0.heap.size w0 217 R l) :
 Calls Tryz.prog 86 #[.pointer (some ⟨R,0,none⟩)] w0 fun e w'=>∃ k v p,e = .returned (.agg #[.bool (dG l).lf,k,v,p])∧NR w' k v p (dG l)∧sH R w0 w':=by
 have hby:=h.DK
 have hb1:=(Below.refl w0.heap.size w0).alloc (Nat.le_refl _) (.cells #[.bool false,.slice none 0 0,.slice none 0 0,.slice none 0 0] 118)
 have hF1:=heap_alloc_new w0 (.cells #[.bool false,.slice none 0 0,.slice none 0 0,.slice none 0 0] 118)
 have h1:=vF h hb1
 have AY:=hid (Lr w0.heap.size R l 1 _ h1 (by omega))
 have hkb:=yz l hby
 have HTD:=hid (show dG l=⟨lK l,(dY (lK l) (rG l) (eU (eU l))).1,(dY (lK l) (rG l) (eU (eU l))).2.1,if lK l then [] else (kJ (rG l+1) (dY (lK l) (rG l) (eU (eU l))).2.2).1⟩ from rfl)
 have HC:=hid (VU hby)
 have HCC:=hid (Yi hby)
 have apv:=hid (oP (oP hby))
 have Cf:=hid h.lt
 rw [show (iV 1 l).2.2=eU l from rfl] at AY
 obtain ⟨K,hK⟩:∃ K,(iV 1 l).1=K:=⟨_,rfl⟩
 rw [hK] at AY hkb
 have xk:IntKind.u8.wrap K=K:=IntWalk.u8_in _ (by omega)
 have IA:=hid (show lK l=(K == 1) by unfold lK VT; rw [hK])
 generalize hw1:w0.alloc (.cells #[.bool false,.slice none 0 0,.slice none 0 0,.slice none 0 0] 118)=w1 at *
 have HB1:=hid hb1
 have HF1:=hid hF1
 have TE:=hid (show w0.heap.size<w1.heap.size from (Array.getElem?_eq_some_iff.1 hF1).1)
 clear h hb1 hF1 h1 hby hkb hK
 go_in
 go_upto_region 1 with fail
 try rw [hw1]
 clear hw1
 go_wp2_with fail
 refine AY.out.mono ?_
 rintro e w2 ⟨rfl,hr2,hO2⟩
 have NC:=hid (Lr w0.heap.size R (eU l) 1 w2 hr2 (by omega))
 rw [show (iV 1 (eU l)).2.2=eU (eU l) from rfl,HCC.out] at NC
 have HC2:=hid ((sH.of_below HB1.out).trans (sH.dC hO2))
 have HF2:=hid ((hO2.rest w0.heap.size (by have:=Cf.out; omega)).trans HF1.out)
 clear hr2 hO2 AY HB1 HF1
 go_wp2_with fail
 refine NC.out.mono ?_
 rintro e w3 ⟨rfl,hr3,hO3⟩
 obtain ⟨lf,hlf⟩:∃ lf,(K == 1)=lf:=⟨_,rfl⟩
 rw [hlf] at IA
 have hS3:w0.heap.size<w3.heap.size:=by rw [hO3.size]; exact (Array.getElem?_eq_some_iff.1 HF2.out).1
 have hb4:=(Below.refl w3.heap.size w3).alloc (Nat.le_refl _) (.cells #[.bool lf,.slice none 0 0,.slice none 0 0,.slice none 0 0] 118)
 have HT0:=hid (show TS w0 (w3.alloc (.cells #[.bool lf,.slice none 0 0,.slice none 0 0,.slice none 0 0] 118)) R w3.heap.size w0.heap.size 217 lf (.slice none 0 0) (.slice none 0 0) (.slice none 0 0) [] [] [] (eU (eU l)) from
  ⟨⟨heap_alloc_new w3 _,World.ownsRow_nil _ _ _ _,World.ownsRow_nil _ _ _ _,World.ownsRow_nil _ _ _ _,fun g hg=>by cases hg⟩,vF hr3 hb4,(HC2.out.trans (sH.dC hO3)).trans (sH.of_below hb4),
    (hb4.block _ hS3).trans ((hO3.rest w0.heap.size (by have:=Cf.out; omega)).trans HF2.out),Nat.le_of_lt hS3,Nat.le_refl _,by omega⟩)
 obtain ⟨G,hG⟩:∃ G,w3.heap.size=G:=⟨_,rfl⟩
 obtain ⟨l2,hl2⟩:∃ l2,eU (eU l)=l2:=⟨_,rfl⟩
 obtain ⟨c,hc⟩:∃ c,rG l=c:=⟨_,rfl⟩
 rw [hl2] at HT0 apv
 rw [hc] at HC
 rw [hG] at HT0
 clear hr3 hO3 hb4 hS3 NC HC2 HF2 TE
 go_upto_region 4 with fail
 try simp only [hlf,hl2,hc,hG]
 generalize World.alloc w3 _=w4 at *
 clear hlf xk
 have HE:=hid (And.intro hl2 hc)
 clear hl2 hc hG
 go_wp2_with fail
 go_loopw [8,9,10,11,29] (fun _ _ _ _ v29 wr=>∃ (i:Nat) (k v p:Value),i≤c∧v29 = .int .u64 (i:Int)∧TS w0 wr R G w0.heap.size 217 lf k v p (dY lf i l2).1 (dY lf i l2).2.1 [] (dY lf i l2).2.2) (fun _ _ _ _ v _=>c - (intOf v).toNat)
 case atStart=>exact ⟨0,_,_,_,by omega,rfl,HT0.out⟩
 case round =>
  clear HT0;obtain ⟨i,k,v,p,hi,rfl,hT⟩:=hrel;have hkl:=yw lf i l2;have hc255:=HC.out;by_cases hlt:i<c
  ·have hst:dY lf (i+1) l2=ni lf (dY lf i l2):=rfl
   obtain ⟨⟨ks,vs,r⟩,hS⟩:∃ S,dY lf i l2=S:=⟨_,rfl⟩
   rw [hS] at hT hst hkl;dsimp only at hT hkl;have HST:=hid hst;have Ap:=hid hkl.1;have HVL:=hid hkl.2;clear hS hst hkl;have HK:=hid (abj w0.heap.size R r wr hT.rt);have hT':=hT;obtain ⟨ak,ck,hk⟩:=jD hT.tn.ok;subst hk;have HT:=hid hT;have bn:=hid hlt;have iI:(i:Int)<(c:Int):=by omega
   have i0:(0:Int)≤(i:Int):=by omega
   have cI:(c:Int)≤255:=by omega
   clear hi hlt hT hT';go_wp2_with fail;refine HK.out.mono ?_;rintro e w5 ⟨rfl,lZ,hc5⟩;have hT5:=HT.out.reads lZ hc5;obtain ⟨c0,c1,c2,c3⟩:=dX hT5.tn.cell;obtain ⟨a6,cc6,w6,hrun,d1,f1,Yk⟩:=air hT5 (ku r).1 (by rw [Ap.out]; omega);have Ew:=hid hrun;have OL:=hid Yk;clear lZ hc5 hT5 hrun Yk HT HK;go_upto_region 8 with (first
    | (at_builtin; refine wpList_append_run (o:=⟨some 40,_,_,_,_,_⟩) rfl _ _ _ _ rfl _ _ _ _ rfl rfl Ew.out ?_))
   clear c0 c1 c2 c3 d1 f1;generalize World.setCell _ ⟨G,1,none⟩ _=w7 at *;obtain ⟨c0,c1,c2,c3⟩:=dX OL.out.tn.cell;cases lf with
   | true =>
     rw [if_pos rfl] at HVL;have HK2:=hid (abj w0.heap.size R _ w7 OL.out.rt);obtain ⟨av,cv,hv⟩:=jD OL.out.tn.ov;subst hv;go_wp2_with fail;refine HK2.out.mono ?_;rintro e w8 ⟨rfl,LU,hc8⟩;have hT8:=OL.out.reads LU hc8;obtain ⟨g0,g1,g2,g3⟩:=dX hT8.tn.cell;obtain ⟨a9,cc9,w9,hrun,d1,f1,hT9⟩:=ais hT8 (ku (ku r).2.2).1 (by rw [HVL.out]; omega);have TJ:=hid hrun;have HT9:=hid hT9;clear LU hc8 hT8 hrun hT9 OL HK2 c0 c1 c2 c3;go_wp2_with (first
      | (at_builtin; refine wpList_append_run (o:=⟨some 53,_,_,_,_,_⟩) rfl _ _ _ _ rfl _ _ _ _ rfl rfl TJ.out ?_))
     go_roundw
     case rel=>exact ⟨i+1,_,_,_,by have:=bn.out; omega,by go_num,by rw [HST.out,show ni true (ks,vs,r)=(ks++[(ku r).1],vs++[(ku (ku r).2.2).1],(ku (ku r).2.2).2.2) from rfl]; exact HT9.out⟩
     case measure=>simp [intOf]; have:=bn.out; omega
   | false =>
     go_wp2_with fail;go_roundw
     case rel=>exact ⟨i+1,_,_,_,by have:=bn.out; omega,by go_num,by rw [HST.out,show ni false (ks,vs,r)=(ks++[(ku r).1],vs,(ku r).2.2) from rfl]; exact OL.out⟩
     case measure=>simp [intOf]; have:=bn.out; omega
  obtain rfl:i=c:=by omega
  obtain ⟨⟨ks,vs,r⟩,hS⟩:∃ S,dY lf i l2=S:=⟨_,rfl⟩
  rw [hS] at hT hkl;dsimp only at hT hkl;have HS:=hid hS;obtain ⟨c0,c1,c2,c3⟩:=dX hT.tn.cell;obtain ⟨ak,ck,hk⟩:=jD hT.tn.ok;obtain ⟨av,cv,hv⟩:=jD hT.tn.ov;subst hk hv;have WO:=hid (fun (b:Bool) (x y z n m q:Nat) (a1 a2 a3:bO)=>show (#[.bool b,.slice a1 x n,.slice a2 y m,.slice a3 z q]:Array Value).all (·.oneCell')=true from by simp [Value.oneCell']);have cI:(i:Int)≤255:=by omega
  have c00:(0:Int)≤(i:Int):=by omega
  have HT:=hid hT;clear hi hlt hS hkl;cases lf with
  | true =>
    obtain ⟨ap,cp,hp⟩:=jD hT.tn.op;subst hp;have SEN:=hid (dS true (.slice ak ks.length ck) (.slice av vs.length cv) (.slice ap ([]:List ay).length cp));clear hT;go_wp2_with (first
     | (with_reducible refine wpList_store_row (o:=⟨none,.store _ (.tmp 2) _,_,_,_,_⟩) rfl 118 _ _ rfl w0.heap.size _ rfl rfl 118 _ HT.out.fc SEN.out rfl (WO.out _ _ _ _ _ _ _ _ _ _) ?_))
    have kZ:=hid (show dG l=⟨true,ks,vs, []⟩ by rw [HTD.out,IA.out,HE.out.1,HE.out.2,HS.out]; rfl);have HD:=hid (HT.out.done #[.bool true,.slice ak ks.length ck,.slice av vs.length cv,.slice ap ([]:List ay).length cp]);refine bodyPost_ret (results_cell_row Tryz.results86 _ _ w0.heap.size 118 _ (0,0) _ rfl (setRow_heap _ w0.heap.size _ _ _ _ HT.out.fc) Tryz.underlying118 rfl SEN.out) rfl ⟨_,_,_,by rw [kZ.out],by rw [kZ.out]; exact HD.out.1,HD.out.2⟩
  | false =>
    clear hT;go_wp2_with fail;go_loopw [12,13,61] (fun _ _ v61 wr2=>∃ (j:Nat) (p:Value),j≤i+1∧v61 = .int .u64 (j:Int)∧TS w0 wr2 R G w0.heap.size 217 false (.slice ak ks.length ck) (.slice av vs.length cv) p ks vs (kJ j r).1 (kJ j r).2) (fun _ _ v _=>i+1 - (intOf v).toNat)
    case atStart=>exact ⟨0,_,by omega,rfl,HT.out⟩
    case round =>
     clear HT c0 c1 c2 c3;obtain ⟨j,p2,hj,rfl,hT⟩:=hrel;have hkl:=yx j r;by_cases hlt:j<i+1
     ·have hst:kJ (j+1) r=wM (kJ j r):=rfl
      obtain ⟨⟨ps,r2⟩,hS2⟩:∃ S,kJ j r=S:=⟨_,rfl⟩
      rw [hS2] at hT hst hkl;dsimp only at hT hkl;have HST:=hid hst;have Ap:=hid hkl;obtain ⟨ap,cp,hp⟩:=jD hT.tn.op;subst hp;have HG:=hid (aij w0.heap.size R r2 wr hT.rt);have HT:=hid hT;have bn:=hid hlt;have iI:(j:Int)<(i:Int)+1:=by omega
      have i0:(0:Int)≤(j:Int):=by omega
      obtain ⟨q,hq⟩:∃ q,(yh r2).1=q:=⟨_,rfl⟩
      rw [hq] at HG;have HQ:=hid hq;have hzp:=dF;have Bc:=hid (cZ q);have EW:=hid (show (ag ai).toArray.size=(ag q).toArray.size by simp [aO]);have WOQ:=hid (aW q);obtain ⟨ZA,VR⟩:∃ ZA,(ag ai).toArray=ZA:=⟨_,rfl⟩
      rw [VR] at hzp EW;have HLP:=hid (Lt q);have Aq:=hid (fun w5 (h5:TS w0 w5 R G w0.heap.size 217 false (.slice ak ks.length ck) (.slice av vs.length cv) (.slice ap ps.length cp) ks vs ps (yh r2).2.2)=>ait h5 q (by rw [Ap.out]; omega));clear hj hlt hT hS2 hst hkl hq VR;obtain ⟨QR,hQR⟩:∃ QR,(ag q).toArray=QR:=⟨_,rfl⟩
      rw [hQR] at HG Bc EW WOQ HLP Aq;clear hQR;go_upto_region 16 with fail
      go_wp2_with fail;refine HG.out.mono ?_;rintro e w5 ⟨rfl,lZ,hc5⟩;have hT5:=HT.out.reads lZ hc5;have IB:=hid hT5;clear lZ hc5 hT5 HT HG;go_upto_region 17 with (first
       | (with_reducible refine wpList_store_row (o:=⟨none,.store _ (.tmp 12) _,_,_,_,_⟩) rfl 51 _ _ rfl w5.heap.size QR rfl rfl 51 ZA (heap_alloc_new w5 _) Bc.out EW.out WOQ.out ?_))
      obtain ⟨h7,hb7⟩:=vG w5 ZA QR;generalize World.setRow _ w5.heap.size _=w6 at *;have Yk:=IB.out.below hb7;have H7:=hid h7;obtain ⟨c0,c1,c2,c3⟩:=dX Yk.tn.cell;obtain ⟨a9,cc9,w9,hrun,d1,f1,hT9⟩:=Aq.out w6 Yk;have TJ:=hid hrun;have HT9:=hid hT9;clear h7 hb7 Yk hrun hT9 IB Aq hzp EW WOQ;go_wp2_with (first
       | (with_reducible refine wpList_load_row (o:=⟨some 70,_,_,_,_,_⟩) rfl 51 _ rfl w5.heap.size rfl 51 QR (0,0) _ H7.out Tryz.underlying51 rfl Bc.out ?_)
       | (refine EO (o:=⟨some 71,_,_,_,_,_⟩) rfl _ _ _ rfl #[(0,.agg QR)] (by simp [Act.eval,Act.put]) _ _ (HLP.out w6) ?_)
       | (at_builtin; refine wpList_append_run (o:=⟨some 72,_,_,_,_,_⟩) rfl _ _ _ _ rfl _ _ _ _ rfl rfl TJ.out ?_))
      go_roundw
      case rel=>exact ⟨j+1,_,by have:=bn.out; omega,by go_num,by rw [HST.out,show wM (ps,r2)=(ps++[(yh r2).1],(yh r2).2.2) from rfl,HQ.out]; exact HT9.out⟩
      case measure=>simp [intOf]; have:=bn.out; omega
     obtain rfl:j=i+1:=by omega
     obtain ⟨⟨ps,r2⟩,hS2⟩:∃ S,kJ (i+1) r=S:=⟨_,rfl⟩
     rw [hS2] at hT hkl;dsimp only at hT hkl;have HS2:=hid hS2;obtain ⟨ap,cp,hp⟩:=jD hT.tn.op;subst hp;obtain ⟨c0,c1,c2,c3⟩:=dX hT.tn.cell;have SEN:=hid (dS false (.slice ak ks.length ck) (.slice av vs.length cv) (.slice ap ps.length cp));have HT:=hid hT;have kZ:=hid (show dG l=⟨false,ks,vs,ps⟩ by rw [HTD.out,IA.out,HE.out.1,HE.out.2,HS.out,if_neg (by decide),HS2.out]);have HD:=hid (hT.done #[.bool false,.slice ak ks.length ck,.slice av vs.length cv,.slice ap ps.length cp]);have Hz:=hid (show ((i+1:Nat):Int)=(i:Int)+1 by omega);clear hj hlt hT hS2 hkl;go_wp2_with (first
      | (with_reducible refine wpList_store_row (o:=⟨none,.store _ (.tmp 2) _,_,_,_,_⟩) rfl 118 _ _ rfl w0.heap.size _ rfl rfl 118 _ HT.out.fc SEN.out rfl (WO.out _ _ _ _ _ _ _ _ _ _) ?_))
     refine bodyPost_ret (results_cell_row Tryz.results86 _ _ w0.heap.size 118 _ (0,0) _ rfl (setRow_heap _ w0.heap.size _ _ _ _ HT.out.fc) Tryz.underlying118 rfl SEN.out) rfl ⟨_,_,_,by rw [kZ.out],by rw [kZ.out]; exact HD.out.1,HD.out.2⟩
end
section
set_option linter.unusedVariables false
open Go.ChangeShapes Go.WideShapes Go.ChangeAt Go.RowKit
theorem OM (n:az):checkN n=0∨checkN n=4∨checkN n=6:=by
 unfold checkN;split
 ·split
  ·exact .inl rfl
  exact .inr (.inr rfl)
 exact .inr (.inl rfl)
def yB (l:bI):az×Int:=if l.length ≠ 512 then (je,2) else if checkN (dG l)=0∧kC (dG l)=l then (dG l,0) else (je,4)
theorem lL {w:World}{F:Nat}(N:Nat)(row:Array Value)(hN:N≤w.heap.size)(hF:N≤F):Below N w (w.setRow F row):=aG ((Below.refl w.heap.size w).mono hN) hF _
theorem abz {w:World}{k v p:Value}{n:az}(h:NR w k v p n){F:Nat}{cs row:Array Value}(hF:w.heap[F]? = some (.cells cs 118 (0,0)))(hk:∀ i s,w.cell? ⟨F,i,none⟩ ≠ some (.string s))(hp:∀ i a,w.cell? ⟨F,i,none⟩ ≠ some (.int .u32 a)):NR (w.setRow F row) k v p n:=by
 have keep:∀ a x,w.cell? a=some x→a.block ≠ F→(w.setRow F row).cell? a=some x:=fun a x hx hne=>by
  have e:(w.setRow F row).heap[a.block]? = w.heap[a.block]? := setRow_other w F a.block row hne;rw [← hx];simp [World.cell?,e]
 have ss:∀ {u l},SS w u l→SS (w.setRow F row) u l:=fun ⟨a,c,e,hc,h⟩=>⟨a,c,e,hc,fun i s hs=>by
  obtain ⟨b,off,h1,h2⟩:=h i s hs;exact ⟨b,off,h1,keep _ _ h2 (fun e2=>hk (off+i) s (by rw [← h2]; exact congrArg w.cell? (by simpa using e2.symm)))⟩⟩
 refine ⟨ss h.ks,ss h.vs, ?_⟩;obtain ⟨a,c,e,h⟩:=h.ps;refine ⟨a,c,e,fun i q hq=>?_⟩;obtain ⟨b,off,h1,h2⟩:=h i q hq;refine ⟨b,off,h1,fun j x hj=>?_⟩;have h0:=h2 0 (.int .u32 q.ad) rfl;have hne:b ≠ F:=by
  intro e2;subst e2;exact hp _ _ h0
 exact keep _ _ (h2 j x hj) hne
theorem TL {w:World}{F:Nat}(hF:w.heap[F]? = some (.cells #[.bool false,.slice none 0 0,.slice none 0 0,.slice none 0 0] 118 (0,0))):(∀ i s,w.cell? ⟨F,i,none⟩ ≠ some (.string s))∧(∀ i a,w.cell? ⟨F,i,none⟩ ≠ some (.int .u32 a)):=by
 refine ⟨fun i s h=>?_,fun i a h=>?_⟩ <;>
 ·rw [cell_of_row _ _ _ _ _ _ hF] at h
  match i with
  | 0=>simp at h
  | 1=>simp at h
  | 2=>simp at h
  | 3=>simp at h
  | i+4=>simp at h
theorem abA (u:Value)(l:bI)(w:World)(h:BS w u l)(h63:l.length≤140737488351232) :
 Calls Tryz.prog 65 #[u] w fun e w'=>∃ k v p,e = .returned (.tuple #[.agg #[.bool (yB l).1.lf,k,v,p],.int .i64 (yB l).2])∧NR w' k v p (yB l).1∧Below w.heap.size w w':=by
 have hby:=h.DK
 have hb1:=(Below.refl w.heap.size w).alloc (Nat.le_refl _) (.cells #[.bool false,.slice none 0 0,.slice none 0 0,.slice none 0 0] 118)
 have hF1:=heap_alloc_new w (.cells #[.bool false,.slice none 0 0,.slice none 0 0,.slice none 0 0] 118)
 have hs1:w.heap.size<(w.alloc (.cells #[.bool false,.slice none 0 0,.slice none 0 0,.slice none 0 0] 118)).heap.size:=by simp
 have h1:=h.kept hb1
 obtain ⟨au,cu,rfl,_⟩:=id h
 have SEZ:=hid (dS false (.slice none 0 0) (.slice none 0 0) (.slice none 0 0))
 have WOZ:=hid (show (#[.bool false,.slice none 0 0,.slice none 0 0,.slice none 0 0]:Array Value).all (·.oneCell')=true by simp [Value.oneCell'])
 have lI:(l.length:Int)≤140737488351232:=by omega
 generalize hw1:w.alloc (.cells #[.bool false,.slice none 0 0,.slice none 0 0,.slice none 0 0] 118)=w1 at *
 by_cases hl:l.length=512
 ·have hlb:((l.length:Int) == 512)=true:=by rw [hl]; rfl
  have nZ:=hid (Tm _ l w1 h1 h63);have HB1:=hid hb1;have HF1:=hid hF1;have TE:=hid hs1;have HU1:=hid h1;have VQ:=hid (ae3 hby);have HGN:=hid (show yB l=if checkN (dG l)=0∧kC (dG l)=l then (dG l,0) else (je,4) by unfold yB; rw [if_neg (by simp [hl])]);have HHL:=hid hl;clear h hb1 hF1 hs1 h1 h63 hl hby;go_in;go_upto_region 1 with fail
  try rw [hw1]
  clear hw1;go_wp2_with fail;refine nZ.out.mono ?_;rintro e w2 ⟨R,ab,cb,rfl,hrr,hR,hb2,_⟩;have HRN:=hid (Yj R l w2 (RT.now hrr));have HF2:=hid ((hb2.block _ TE.out).trans HF1.out);have HB2:=hid hb2;have HRW:=hid hR;clear hrr hR hb2 nZ;go_wp2_with fail;refine HRN.out.mono ?_;rintro e w3 ⟨k,v,p,rfl,hnr,hch⟩;obtain ⟨ak,ck,hk⟩:=hnr.ks.shape;obtain ⟨av,cv,hv⟩:=hnr.vs.shape;obtain ⟨ap,cp,hp⟩:=hnr.ps.shape;subst hk hv hp;have hb3:Below w1.heap.size w1 w3:=HB2.out.trans (hch.below HRW.out HB2.out.size);have hb4:=(Below.refl w3.heap.size w3).alloc (Nat.le_refl _) (.cells #[.bool (dG l).lf,.slice ak (dG l).ks.length ck,.slice av (dG l).vs.length cv,.slice ap (dG l).ps.length cp] 118);have hN4:=hnr.below hb4;have hA4:=heap_alloc_new w3 (.cells #[.bool (dG l).lf,.slice ak (dG l).ks.length ck,.slice av (dG l).vs.length cv,.slice ap (dG l).ps.length cp] 118);have HB4:=hid (hb3.trans (hb4.mono hb3.size));have HF4:=hid ((hb4.block _ (Nat.lt_of_lt_of_le TE.out hb3.size)).trans ((hb3.block _ TE.out).trans HF1.out));have HU4:=hid ((HU1.out.kept hb3).kept hb4);have qY:=hid (show ∀ W,Below w1.heap.size w1 W→Below w.heap.size w W from fun W b=>HB1.out.trans (b.mono (Nat.le_of_lt TE.out)));clear hnr hb3 hb4 hch HRN HB2 HF2 HRW;go_upto_region 4 with fail
  generalize World.alloc w3 _=w4 at *;have HN4:=hid hN4;have BI:=hid hA4;have SE:=hid (dS (dG l).lf (.slice ak (dG l).ks.length ck) (.slice av (dG l).vs.length cv) (.slice ap (dG l).ps.length cp));have HC3:=hid (OM (dG l));obtain ⟨G,hG⟩:∃ G,w3.heap.size=G:=⟨_,rfl⟩
  try rw [hG]
  rw [hG] at BI;have HT4:=hid (show G<w4.heap.size from (Array.getElem?_eq_some_iff.1 BI.out).1);clear hN4 hA4 hG;by_cases hck:checkN (dG l)=0
  ·have LH:=hid (Fq _ _ _ (dG l) w4 HN4.out VQ.out hck)
   go_wp2_with (first
    | (with_reducible refine wpList_load_row (o:=⟨some 15,_,_,_,_,_⟩) rfl 118 _ rfl G rfl 118 _ (0,0) _ BI.out Tryz.underlying118 rfl SE.out ?_))
   refine LH.out.mono ?_;rintro e w5 ⟨a5,c5,rfl,_,amH,hb5⟩;have gp:=hid (HB4.out.trans (hb5.mono HB4.out.size));have Jt:=hid ((hb5.block _ (Nat.lt_of_lt_of_le TE.out HB4.out.size)).trans HF4.out);have HA5:=hid ((hb5.block _ HT4.out).trans BI.out);have IC:=hid (HN4.out.below hb5);have HEQ:=hid (TG _ _ _ _ w5 amH (HU4.out.kept hb5));clear amH hb5 LH BI HN4 HF4 HB4 HU4;by_cases hsl:kC (dG l)=l
   ·have HG:=hid (show yB l=(dG l,0) by rw [HGN.out,if_pos ⟨hck,hsl⟩])
    rw [decide_eq_true hsl] at HEQ;clear hck hsl;go_wp2_with fail;refine HEQ.out.mono ?_;rintro e w6 ⟨rfl,rfl⟩;have HNR:=hid (abz IC.out Jt.out (row:=#[.bool (dG l).lf,.slice ak (dG l).ks.length ck,.slice av (dG l).vs.length cv,.slice ap (dG l).ps.length cp]) (TL Jt.out).1 (TL Jt.out).2);have WO:=hid (show (#[.bool (dG l).lf,.slice ak (dG l).ks.length ck,.slice av (dG l).vs.length cv,.slice ap (dG l).ps.length cp]:Array Value).all (·.oneCell')=true by simp [Value.oneCell']);go_wp2_with (first
     | (with_reducible refine wpList_load_row (o:=⟨some 28,_,_,_,_,_⟩) rfl 118 _ rfl G rfl 118 _ (0,0) _ HA5.out Tryz.underlying118 rfl SE.out ?_)
     | (with_reducible refine wpList_store_row (o:=⟨none,.store _ (.tmp 2) _,_,_,_,_⟩) rfl 118 _ _ rfl w.heap.size _ rfl rfl 118 _ Jt.out SE.out rfl WO.out ?_))
    refine bodyPost_ret (v := .tuple #[.agg #[.bool (dG l).lf,.slice ak (dG l).ks.length ck,.slice av (dG l).vs.length cv,.slice ap (dG l).ps.length cp],.int .i64 0]) (aj Tryz.results65 _ _ w.heap.size 118 _ (0,0) _ rfl (setRow_heap _ w.heap.size _ _ _ _ Jt.out) Tryz.underlying118 rfl SE.out _ (by simp)) rfl ⟨_,_,_,(by rw [HG.out]; try rfl),by rw [HG.out]; exact HNR.out,(qY.out _ gp.out).trans (lL _ _ (qY.out _ gp.out).size (Nat.le_refl _))⟩
   have HG:=hid (show yB l=(je,4) by rw [HGN.out,if_neg (fun h=>hsl h.2)]);rw [decide_eq_false hsl] at HEQ;clear hck hsl;go_wp2_with fail;refine HEQ.out.mono ?_;rintro e w6 ⟨rfl,rfl⟩;go_wp2_with (first
    | (with_reducible refine wpList_store_row (o:=⟨none,.store _ (.tmp 2) _,_,_,_,_⟩) rfl 118 _ _ rfl w.heap.size _ rfl rfl 118 _ Jt.out SEZ.out rfl WOZ.out ?_))
   refine bodyPost_ret (v := .tuple #[.agg #[.bool false,.slice none 0 0,.slice none 0 0,.slice none 0 0],.int .i64 4]) (aj Tryz.results65 _ _ w.heap.size 118 #[.bool false,.slice none 0 0,.slice none 0 0,.slice none 0 0] (0,0) _ rfl (setRow_heap _ w.heap.size _ _ _ _ Jt.out) Tryz.underlying118 rfl SEZ.out _ (by simp)) rfl ⟨_,_,_,(by rw [HG.out]; try rfl),by rw [HG.out]; exact qw _,(qY.out _ gp.out).trans (lL _ _ (qY.out _ gp.out).size (Nat.le_refl _))⟩
  have LH:=hid (abr _ _ _ (dG l) w4 HN4.out VQ.out hck);have HG:=hid (show yB l=(je,4) by rw [HGN.out,if_neg (fun h=>hck h.1)]);obtain ⟨ce,hce⟩:∃ ce,checkN (dG l)=ce:=⟨_,rfl⟩
  rw [hce] at LH HC3 hck;clear hce;go_wp2_with (first
   | (with_reducible refine wpList_load_row (o:=⟨some 15,_,_,_,_,_⟩) rfl 118 _ rfl G rfl 118 _ (0,0) _ BI.out Tryz.underlying118 rfl SE.out ?_))
  refine LH.out.mono ?_;rintro e w5 ⟨rfl,hb5⟩;have gp:=hid (HB4.out.trans (hb5.mono HB4.out.size));have Jt:=hid ((hb5.block _ (Nat.lt_of_lt_of_le TE.out HB4.out.size)).trans HF4.out);clear hb5 LH BI HN4 HF4 HB4 HU4;rcases HC3.out with rfl | rfl | rfl
  ·exact absurd rfl hck
  ·clear hck
   go_wp2_with (first
    | (with_reducible refine wpList_store_row (o:=⟨none,.store _ (.tmp 2) _,_,_,_,_⟩) rfl 118 _ _ rfl w.heap.size _ rfl rfl 118 _ Jt.out SEZ.out rfl WOZ.out ?_))
   refine bodyPost_ret (v := .tuple #[.agg #[.bool false,.slice none 0 0,.slice none 0 0,.slice none 0 0],.int .i64 4]) (aj Tryz.results65 _ _ w.heap.size 118 #[.bool false,.slice none 0 0,.slice none 0 0,.slice none 0 0] (0,0) _ rfl (setRow_heap _ w.heap.size _ _ _ _ Jt.out) Tryz.underlying118 rfl SEZ.out _ (by simp)) rfl ⟨_,_,_,(by rw [HG.out]; try rfl),by rw [HG.out]; exact qw _,(qY.out _ gp.out).trans (lL _ _ (qY.out _ gp.out).size (Nat.le_refl _))⟩
  clear hck;go_wp2_with (first
   | (with_reducible refine wpList_store_row (o:=⟨none,.store _ (.tmp 2) _,_,_,_,_⟩) rfl 118 _ _ rfl w.heap.size _ rfl rfl 118 _ Jt.out SEZ.out rfl WOZ.out ?_))
  refine bodyPost_ret (v := .tuple #[.agg #[.bool false,.slice none 0 0,.slice none 0 0,.slice none 0 0],.int .i64 4]) (aj Tryz.results65 _ _ w.heap.size 118 #[.bool false,.slice none 0 0,.slice none 0 0,.slice none 0 0] (0,0) _ rfl (setRow_heap _ w.heap.size _ _ _ _ Jt.out) Tryz.underlying118 rfl SEZ.out _ (by simp)) rfl ⟨_,_,_,(by rw [HG.out]; try rfl),by rw [HG.out]; exact qw _,(qY.out _ gp.out).trans (lL _ _ (qY.out _ gp.out).size (Nat.le_refl _))⟩
 ·have hlb:((l.length:Int) == 512)=false:=by rw [show ((l.length:Int) == 512)=((l.length:Int) == ((512:Nat):Int)) from rfl,zu,decide_eq_false hl]
  have HG:=hid (show yB l=(je,2) by unfold yB; rw [if_pos hl]);have HB1:=hid hb1;have HF1:=hid hF1;have qY:=hid (show ∀ W,Below w1.heap.size w1 W→Below w.heap.size w W from fun W b=>hb1.trans (b.mono (Nat.le_of_lt hs1)));have Fz:=hid (Below.refl w1.heap.size w1);clear h hb1 hF1 h1 h63 hl hby hs1;go_in;go_upto_region 1 with fail
  try rw [hw1]
  clear hw1;go_wp2_with (first
   | (with_reducible refine wpList_store_row (o:=⟨none,.store _ (.tmp 2) _,_,_,_,_⟩) rfl 118 _ _ rfl w.heap.size _ rfl rfl 118 _ HF1.out SEZ.out rfl WOZ.out ?_))
  refine bodyPost_ret (v := .tuple #[.agg #[.bool false,.slice none 0 0,.slice none 0 0,.slice none 0 0],.int .i64 2]) (aj Tryz.results65 _ _ w.heap.size 118 #[.bool false,.slice none 0 0,.slice none 0 0,.slice none 0 0] (0,0) _ rfl (setRow_heap _ w.heap.size _ _ _ _ HF1.out) Tryz.underlying118 rfl SEZ.out _ (by simp)) rfl ⟨_,_,_,(by rw [HG.out]; try rfl),by rw [HG.out]; exact qw _,(qY.out _ Fz.out).trans (lL _ _ (qY.out _ Fz.out).size (Nat.le_refl _))⟩
end
section
set_option linter.unusedVariables false
open Go.ChangeShapes Go.WideShapes Go.ChangeAt Go.RowKit
theorem Yl (s:ByteArray):strOfNums (xu s)=s:=by
 have h:(strOfNums (xu s)).data.toList=s.data.toList:=by
  rw [strOfNums_data];unfold xu;rw [List.map_map];conv=>rhs; rw [← List.map_id s.data.toList]
  apply List.map_congr_left;intro b _;simp
 cases s with
 | mk d =>
   have h2:(strOfNums (xu ⟨d⟩)).data=d:=Array.toList_inj.1 h;exact (show strOfNums (xu ⟨d⟩)=⟨(strOfNums (xu ⟨d⟩)).data⟩ from rfl).trans (by rw [h2])
theorem Bf {s:ByteArray}(h:s.size≤255)(R:bI):ku (eu s++R)=(s,0,R):=by
 rw [Fj h];unfold ku;rw [if_neg (by simp [iq]; omega)];simp only [List.cons_append,List.getD_cons_zero,Int.toNat_natCast,List.drop_succ_cons,List.drop_zero];rw [List.take_append_of_le_length (by rw [iq]; omega),List.take_of_length_le (by rw [iq]; omega),Yl,Nat.add_comm 1,List.drop_succ_cons,← iq,List.drop_left]
theorem VV:∀ (n:Nat) (k v:List ByteArray) (X:bI),v.length=k.length→(∀ s ∈ k,s.size≤255)→(∀ s ∈ v,s.size≤255)→n≤k.length→dY true n ((k.zip v).flatMap fO++X)=(k.take n,v.take n,((k.drop n).zip (v.drop n)).flatMap fO++X)
 | 0,k,v,X,_,_,_,_=>by simp [dY]
 | n+1,k,v,X,hl,hk,hv,hn=>by
   have ih:=VV n k v X hl hk hv (by omega);show ni true (dY true n _)=_;rw [ih];have e1:k.drop n=k[n]::k.drop (n+1):=List.drop_eq_getElem_cons (by omega);have e2:v.drop n=v[n]::v.drop (n+1):=List.drop_eq_getElem_cons (by omega);rw [e1,e2,List.zip_cons_cons,List.flatMap_cons];unfold ni;have hkb:=hk k[n] (List.getElem_mem _);have hvb:=hv v[n] (List.getElem_mem _);have e3:fO (k[n],v[n])=eu k[n]++eu v[n]:=rfl;rw [e3,if_pos rfl];dsimp only;rw [List.append_assoc,List.append_assoc,Bf hkb];dsimp only;rw [Bf hvb];dsimp only;rw [List.take_add_one,List.take_add_one,List.getElem?_eq_getElem (by omega),List.getElem?_eq_getElem (by omega)];rfl
theorem Ju:∀ (n:Nat) (k:List ByteArray) (X:bI),(∀ s ∈ k,s.size≤255)→n≤k.length→dY false n (k.flatMap eu++X)=(k.take n, [],(k.drop n).flatMap eu++X)
 | 0,k,X,_,_=>by simp [dY]
 | n+1,k,X,hk,hn=>by
   have ih:=Ju n k X hk (by omega);show ni false (dY false n _)=_;rw [ih];have e1:k.drop n=k[n]::k.drop (n+1):=List.drop_eq_getElem_cons (by omega);rw [e1,List.flatMap_cons];unfold ni;have hkb:=hk k[n] (List.getElem_mem _);rw [if_neg (by decide)];dsimp only;rw [List.append_assoc,Bf hkb,List.take_add_one,List.getElem?_eq_getElem (by omega)];rfl
theorem VW:∀ (n:Nat) (p:List ay) (X:bI),gm X→n≤p.length→kJ n (p.flatMap gy++X)=(p.take n,(p.drop n).flatMap gy++X)
 | 0,p,X,_,_=>by simp [kJ]
 | n+1,p,X,hX,hn=>by
   have ih:=VW n p X hX (by omega);show wM (kJ n _)=_;rw [ih];have e1:p.drop n=p[n]::p.drop (n+1):=List.drop_eq_getElem_cons (by omega);rw [e1,List.flatMap_cons];unfold wM;dsimp only;rw [List.append_assoc,Ya _ _ (by
    intro z hz
    rcases List.mem_append.1 hz with hz | hz
    ·exact zx gy _ (fun q _=>Fe q) z hz
    ·exact hX z hz),List.take_add_one,List.getElem?_eq_getElem (by omega)]
   rfl
theorem Ym {n:az}(h:checkN n=0)(Z:bI)(hZ:gm Z):dG (vK n++Z)=n:=by
 obtain ⟨hf,_⟩:=nJ h;have LD:=wL h;obtain ⟨hk,hv⟩:=pJ hf;have hk':∀ s ∈ n.ks,s.size≤255:=fun s hs=>Nat.le_trans (hk s hs) (by decide)
 have hv':∀ s ∈ n.vs,s.size≤255:=fun s hs=>Nat.le_trans (hv s hs) (by decide)
 have hc:=nH hf;obtain ⟨lf,ks,vs,ps⟩:=n;cases lf with
 | true =>
   obtain ⟨h1,h2⟩:=qA rfl hc;dsimp only at *;subst h2;have e0:vK ⟨true,ks,vs, []⟩++Z=1::(ks.length:Int)::((ks.zip vs).flatMap fO++Z):=rfl;rw [e0];have r1:eU (1::(ks.length:Int)::((ks.zip vs).flatMap fO++Z))=(ks.length:Int)::((ks.zip vs).flatMap fO++Z):=by unfold eU; rw [jB,if_neg (by simp)]; rfl
   have r2:eU ((ks.length:Int)::((ks.zip vs).flatMap fO++Z))=(ks.zip vs).flatMap fO++Z:=by unfold eU; rw [jB,if_neg (by simp)]; rfl
   have k1:lK (1::(ks.length:Int)::((ks.zip vs).flatMap fO++Z))=true:=by unfold lK VT; rw [jB,if_neg (by simp)]; rfl
   have c1:rG (1::(ks.length:Int)::((ks.zip vs).flatMap fO++Z))=ks.length:=by unfold rG; rw [r1,jB,if_neg (by simp)]; simp
   unfold dG;rw [k1,c1,r1,r2,VV ks.length ks vs Z h1 hk' hv' (Nat.le_refl _)];dsimp only;rw [List.take_length,show vs.take ks.length=vs by rw [← h1,List.take_length]];rfl
 | false =>
   obtain ⟨h0,h1,h2⟩:=ng rfl hc;dsimp only at *;subst h1;have e0:vK ⟨false,ks, [],ps⟩++Z=2::(ks.length:Int)::(ks.flatMap eu++(ps.flatMap gy++Z)):=by
    show 2::(ks.length:Int)::(ks.flatMap eu++ps.flatMap gy)++Z=_;simp
   rw [e0];generalize hX:ks.flatMap eu++(ps.flatMap gy++Z)=X;have r1:eU (2::(ks.length:Int)::X)=(ks.length:Int)::X:=by unfold eU; rw [jB,if_neg (by simp)]; rfl
   have r2:eU ((ks.length:Int)::X)=X:=by unfold eU; rw [jB,if_neg (by simp)]; rfl
   have k1:lK (2::(ks.length:Int)::X)=false:=by unfold lK VT; rw [jB,if_neg (by simp)]; rfl
   have c1:rG (2::(ks.length:Int)::X)=ks.length:=by unfold rG; rw [r1,jB,if_neg (by simp)]; simp
   unfold dG;rw [k1,c1,r1,r2,← hX,Ju ks.length ks _ hk' (Nat.le_refl _)];dsimp only;rw [if_neg (by decide),List.drop_length,List.flatMap_nil,List.nil_append,← h2,VW ps.length ps Z hZ (Nat.le_refl _)];simp
theorem Yn {n:az}(h:checkN n=0):gm (vK n):=by
 have LD:=wL h;intro z hz;unfold vK at hz;split at hz
 ·rcases List.mem_cons.1 hz with rfl | hz
  ·omega
  rcases List.mem_cons.1 hz with rfl | hz
  ·omega
  exact zx fO _ (fun q _ z hz=>by
   rcases List.mem_append.1 hz with hz | hz
   ·exact A7 _ z hz
   exact A7 _ z hz) z hz
 rcases List.mem_cons.1 hz with rfl | hz
 ·omega
 rcases List.mem_cons.1 hz with rfl | hz
 ·omega
 rcases List.mem_append.1 hz with hz | hz
 ·exact zx eu _ (fun s _=>A7 s) z hz
 exact zx gy _ (fun q _=>Fe q) z hz
theorem zy {n:az}(h:checkN n=0):(kC n).length=512:=by
 obtain ⟨hf,hz⟩:=nJ h;unfold kC;rw [List.length_append,List.length_replicate,tC hf];omega
theorem ae5 {n:az}(h:checkN n=0):yB (kC n)=(n,0):=by
 have e:dG (kC n)=n:=Ym h _ (Je _);unfold yB;rw [if_neg (by rw [zy h]; simp),e,if_pos ⟨h,rfl⟩]
end
end Go.Proofs.YtljjcbmkbmloaaaGreatDoor
