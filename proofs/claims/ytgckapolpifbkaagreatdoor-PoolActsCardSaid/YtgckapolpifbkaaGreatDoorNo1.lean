import Derived.Test.YtgckapolpifbkaaGreatDoorNo0
import Derived.Test.YtgckapolpifbkaaGreatDoorPt1
import Derived.Test.YtgckapolpifbkaaGreatDoorBq
import Derived.Lib.Bytes
namespace Go.Proofs.YtgckapolpifbkaaGreatDoor
open Lib (hid)
section
set_option maxRecDepth 4000
set_option linter.unusedVariables false
open Go.ChangeShapes Go.WideShapes Go.ChangeAt Go.RowKit
def keyStep (lf : Bool) (s : List ByteArray × List ByteArray × List Int) : List ByteArray × List ByteArray × List Int :=
 if lf then (s.1 ++ [(strA s.2.2).1],s.2.1 ++ [(strA (strA s.2.2).2.2).1],(strA (strA s.2.2).2.2).2.2) else (s.1 ++ [(strA s.2.2).1],s.2.1,(strA s.2.2).2.2)
def rdKeys (lf : Bool) : Nat → List Int → List ByteArray × List ByteArray × List Int
 | 0,l => ([], [],l)
 | n + 1,l => keyStep lf (rdKeys lf n l)
def kidStep (s : List PtrV × List Int) : List PtrV × List Int := (s.1 ++ [(getA s.2).1],(getA s.2).2.2)
def rdKids : Nat → List Int → List PtrV × List Int
 | 0,l => ([],l)
 | n + 1,l => kidStep (rdKids n l)
def kindA (l : List Int) : Int := (numA 1 l).1
def restA (l : List Int) : List Int := (numA 1 l).2.2
def cntA (l : List Int) : Nat := (numA 1 (restA l)).1.toNat
def leafA (l : List Int) : Bool := kindA l == 1
def toldN (l : List Int) : NodeV :=
 ⟨leafA l,(rdKeys (leafA l) (cntA l) (restA (restA l))).1,(rdKeys (leafA l) (cntA l) (restA (restA l))).2.1,
   if leafA l then [] else (rdKids (cntA l + 1) (rdKeys (leafA l) (cntA l) (restA (restA l))).2.2).1⟩
theorem rdKeys_len (lf : Bool) : ∀ n l,(rdKeys lf n l).1.length = n ∧ (rdKeys lf n l).2.1.length = if lf then n else 0
 | 0,l => by cases lf <;> exact ⟨rfl,rfl⟩
 | n + 1,l => by
   obtain ⟨h1,h2⟩ := rdKeys_len lf n l
   unfold rdKeys keyStep
   cases lf with
   | true => simp only [if_true] at h2 ⊢; simp [h1,h2]
   | false => simp only [Bool.false_eq_true,if_false] at h2 ⊢; simp [h1,h2]
theorem rdKids_len : ∀ n l,(rdKids n l).1.length = n
 | 0,l => rfl
 | n + 1,l => by unfold rdKids kidStep; simp [rdKids_len n l]
theorem num1_bound (l : List Int) (h : Byt l) : 0 ≤ (numA 1 l).1 ∧ (numA 1 l).1 ≤ 255 := by
 rw [numA_one]
 split
 ·simp
 ·rename_i hne
  have e : l.getD 0 0 = l[0]'(List.length_pos_iff.2 hne) := by simp [List.getD,List.length_pos_iff.2 hne]
  dsimp only
  rw [e]
  exact h _ (List.getElem_mem _)
theorem restA_byt {l : List Int} (h : Byt l) : Byt (restA l) := by
 unfold restA
 rw [numA_one]
 split
 ·exact h
 ·exact byt_drop8 l h 1
theorem cntA_le {l : List Int} (h : Byt l) : cntA l ≤ 255 := by
 have := num1_bound (restA l) (restA_byt h)
 unfold cntA
 omega
theorem cntA_cast {l : List Int} (h : Byt l) : (numA 1 (restA l)).1 = (cntA l : Int) := by
 have := num1_bound (restA l) (restA_byt h)
 unfold cntA
 omega
theorem strA_small (l : List Int) (h : Byt l) : (strA l).1.size ≤ 255 := by
 unfold strA
 split
 ·exact Nat.zero_le _
 ·rename_i hc
  have hne : l ≠ [] := fun e => hc (.inl e)
  have e : l.getD 0 0 = l[0]'(List.length_pos_iff.2 hne) := by simp [List.getD,List.length_pos_iff.2 hne]
  have hb := h _ (List.getElem_mem (List.length_pos_iff.2 hne))
  rw [← e] at hb
  have hs : (strOfNums ((l.drop 1).take (l.getD 0 0).toNat)).size = ((l.drop 1).take (l.getD 0 0).toNat).length := by
   have := congrArg List.length (strOfNums_data ((l.drop 1).take (l.getD 0 0).toNat))
   simpa using this
  show (strOfNums ((l.drop 1).take (l.getD 0 0).toNat)).size ≤ 255
  rw [hs,List.length_take]
  omega
theorem strA_byt (l : List Int) (h : Byt l) : Byt (strA l).2.2 := by
 unfold strA
 split
 ·exact h
 ·exact byt_drop8 l h _
theorem rdKeys_byt (lf : Bool) : ∀ n l,Byt l → Byt (rdKeys lf n l).2.2 ∧ (∀ s ∈ (rdKeys lf n l).1,s.size ≤ 255) ∧ (∀ s ∈ (rdKeys lf n l).2.1,s.size ≤ 255)
 | 0,l,h => ⟨h,nofun,nofun⟩
 | n + 1,l,h => by
   obtain ⟨h1,h2,h3⟩ := rdKeys_byt lf n l h
   have b1 := strA_byt _ h1
   unfold rdKeys keyStep
   cases lf with
   | true =>
     simp only [if_true]
     refine ⟨strA_byt _ b1,fun s hs => ?_,fun s hs => ?_⟩
     ·rcases List.mem_append.1 hs with hs | hs
      ·exact h2 s hs
      ·rw [List.mem_singleton.1 hs]; exact strA_small _ h1
     ·rcases List.mem_append.1 hs with hs | hs
      ·exact h3 s hs
      ·rw [List.mem_singleton.1 hs]; exact strA_small _ b1
   | false =>
     simp only [Bool.false_eq_true,if_false]
     refine ⟨b1,fun s hs => ?_,h3⟩
     rcases List.mem_append.1 hs with hs | hs
     ·exact h2 s hs
     ·rw [List.mem_singleton.1 hs]; exact strA_small _ h1
theorem told_nb {l : List Int} (h : Byt l) : NB (toldN l) := by
 have hb := rdKeys_byt (leafA l) (cntA l) _ (restA_byt (restA_byt h))
 have hl := rdKeys_len (leafA l) (cntA l) (restA (restA l))
 have hc := cntA_le h
 refine ⟨?_,fun s hs => Nat.le_trans (hb.2.1 s hs) (by decide), ?_,fun s hs => Nat.le_trans (hb.2.2 s hs) (by decide), ?_⟩
 ·show (rdKeys _ _ _).1.length ≤ _
  rw [hl.1]; omega
 ·show (rdKeys _ _ _).2.1.length ≤ _
  rw [hl.2]; split <;> omega
 ·show (if leafA l then [] else (rdKids (cntA l + 1) _).1).length ≤ _
  split
  ·exact Nat.zero_le _
  ·rw [rdKids_len]; omega
structure TN (B : Nat) (w : World) (G : Nat) (lf : Bool) (k v p : Value) (ks vs : List ByteArray) (ps : List PtrV) : Prop where
 cell : w.heap[G]? = some (.cells #[.bool lf,k,v,p] 38 (0,0))
 ok : w.ownsRow B 9 1 k ks.length (ks.map Value.string)
 ov : w.ownsRow B 9 1 v vs.length (vs.map Value.string)
 op : w.ownsRow B 43 34 p ps.length (rowsP ps)
 ap : ∀ g,k.ownBlock = some g → v.ownBlock ≠ some g
theorem own_type8 {w : World} {B n m e e' k k' : Nat} {v v' : Value} {xs xs' : List Value} (h : w.ownsRow B e k v n xs) (h' : w.ownsRow B e' k' v' m xs') (hne : e ≠ e') : ∀ g,v.ownBlock = some g → v'.ownBlock ≠ some g := by
 intro g hg hg'
 obtain ⟨cur,hc⟩ := own_type h hg
 obtain ⟨cur',hc'⟩ := own_type h' hg'
 rw [hc] at hc'
 simp only [Option.some.injEq,Obj.cells.injEq] at hc'
 exact hne hc'.2.1
theorem TN.touch {B : Nat} {w w' : World} {G : Nat} {lf : Bool} {k v p : Value} {ks vs : List ByteArray} {ps : List PtrV} {l : List Nat} (h : TN B w G lf k v p ks vs ps) (t : Touch l w w') (hG : B ≤ G) (hl : ∀ g ∈ l,g < B) : TN B w' G lf k v p ks vs ps := by
 have hn : ∀ {v : Value} {e n k : Nat} {xs : List Value},w.ownsRow B e k v n xs → ∀ g,v.ownBlock = some g → g ∉ l := fun ho g hg hm => by
  have := (ho.lt g hg).1
  have := hl g hm
  omega
 exact ⟨(t.block G (Array.getElem?_eq_some_iff.1 h.cell).1 (fun hm => by have := hl G hm; omega)).trans h.cell,own_touch h.ok t (hn h.ok),own_touch h.ov t (hn h.ov),own_touch h.op t (hn h.op),h.ap⟩
theorem TN.below {B : Nat} {w w' : World} {G : Nat} {lf : Bool} {k v p : Value} {ks vs : List ByteArray} {ps : List PtrV} (h : TN B w G lf k v p ks vs ps) (b : Below w.heap.size w w') : TN B w' G lf k v p ks vs ps :=
 ⟨(b.block G (Array.getElem?_eq_some_iff.1 h.cell).1).trans h.cell,own_belowP h.ok b,own_belowP h.ov b,own_belowP h.op b,h.ap⟩
theorem TN.lt {B : Nat} {w : World} {G : Nat} {lf : Bool} {k v p : Value} {ks vs : List ByteArray} {ps : List PtrV} (h : TN B w G lf k v p ks vs ps) : G < w.heap.size := (Array.getElem?_eq_some_iff.1 h.cell).1
theorem TN.nr {B : Nat} {w : World} {G : Nat} {lf : Bool} {k v p : Value} {ks vs : List ByteArray} {ps : List PtrV} (h : TN B w G lf k v p ks vs ps) : NR w k v p ⟨lf,ks,vs,ps⟩ := ⟨ss_own h.ok,ss_own h.ov,ps_own h.op⟩
theorem own_shape8 {w : World} {B e k n : Nat} {v : Value} {xs : List Value} (h : w.ownsRow B e k v n xs) : ∃ a c,v = .slice a n c := by
 rcases h.2 with ⟨rfl,h0⟩ | ⟨g,cap,_,rfl,_⟩
 ·exact ⟨none,0,by rw [h0]⟩
 ·exact ⟨_,_,rfl⟩
theorem info_str : (Tryz.prog.info? 9).map (fun i => (i.zero,i.size,i.bytes)) = some (some (.string ⟨#[]⟩),1,16) := by kernel_rfl
theorem append_str (w : World) (B n : Nat) (v : Value) (xs : List ByteArray) (s : ByteArray) (hown : w.ownsRow B 9 1 v n (xs.map Value.string)) (hn : n ≤ 1000000) (hB : B ≤ w.heap.size) :
 ∃ a c w',(Builtin.append_ #[36,36] 36 #[v,.slice (some ⟨w.heap.size,0,none⟩) 1 1]).run Tryz.prog (w.alloc (.cells #[.string s] 9)) = .ok (.slice a (n + 1) c) w' ∧
   w'.ownsRow B 9 1 (.slice a (n + 1) c) (n + 1) ((xs ++ [s]).map Value.string) ∧ (w.alloc (.cells #[.string s] 9)).grownBy w' v.ownBlock ∧
   ((Value.slice a (n + 1) c).ownBlock = v.ownBlock ∨ (Value.slice a (n + 1) c).ownBlock = some (w.heap.size + 1)) := by
 obtain ⟨i0,hi,hz0,hz1,hz2⟩ := info_parts info_str
 have hb := (Below.refl w.heap.size w).alloc (Nat.le_refl _) (.cells #[.string s] 9)
 have hs : (w.alloc (.cells #[.string s] 9)).heap.size = w.heap.size + 1 := by simp
 obtain ⟨v',w',hr,ho,hg,_,hnb⟩ := run_append_own_at (P := Tryz.prog) (w.alloc (.cells #[.string s] 9)) B 36 36 9 i0 _ 1 16 Tryz.underlying36 hi hz0 hz1 hz2 rfl (by decide) v n (xs.map Value.string) (own_belowP hown hb) ⟨w.heap.size,0,none⟩ 1 1 [.string s] rfl (fun j u hj => by
  have hj0 : j = 0 := by have := (List.getElem?_eq_some_iff.1 hj).1; simp at this; exact this
  subst hj0
  simp at hj
  subst hj
  rw [Addr.add_mid,Nat.add_zero,cell_of_row _ _ _ _ _ _ (heap_alloc_new w _)]
  rfl) (fun u hu => by rw [List.mem_singleton.1 hu]; rfl) (by unfold maxLen; omega) (by omega) (by rw [hs]; omega)
 obtain ⟨a,c,rfl⟩ := own_shape8 ho
 refine ⟨a,c,w',hr,by rw [List.map_append]; exact ho,hg, ?_⟩
 rw [hs] at hnb
 exact hnb
theorem grown_below9 {w w' : World} {B : Nat} {row : Option Nat} (h : w.grownBy w' row) (hB : B ≤ w.heap.size) (hr : ∀ g,row = some g → B ≤ g) : Below B w w' := (Touch.grown h).below hB (fun k hk => by
 cases row with
 | none => simp at hk
 | some g => simp at hk; subst hk; exact hr _ rfl)
theorem tn_key {B : Nat} {w : World} {G : Nat} {lf : Bool} {k v p : Value} {ks vs : List ByteArray} {ps : List PtrV} (h : TN B w G lf k v p ks vs ps) (s : ByteArray) (hB : B ≤ w.heap.size) (hG : B ≤ G) (hn : ks.length ≤ 100000) :
 ∃ a c w',(Builtin.append_ #[36,36] 36 #[k,.slice (some ⟨w.heap.size,0,none⟩) 1 1]).run Tryz.prog (w.alloc (.cells #[.string s] 9)) = .ok (.slice a (ks.length + 1) c) w' ∧
   w'.cell? ⟨G,1,none⟩ = some k ∧ w'.frozen? ⟨G,1,none⟩ = false ∧ TN B (w'.setCell ⟨G,1,none⟩ (.slice a (ks.length + 1) c)) G lf (.slice a (ks.length + 1) c) v p (ks ++ [s]) vs ps ∧
   Below B w (w'.setCell ⟨G,1,none⟩ (.slice a (ks.length + 1) c)) ∧ ∀ F,F < w.heap.size → k.ownBlock ≠ some F → F ≠ G → (w'.setCell ⟨G,1,none⟩ (.slice a (ks.length + 1) c)).heap[F]? = w.heap[F]? := by
 obtain ⟨a,c,w',hr,ho,hg,hnb⟩ := append_str w B ks.length k ks s h.ok (by omega) hB
 have hb := (Below.refl w.heap.size w).alloc (Nat.le_refl _) (.cells #[.string s] 9)
 have h1 := h.below hb
 have hs : (w.alloc (.cells #[.string s] 9)).heap.size = w.heap.size + 1 := by simp
 have hkG : k.ownBlock ≠ some G := own_ne h.ok h.cell (by decide)
 have hc1 : w'.heap[G]? = some (.cells #[.bool lf,k,v,p] 38 (0,0)) := (hg.block G h1.lt (fun e => hkG e.symm)).trans h1.cell
 have hnG : (Value.slice a (ks.length + 1) c).ownBlock ≠ some G := own_ne ho hc1 (by decide)
 have hO := (Only.refl G w').setCell 1 (.slice a (ks.length + 1) c)
 have tg := Touch.grown hg
 have to := Touch.of_only (l := [G]) hO (by simp)
 have hvk : ∀ g,v.ownBlock = some g → g ∉ k.ownBlock.toList := fun g hv hm => by
  rw [Option.mem_toList] at hm
  exact h.ap g hm hv
 have hpk : ∀ g,p.ownBlock = some g → g ∉ k.ownBlock.toList := fun g hp hm => by
  rw [Option.mem_toList] at hm
  exact own_type8 h.op h.ok (by decide) g hp hm
 have hG1 : ∀ {e k' n : Nat} {u : Value} {xs : List Value},w'.ownsRow B e k' u n xs → e ≠ 38 → ∀ g,u.ownBlock = some g → g ∉ [G] := fun hu he g hg2 hm => by
  rw [List.mem_singleton] at hm
  subst hm
  exact own_ne hu hc1 (fun e => he e.symm) hg2
 have ov' := own_touch h1.ov tg hvk
 have op' := own_touch h1.op tg hpk
 refine ⟨a,c,w',hr,cell_of_row _ _ _ _ _ _ hc1,frozen_of_row _ _ _ _ _ hc1,⟨heap_setCell_same _ _ _ _ _ _ hc1, ?_,own_touch ov' to (hG1 ov' (by decide)),own_touch op' to (hG1 op' (by decide)),fun g hk hv => ?_⟩, ?_,fun F hF hkF hFG => ?_⟩
 ·rw [List.length_append]
  exact own_touch ho to (hG1 ho (by decide))
 ·rcases hnb with e | e
  ·rw [e] at hk; exact h.ap g hk hv
  ·rw [e] at hk
   cases hk
   have := (h.ov.lt _ hv).2
   omega
 ·have hgb := grown_below9 hg (B := B) (by rw [hs]; omega) (fun g e => (h.ok.lt g e).1)
  exact ((hb.mono hB).trans hgb).trans (hO.bel B hG)
 ·exact (hO.rest F hFG).trans ((hg.block F (by rw [hs]; omega) (fun e => hkF e.symm)).trans (hb.block F hF))
theorem tn_val {B : Nat} {w : World} {G : Nat} {lf : Bool} {k v p : Value} {ks vs : List ByteArray} {ps : List PtrV} (h : TN B w G lf k v p ks vs ps) (s : ByteArray) (hB : B ≤ w.heap.size) (hG : B ≤ G) (hn : vs.length ≤ 100000) :
 ∃ a c w',(Builtin.append_ #[36,36] 36 #[v,.slice (some ⟨w.heap.size,0,none⟩) 1 1]).run Tryz.prog (w.alloc (.cells #[.string s] 9)) = .ok (.slice a (vs.length + 1) c) w' ∧
   w'.cell? ⟨G,2,none⟩ = some v ∧ w'.frozen? ⟨G,2,none⟩ = false ∧ TN B (w'.setCell ⟨G,2,none⟩ (.slice a (vs.length + 1) c)) G lf k (.slice a (vs.length + 1) c) p ks (vs ++ [s]) ps ∧
   Below B w (w'.setCell ⟨G,2,none⟩ (.slice a (vs.length + 1) c)) ∧ ∀ F,F < w.heap.size → v.ownBlock ≠ some F → F ≠ G → (w'.setCell ⟨G,2,none⟩ (.slice a (vs.length + 1) c)).heap[F]? = w.heap[F]? := by
 obtain ⟨a,c,w',hr,ho,hg,hnb⟩ := append_str w B vs.length v vs s h.ov (by omega) hB
 have hb := (Below.refl w.heap.size w).alloc (Nat.le_refl _) (.cells #[.string s] 9)
 have h1 := h.below hb
 have hs : (w.alloc (.cells #[.string s] 9)).heap.size = w.heap.size + 1 := by simp
 have hkG : v.ownBlock ≠ some G := own_ne h.ov h.cell (by decide)
 have hc1 : w'.heap[G]? = some (.cells #[.bool lf,k,v,p] 38 (0,0)) := (hg.block G h1.lt (fun e => hkG e.symm)).trans h1.cell
 have hO := (Only.refl G w').setCell 2 (.slice a (vs.length + 1) c)
 have tg := Touch.grown hg
 have to := Touch.of_only (l := [G]) hO (by simp)
 have hvk : ∀ g,k.ownBlock = some g → g ∉ v.ownBlock.toList := fun g hv hm => by
  rw [Option.mem_toList] at hm
  exact h.ap g hv hm
 have hpk : ∀ g,p.ownBlock = some g → g ∉ v.ownBlock.toList := fun g hp hm => by
  rw [Option.mem_toList] at hm
  exact own_type8 h.op h.ov (by decide) g hp hm
 have hG1 : ∀ {e k' n : Nat} {u : Value} {xs : List Value},w'.ownsRow B e k' u n xs → e ≠ 38 → ∀ g,u.ownBlock = some g → g ∉ [G] := fun hu he g hg2 hm => by
  rw [List.mem_singleton] at hm
  subst hm
  exact own_ne hu hc1 (fun e => he e.symm) hg2
 have ok' := own_touch h1.ok tg hvk
 have op' := own_touch h1.op tg hpk
 refine ⟨a,c,w',hr,cell_of_row _ _ _ _ _ _ hc1,frozen_of_row _ _ _ _ _ hc1,⟨heap_setCell_same _ _ _ _ _ _ hc1,own_touch ok' to (hG1 ok' (by decide)), ?_,own_touch op' to (hG1 op' (by decide)),fun g hk hv => ?_⟩, ?_,fun F hF hkF hFG => ?_⟩
 ·rw [List.length_append]
  exact own_touch ho to (hG1 ho (by decide))
 ·rcases hnb with e | e
  ·rw [e] at hv; exact h.ap g hk hv
  ·rw [e] at hv
   cases hv
   have := (h.ok.lt _ hk).2
   omega
 ·have hgb := grown_below9 hg (B := B) (by rw [hs]; omega) (fun g e => (h.ov.lt g e).1)
  exact ((hb.mono hB).trans hgb).trans (hO.bel B hG)
 ·exact (hO.rest F hFG).trans ((hg.block F (by rw [hs]; omega) (fun e => hkF e.symm)).trans (hb.block F hF))
theorem tn_kid {B : Nat} {w : World} {G : Nat} {lf : Bool} {k v p : Value} {ks vs : List ByteArray} {ps : List PtrV} (h : TN B w G lf k v p ks vs ps) (q : PtrV) (hB : B ≤ w.heap.size) (hG : B ≤ G) (hn : ps.length ≤ 100000) :
 ∃ a c w',(Builtin.append_ #[35,35] 35 #[p,.slice (some ⟨w.heap.size,0,none⟩) 1 1]).run Tryz.prog (w.alloc (.cells (ptrRow q).toArray 43)) = .ok (.slice a (ps.length + 1) c) w' ∧
   w'.cell? ⟨G,3,none⟩ = some p ∧ w'.frozen? ⟨G,3,none⟩ = false ∧ TN B (w'.setCell ⟨G,3,none⟩ (.slice a (ps.length + 1) c)) G lf k v (.slice a (ps.length + 1) c) ks vs (ps ++ [q]) ∧
   Below B w (w'.setCell ⟨G,3,none⟩ (.slice a (ps.length + 1) c)) ∧ ∀ F,F < w.heap.size → p.ownBlock ≠ some F → F ≠ G → (w'.setCell ⟨G,3,none⟩ (.slice a (ps.length + 1) c)).heap[F]? = w.heap[F]? := by
 have hb := (Below.refl w.heap.size w).alloc (Nat.le_refl _) (.cells (ptrRow q).toArray 43)
 have h1 := h.below hb
 have hs : (w.alloc (.cells (ptrRow q).toArray 43)).heap.size = w.heap.size + 1 := by simp
 obtain ⟨a,c,w',hr,ho,hg,hnb⟩ := append_ps (w.alloc (.cells (ptrRow q).toArray 43)) B ps.length p (.slice (some ⟨w.heap.size,0,none⟩) 1 1) ps [q] h1.op (ps_row (l := [q]) 1 (by rw [show rowsP [q] = ptrRow q by simp [rowsP]]; exact heap_alloc_new w _)) (by omega) (by simp) (by rw [hs]; omega)
 have hkG : p.ownBlock ≠ some G := own_ne h.op h.cell (by decide)
 have hc1 : w'.heap[G]? = some (.cells #[.bool lf,k,v,p] 38 (0,0)) := (hg.block G h1.lt (fun e => hkG e.symm)).trans h1.cell
 have hO := (Only.refl G w').setCell 3 (.slice a (ps.length + 1) c)
 have tg := Touch.grown hg
 have to := Touch.of_only (l := [G]) hO (by simp)
 have hvk : ∀ {u : Value} {n : Nat} {xs : List Value},w.ownsRow B 9 1 u n xs → ∀ g,u.ownBlock = some g → g ∉ p.ownBlock.toList := fun hu g hv hm => by
  rw [Option.mem_toList] at hm
  exact own_type8 hu h.op (by decide) g hv hm
 have hG1 : ∀ {e k' n : Nat} {u : Value} {xs : List Value},w'.ownsRow B e k' u n xs → e ≠ 38 → ∀ g,u.ownBlock = some g → g ∉ [G] := fun hu he g hg2 hm => by
  rw [List.mem_singleton] at hm
  subst hm
  exact own_ne hu hc1 (fun e => he e.symm) hg2
 have ok' := own_touch h1.ok tg (hvk h.ok)
 have ov' := own_touch h1.ov tg (hvk h.ov)
 refine ⟨a,c,w',hr,cell_of_row _ _ _ _ _ _ hc1,frozen_of_row _ _ _ _ _ hc1,⟨heap_setCell_same _ _ _ _ _ _ hc1,own_touch ok' to (hG1 ok' (by decide)),own_touch ov' to (hG1 ov' (by decide)), ?_,h.ap⟩, ?_,fun F hF hkF hFG => ?_⟩
 ·rw [List.length_append]
  exact own_touch ho to (hG1 ho (by decide))
 ·have hgb := grown_below9 hg (B := B) (by rw [hs]; omega) (fun g e => (h.op.lt g e).1)
  exact ((hb.mono hB).trans hgb).trans (hO.bel B hG)
 ·exact (hO.rest F hFG).trans ((hg.block F (by rw [hs]; omega) (fun e => hkF e.symm)).trans (hb.block F hF))
end
section
set_option maxRecDepth 4000
set_option linter.unusedVariables false
open Go.ChangeShapes Go.WideShapes Go.ChangeAt Go.RowKit
theorem Chg.touch {R : Nat} {w w' : World} (h : Chg R w w') : Touch [R] w w' := ⟨h.os,h.tape,h.output,h.size,fun k hk hn => h.block k hk (by simpa using hn)⟩
theorem TN.chg {B R : Nat} {w w' : World} {G : Nat} {lf : Bool} {k v p : Value} {ks vs : List ByteArray} {ps : List PtrV} (h : TN B w G lf k v p ks vs ps) (t : Chg R w w') (hG : B ≤ G) (hR : R < B) : TN B w' G lf k v p ks vs ps :=
 h.touch t.touch hG (fun g hg => by rw [List.mem_singleton.1 hg]; exact hR)
structure TS (w0 w : World) (R G F : Nat) (t : TypeId) (lf : Bool) (k v p : Value) (ks vs : List ByteArray) (ps : List PtrV) (r : List Int) : Prop where
 tn : TN w0.heap.size w G lf k v p ks vs ps
 rt : RT w0.heap.size w t R r
 ch : Chg R w0 w
 fc : w.heap[F]? = some (.cells #[.bool false,.slice none 0 0,.slice none 0 0,.slice none 0 0] 38 (0,0))
 hG : w0.heap.size ≤ G
 hF : w0.heap.size ≤ F
 ne : F ≠ G
theorem TS.reads {w0 w w' : World} {R G F : Nat} {t : TypeId} {lf : Bool} {k v p : Value} {ks vs : List ByteArray} {ps : List PtrV} {r r' : List Int} (h : TS w0 w R G F t lf k v p ks vs ps r) (hr : RT w0.heap.size w' t R r') (hc : Chg R w w') : TS w0 w' R G F t lf k v p ks vs ps r' :=
 ⟨h.tn.chg hc h.hG h.rt.lt,hr,h.ch.trans hc,(hc.block F (Array.getElem?_eq_some_iff.1 h.fc).1 (by have := h.rt.lt; have := h.hF; omega)).trans h.fc,h.hG,h.hF,h.ne⟩
theorem TS.grows {w0 w w' : World} {R G F : Nat} {t : TypeId} {lf : Bool} {k v p k' v' p' : Value} {ks vs ks' vs' : List ByteArray} {ps ps' : List PtrV} {r : List Int} (h : TS w0 w R G F t lf k v p ks vs ps r) (ht : TN w0.heap.size w' G lf k' v' p' ks' vs' ps') (hb : Below w0.heap.size w w') (hf : w'.heap[F]? = w.heap[F]?) : TS w0 w' R G F t lf k' v' p' ks' vs' ps' r :=
 ⟨ht,h.rt.keep (Nat.le_trans h.rt.1 hb.size) (fun k hk => hb.block k hk),chg_below h.ch (Nat.le_refl _) hb,hf.trans h.fc,h.hG,h.hF,h.ne⟩
theorem TS.size {w0 w : World} {R G F : Nat} {t : TypeId} {lf : Bool} {k v p : Value} {ks vs : List ByteArray} {ps : List PtrV} {r : List Int} (h : TS w0 w R G F t lf k v p ks vs ps r) : w0.heap.size ≤ w.heap.size := h.rt.1
theorem ts_key {w0 w : World} {R G F : Nat} {t : TypeId} {lf : Bool} {k v p : Value} {ks vs : List ByteArray} {ps : List PtrV} {r : List Int} (h : TS w0 w R G F t lf k v p ks vs ps r) (s : ByteArray) (hn : ks.length ≤ 100000) :
 ∃ a c w',(Builtin.append_ #[36,36] 36 #[k,.slice (some ⟨w.heap.size,0,none⟩) 1 1]).run Tryz.prog (w.alloc (.cells #[.string s] 9)) = .ok (.slice a (ks.length + 1) c) w' ∧
   w'.cell? ⟨G,1,none⟩ = some k ∧ w'.frozen? ⟨G,1,none⟩ = false ∧ TS w0 (w'.setCell ⟨G,1,none⟩ (.slice a (ks.length + 1) c)) R G F t lf (.slice a (ks.length + 1) c) v p (ks ++ [s]) vs ps r := by
 obtain ⟨a,c,w',h1,h2,h3,h4,h5,h6⟩ := tn_key h.tn s h.size h.hG hn
 exact ⟨a,c,w',h1,h2,h3,h.grows h4 h5 (h6 F (Array.getElem?_eq_some_iff.1 h.fc).1 (own_ne h.tn.ok h.fc (by decide)) h.ne)⟩
theorem ts_val {w0 w : World} {R G F : Nat} {t : TypeId} {lf : Bool} {k v p : Value} {ks vs : List ByteArray} {ps : List PtrV} {r : List Int} (h : TS w0 w R G F t lf k v p ks vs ps r) (s : ByteArray) (hn : vs.length ≤ 100000) :
 ∃ a c w',(Builtin.append_ #[36,36] 36 #[v,.slice (some ⟨w.heap.size,0,none⟩) 1 1]).run Tryz.prog (w.alloc (.cells #[.string s] 9)) = .ok (.slice a (vs.length + 1) c) w' ∧
   w'.cell? ⟨G,2,none⟩ = some v ∧ w'.frozen? ⟨G,2,none⟩ = false ∧ TS w0 (w'.setCell ⟨G,2,none⟩ (.slice a (vs.length + 1) c)) R G F t lf k (.slice a (vs.length + 1) c) p ks (vs ++ [s]) ps r := by
 obtain ⟨a,c,w',h1,h2,h3,h4,h5,h6⟩ := tn_val h.tn s h.size h.hG hn
 exact ⟨a,c,w',h1,h2,h3,h.grows h4 h5 (h6 F (Array.getElem?_eq_some_iff.1 h.fc).1 (own_ne h.tn.ov h.fc (by decide)) h.ne)⟩
theorem ts_kid {w0 w : World} {R G F : Nat} {t : TypeId} {lf : Bool} {k v p : Value} {ks vs : List ByteArray} {ps : List PtrV} {r : List Int} (h : TS w0 w R G F t lf k v p ks vs ps r) (q : PtrV) (hn : ps.length ≤ 100000) :
 ∃ a c w',(Builtin.append_ #[35,35] 35 #[p,.slice (some ⟨w.heap.size,0,none⟩) 1 1]).run Tryz.prog (w.alloc (.cells (ptrRow q).toArray 43)) = .ok (.slice a (ps.length + 1) c) w' ∧
   w'.cell? ⟨G,3,none⟩ = some p ∧ w'.frozen? ⟨G,3,none⟩ = false ∧ TS w0 (w'.setCell ⟨G,3,none⟩ (.slice a (ps.length + 1) c)) R G F t lf k v (.slice a (ps.length + 1) c) ks vs (ps ++ [q]) r := by
 obtain ⟨a,c,w',h1,h2,h3,h4,h5,h6⟩ := tn_kid h.tn q h.size h.hG hn
 exact ⟨a,c,w',h1,h2,h3,h.grows h4 h5 (h6 F (Array.getElem?_eq_some_iff.1 h.fc).1 (own_ne h.tn.op h.fc (by decide)) h.ne)⟩
theorem TS.done {w0 w : World} {R G F : Nat} {t : TypeId} {lf : Bool} {k v p : Value} {ks vs : List ByteArray} {ps : List PtrV} {r : List Int} (h : TS w0 w R G F t lf k v p ks vs ps r) (row : Array Value) : NR (w.setRow F row) k v p ⟨lf,ks,vs,ps⟩ ∧ Chg R w0 (w.setRow F row) := by
 have tch : Touch [F] w (w.setRow F row) := ⟨rfl,rfl,rfl,by simp,fun j hj hn => setRow_other w F j row (by simpa using hn)⟩
 have hn : ∀ {u : Value} {e n m : Nat} {xs : List Value},w.ownsRow w0.heap.size e m u n xs → e ≠ 38 → ∀ g,u.ownBlock = some g → g ∉ [F] := fun ho he g hg hm => by
  rw [List.mem_singleton] at hm
  subst hm
  exact own_ne ho h.fc (fun e => he e.symm) hg
 exact ⟨⟨ss_own (own_touch h.tn.ok tch (hn h.tn.ok (by decide))),ss_own (own_touch h.tn.ov tch (hn h.tn.ov (by decide))),ps_own (own_touch h.tn.op tch (hn h.tn.op (by decide)))⟩,
  chg_below h.ch (Nat.le_refl _) (ybelow_row ((Below.refl w.heap.size w).mono h.size) h.hF _)⟩
theorem TS.below {w0 w w' : World} {R G F : Nat} {t : TypeId} {lf : Bool} {k v p : Value} {ks vs : List ByteArray} {ps : List PtrV} {r : List Int} (h : TS w0 w R G F t lf k v p ks vs ps r) (b : Below w.heap.size w w') : TS w0 w' R G F t lf k v p ks vs ps r :=
 h.grows (h.tn.below b) (b.mono h.size) (b.block F (Array.getElem?_eq_some_iff.1 h.fc).1)
set_option maxRecDepth 100000 in
set_option maxHeartbeats 6400000 in
theorem nread_any (R : Nat) (l : List Int) (w0 : World) (h : RT w0.heap.size w0 193 R l) :
 Calls Tryz.prog 91 #[.pointer (some ⟨R,0,none⟩)] w0 fun e w' => ∃ k v p,e = .returned (.agg #[.bool (toldN l).lf,k,v,p]) ∧ NR w' k v p (toldN l) ∧ Chg R w0 w' := by
 have hby := h.byt
 have hb1 := (Below.refl w0.heap.size w0).alloc (Nat.le_refl _) (.cells #[.bool false,.slice none 0 0,.slice none 0 0,.slice none 0 0] 38)
 have hF1 := heap_alloc_new w0 (.cells #[.bool false,.slice none 0 0,.slice none 0 0,.slice none 0 0] 38)
 have h1 := rt_below h hb1
 have HN1 := hid (pnum_t w0.heap.size R l 1 _ h1 (by omega))
 have hkb := num1_bound l hby
 have HTD := hid (show toldN l = ⟨leafA l,(rdKeys (leafA l) (cntA l) (restA (restA l))).1,(rdKeys (leafA l) (cntA l) (restA (restA l))).2.1,if leafA l then [] else (rdKids (cntA l + 1) (rdKeys (leafA l) (cntA l) (restA (restA l))).2.2).1⟩ from rfl)
 have HC := hid (cntA_le hby)
 have HCC := hid (cntA_cast hby)
 have HBY2 := hid (restA_byt (restA_byt hby))
 have HRB := hid h.lt
 rw [show (numA 1 l).2.2 = restA l from rfl] at HN1
 obtain ⟨K,hK⟩ : ∃ K,(numA 1 l).1 = K := ⟨_,rfl⟩
 rw [hK] at HN1 hkb
 have xk : IntKind.u8.wrap K = K := IntWalk.u8_in _ (by omega)
 have HLF := hid (show leafA l = (K == 1) by unfold leafA kindA; rw [hK])
 generalize hw1 : w0.alloc (.cells #[.bool false,.slice none 0 0,.slice none 0 0,.slice none 0 0] 38) = w1 at *
 have HB1 := hid hb1
 have HF1 := hid hF1
 have HS1 := hid (show w0.heap.size < w1.heap.size from (Array.getElem?_eq_some_iff.1 hF1).1)
 clear h hb1 hF1 h1 hby hkb hK
 go_enter Tryz.func91,Tryz.ntmps91
 go_upto_region 1 with fail
 try rw [hw1]
 clear hw1
 go_wp2_with fail
 refine HN1.out.mono ?_
 rintro e w2 ⟨rfl,hr2,hO2⟩
 have HN2 := hid (pnum_t w0.heap.size R (restA l) 1 w2 hr2 (by omega))
 rw [show (numA 1 (restA l)).2.2 = restA (restA l) from rfl,HCC.out] at HN2
 have HC2 := hid ((Chg.of_below HB1.out).trans (Chg.of_only hO2))
 have HF2 := hid ((hO2.rest w0.heap.size (by have := HRB.out; omega)).trans HF1.out)
 clear hr2 hO2 HN1 HB1 HF1
 go_wp2_with fail
 refine HN2.out.mono ?_
 rintro e w3 ⟨rfl,hr3,hO3⟩
 obtain ⟨lf,hlf⟩ : ∃ lf,(K == 1) = lf := ⟨_,rfl⟩
 rw [hlf] at HLF
 have hS3 : w0.heap.size < w3.heap.size := by rw [hO3.size]; exact (Array.getElem?_eq_some_iff.1 HF2.out).1
 have hb4 := (Below.refl w3.heap.size w3).alloc (Nat.le_refl _) (.cells #[.bool lf,.slice none 0 0,.slice none 0 0,.slice none 0 0] 38)
 have HT0 := hid (show TS w0 (w3.alloc (.cells #[.bool lf,.slice none 0 0,.slice none 0 0,.slice none 0 0] 38)) R w3.heap.size w0.heap.size 193 lf (.slice none 0 0) (.slice none 0 0) (.slice none 0 0) [] [] [] (restA (restA l)) from
  ⟨⟨heap_alloc_new w3 _,World.ownsRow_nil _ _ _ _,World.ownsRow_nil _ _ _ _,World.ownsRow_nil _ _ _ _,fun g hg => by cases hg⟩,rt_below hr3 hb4,(HC2.out.trans (Chg.of_only hO3)).trans (Chg.of_below hb4),
    (hb4.block _ hS3).trans ((hO3.rest w0.heap.size (by have := HRB.out; omega)).trans HF2.out),Nat.le_of_lt hS3,Nat.le_refl _,by omega⟩)
 obtain ⟨G,hG⟩ : ∃ G,w3.heap.size = G := ⟨_,rfl⟩
 obtain ⟨l2,hl2⟩ : ∃ l2,restA (restA l) = l2 := ⟨_,rfl⟩
 obtain ⟨c,hc⟩ : ∃ c,cntA l = c := ⟨_,rfl⟩
 rw [hl2] at HT0 HBY2
 rw [hc] at HC
 rw [hG] at HT0
 clear hr3 hO3 hb4 hS3 HN2 HC2 HF2 HS1
 go_upto_region 4 with fail
 try simp only [hlf,hl2,hc,hG]
 generalize World.alloc w3 _ = w4 at *
 clear hlf xk
 have HE := hid (And.intro hl2 hc)
 clear hl2 hc hG
 go_wp2_with fail
 go_loopw [8,9,10,11,29] (fun _ _ _ _ v29 wr => ∃ (i : Nat) (k v p : Value),i ≤ c ∧ v29 = .int .u64 (i : Int) ∧ TS w0 wr R G w0.heap.size 193 lf k v p (rdKeys lf i l2).1 (rdKeys lf i l2).2.1 [] (rdKeys lf i l2).2.2) (fun _ _ _ _ v _ => c - (intOf v).toNat)
 case atStart => exact ⟨0,_,_,_,by omega,rfl,HT0.out⟩
 case round =>
  clear HT0
  obtain ⟨i,k,v,p,hi,rfl,hT⟩ := hrel
  have hkl := rdKeys_len lf i l2
  have hc255 := HC.out
  by_cases hlt : i < c
  ·have hst : rdKeys lf (i + 1) l2 = keyStep lf (rdKeys lf i l2) := rfl
   obtain ⟨⟨ks,vs,r⟩,hS⟩ : ∃ S,rdKeys lf i l2 = S := ⟨_,rfl⟩
   rw [hS] at hT hst hkl
   dsimp only at hT hkl
   have HST := hid hst
   have HKL := hid hkl.1
   have HVL := hid hkl.2
   clear hS hst hkl
   have HK := hid (pstr_t w0.heap.size R r wr hT.rt)
   have hT' := hT
   obtain ⟨ak,ck,hk⟩ := own_shape8 hT.tn.ok
   subst hk
   have HT := hid hT
   have HLT := hid hlt
   have iI : (i : Int) < (c : Int) := by omega
   have i0 : (0 : Int) ≤ (i : Int) := by omega
   have cI : (c : Int) ≤ 255 := by omega
   clear hi hlt hT hT'
   go_wp2_with fail
   refine HK.out.mono ?_
   rintro e w5 ⟨rfl,hr5,hc5⟩
   have hT5 := HT.out.reads hr5 hc5
   obtain ⟨c0,c1,c2,c3⟩ := node_at hT5.tn.cell
   obtain ⟨a6,cc6,w6,hrun,d1,f1,hT6⟩ := ts_key hT5 (strA r).1 (by rw [HKL.out]; omega)
   have HR6 := hid hrun
   have HT6 := hid hT6
   clear hr5 hc5 hT5 hrun hT6 HT HK
   go_upto_region 8 with (first
    | (at_builtin; refine wpList_append_run (o := ⟨some 40,_,_,_,_,_⟩) rfl _ _ _ _ rfl _ _ _ _ rfl rfl HR6.out ?_))
   clear c0 c1 c2 c3 d1 f1
   generalize World.setCell _ ⟨G,1,none⟩ _ = w7 at *
   obtain ⟨c0,c1,c2,c3⟩ := node_at HT6.out.tn.cell
   cases lf with
   | true =>
     rw [if_pos rfl] at HVL
     have HK2 := hid (pstr_t w0.heap.size R _ w7 HT6.out.rt)
     obtain ⟨av,cv,hv⟩ := own_shape8 HT6.out.tn.ov
     subst hv
     go_wp2_with fail
     refine HK2.out.mono ?_
     rintro e w8 ⟨rfl,hr8,hc8⟩
     have hT8 := HT6.out.reads hr8 hc8
     obtain ⟨g0,g1,g2,g3⟩ := node_at hT8.tn.cell
     obtain ⟨a9,cc9,w9,hrun,d1,f1,hT9⟩ := ts_val hT8 (strA (strA r).2.2).1 (by rw [HVL.out]; omega)
     have HR9 := hid hrun
     have HT9 := hid hT9
     clear hr8 hc8 hT8 hrun hT9 HT6 HK2 c0 c1 c2 c3
     go_wp2_with (first
      | (at_builtin; refine wpList_append_run (o := ⟨some 53,_,_,_,_,_⟩) rfl _ _ _ _ rfl _ _ _ _ rfl rfl HR9.out ?_))
     go_roundw
     case rel => exact ⟨i + 1,_,_,_,by have := HLT.out; omega,by go_num,by rw [HST.out,show keyStep true (ks,vs,r) = (ks ++ [(strA r).1],vs ++ [(strA (strA r).2.2).1],(strA (strA r).2.2).2.2) from rfl]; exact HT9.out⟩
     case measure => simp [intOf]; have := HLT.out; omega
   | false =>
     go_wp2_with fail
     go_roundw
     case rel => exact ⟨i + 1,_,_,_,by have := HLT.out; omega,by go_num,by rw [HST.out,show keyStep false (ks,vs,r) = (ks ++ [(strA r).1],vs,(strA r).2.2) from rfl]; exact HT6.out⟩
     case measure => simp [intOf]; have := HLT.out; omega
  ·obtain rfl : i = c := by omega
   obtain ⟨⟨ks,vs,r⟩,hS⟩ : ∃ S,rdKeys lf i l2 = S := ⟨_,rfl⟩
   rw [hS] at hT hkl
   dsimp only at hT hkl
   have HS := hid hS
   obtain ⟨c0,c1,c2,c3⟩ := node_at hT.tn.cell
   obtain ⟨ak,ck,hk⟩ := own_shape8 hT.tn.ok
   obtain ⟨av,cv,hv⟩ := own_shape8 hT.tn.ov
   subst hk hv
   have WO := hid (fun (b : Bool) (x y z n m q : Nat) (a1 a2 a3 : Option Addr) => show (#[.bool b,.slice a1 x n,.slice a2 y m,.slice a3 z q] : Array Value).all (·.oneCell') = true from by simp [Value.oneCell'])
   have cI : (i : Int) ≤ 255 := by omega
   have c00 : (0 : Int) ≤ (i : Int) := by omega
   have HT := hid hT
   clear hi hlt hS hkl
   cases lf with
   | true =>
     obtain ⟨ap,cp,hp⟩ := own_shape8 hT.tn.op
     subst hp
     have SEN := hid (size_node true (.slice ak ks.length ck) (.slice av vs.length cv) (.slice ap ([] : List PtrV).length cp))
     clear hT
     go_wp2_with (first
      | (with_reducible refine wpList_store_row (o := ⟨none,.store _ (.tmp 2) _,_,_,_,_⟩) rfl 38 _ _ rfl w0.heap.size _ rfl rfl 38 _ HT.out.fc SEN.out rfl (WO.out _ _ _ _ _ _ _ _ _ _) ?_))
     have HTL := hid (show toldN l = ⟨true,ks,vs, []⟩ by rw [HTD.out,HLF.out,HE.out.1,HE.out.2,HS.out]; rfl)
     have HD := hid (HT.out.done #[.bool true,.slice ak ks.length ck,.slice av vs.length cv,.slice ap ([] : List PtrV).length cp])
     refine bodyPost_ret (results_cell_row Tryz.results91 _ _ w0.heap.size 38 _ (0,0) _ rfl (setRow_heap _ w0.heap.size _ _ _ _ HT.out.fc) Tryz.underlying38 rfl SEN.out) rfl ⟨_,_,_,by rw [HTL.out],by rw [HTL.out]; exact HD.out.1,HD.out.2⟩
   | false =>
     clear hT
     go_wp2_with fail
     go_loopw [12,13,61] (fun _ _ v61 wr2 => ∃ (j : Nat) (p : Value),j ≤ i + 1 ∧ v61 = .int .u64 (j : Int) ∧ TS w0 wr2 R G w0.heap.size 193 false (.slice ak ks.length ck) (.slice av vs.length cv) p ks vs (rdKids j r).1 (rdKids j r).2) (fun _ _ v _ => i + 1 - (intOf v).toNat)
     case atStart => exact ⟨0,_,by omega,rfl,HT.out⟩
     case round =>
      clear HT c0 c1 c2 c3
      obtain ⟨j,p2,hj,rfl,hT⟩ := hrel
      have hkl := rdKids_len j r
      by_cases hlt : j < i + 1
      ·have hst : rdKids (j + 1) r = kidStep (rdKids j r) := rfl
       obtain ⟨⟨ps,r2⟩,hS2⟩ : ∃ S,rdKids j r = S := ⟨_,rfl⟩
       rw [hS2] at hT hst hkl
       dsimp only at hT hkl
       have HST := hid hst
       have HKL := hid hkl
       obtain ⟨ap,cp,hp⟩ := own_shape8 hT.tn.op
       subst hp
       have HG := hid (pget_t w0.heap.size R r2 wr hT.rt)
       have HT := hid hT
       have HLT := hid hlt
       have iI : (j : Int) < (i : Int) + 1 := by omega
       have i0 : (0 : Int) ≤ (j : Int) := by omega
       obtain ⟨q,hq⟩ : ∃ q,(getA r2).1 = q := ⟨_,rfl⟩
       rw [hq] at HG
       have HQ := hid hq
       have hzp := zero_ptr
       have SWR := hid (size_ptrA q)
       have EW := hid (show (ptrRow zeroPtr).toArray.size = (ptrRow q).toArray.size by simp [ptrRow_length])
       have WOQ := hid (ptrRow_one q)
       obtain ⟨ZA,hZA⟩ : ∃ ZA,(ptrRow zeroPtr).toArray = ZA := ⟨_,rfl⟩
       rw [hZA] at hzp EW
       have HLP := hid (lit_ptr q)
       have HTK := hid (fun w5 (h5 : TS w0 w5 R G w0.heap.size 193 false (.slice ak ks.length ck) (.slice av vs.length cv) (.slice ap ps.length cp) ks vs ps (getA r2).2.2) => ts_kid h5 q (by rw [HKL.out]; omega))
       clear hj hlt hT hS2 hst hkl hq hZA
       obtain ⟨QR,hQR⟩ : ∃ QR,(ptrRow q).toArray = QR := ⟨_,rfl⟩
       rw [hQR] at HG SWR EW WOQ HLP HTK
       clear hQR
       go_upto_region 16 with fail
       go_wp2_with fail
       refine HG.out.mono ?_
       rintro e w5 ⟨rfl,hr5,hc5⟩
       have hT5 := HT.out.reads hr5 hc5
       have HT5 := hid hT5
       clear hr5 hc5 hT5 HT HG
       go_upto_region 17 with (first
        | (with_reducible refine wpList_store_row (o := ⟨none,.store _ (.tmp 12) _,_,_,_,_⟩) rfl 43 _ _ rfl w5.heap.size QR rfl rfl 43 ZA (heap_alloc_new w5 _) SWR.out EW.out WOQ.out ?_))
       obtain ⟨h7,hb7⟩ := new_row8 w5 ZA QR
       generalize World.setRow _ w5.heap.size _ = w6 at *
       have hT6 := HT5.out.below hb7
       have H7 := hid h7
       obtain ⟨c0,c1,c2,c3⟩ := node_at hT6.tn.cell
       obtain ⟨a9,cc9,w9,hrun,d1,f1,hT9⟩ := HTK.out w6 hT6
       have HR9 := hid hrun
       have HT9 := hid hT9
       clear h7 hb7 hT6 hrun hT9 HT5 HTK hzp EW WOQ
       go_wp2_with (first
        | (with_reducible refine wpList_load_row (o := ⟨some 70,_,_,_,_,_⟩) rfl 43 _ rfl w5.heap.size rfl 43 QR (0,0) _ H7.out Tryz.underlying43 rfl SWR.out ?_)
        | (refine wpList_lit_run (o := ⟨some 71,_,_,_,_,_⟩) rfl _ _ _ rfl #[(0,.agg QR)] (by simp [Act.eval,Act.put]) _ _ (HLP.out w6) ?_)
        | (at_builtin; refine wpList_append_run (o := ⟨some 72,_,_,_,_,_⟩) rfl _ _ _ _ rfl _ _ _ _ rfl rfl HR9.out ?_))
       go_roundw
       case rel => exact ⟨j + 1,_,by have := HLT.out; omega,by go_num,by rw [HST.out,show kidStep (ps,r2) = (ps ++ [(getA r2).1],(getA r2).2.2) from rfl,HQ.out]; exact HT9.out⟩
       case measure => simp [intOf]; have := HLT.out; omega
      ·obtain rfl : j = i + 1 := by omega
       obtain ⟨⟨ps,r2⟩,hS2⟩ : ∃ S,rdKids (i + 1) r = S := ⟨_,rfl⟩
       rw [hS2] at hT hkl
       dsimp only at hT hkl
       have HS2 := hid hS2
       obtain ⟨ap,cp,hp⟩ := own_shape8 hT.tn.op
       subst hp
       obtain ⟨c0,c1,c2,c3⟩ := node_at hT.tn.cell
       have SEN := hid (size_node false (.slice ak ks.length ck) (.slice av vs.length cv) (.slice ap ps.length cp))
       have HT := hid hT
       have HTL := hid (show toldN l = ⟨false,ks,vs,ps⟩ by rw [HTD.out,HLF.out,HE.out.1,HE.out.2,HS.out,if_neg (by decide),HS2.out])
       have HD := hid (hT.done #[.bool false,.slice ak ks.length ck,.slice av vs.length cv,.slice ap ps.length cp])
       have HNE := hid (show ((i + 1 : Nat) : Int) = (i : Int) + 1 by omega)
       clear hj hlt hT hS2 hkl
       go_wp2_with (first
        | (with_reducible refine wpList_store_row (o := ⟨none,.store _ (.tmp 2) _,_,_,_,_⟩) rfl 38 _ _ rfl w0.heap.size _ rfl rfl 38 _ HT.out.fc SEN.out rfl (WO.out _ _ _ _ _ _ _ _ _ _) ?_))
       refine bodyPost_ret (results_cell_row Tryz.results91 _ _ w0.heap.size 38 _ (0,0) _ rfl (setRow_heap _ w0.heap.size _ _ _ _ HT.out.fc) Tryz.underlying38 rfl SEN.out) rfl ⟨_,_,_,by rw [HTL.out],by rw [HTL.out]; exact HD.out.1,HD.out.2⟩
end
section
set_option maxRecDepth 4000
set_option linter.unusedVariables false
open Go.ChangeShapes Go.WideShapes Go.ChangeAt Go.RowKit
theorem check_three (n : NodeV) : checkN n = 0 ∨ checkN n = 4 ∨ checkN n = 6 := by
 unfold checkN
 split
 ·split
  ·exact .inl rfl
  ·exact .inr (.inr rfl)
 ·exact .inr (.inl rfl)
def getN (l : List Int) : NodeV × Int := if l.length ≠ 512 then (zeroNode,2) else if checkN (toldN l) = 0 ∧ secB9 (toldN l) = l then (toldN l,0) else (zeroNode,4)
theorem setRow_below {w : World} {F : Nat} (N : Nat) (row : Array Value) (hN : N ≤ w.heap.size) (hF : N ≤ F) : Below N w (w.setRow F row) := ybelow_row ((Below.refl w.heap.size w).mono hN) hF _
theorem nr_row {w : World} {k v p : Value} {n : NodeV} (h : NR w k v p n) {F : Nat} {cs row : Array Value} (hF : w.heap[F]? = some (.cells cs 38 (0,0))) (hk : ∀ i s,w.cell? ⟨F,i,none⟩ ≠ some (.string s)) (hp : ∀ i a,w.cell? ⟨F,i,none⟩ ≠ some (.int .u32 a)) : NR (w.setRow F row) k v p n := by
 have keep : ∀ a x,w.cell? a = some x → a.block ≠ F → (w.setRow F row).cell? a = some x := fun a x hx hne => by
  have e : (w.setRow F row).heap[a.block]? = w.heap[a.block]? := setRow_other w F a.block row hne
  rw [← hx]
  simp [World.cell?,e]
 have ss : ∀ {u l},SS w u l → SS (w.setRow F row) u l := fun ⟨a,c,e,hc,h⟩ => ⟨a,c,e,hc,fun i s hs => by
  obtain ⟨b,off,h1,h2⟩ := h i s hs
  exact ⟨b,off,h1,keep _ _ h2 (fun e2 => hk (off + i) s (by rw [← h2]; exact congrArg w.cell? (by simpa using e2.symm)))⟩⟩
 refine ⟨ss h.ks,ss h.vs, ?_⟩
 obtain ⟨a,c,e,h⟩ := h.ps
 refine ⟨a,c,e,fun i q hq => ?_⟩
 obtain ⟨b,off,h1,h2⟩ := h i q hq
 refine ⟨b,off,h1,fun j x hj => ?_⟩
 have h0 := h2 0 (.int .u32 q.ad) rfl
 have hne : b ≠ F := by
  intro e2
  subst e2
  exact hp _ _ h0
 exact keep _ _ (h2 j x hj) hne
theorem znr_no {w : World} {F : Nat} (hF : w.heap[F]? = some (.cells #[.bool false,.slice none 0 0,.slice none 0 0,.slice none 0 0] 38 (0,0))) : (∀ i s,w.cell? ⟨F,i,none⟩ ≠ some (.string s)) ∧ (∀ i a,w.cell? ⟨F,i,none⟩ ≠ some (.int .u32 a)) := by
 refine ⟨fun i s h => ?_,fun i a h => ?_⟩ <;>
 ·rw [cell_of_row _ _ _ _ _ _ hF] at h
  match i with
  | 0 => simp at h
  | 1 => simp at h
  | 2 => simp at h
  | 3 => simp at h
  | i + 4 => simp at h
set_option maxRecDepth 100000 in
set_option maxHeartbeats 6400000 in
theorem nget_any (u : Value) (l : List Int) (w : World) (h : BS w u l) (h63 : l.length ≤ 140737488351232) :
 Calls Tryz.prog 61 #[u] w fun e w' => ∃ k v p,e = .returned (.tuple #[.agg #[.bool (getN l).1.lf,k,v,p],.int .i64 (getN l).2]) ∧ NR w' k v p (getN l).1 ∧ Below w.heap.size w w' := by
 have hby := h.byt
 have hb1 := (Below.refl w.heap.size w).alloc (Nat.le_refl _) (.cells #[.bool false,.slice none 0 0,.slice none 0 0,.slice none 0 0] 38)
 have hF1 := heap_alloc_new w (.cells #[.bool false,.slice none 0 0,.slice none 0 0,.slice none 0 0] 38)
 have hs1 : w.heap.size < (w.alloc (.cells #[.bool false,.slice none 0 0,.slice none 0 0,.slice none 0 0] 38)).heap.size := by simp
 have h1 := h.kept hb1
 obtain ⟨au,cu,rfl,_⟩ := id h
 have SEZ := hid (size_node false (.slice none 0 0) (.slice none 0 0) (.slice none 0 0))
 have WOZ := hid (show (#[.bool false,.slice none 0 0,.slice none 0 0,.slice none 0 0] : Array Value).all (·.oneCell') = true by simp [Value.oneCell'])
 have lI : (l.length : Int) ≤ 140737488351232 := by omega
 generalize hw1 : w.alloc (.cells #[.bool false,.slice none 0 0,.slice none 0 0,.slice none 0 0] 38) = w1 at *
 by_cases hl : l.length = 512
 ·have hlb : ((l.length : Int) == 512) = true := by rw [hl]; rfl
  have HRD := hid (pread7_any _ l w1 h1 h63)
  have HB1 := hid hb1
  have HF1 := hid hF1
  have HS1 := hid hs1
  have HU1 := hid h1
  have HNB := hid (told_nb hby)
  have HGN := hid (show getN l = if checkN (toldN l) = 0 ∧ secB9 (toldN l) = l then (toldN l,0) else (zeroNode,4) by unfold getN; rw [if_neg (by simp [hl])])
  have HHL := hid hl
  clear h hb1 hF1 hs1 h1 h63 hl hby
  go_enter Tryz.func61,Tryz.ntmps61
  go_upto_region 1 with fail
  try rw [hw1]
  clear hw1
  go_wp2_with fail
  refine HRD.out.mono ?_
  rintro e w2 ⟨R,ab,cb,rfl,hrr,hR,hb2,_⟩
  have HRN := hid (nread_any R l w2 (RT.now hrr))
  have HF2 := hid ((hb2.block _ HS1.out).trans HF1.out)
  have HB2 := hid hb2
  have HRW := hid hR
  clear hrr hR hb2 HRD
  go_wp2_with fail
  refine HRN.out.mono ?_
  rintro e w3 ⟨k,v,p,rfl,hnr,hch⟩
  obtain ⟨ak,ck,hk⟩ := hnr.ks.shape
  obtain ⟨av,cv,hv⟩ := hnr.vs.shape
  obtain ⟨ap,cp,hp⟩ := hnr.ps.shape
  subst hk hv hp
  have hb3 : Below w1.heap.size w1 w3 := HB2.out.trans (hch.below HRW.out HB2.out.size)
  have hb4 := (Below.refl w3.heap.size w3).alloc (Nat.le_refl _) (.cells #[.bool (toldN l).lf,.slice ak (toldN l).ks.length ck,.slice av (toldN l).vs.length cv,.slice ap (toldN l).ps.length cp] 38)
  have hN4 := hnr.below hb4
  have hA4 := heap_alloc_new w3 (.cells #[.bool (toldN l).lf,.slice ak (toldN l).ks.length ck,.slice av (toldN l).vs.length cv,.slice ap (toldN l).ps.length cp] 38)
  have HB4 := hid (hb3.trans (hb4.mono hb3.size))
  have HF4 := hid ((hb4.block _ (Nat.lt_of_lt_of_le HS1.out hb3.size)).trans ((hb3.block _ HS1.out).trans HF1.out))
  have HU4 := hid ((HU1.out.kept hb3).kept hb4)
  have HBW := hid (show ∀ W,Below w1.heap.size w1 W → Below w.heap.size w W from fun W b => HB1.out.trans (b.mono (Nat.le_of_lt HS1.out)))
  clear hnr hb3 hb4 hch HRN HB2 HF2 HRW
  go_upto_region 4 with fail
  generalize World.alloc w3 _ = w4 at *
  have HN4 := hid hN4
  have HA4 := hid hA4
  have SE := hid (size_node (toldN l).lf (.slice ak (toldN l).ks.length ck) (.slice av (toldN l).vs.length cv) (.slice ap (toldN l).ps.length cp))
  have HC3 := hid (check_three (toldN l))
  obtain ⟨G,hG⟩ : ∃ G,w3.heap.size = G := ⟨_,rfl⟩
  try rw [hG]
  rw [hG] at HA4
  have HT4 := hid (show G < w4.heap.size from (Array.getElem?_eq_some_iff.1 HA4.out).1)
  clear hN4 hA4 hG
  by_cases hck : checkN (toldN l) = 0
  ·have HPT := hid (nput_any _ _ _ (toldN l) w4 HN4.out HNB.out hck)
   go_wp2_with (first
    | (with_reducible refine wpList_load_row (o := ⟨some 15,_,_,_,_,_⟩) rfl 38 _ rfl G rfl 38 _ (0,0) _ HA4.out Tryz.underlying38 rfl SE.out ?_))
   refine HPT.out.mono ?_
   rintro e w5 ⟨a5,c5,rfl,_,hbs5,hb5⟩
   have HB5 := hid (HB4.out.trans (hb5.mono HB4.out.size))
   have HF5 := hid ((hb5.block _ (Nat.lt_of_lt_of_le HS1.out HB4.out.size)).trans HF4.out)
   have HA5 := hid ((hb5.block _ HT4.out).trans HA4.out)
   have HN5 := hid (HN4.out.below hb5)
   have HEQ := hid (bequal_any _ _ _ _ w5 hbs5 (HU4.out.kept hb5))
   clear hbs5 hb5 HPT HA4 HN4 HF4 HB4 HU4
   by_cases hsl : secB9 (toldN l) = l
   ·have HG := hid (show getN l = (toldN l,0) by rw [HGN.out,if_pos ⟨hck,hsl⟩])
    rw [decide_eq_true hsl] at HEQ
    clear hck hsl
    go_wp2_with fail
    refine HEQ.out.mono ?_
    rintro e w6 ⟨rfl,rfl⟩
    have HNR := hid (nr_row HN5.out HF5.out (row := #[.bool (toldN l).lf,.slice ak (toldN l).ks.length ck,.slice av (toldN l).vs.length cv,.slice ap (toldN l).ps.length cp]) (znr_no HF5.out).1 (znr_no HF5.out).2)
    have WO := hid (show (#[.bool (toldN l).lf,.slice ak (toldN l).ks.length ck,.slice av (toldN l).vs.length cv,.slice ap (toldN l).ps.length cp] : Array Value).all (·.oneCell') = true by simp [Value.oneCell'])
    go_wp2_with (first
     | (with_reducible refine wpList_load_row (o := ⟨some 28,_,_,_,_,_⟩) rfl 38 _ rfl G rfl 38 _ (0,0) _ HA5.out Tryz.underlying38 rfl SE.out ?_)
     | (with_reducible refine wpList_store_row (o := ⟨none,.store _ (.tmp 2) _,_,_,_,_⟩) rfl 38 _ _ rfl w.heap.size _ rfl rfl 38 _ HF5.out SE.out rfl WO.out ?_))
    refine bodyPost_ret (v := .tuple #[.agg #[.bool (toldN l).lf,.slice ak (toldN l).ks.length ck,.slice av (toldN l).vs.length cv,.slice ap (toldN l).ps.length cp],.int .i64 0]) (results_cell_two Tryz.results61 _ _ w.heap.size 38 _ (0,0) _ rfl (setRow_heap _ w.heap.size _ _ _ _ HF5.out) Tryz.underlying38 rfl SE.out _ (by simp)) rfl ⟨_,_,_,(by rw [HG.out]; try rfl),by rw [HG.out]; exact HNR.out,(HBW.out _ HB5.out).trans (setRow_below _ _ (HBW.out _ HB5.out).size (Nat.le_refl _))⟩
   ·have HG := hid (show getN l = (zeroNode,4) by rw [HGN.out,if_neg (fun h => hsl h.2)])
    rw [decide_eq_false hsl] at HEQ
    clear hck hsl
    go_wp2_with fail
    refine HEQ.out.mono ?_
    rintro e w6 ⟨rfl,rfl⟩
    go_wp2_with (first
     | (with_reducible refine wpList_store_row (o := ⟨none,.store _ (.tmp 2) _,_,_,_,_⟩) rfl 38 _ _ rfl w.heap.size _ rfl rfl 38 _ HF5.out SEZ.out rfl WOZ.out ?_))
    refine bodyPost_ret (v := .tuple #[.agg #[.bool false,.slice none 0 0,.slice none 0 0,.slice none 0 0],.int .i64 4]) (results_cell_two Tryz.results61 _ _ w.heap.size 38 #[.bool false,.slice none 0 0,.slice none 0 0,.slice none 0 0] (0,0) _ rfl (setRow_heap _ w.heap.size _ _ _ _ HF5.out) Tryz.underlying38 rfl SEZ.out _ (by simp)) rfl ⟨_,_,_,(by rw [HG.out]; try rfl),by rw [HG.out]; exact nr_zero _,(HBW.out _ HB5.out).trans (setRow_below _ _ (HBW.out _ HB5.out).size (Nat.le_refl _))⟩
  ·have HPT := hid (nput_bad _ _ _ (toldN l) w4 HN4.out HNB.out hck)
   have HG := hid (show getN l = (zeroNode,4) by rw [HGN.out,if_neg (fun h => hck h.1)])
   obtain ⟨ce,hce⟩ : ∃ ce,checkN (toldN l) = ce := ⟨_,rfl⟩
   rw [hce] at HPT HC3 hck
   clear hce
   go_wp2_with (first
    | (with_reducible refine wpList_load_row (o := ⟨some 15,_,_,_,_,_⟩) rfl 38 _ rfl G rfl 38 _ (0,0) _ HA4.out Tryz.underlying38 rfl SE.out ?_))
   refine HPT.out.mono ?_
   rintro e w5 ⟨rfl,hb5⟩
   have HB5 := hid (HB4.out.trans (hb5.mono HB4.out.size))
   have HF5 := hid ((hb5.block _ (Nat.lt_of_lt_of_le HS1.out HB4.out.size)).trans HF4.out)
   clear hb5 HPT HA4 HN4 HF4 HB4 HU4
   rcases HC3.out with rfl | rfl | rfl
   ·exact absurd rfl hck
   ·clear hck
    go_wp2_with (first
     | (with_reducible refine wpList_store_row (o := ⟨none,.store _ (.tmp 2) _,_,_,_,_⟩) rfl 38 _ _ rfl w.heap.size _ rfl rfl 38 _ HF5.out SEZ.out rfl WOZ.out ?_))
    refine bodyPost_ret (v := .tuple #[.agg #[.bool false,.slice none 0 0,.slice none 0 0,.slice none 0 0],.int .i64 4]) (results_cell_two Tryz.results61 _ _ w.heap.size 38 #[.bool false,.slice none 0 0,.slice none 0 0,.slice none 0 0] (0,0) _ rfl (setRow_heap _ w.heap.size _ _ _ _ HF5.out) Tryz.underlying38 rfl SEZ.out _ (by simp)) rfl ⟨_,_,_,(by rw [HG.out]; try rfl),by rw [HG.out]; exact nr_zero _,(HBW.out _ HB5.out).trans (setRow_below _ _ (HBW.out _ HB5.out).size (Nat.le_refl _))⟩
   ·clear hck
    go_wp2_with (first
     | (with_reducible refine wpList_store_row (o := ⟨none,.store _ (.tmp 2) _,_,_,_,_⟩) rfl 38 _ _ rfl w.heap.size _ rfl rfl 38 _ HF5.out SEZ.out rfl WOZ.out ?_))
    refine bodyPost_ret (v := .tuple #[.agg #[.bool false,.slice none 0 0,.slice none 0 0,.slice none 0 0],.int .i64 4]) (results_cell_two Tryz.results61 _ _ w.heap.size 38 #[.bool false,.slice none 0 0,.slice none 0 0,.slice none 0 0] (0,0) _ rfl (setRow_heap _ w.heap.size _ _ _ _ HF5.out) Tryz.underlying38 rfl SEZ.out _ (by simp)) rfl ⟨_,_,_,(by rw [HG.out]; try rfl),by rw [HG.out]; exact nr_zero _,(HBW.out _ HB5.out).trans (setRow_below _ _ (HBW.out _ HB5.out).size (Nat.le_refl _))⟩
 ·have hlb : ((l.length : Int) == 512) = false := by rw [show ((l.length : Int) == 512) = ((l.length : Int) == ((512 : Nat) : Int)) from rfl,cast_beq,decide_eq_false hl]
  have HG := hid (show getN l = (zeroNode,2) by unfold getN; rw [if_pos hl])
  have HB1 := hid hb1
  have HF1 := hid hF1
  have HBW := hid (show ∀ W,Below w1.heap.size w1 W → Below w.heap.size w W from fun W b => hb1.trans (b.mono (Nat.le_of_lt hs1)))
  have HBR := hid (Below.refl w1.heap.size w1)
  clear h hb1 hF1 h1 h63 hl hby hs1
  go_enter Tryz.func61,Tryz.ntmps61
  go_upto_region 1 with fail
  try rw [hw1]
  clear hw1
  go_wp2_with (first
   | (with_reducible refine wpList_store_row (o := ⟨none,.store _ (.tmp 2) _,_,_,_,_⟩) rfl 38 _ _ rfl w.heap.size _ rfl rfl 38 _ HF1.out SEZ.out rfl WOZ.out ?_))
  refine bodyPost_ret (v := .tuple #[.agg #[.bool false,.slice none 0 0,.slice none 0 0,.slice none 0 0],.int .i64 2]) (results_cell_two Tryz.results61 _ _ w.heap.size 38 #[.bool false,.slice none 0 0,.slice none 0 0,.slice none 0 0] (0,0) _ rfl (setRow_heap _ w.heap.size _ _ _ _ HF1.out) Tryz.underlying38 rfl SEZ.out _ (by simp)) rfl ⟨_,_,_,(by rw [HG.out]; try rfl),by rw [HG.out]; exact nr_zero _,(HBW.out _ HBR.out).trans (setRow_below _ _ (HBW.out _ HBR.out).size (Nat.le_refl _))⟩
end
section
set_option maxRecDepth 4000
set_option linter.unusedVariables false
open Go.ChangeShapes Go.WideShapes Go.ChangeAt Go.RowKit
theorem nums_btxt (s : ByteArray) : strOfNums (btxt s) = s := by
 have h : (strOfNums (btxt s)).data.toList = s.data.toList := by
  rw [strOfNums_data]
  unfold btxt
  rw [List.map_map]
  conv => rhs; rw [← List.map_id s.data.toList]
  apply List.map_congr_left
  intro b _
  simp
 cases s with
 | mk d =>
   have h2 : (strOfNums (btxt ⟨d⟩)).data = d := Array.toList_inj.1 h
   exact (show strOfNums (btxt ⟨d⟩) = ⟨(strOfNums (btxt ⟨d⟩)).data⟩ from rfl).trans (by rw [h2])
theorem strA_keyB {s : ByteArray} (h : s.size ≤ 255) (R : List Int) : strA (keyB9 s ++ R) = (s,0,R) := by
 rw [keyB_small h]
 unfold strA
 rw [if_neg (by simp [btxt_length]; omega)]
 simp only [List.cons_append,List.getD_cons_zero,Int.toNat_natCast,List.drop_succ_cons,List.drop_zero]
 rw [List.take_append_of_le_length (by rw [btxt_length]; omega),List.take_of_length_le (by rw [btxt_length]; omega),nums_btxt,Nat.add_comm 1,List.drop_succ_cons,← btxt_length,List.drop_left]
theorem rd_leaf : ∀ (n : Nat) (k v : List ByteArray) (X : List Int),v.length = k.length → (∀ s ∈ k,s.size ≤ 255) → (∀ s ∈ v,s.size ≤ 255) → n ≤ k.length → rdKeys true n ((k.zip v).flatMap pairB ++ X) = (k.take n,v.take n,((k.drop n).zip (v.drop n)).flatMap pairB ++ X)
 | 0,k,v,X,_,_,_,_ => by simp [rdKeys]
 | n + 1,k,v,X,hl,hk,hv,hn => by
   have ih := rd_leaf n k v X hl hk hv (by omega)
   show keyStep true (rdKeys true n _) = _
   rw [ih]
   have e1 : k.drop n = k[n] :: k.drop (n + 1) := List.drop_eq_getElem_cons (by omega)
   have e2 : v.drop n = v[n] :: v.drop (n + 1) := List.drop_eq_getElem_cons (by omega)
   rw [e1,e2,List.zip_cons_cons,List.flatMap_cons]
   unfold keyStep
   have hkb := hk k[n] (List.getElem_mem _)
   have hvb := hv v[n] (List.getElem_mem _)
   have e3 : pairB (k[n],v[n]) = keyB9 k[n] ++ keyB9 v[n] := rfl
   rw [e3,if_pos rfl]
   dsimp only
   rw [List.append_assoc,List.append_assoc,strA_keyB hkb]
   dsimp only
   rw [strA_keyB hvb]
   dsimp only
   rw [List.take_add_one,List.take_add_one,List.getElem?_eq_getElem (by omega),List.getElem?_eq_getElem (by omega)]
   rfl
theorem rd_branch : ∀ (n : Nat) (k : List ByteArray) (X : List Int),(∀ s ∈ k,s.size ≤ 255) → n ≤ k.length → rdKeys false n (k.flatMap keyB9 ++ X) = (k.take n, [],(k.drop n).flatMap keyB9 ++ X)
 | 0,k,X,_,_ => by simp [rdKeys]
 | n + 1,k,X,hk,hn => by
   have ih := rd_branch n k X hk (by omega)
   show keyStep false (rdKeys false n _) = _
   rw [ih]
   have e1 : k.drop n = k[n] :: k.drop (n + 1) := List.drop_eq_getElem_cons (by omega)
   rw [e1,List.flatMap_cons]
   unfold keyStep
   have hkb := hk k[n] (List.getElem_mem _)
   rw [if_neg (by decide)]
   dsimp only
   rw [List.append_assoc,strA_keyB hkb,List.take_add_one,List.getElem?_eq_getElem (by omega)]
   rfl
theorem rd_kids : ∀ (n : Nat) (p : List PtrV) (X : List Int),Byt X → n ≤ p.length → rdKids n (p.flatMap ptrB ++ X) = (p.take n,(p.drop n).flatMap ptrB ++ X)
 | 0,p,X,_,_ => by simp [rdKids]
 | n + 1,p,X,hX,hn => by
   have ih := rd_kids n p X hX (by omega)
   show kidStep (rdKids n _) = _
   rw [ih]
   have e1 : p.drop n = p[n] :: p.drop (n + 1) := List.drop_eq_getElem_cons (by omega)
   rw [e1,List.flatMap_cons]
   unfold kidStep
   dsimp only
   rw [List.append_assoc,getA_ptrB _ _ (by
    intro z hz
    rcases List.mem_append.1 hz with hz | hz
    ·exact flat_byt ptrB _ (fun q _ => ptrB_byt q) z hz
    ·exact hX z hz),List.take_add_one,List.getElem?_eq_getElem (by omega)]
   rfl
theorem told_node {n : NodeV} (h : checkN n = 0) (Z : List Int) (hZ : Byt Z) : toldN (nodeB n ++ Z) = n := by
 obtain ⟨hf,_⟩ := check_ok h
 have h255 := check_255 h
 obtain ⟨hk,hv⟩ := form_small hf
 have hk' : ∀ s ∈ n.ks,s.size ≤ 255 := fun s hs => Nat.le_trans (hk s hs) (by decide)
 have hv' : ∀ s ∈ n.vs,s.size ≤ 255 := fun s hs => Nat.le_trans (hv s hs) (by decide)
 have hc := form_counts hf
 obtain ⟨lf,ks,vs,ps⟩ := n
 cases lf with
 | true =>
   obtain ⟨h1,h2⟩ := counts_leaf rfl hc
   dsimp only at *
   subst h2
   have e0 : nodeB ⟨true,ks,vs, []⟩ ++ Z = 1 :: (ks.length : Int) :: ((ks.zip vs).flatMap pairB ++ Z) := rfl
   rw [e0]
   have r1 : restA (1 :: (ks.length : Int) :: ((ks.zip vs).flatMap pairB ++ Z)) = (ks.length : Int) :: ((ks.zip vs).flatMap pairB ++ Z) := by unfold restA; rw [numA_one,if_neg (by simp)]; rfl
   have r2 : restA ((ks.length : Int) :: ((ks.zip vs).flatMap pairB ++ Z)) = (ks.zip vs).flatMap pairB ++ Z := by unfold restA; rw [numA_one,if_neg (by simp)]; rfl
   have k1 : leafA (1 :: (ks.length : Int) :: ((ks.zip vs).flatMap pairB ++ Z)) = true := by unfold leafA kindA; rw [numA_one,if_neg (by simp)]; rfl
   have c1 : cntA (1 :: (ks.length : Int) :: ((ks.zip vs).flatMap pairB ++ Z)) = ks.length := by unfold cntA; rw [r1,numA_one,if_neg (by simp)]; simp
   unfold toldN
   rw [k1,c1,r1,r2,rd_leaf ks.length ks vs Z h1 hk' hv' (Nat.le_refl _)]
   dsimp only
   rw [List.take_length,show vs.take ks.length = vs by rw [← h1,List.take_length]]
   rfl
 | false =>
   obtain ⟨h0,h1,h2⟩ := counts_branch rfl hc
   dsimp only at *
   subst h1
   have e0 : nodeB ⟨false,ks, [],ps⟩ ++ Z = 2 :: (ks.length : Int) :: (ks.flatMap keyB9 ++ (ps.flatMap ptrB ++ Z)) := by
    show 2 :: (ks.length : Int) :: (ks.flatMap keyB9 ++ ps.flatMap ptrB) ++ Z = _
    simp
   rw [e0]
   generalize hX : ks.flatMap keyB9 ++ (ps.flatMap ptrB ++ Z) = X
   have r1 : restA (2 :: (ks.length : Int) :: X) = (ks.length : Int) :: X := by unfold restA; rw [numA_one,if_neg (by simp)]; rfl
   have r2 : restA ((ks.length : Int) :: X) = X := by unfold restA; rw [numA_one,if_neg (by simp)]; rfl
   have k1 : leafA (2 :: (ks.length : Int) :: X) = false := by unfold leafA kindA; rw [numA_one,if_neg (by simp)]; rfl
   have c1 : cntA (2 :: (ks.length : Int) :: X) = ks.length := by unfold cntA; rw [r1,numA_one,if_neg (by simp)]; simp
   unfold toldN
   rw [k1,c1,r1,r2,← hX,rd_branch ks.length ks _ hk' (Nat.le_refl _)]
   dsimp only
   rw [if_neg (by decide),List.drop_length,List.flatMap_nil,List.nil_append,← h2,rd_kids ps.length ps Z hZ (Nat.le_refl _)]
   simp
theorem nodeB_byt {n : NodeV} (h : checkN n = 0) : Byt (nodeB n) := by
 have h255 := check_255 h
 intro z hz
 unfold nodeB at hz
 split at hz
 ·rcases List.mem_cons.1 hz with rfl | hz
  ·omega
  ·rcases List.mem_cons.1 hz with rfl | hz
   ·omega
   ·exact flat_byt pairB _ (fun q _ z hz => by
     rcases List.mem_append.1 hz with hz | hz
     ·exact keyB9_byt _ z hz
     ·exact keyB9_byt _ z hz) z hz
 ·rcases List.mem_cons.1 hz with rfl | hz
  ·omega
  ·rcases List.mem_cons.1 hz with rfl | hz
   ·omega
   ·rcases List.mem_append.1 hz with hz | hz
    ·exact flat_byt keyB9 _ (fun s _ => keyB9_byt s) z hz
    ·exact flat_byt ptrB _ (fun q _ => ptrB_byt q) z hz
theorem secB9_length {n : NodeV} (h : checkN n = 0) : (secB9 n).length = 512 := by
 obtain ⟨hf,hz⟩ := check_ok h
 unfold secB9
 rw [List.length_append,List.length_replicate,nodeB_length hf]
 omega
theorem get_sec {n : NodeV} (h : checkN n = 0) : getN (secB9 n) = (n,0) := by
 have e : toldN (secB9 n) = n := told_node h _ (byt_zeros _)
 unfold getN
 rw [if_neg (by rw [secB9_length h]; simp),e,if_pos ⟨h,rfl⟩]
def sameN (a b : NodeV) : Bool := (a.lf == b.lf) && decide (a.ks = b.ks) && decide (a.vs = b.vs) && decide (a.ps = b.ps)
theorem sameN_refl (a : NodeV) : sameN a a = true := by unfold sameN; simp
set_option maxRecDepth 100000 in
set_option maxHeartbeats 3200000 in
theorem nsame_any (k v p k' v' p' : Value) (a b : NodeV) (w : World) (ha : NR w k v p a) (hb : NR w k' v' p' b) (na : NB a) (nb : NB b) (pa : a.ps.length ≤ 1000000) (pb : b.ps.length ≤ 1000000) :
 Calls Tryz.prog 34 #[.agg #[.bool a.lf,k,v,p],.agg #[.bool b.lf,k',v',p']] w fun e w' => e = .returned (.bool (sameN a b)) ∧ Below w.heap.size w w' := by
 have two : ∀ (x y : Array Value),∃ w1 w2 : World,w1 = w.alloc (.cells x 38) ∧ w2 = w1.alloc (.cells y 38) ∧ w1.heap.size = w.heap.size + 1 ∧ w2.heap[w.heap.size]? = some (.cells x 38 (0,0)) ∧ w2.heap[w.heap.size + 1]? = some (.cells y 38 (0,0)) ∧ Below w.heap.size w w2 ∧ w2.heap.size = w.heap.size + 2 := by
  intro x y
  have hb1 := (Below.refl w.heap.size w).alloc (Nat.le_refl _) (.cells x 38)
  have hs1 : (w.alloc (.cells x 38)).heap.size = w.heap.size + 1 := by simp
  refine ⟨_,_,rfl,rfl,hs1,(heap_alloc_old _ _ (by rw [hs1]; omega)).trans (heap_alloc_new w _), ?_,hb1.alloc hb1.size _,by simp⟩
  rw [← hs1]
  exact heap_alloc_new _ _
 obtain ⟨w1,w2,hw1,hw2,hs1,hA,hB,hb2,hs2⟩ := two #[.bool a.lf,k,v,p] #[.bool b.lf,k',v',p']
 have HK := hid (fun W (q : Below w2.heap.size w2 W) => seq_any W k k' a.ks b.ks ((ha.ks.below hb2).below q) ((hb.ks.below hb2).below q) na.kl nb.kl)
 have HV := hid (fun W (q : Below w2.heap.size w2 W) => seq_any W v v' a.vs b.vs ((ha.vs.below hb2).below q) ((hb.vs.below hb2).below q) na.vl nb.vl)
 have HP := hid (fun W (q : Below w2.heap.size w2 W) => peq_any W p p' a.ps b.ps ((ha.ps.below hb2).below q) ((hb.ps.below hb2).below q) pa pb)
 have HE := hid (show sameN a b = ((a.lf == b.lf) && decide (a.ks = b.ks) && decide (a.vs = b.vs) && decide (a.ps = b.ps)) from rfl)
 have HAT := hid (fun W (q : Below w2.heap.size w2 W) => (q.block w.heap.size (by omega)).trans hA)
 have HBT := hid (fun W (q : Below w2.heap.size w2 W) => (q.block (w.heap.size + 1) (by omega)).trans hB)
 have HBW := hid (show ∀ W,Below w2.heap.size w2 W → Below w.heap.size w W from fun W q => hb2.trans (q.mono hb2.size))
 rw [HE.out]
 generalize decide (a.ks = b.ks) = dk at *
 generalize decide (a.vs = b.vs) = dv at *
 generalize decide (a.ps = b.ps) = dp at *
 generalize a.lf = la at *
 generalize b.lf = lb at *
 clear ha hb na nb pa pb HE two hA hB hs2
 obtain ⟨a0,a1,a2,a3⟩ := node_at (HAT.out w2 (Below.refl _ _))
 obtain ⟨b0,b1,b2,b3⟩ := node_at (HBT.out w2 (Below.refl _ _))
 have HR2 := hid (Below.refl w2.heap.size w2)
 go_enter Tryz.func34,Tryz.ntmps34
 go_upto_region 1 with fail
 try simp only [← hw1,← hw2]
 clear hw1 hw2 hs1 hb2
 cases hl : (la == lb) with
 | false =>
   have HL := hid hl
   go_wp2_with fail
   go_ret
   rw [HL.out]
   exact ⟨rfl,HBW.out _ HR2.out⟩
 | true =>
   have HL := hid hl
   go_wp2_with fail
   refine (HK.out w2 HR2.out).mono ?_
   rintro e w3 ⟨rfl,hb3⟩
   have HB3 := hid hb3
   obtain ⟨_,_,d2,_⟩ := node_at (HAT.out w3 hb3)
   obtain ⟨_,_,e2,_⟩ := node_at (HBT.out w3 hb3)
   clear hb3 HK a0 a1 a2 a3 b0 b1 b2 b3
   cases dk with
   | false =>
     go_wp2_with fail
     go_ret
     rw [HL.out]
     exact ⟨rfl,HBW.out _ HB3.out⟩
   | true =>
     go_wp2_with fail
     refine (HV.out w3 HB3.out).mono ?_
     rintro e w4 ⟨rfl,hb4⟩
     have hq := HB3.out.trans (hb4.mono HB3.out.size)
     have HB4 := hid hq
     obtain ⟨_,_,_,d3⟩ := node_at (HAT.out w4 hq)
     obtain ⟨_,_,_,e3⟩ := node_at (HBT.out w4 hq)
     clear hb4 hq HV HB3 d2 e2
     cases dv with
     | false =>
       go_wp2_with fail
       go_ret
       rw [HL.out]
       exact ⟨rfl,HBW.out _ HB4.out⟩
     | true =>
       go_wp2_with fail
       refine (HP.out w4 HB4.out).mono ?_
       rintro e w5 ⟨rfl,hb5⟩
       have HB5 := hid (HB4.out.trans (hb5.mono HB4.out.size))
       clear hb5 HP HB4 d3 e3
       cases dp <;>
       ·go_wp2_with fail
        go_ret
        rw [HL.out]
        exact ⟨rfl,HBW.out _ HB5.out⟩
end
end Go.Proofs.YtgckapolpifbkaaGreatDoor
