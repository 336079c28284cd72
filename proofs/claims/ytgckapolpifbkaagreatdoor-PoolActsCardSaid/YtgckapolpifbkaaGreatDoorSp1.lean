import Derived.Test.YtgckapolpifbkaaGreatDoorSp0
import Derived.Test.YtgckapolpifbkaaGreatDoorBy
import Derived.Maps.OwnSet
import Derived.Maps.AppendAt
import Derived.Maps.RangeWalk
import Derived.Deep.QuietTactic
namespace Go.Proofs.YtgckapolpifbkaaGreatDoor
open Lib (hid)
section
set_option maxRecDepth 4000
set_option linter.unusedVariables false
open Go.ChangeShapes Go.WideShapes Go.ChangeAt Go.RowKit
theorem us_slr {w : World} {x : List Int} {a : Option Addr} {n c : Nat} (h : SlR (RInt .u32 0 4294967295) 1 w x a n c) : US w a n c (x.map Int.toNat) := by
 have hs : ∀ (i : Nat) (hi : i < x.length),0 ≤ x[i] ∧ x[i] ≤ 4294967295 := fun i hi => by
  obtain ⟨b,off,cs,_,h2,_⟩ := h.here i hi
  exact h2.2
 refine ⟨by rw [List.length_map]; exact h.len,fun y hy => ?_, ?_⟩
 ·obtain ⟨z,hz,rfl⟩ := List.mem_map.1 hy
  obtain ⟨i,hi,rfl⟩ := List.getElem_of_mem hz
  have := hs i hi
  omega
 ·by_cases h0 : n = 0
  ·left
   have := h.len
   rw [List.map_eq_nil_iff]
   exact List.eq_nil_of_length_eq_zero (by omega)
  ·right
   obtain ⟨b,off,cs,h1,_⟩ := h.here 0 (by rw [h.len]; omega)
   refine ⟨b,off,h1,fun i hi => ?_⟩
   have hix : i < x.length := by rw [h.len]; exact hi
   obtain ⟨b',off',cs',h1',h2',_,h5'⟩ := h.here i hix
   rw [h1] at h1'
   injection h1' with e
   injection e with e1 e2
   subst e1 e2
   have hc := h5' 0 (.int .u32 x[i]) (by rw [h2'.1]; rfl)
   rw [Nat.mul_one,Nat.add_zero] at hc
   rw [hc]
   have e : (x.map Int.toNat).getD i 0 = x[i].toNat := by simp [List.getD,hix]
   rw [e]
   have := hs i hix
   congr 2
   omega
theorem opn_u32 : Opn 41 (RInt .u32 0 4294967295) := opn_int .u32 _ _ Tryz.underlying41 wf_u32
theorem opn_u32s : Opn 40 (RSl (RInt .u32 0 4294967295) 1) := opn_slice 1 Tryz.underlying40 (by kernel_rfl) (by decide) (of_decide_eq_true (by kernel_rfl)) opn_u32
theorem updF_back (F : Nat → Bool) (a : Nat) (h : F a = true) : updF (updF F a false) a true = F := by rw [updF_twice,updF_self _ _ _ h]
theorem same_at {l m : List Nat} {n i : Nat} (hl : l.length = n) (hm : m.length = n) (hi : i < n) (h : l.take i = m.take i) : l.take (i + 1) = m.take (i + 1) ↔ l.getD i 0 = m.getD i 0 := by
 rw [List.take_succ_eq_append_getElem (l := l) (i := i) (by omega),List.take_succ_eq_append_getElem (l := m) (i := i) (by omega),h,List.append_right_inj]
 simp [List.getD,show i < l.length by omega,show i < m.length by omega]
set_option maxRecDepth 100000 in
set_option maxHeartbeats 1600000 in
theorem rsame11_any (a b : Option Addr) (n k c d : Nat) (l m : List Nat) (w : World) (hl : US w a n c l) (hm : US w b k d m) (hn : n ≤ 140737488351232) (hk : k ≤ 140737488351232) :
 Calls Tryz.prog 26 #[.slice a n c,.slice b k d] w fun e w' => e = .returned (.bool (decide (l = m))) ∧ Below w.heap.size w w' := by
 by_cases hnk : n = k
 ·subst hnk
  have HL := hid hl
  have HM := hid hm
  have HN := hid (And.intro hl.len hm.len)
  have nI : (n : Int) ≤ 140737488351232 := by omega
  clear hl hm hn hk
  go_enter Tryz.func26,Tryz.ntmps26
  go_wp2_with fail
  go_loopw [5,13] (fun _ v13 wr => ∃ i : Nat,i ≤ n ∧ v13 = .int .i64 (i : Int) ∧ l.take i = m.take i ∧ Below w.heap.size w wr) (fun _ v _ => n - (intOf v).toNat)
  case atStart => exact ⟨0,by omega,rfl,rfl,Below.refl _ _⟩
  case round =>
   obtain ⟨i,hi,rfl,ht,hb⟩ := hrel
   by_cases hlt : i < n
   ·obtain ⟨b1,o1,rfl,c1⟩ := (HL.out.below hb).at hlt
    obtain ⟨b2,o2,rfl,c2⟩ := (HM.out.below hb).at hlt
    have i1 := index_u32 b1 o1 n c i hlt
    have i2 := index_u32 b2 o2 n d i hlt
    have HS := hid (same_at HN.out.1 HN.out.2 hlt ht)
    have HB := hid hb
    have HLT := hid hlt
    have iI : (i : Int) < (n : Int) := by omega
    have i0 : (0 : Int) ≤ (i : Int) := by omega
    generalize l.getD i 0 = x at *
    generalize m.getD i 0 = y at *
    clear ht hb hlt hi
    by_cases hxy : x = y
    ·subst hxy
     have HT := hid (HS.out.2 rfl)
     clear HS
     go_wp2_with fail
     go_quiet (fail)
     go_wp2_with fail
     go_roundw
     case rel => exact ⟨i + 1,by have := HLT.out; omega,by go_num,HT.out,ybelow_drewN HB.out _⟩
     case measure => simp [intOf]; omega
    ·have hne : ((x : Int) != (y : Int)) = true := by simp; omega
     have HE := hid (show decide (l = m) = false from decide_eq_false fun e => hxy (HS.out.1 (by rw [e])))
     clear HS hxy
     go_wp2_with fail
     go_quiet (fail)
     go_wp2_with fail
     go_ret
     exact ⟨by rw [HE.out]; rfl,ybelow_drewN HB.out _⟩
   ·obtain rfl : i = n := by omega
    have HE := hid (show decide (l = m) = true from decide_eq_true (by
     rw [List.take_of_length_le (by rw [HN.out.1]; omega),List.take_of_length_le (by rw [HN.out.2]; omega)] at ht
     exact ht))
    have HB := hid hb
    clear ht hb hlt hi
    go_wp2_with fail
    go_ret
    exact ⟨by rw [HE.out]; rfl,HB.out⟩
 ·have hne : decide (l = m) = false := decide_eq_false fun e => hnk (by rw [← hl.len,← hm.len,e])
  rw [hne]
  have nk : ((n : Int) != (k : Int)) = true := by simp; omega
  clear hl hm hne hnk
  go_enter Tryz.func26,Tryz.ntmps26
  go_wp2_with fail
  go_ret
  exact ⟨rfl,Below.refl _ _⟩
end
section
set_option maxRecDepth 4000
set_option linter.unusedVariables false
open Go.ChangeShapes Go.WideShapes Go.ChangeAt Go.RowKit
end
section
set_option maxRecDepth 4000
set_option linter.unusedVariables false
open Go.ChangeShapes Go.WideShapes Go.ChangeAt Go.RowKit
theorem touch_set (w : World) (g i : Nat) (v : Value) : Touch [g] w (w.setCell ⟨g,i,none⟩ v) := Touch.of_only ((Only.refl g w).setCell i v) (by simp)
end
section
set_option maxRecDepth 4000
set_option linter.unusedVariables false
open Go.ChangeShapes Go.WideShapes Go.ChangeAt Go.RowKit
open Go.Maps (Keyed)
def ku (a : Nat) : Lit := .int .u32 (a : Int)
theorem ku_ne {a b : Nat} (h : a ≠ b) : ku a ≠ ku b := fun e => by unfold ku at e; injection e with _ e; omega
theorem keyof_u32 (a : Nat) (h : a < 4294967296) : keyOf Tryz.prog 41 (.int .u32 (a : Int)) = some (ku a) := Maps.keyOf_int_mk Tryz.underlying41 (by
 simp [Lit.wf,IntKind.min,IntKind.max,IntKind.bits,IntKind.signed]; omega)
def inB (n : Nat) (l : List Nat) : Bool := l.all fun x => decide (2 ≤ x) && decide (x < n)
theorem inB_iff (n : Nat) (l : List Nat) : inB n l = true ↔ allIn n l := by simp [inB,allIn]
end
section
set_option maxRecDepth 4000
set_option linter.unusedVariables false
open Go.ChangeShapes Go.WideShapes Go.ChangeAt Go.RowKit
open Go.Maps (Keyed)
end
section
set_option maxRecDepth 4000
set_option linter.unusedVariables false
open Go.ChangeShapes Go.WideShapes Go.ChangeAt Go.RowKit
def takF (n : Nat) (F : Nat → Bool) : Nat → Bool := fun a => allF n a && !F a
def boolsF (t : Nat → Bool) (n : Nat) : List Value := (List.range n).map fun i => .bool (t i)
theorem boolsF_len (t : Nat → Bool) (n : Nat) : (boolsF t n).length = n := by simp [boolsF]
theorem boolsF_at (t : Nat → Bool) (n i : Nat) (h : i < n) : (boolsF t n)[i]? = some (.bool (t i)) := by simp [boolsF,h]
theorem takF_in {n a : Nat} (F : Nat → Bool) (h0 : 2 ≤ a) (h1 : a < n) : takF n F a = !F a := by unfold takF allF; simp [h0,h1]
theorem takF_out {n a : Nat} (F : Nat → Bool) (h : a < 2 ∨ n ≤ a) : takF n F a = false := by
 unfold takF allF
 rcases h with h | h
 ·rw [decide_eq_false (show ¬ 2 ≤ a by omega)]; rfl
 ·rw [decide_eq_false (show ¬ a < n by omega),Bool.and_false]; rfl
theorem boolsF_set (F : Nat → Bool) (n a : Nat) (b : Bool) (h0 : 2 ≤ a) (h1 : a < n) : (boolsF (takF n F) n).set a (.bool b) = boolsF (takF n (updF F a (!b))) n := by
 apply List.ext_getElem?
 intro i
 rw [List.getElem?_set,boolsF_len]
 by_cases e : a = i
 ·subst e
  rw [if_pos rfl,if_pos h1,boolsF_at _ _ _ h1,takF_in _ h0 h1,updF_same]
  cases b <;> rfl
 ·rw [if_neg e]
  by_cases hi : i < n
  ·rw [boolsF_at _ _ _ hi,boolsF_at _ _ _ hi]
   unfold takF
   rw [updF_other F a i _ (Ne.symm e)]
  ·rw [List.getElem?_eq_none (by rw [boolsF_len]; omega),List.getElem?_eq_none (by rw [boolsF_len]; omega)]
theorem boolsF_none (n : Nat) : boolsF (takF n (allF n)) n = List.replicate n (.bool false) := by
 apply List.ext_getElem?
 intro i
 by_cases hi : i < n
 ·rw [boolsF_at _ _ _ hi,List.getElem?_replicate,if_pos hi]
  unfold takF
  cases allF n i <;> rfl
 ·rw [List.getElem?_eq_none (by rw [boolsF_len]; omega),List.getElem?_eq_none (by simp; omega)]
structure RW11 (w : World) (M G n : Nat) (F : Nat → Bool) : Prop where
 cell : w.heap[M]? = some (.cells #[.slice (some ⟨G,0,none⟩) n n] 105 (0,0))
 row : w.heap[G]? = some (.cells (boolsF (takF n F) n).toArray 4 (0,0))
 lo : 16 ≤ n
 hi : n ≤ 4096
theorem RW11.at {w : World} {M G n : Nat} {F : Nat → Bool} (h : RW11 w M G n F) : w.cell? ⟨M,0,none⟩ = some (.slice (some ⟨G,0,none⟩) n n) := cell_of_row _ _ _ _ _ _ h.cell
theorem RW11.freeM {w : World} {M G n : Nat} {F : Nat → Bool} (h : RW11 w M G n F) : w.frozen? ⟨M,0,none⟩ = false := frozen_of_row _ _ _ _ _ h.cell
theorem RW11.flag {w : World} {M G n : Nat} {F : Nat → Bool} (h : RW11 w M G n F) (i : Nat) (hi : i < n) : w.cell? ⟨G,i,none⟩ = some (.bool (takF n F i)) := by
 rw [cell_of_row _ _ _ _ _ _ h.row,List.getElem?_toArray,boolsF_at _ _ _ hi]
theorem RW11.freeG {w : World} {M G n : Nat} {F : Nat → Bool} (h : RW11 w M G n F) (i : Nat) : w.frozen? ⟨G,i,none⟩ = false := frozen_of_row _ _ _ _ _ h.row
theorem RW11.ltM {w : World} {M G n : Nat} {F : Nat → Bool} (h : RW11 w M G n F) : M < w.heap.size := (Array.getElem?_eq_some_iff.1 h.cell).1
theorem RW11.ltG {w : World} {M G n : Nat} {F : Nat → Bool} (h : RW11 w M G n F) : G < w.heap.size := (Array.getElem?_eq_some_iff.1 h.row).1
theorem RW11.ne {w : World} {M G n : Nat} {F : Nat → Bool} (h : RW11 w M G n F) : M ≠ G := fun e => by
 have h1 := h.cell
 rw [e,h.row] at h1
 injection h1 with h1
 injection h1 with h1
 have h2 := congrArg Array.size h1
 simp [boolsF_len] at h2
 have := h.lo
 omega
theorem RW11.touch {w w' : World} {M G n : Nat} {F : Nat → Bool} {l : List Nat} (h : RW11 w M G n F) (t : Touch l w w') (hM : M ∉ l) (hG : G ∉ l) : RW11 w' M G n F :=
 ⟨(t.block M h.ltM hM).trans h.cell,(t.block G h.ltG hG).trans h.row,h.lo,h.hi⟩
theorem RW11.below {w w' : World} {M G n : Nat} {F : Nat → Bool} (h : RW11 w M G n F) (t : Below w.heap.size w w') : RW11 w' M G n F :=
 ⟨(t.block M h.ltM).trans h.cell,(t.block G h.ltG).trans h.row,h.lo,h.hi⟩
theorem RW11.set {w : World} {M G n : Nat} {F : Nat → Bool} (h : RW11 w M G n F) (a : Nat) (b : Bool) (h0 : 2 ≤ a) (h1 : a < n) : RW11 (w.setCell ⟨G,a,none⟩ (.bool b)) M G n (updF F a (!b)) := by
 refine ⟨?_, ?_,h.lo,h.hi⟩
 ·rw [heap_setCell_other w ⟨G,a,none⟩ M _ h.ne]; exact h.cell
 ·rw [heap_setCell_same w G a _ _ _ h.row]
  congr 2
  rw [List.setIfInBounds_toArray,boolsF_set F n a b h0 h1]
theorem index_bool (k : IntKind) (G n i : Nat) (h : i < n) (W : World) : (Instr.indexAt 103 (.slice (some ⟨G,0,none⟩) n n) (.int k (i : Int))).run Tryz.prog W = .ok (.pointer (some ⟨G,i,none⟩)) W := by
 obtain ⟨i0,hi,hs⟩ := Option.map_eq_some_iff.1 (show (Tryz.prog.info? 4).map (·.size) = some 1 by kernel_rfl)
 simp [Instr.indexAt,asIntOf,run_underlying Tryz.underlying103,sizeOf,typeInfo,hi,hs,h,Addr.add_mid]
theorem info_bool11 : (Tryz.prog.info? 4).map (fun i => (i.zero,i.size,i.bytes)) = some (some (.bool false),1,1) := by kernel_rfl
theorem make_bools (n : Nat) (h : n ≤ 100000000) (w : World) : (Instr.makeSlice 103 (.int .i64 (n : Int)) (.int .i64 (n : Int))).run Tryz.prog w = .ok (.slice (some ⟨w.heap.size,0,none⟩) n n) (w.alloc (.cells (boolsF (takF n (allF n)) n).toArray 4)) := by
 rw [run_make_row' 103 4 (.bool false) 1 Tryz.underlying103 info_bool11 rfl .i64 .i64 n (by omega) (by omega) w,boolsF_none]
 congr 3
 apply Array.ext'
 rw [toList_madeCells_one]
theorem zero_rspace (W : World) : (zeroValue 105).run Tryz.prog W = .ok (.agg #[.slice none 0 0]) W := by kernel_rfl
set_option maxHeartbeats 1000000 in
theorem rnew11_ok (n : Nat) (w : World) (h0 : 16 ≤ n) (h1 : n ≤ 4096) : Calls Tryz.prog 41 #[.int .i64 (n : Int)] w fun e w' => e = .returned (.tuple #[.pointer (some ⟨w.heap.size + 1,0,none⟩),.bool true]) ∧ RW11 w' (w.heap.size + 1) w.heap.size n (allF n) ∧ Below w.heap.size w w' := by
 have nI0 : (16 : Int) ≤ (n : Int) := by omega
 have nI1 : (n : Int) ≤ 4096 := by omega
 have hmk := make_bools n (by omega)
 have hz := zero_rspace
 have HN := hid (And.intro h0 h1)
 clear h0 h1
 obtain ⟨RB,hRB⟩ : ∃ RB,(boolsF (takF n (allF n)) n).toArray = RB := ⟨_,rfl⟩
 rw [hRB] at hmk
 have HRB := hid hRB
 clear hRB
 go_enter Tryz.func41,Tryz.ntmps41
 go_wp2_with fail
 have h1 := heap_alloc_new (w.alloc (.cells RB 4)) (.cells #[.slice (some ⟨w.heap.size,0,none⟩) n n] 105)
 have hsz : (w.alloc (.cells RB 4)).heap.size = w.heap.size + 1 := by simp
 have hba := (Below.refl w.heap.size w).alloc (Nat.le_refl _) (.cells RB 4)
 have hbb := (Below.refl (w.alloc (.cells RB 4)).heap.size (w.alloc (.cells RB 4))).alloc (Nat.le_refl _) (.cells #[.slice (some ⟨w.heap.size,0,none⟩) n n] 105)
 have h0 := (hbb.block w.heap.size (by omega)).trans (heap_alloc_new w (.cells RB 4))
 rw [hsz] at h1
 go_ret2
 exact ⟨rfl,⟨h1,by rw [HRB.out]; exact h0,HN.out.1,HN.out.2⟩,hba.trans (hbb.mono (by omega))⟩
theorem ris_any (M G n a : Nat) (F : Nat → Bool) (w : World) (h : RW11 w M G n F) (ha : a < 4294967296) : Calls Tryz.prog 43 #[.pointer (some ⟨M,0,none⟩),.int .u32 (a : Int)] w fun e w' => e = .returned (.bool (allF n a)) ∧ w' = w := by
 have hc := h.at
 have nI : (n : Int) ≤ 4096 := by have := h.hi; omega
 have n0 : (0 : Int) ≤ (n : Int) := by omega
 have a0 : (0 : Int) ≤ (a : Int) := by omega
 have aI : (a : Int) < 4294967296 := by omega
 clear h
 by_cases h1 : a < 2
 ·rw [show allF n a = false by unfold allF; rw [decide_eq_false (by omega)]; rfl]
  have h2 : (a : Int) < 2 := by omega
  clear h1 nI n0 a0 aI hc ha
  go_enter Tryz.func43,Tryz.ntmps43
  go_wp2
  go_ret
  exact ⟨rfl,rfl⟩
 ·have h2 : (2 : Int) ≤ (a : Int) := by omega
  by_cases h3 : a < n
  ·rw [show allF n a = true by unfold allF; rw [decide_eq_true (by omega),decide_eq_true h3]; rfl]
   have h4 : (a : Int) < (n : Int) := by omega
   clear h1
   go_enter Tryz.func43,Tryz.ntmps43
   go_wp2
   go_ret
   exact ⟨rfl,rfl⟩
  ·rw [show allF n a = false by unfold allF; rw [decide_eq_false h3,Bool.and_false]]
   have h4 : (n : Int) ≤ (a : Int) := by omega
   clear h1
   go_enter Tryz.func43,Tryz.ntmps43
   go_wp2
   go_ret
   exact ⟨rfl,rfl⟩
end
section
set_option maxRecDepth 4000
set_option linter.unusedVariables false
open Go.ChangeShapes Go.WideShapes Go.ChangeAt Go.RowKit
theorem us_ne {w : World} {M G n len cap : Nat} {F : Nat → Bool} {a : Option Addr} {l : List Nat} (h : RW11 w M G n F) (hu : US w a len cap l) (hl : 0 < len) (b off : Nat) (ha : a = some ⟨b,off,none⟩) : b ≠ M := by
 intro e
 subst e
 obtain ⟨b',off',ha',hc⟩ := hu.at hl
 rw [ha] at ha'
 injection ha' with e
 injection e with e1 e2
 subst e1
 rw [cell_of_row _ _ _ _ _ _ h.cell] at hc
 have h9 := (Array.getElem?_eq_some_iff.1 hc).1
 have h8 : off' + 0 = 0 := by simp at h9; omega
 rw [h8] at hc
 simp at hc
theorem touch_new {w0 w : World} {M G : Nat} (h : Touch [M] w0 w) (hG : w0.heap.size ≤ G) (a : Nat) (v : Value) : Touch [M] w0 (w.setCell ⟨G,a,none⟩ v) := by
 have t := touch_set w G a v
 refine ⟨t.os.trans h.os,t.tape.trans h.tape,t.output.trans h.output,Nat.le_trans h.size t.size,fun k hk hn => ?_⟩
 exact (t.block k (Nat.lt_of_lt_of_le hk h.size) (by simp; omega)).trans (h.block k hk hn)
set_option maxHeartbeats 1000000 in
theorem rfree11_any (M G n a : Nat) (F : Nat → Bool) (w : World) (h : RW11 w M G n F) (ha : a < 4294967296) :
 Calls Tryz.prog 22 #[.pointer (some ⟨M,0,none⟩),.int .u32 (a : Int)] w fun e w' => e = .returned (.int .i64 (freeA n F a).1) ∧ RW11 w' M G n (freeA n F a).2 ∧ Touch [G] w w' := by
 have his := ris_any M G n a F w h ha
 unfold freeA
 by_cases hb : a < 2 ∨ n ≤ a
 ·rw [if_pos hb]
  rw [show allF n a = false by unfold allF; rcases hb with hb | hb; (rw [decide_eq_false (by omega)]; rfl); (rw [decide_eq_false (show ¬ a < n by omega),Bool.and_false])] at his
  have HI := hid his
  have HH := hid h
  clear his h hb
  go_enter Tryz.func22,Tryz.ntmps22
  go_wp2_with fail
  refine HI.out.mono ?_
  rintro e w2 ⟨rfl,rfl⟩
  clear HI
  go_wp2_with fail
  go_ret
  exact ⟨rfl,HH.out,Touch.refl _ _⟩
 ·rw [if_neg hb]
  rw [show allF n a = true by unfold allF; rw [decide_eq_true (by omega),decide_eq_true (by omega)]; rfl] at his
  have HI := hid his
  have HH := hid h
  have c0 := h.at
  have cG := h.flag a (by omega)
  have fG := h.freeG a
  rw [takF_in F (by omega) (by omega)] at cG
  have hix := index_bool .u32 G n a (by omega)
  have HR := hid (show 2 ≤ a ∧ a < n from ⟨by omega,by omega⟩)
  have aI : (a : Int) < (n : Int) := by omega
  have a0 : (0 : Int) ≤ (a : Int) := by omega
  have nI : (n : Int) ≤ 4096 := by have := h.hi; omega
  cases hF : F a with
  | true =>
    rw [hF] at cG
    rw [if_pos rfl]
    clear his h hb hF
    go_enter Tryz.func22,Tryz.ntmps22
    go_wp2_with fail
    refine HI.out.mono ?_
    rintro e w2 ⟨rfl,rfl⟩
    clear HI
    go_wp2_with fail
    go_ret
    exact ⟨rfl,HH.out,Touch.refl _ _⟩
  | false =>
    rw [hF] at cG
    rw [if_neg (by simp)]
    clear his h hb hF
    go_enter Tryz.func22,Tryz.ntmps22
    go_wp2_with fail
    refine HI.out.mono ?_
    rintro e w2 ⟨rfl,rfl⟩
    clear HI
    go_wp2_with fail
    go_ret
    exact ⟨rfl,HH.out.set a false HR.out.1 HR.out.2,touch_set _ G a _⟩
set_option maxRecDepth 100000 in
set_option maxHeartbeats 1600000 in
theorem rtake11_full (M G n : Nat) (F : Nat → Bool) (w : World) (h : RW11 w M G n F) (hF : ∀ a,F a = false) :
 Calls Tryz.prog 48 #[.pointer (some ⟨M,0,none⟩)] w fun e w' => e = .returned (.tuple #[.int .u32 0,.int .i64 6]) ∧ w' = w := by
 have c0 := h.at
 have HH := hid h
 have HF := hid hF
 have hlo := h.lo
 have nI : (n : Int) ≤ 4096 := by have := h.hi; omega
 clear h hF
 go_enter Tryz.func48,Tryz.ntmps48
 go_wp2_with fail
 go_loopw [4] (fun v4 wr => ∃ i : Nat,2 ≤ i ∧ i ≤ n ∧ v4 = .int .i64 (i : Int) ∧ wr = w) (fun v _ => n - (intOf v).toNat)
 case atStart => exact ⟨2,by omega,by omega,rfl,rfl⟩
 case round =>
  obtain ⟨i,hi2,hin,rfl,rfl⟩ := hrel
  by_cases hlt : i < n
  ·have cG := HH.out.flag i hlt
   rw [takF_in F hi2 hlt,HF.out] at cG
   have hix := index_bool .i64 G n i hlt
   have iI : (i : Int) < (n : Int) := by omega
   have i0 : (2 : Int) ≤ (i : Int) := by omega
   go_wp2_with fail
   go_roundw
   case rel => exact ⟨i + 1,by omega,by omega,by go_num,trivial⟩
   case measure => simp [intOf]; omega
  ·obtain rfl : i = n := by omega
   go_wp2_with fail
   go_ret2
   exact ⟨rfl,rfl⟩
set_option maxRecDepth 100000 in
set_option maxHeartbeats 1600000 in
theorem rtake11_ok (M G n a : Nat) (F : Nat → Bool) (w : World) (h : RW11 w M G n F) (ha : F a = true) (hr : 2 ≤ a ∧ a < n) (hlow : ∀ x,x < a → F x = false) :
 Calls Tryz.prog 48 #[.pointer (some ⟨M,0,none⟩)] w fun e w' => e = .returned (.tuple #[.int .u32 (a : Int),.int .i64 0]) ∧ RW11 w' M G n (updF F a false) ∧ Touch [G] w w' := by
 have c0 := h.at
 have HH := hid h
 have HF := hid (And.intro ha hlow)
 have HR := hid hr
 have nI : (n : Int) ≤ 4096 := by have := h.hi; omega
 clear h ha hlow hr
 go_enter Tryz.func48,Tryz.ntmps48
 go_wp2_with fail
 go_loopw [4] (fun v4 wr => ∃ i : Nat,2 ≤ i ∧ i ≤ a ∧ v4 = .int .i64 (i : Int) ∧ wr = w) (fun v _ => n - (intOf v).toNat)
 case atStart => exact ⟨2,by omega,HR.out.1,rfl,rfl⟩
 case round =>
  obtain ⟨i,hi2,hia,rfl,rfl⟩ := hrel
  have hra := HR.out
  have cG := HH.out.flag i (by omega)
  rw [takF_in F hi2 (by omega)] at cG
  have hix := index_bool .i64 G n i (by omega)
  have iI : (i : Int) < (n : Int) := by omega
  have i0 : (2 : Int) ≤ (i : Int) := by omega
  by_cases hlt : i < a
  ·rw [HF.out.2 i hlt] at cG
   go_wp2_with fail
   go_roundw
   case rel => exact ⟨i + 1,by omega,by omega,by go_num,trivial⟩
   case measure => simp [intOf]; omega
  ·obtain rfl : a = i := by omega
   rw [HF.out.1] at cG
   have fG := HH.out.freeG a
   have HQ := hid hra
   clear hlt hia hi2 hra
   go_wp2_with fail
   go_ret2
   exact ⟨rfl,HH.out.set a true HQ.out.1 HQ.out.2,touch_set _ G a _⟩
set_option maxRecDepth 100000 in
set_option maxHeartbeats 1600000 in
theorem rtaken11_any (M G n : Nat) (F : Nat → Bool) (w : World) (h : RW11 w M G n F) :
 Calls Tryz.prog 28 #[.pointer (some ⟨M,0,none⟩)] w fun e w' => ∃ a c,e = .returned (.slice a (tkn F n).length c) ∧ OU w' w.heap.size (.slice a (tkn F n).length c) (tkn F n) ∧ Below w.heap.size w w' := by
 obtain ⟨i0,hi,hz0,hz1,hz2⟩ := info_parts info_u32n
 have HI := hid hi
 have HZ := hid (And.intro hz0 (And.intro hz1 hz2))
 have HH := hid h
 have c0 := h.at
 have nI : (n : Int) ≤ 4096 := by have := h.hi; omega
 have nN : n ≤ 4096 := h.hi
 clear h hi hz0 hz1 hz2
 go_enter Tryz.func28,Tryz.ntmps28
 go_wp2_with fail
 clear c0
 go_loopw [3,4,5,11] (fun v3 _ _ v11 wr => ∃ i : Nat,i ≤ n ∧ v11 = .int .i64 (i : Int) ∧ OU wr w.heap.size v3 (tkn F i) ∧ Below w.heap.size w wr) (fun _ _ _ v _ => n - (intOf v).toNat)
 case atStart => exact ⟨0,by omega,rfl,OU.nil _ _,Below.refl _ _⟩
 case round =>
  obtain ⟨i,hin,rfl,ho,hb⟩ := hrel
  have hlen := tkn_len F i
  by_cases hlt : i < n
  ·have cG := (HH.out.below hb).flag i hlt
   have hix := index_bool .i64 G n i hlt
   have HNX := hid (show tkn F (i + 1) = tkn F i ++ (if 2 ≤ i ∧ F i = false then [i] else []) from rfl)
   generalize hL : tkn F i = L at *
   have HO := hid ho
   have HB := hid hb
   have HLT := hid hlt
   have iI : (i : Int) < (n : Int) := by omega
   have i0' : (0 : Int) ≤ (i : Int) := by omega
   have lI : L.length ≤ 4096 := by omega
   clear ho hb hL hin
   by_cases hF : 2 ≤ i ∧ F i = false
   ·rw [takF_in F hF.1 hlt,hF.2] at cG
    rw [if_pos hF] at HNX
    clear hF hlt hlen
    obtain ⟨u,cap,hv,_⟩ := own_sl HO.out
    subst hv
    have HO2 := hid (World.ownsRow.alloc HO.out (.cells #[Value.int .u32 (i : Int)] 41))
    have HB3 := hid (HB.out.alloc HB.out.size (.cells #[Value.int .u32 (i : Int)] 41))
    have HC := hid (heap_alloc_new wr (.cells #[Value.int .u32 (i : Int)] 41))
    clear HO
    go_wp2_with (at_builtin; go_must (with_reducible refine wpList_append_own _ rfl _ _ 40 rfl w.heap.size 41 i0 (.int .u32 0) 1 4 Tryz.underlying40 HI.out HZ.out.1 HZ.out.2.1 HZ.out.2.2 rfl (by decide) (.slice u L.length cap) L.length (u32n L) rfl HO2.out ⟨wr.heap.size,0,none⟩ 1 1 [.int .u32 (i : Int)] rfl rfl ?c1 ?c2 ?c3 ?c4 ?c5 ?_))
    case c1 => exact cell_one_new _ _ _
    case c2 => intro u hu; simp only [List.mem_cons,List.not_mem_nil,or_false] at hu; subst hu; rfl
    case c3 => unfold maxLen; omega
    case c4 => omega
    case c5 => exact HB3.out.size
    intro v' w4 hown' hgrow _
    have hb4 := HB3.out.grown hgrow HB3.out.size (fun k hk => (HO2.out.lt k hk).1)
    have HW := hid (show OU w4 w.heap.size v' (L ++ [i]) from by unfold OU; rw [List.length_append,u32n_append]; exact hown')
    have HB4 := hid hb4
    clear hown' hgrow hb4 HO2 HC
    go_wp2_with fail
    go_roundw
    case rel => exact ⟨i + 1,by have := HLT.out; omega,by go_num,by rw [HNX.out]; exact HW.out,HB4.out⟩
    case measure => simp [intOf]; have := HLT.out; omega
   ·rw [show takF n F i = false by
     by_cases h2 : 2 ≤ i
     ·rw [takF_in F h2 hlt]
      cases hFi : F i with
      | true => rfl
      | false => exact absurd ⟨h2,hFi⟩ hF
     ·exact takF_out F (.inl (by omega))] at cG
    rw [if_neg hF,List.append_nil] at HNX
    clear hF hlt hlen
    go_wp2_with fail
    go_roundw
    case rel => exact ⟨i + 1,by have := HLT.out; omega,by go_num,by rw [HNX.out]; exact HO.out,HB.out⟩
    case measure => simp [intOf]; have := HLT.out; omega
  ·obtain rfl : n = i := by omega
   have HO := hid ho
   have HB := hid hb
   obtain ⟨u,cap,hv,_⟩ := own_sl ho
   subst hv
   clear ho hb
   go_wp2_with fail
   go_ret
   exact ⟨_,_,rfl,HO.out,HB.out⟩
set_option maxRecDepth 100000 in
set_option maxHeartbeats 3200000 in
theorem rset11_any (M G n len cap : Nat) (a : Option Addr) (F : Nat → Bool) (l : List Nat) (w : World) (h : RW11 w M G n F) (hl : US w a len cap l) (hlen : len ≤ 100000000) (ok : Bool) (hok : ok = true ↔ allIn n l) :
 Calls Tryz.prog 16 #[.pointer (some ⟨M,0,none⟩),.slice a len cap] w fun e w' => ∃ G',e = .returned (.int .i64 (setA n F l ok).1) ∧ RW11 w' M G' n (setA n F l ok).2 ∧ Touch [M] w w' ∧ (G' = G ∨ w.heap.size ≤ G') := by
 have HH := hid h
 have HU := hid hl
 have lI : (len : Int) ≤ 100000000 := by omega
 have nI : (n : Int) ≤ 4096 := by have := h.hi; omega
 have n0 : (0 : Int) ≤ (n : Int) := by omega
 obtain ⟨K,hk0,hki0⟩ : ∃ K,K ≤ len ∧ (∀ i,i < K → 2 ≤ l.getD i 0 ∧ l.getD i 0 < n) ∧ (ok = true → K = len) ∧ (ok = false → K < len ∧ ¬ (2 ≤ l.getD K 0 ∧ l.getD K 0 < n)) := by
  have hll := hl.len
  rcases first_out n l with h1 | ⟨m,h1,h2,h3⟩
  ·exact ⟨len,Nat.le_refl _,fun i hi => allIn_at h1 i (by omega),fun _ => rfl,fun e => by rw [hok.2 h1] at e; cases e⟩
  ·refine ⟨m,by omega,h3,fun e => ?_,fun _ => ⟨by omega,h2⟩⟩
   exact absurd (allIn_at (hok.1 e) m h1) h2
 have HKI := hid hki0
 have HK := hid hk0
 clear hk0 hki0
 have HN4 := hid h.hi
 clear hl h hlen
 go_enter Tryz.func16,Tryz.ntmps16
 go_wp2_with fail
 go_loopw [6,11] (fun _ v11 wr => ∃ i : Nat,i ≤ K ∧ v11 = .int .i64 (i : Int) ∧ wr = w) (fun _ v _ => len - (intOf v).toNat)
 case atStart => exact ⟨0,by omega,rfl,rfl⟩
 case round =>
  obtain ⟨i,hi,rfl,rfl⟩ := hrel
  have hK := HK.out
  by_cases hlt : i < len
  ·obtain ⟨b,off,rfl,hx⟩ := HU.out.at hlt
   have hix := index_u32 b off len cap i hlt
   have hxs := HU.out.small (l.getD i 0) (by
    have e : l.getD i 0 = l[i]'(by rw [HU.out.len]; exact hlt) := by simp [List.getD,show i < l.length by rw [HU.out.len]; exact hlt]
    rw [e]; exact List.getElem_mem _)
   have his := ris_any M G n (l.getD i 0) F wr HH.out hxs
   have iI : (i : Int) < (len : Int) := by omega
   have i0 : (0 : Int) ≤ (i : Int) := by omega
   by_cases hiK : i < K
   ·have hin := HKI.out.1 i hiK
    rw [show allF n (l.getD i 0) = true by unfold allF; rw [decide_eq_true hin.1,decide_eq_true hin.2]; rfl] at his
    have HIS := hid his
    have HIK := hid hiK
    clear his hin hxs hlt hi hiK hK
    generalize l.getD i 0 = x at *
    go_wp2_with fail
    refine HIS.out.mono ?_
    rintro e w5 ⟨rfl,rfl⟩
    clear HIS
    go_wp2_with fail
    go_roundw
    case rel => exact ⟨i + 1,by have := HIK.out; omega,by go_num,trivial⟩
    case measure => simp [intOf]; omega
   ·obtain rfl : i = K := by omega
    cases ok with
    | true => have := HKI.out.2.1 rfl; omega
    | false =>
      have hout := (HKI.out.2.2 rfl).2
      rw [show allF n (l.getD i 0) = false by
       unfold allF
       by_cases q : 2 ≤ l.getD i 0
       ·rw [decide_eq_false (show ¬ l.getD i 0 < n from fun e => hout ⟨q,e⟩),Bool.and_false]
       ·rw [decide_eq_false q]; rfl] at his
      have HIS := hid his
      clear his hout hxs hlt hi hiK hK
      generalize l.getD i 0 = x at *
      go_wp2_with fail
      refine HIS.out.mono ?_
      rintro e w5 ⟨rfl,rfl⟩
      clear HIS
      go_wp2_with fail
      go_ret
      exact ⟨G,rfl,HH.out,Touch.refl _ _,.inl rfl⟩
  ·cases ok with
   | false => have := (HKI.out.2.2 rfl).1; omega
   | true =>
     obtain rfl : i = len := by omega
     have hmk := make_bools n (by have := HN4.out; omega) wr
     have c0 := HH.out.at
     have f0 := HH.out.freeM
     have hMl := HH.out.ltM
     have hba := (Below.refl wr.heap.size wr).alloc (Nat.le_refl _) (.cells (boolsF (takF n (allF n)) n).toArray 4)
     have hnew := heap_alloc_new wr (.cells (boolsF (takF n (allF n)) n).toArray 4)
     have c1 := (HH.out.below hba).at
     have f1 := (HH.out.below hba).freeM
     have cM := (HH.out.below hba).cell
     obtain ⟨RB,hRB⟩ : ∃ RB,(boolsF (takF n (allF n)) n).toArray = RB := ⟨_,rfl⟩
     rw [hRB] at hmk hba hnew c1 f1 cM
     have HW4 := hid (show RW11 ((wr.alloc (.cells RB 4)).setCell ⟨M,0,none⟩ (.slice (some ⟨wr.heap.size,0,none⟩) n n)) M wr.heap.size n (minF n []) ∧ Touch [M] wr ((wr.alloc (.cells RB 4)).setCell ⟨M,0,none⟩ (.slice (some ⟨wr.heap.size,0,none⟩) n n)) from by
      refine ⟨⟨?_, ?_,HH.out.lo,HH.out.hi⟩,(Touch.of_below hba).trans (touch_set _ M 0 _)⟩
      ·rw [heap_setCell_same _ M 0 _ _ _ cM]; rfl
      ·rw [heap_setCell_other _ ⟨M,0,none⟩ wr.heap.size _ (by show wr.heap.size ≠ M; omega),minF_nil,hRB]; exact hnew)
     have HALL := hid (hok.1 rfl)
     clear hok
     have HHS := hid (Nat.le_refl wr.heap.size)
     clear hRB hlt hi hK hMl hnew cM
     go_wp2_with fail
     clear hmk c0 f0 c1 f1 hba
     generalize World.setCell _ _ _ = w4 at *
     generalize hGS : wr.heap.size = G2 at *
     have HGS := hid hGS
     clear hGS
     go_loopw [8,31] (fun _ v31 wq => ∃ j : Nat,j ≤ i ∧ v31 = .int .i64 (j : Int) ∧ RW11 wq M G2 n (minF n (l.take j)) ∧ Touch [M] wr wq) (fun _ v _ => i - (intOf v).toNat)
     case atStart => exact ⟨0,by omega,rfl,by rw [List.take_zero]; exact HW4.out.1,HW4.out.2⟩
     case round =>
      clear HW4
      obtain ⟨j,hj,rfl,hw,ht⟩ := hrel
      by_cases hjl : j < i
      ·obtain ⟨b,off,rfl,hx⟩ := (HU.out.touch ht (fun b off e => by simp; exact us_ne HH.out HU.out (by omega) b off e)).at hjl
       have hix := index_u32 b off i cap j hjl
       have jI : (j : Int) < (i : Int) := by omega
       have j0 : (0 : Int) ≤ (j : Int) := by omega
       have hlj : j < l.length := by rw [HU.out.len]; exact hjl
       have hin := allIn_at HALL.out j hlj
       have HNX := hid (minF_next n l j hlj)
       have c0 := hw.at
       have fG := hw.freeG (l.getD j 0)
       have cG := hw.flag (l.getD j 0) hin.2
       have hbx := index_bool .u32 G2 n (l.getD j 0) hin.2
       have HWS := hid (hw.set (l.getD j 0) true hin.1 hin.2)
       have HTT := hid (touch_new ht (Nat.le_of_eq HGS.out) (l.getD j 0) (.bool true))
       have HLT := hid hjl
       have xI : ((l.getD j 0 : Nat) : Int) < (n : Int) := by omega
       have x0 : (0 : Int) ≤ ((l.getD j 0 : Nat) : Int) := by omega
       rw [show (!true) = false from rfl,← HNX.out] at HWS
       clear HNX hw ht hin hlj hj hjl
       generalize l.getD j 0 = x at *
       go_wp2_with fail
       go_roundw
       case rel => exact ⟨j + 1,by have := HLT.out; omega,by go_num,HWS.out,HTT.out⟩
       case measure => simp [intOf]; have := HLT.out; omega
      ·obtain rfl : j = i := by omega
       rw [show l.take j = l from List.take_of_length_le (by rw [HU.out.len]; exact Nat.le_refl _)] at hw
       have HQ := hid (And.intro hw ht)
       clear hw ht hj hjl
       go_wp2_with fail
       go_ret
       exact ⟨G2,rfl,HQ.out.1,HQ.out.2,.inr (Nat.le_of_eq HGS.out)⟩
end
end Go.Proofs.YtgckapolpifbkaaGreatDoor
