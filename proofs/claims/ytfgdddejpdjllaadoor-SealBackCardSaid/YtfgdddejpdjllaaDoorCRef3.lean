/-
  The reference of layer 5: Crypt.
-/
import Derived.Test.YtfgdddejpdjllaaDoorCRef2
namespace Go.Proofs.YtfgdddejpdjllaaDoor
set_option maxRecDepth 4000
open Go.RowKit

theorem sumB_comm (a b : List (BitVec 8)) : sumB a b = sumB b a := by
  unfold sumB
  rw [List.zipWith_comm]
  congr 1
  funext x y
  exact BitVec.xor_comm _ _
set_option maxRecDepth 100000 in
set_option maxHeartbeats 1600000 in
theorem rcrypt_bad (S k n : List (BitVec 8)) (a : Option Addr) (len cap : Nat) (w : World) (hbad : 65536 < len) (hle : len ≤ 140737488351232) (hS : S.length = 256) (hk : k.length = 32) (hn : n.length = 12) :
    Calls Tryd.prog 31 #[.agg (yvs S), .agg (yvs k), .agg (yvs n), .slice a len cap] w fun e w' => e = .returned (.tuple #[.slice none 0 0, .int .i64 2]) ∧ Below w.heap.size w w' := by
  have HC := Lib.hid (fun w => rstream_bad S k n 0 (len : Int) w (by omega) (by omega) (by omega))
  have IS := Lib.hid (size_t256 S hS)
  have SK := Lib.hid (size_k32 k hk)
  have SN := Lib.hid (size_n12 n hn)
  clear hbad hle hS hk hn
  go_enter Tryd.func31, Tryd.ntmps31
  go_wp2_with (first
    | (with_reducible refine wpList_load_row (o := ⟨some 15, _, _, _, _, _⟩) rfl 38 _ rfl w.heap.size rfl 38 (yvs S) (0, 0) _ (ythree w _ _ _).1 Tryd.underlying38 rfl IS.out ?_)
    | (with_reducible refine wpList_load_row (o := ⟨some 16, _, _, _, _, _⟩) rfl 24 _ rfl (w.heap.size + 1) rfl 24 (yvs k) (0, 0) _ (ythree w _ _ _).2.1 Tryd.underlying24 rfl SK.out ?_)
    | (with_reducible refine wpList_load_row (o := ⟨some 17, _, _, _, _, _⟩) rfl 64 _ rfl (w.heap.size + 1 + 1) rfl 64 (yvs n) (0, 0) _ (ythree w _ _ _).2.2.1 Tryd.underlying64 rfl SN.out ?_))
  obtain ⟨_, _, _, hsz, hbel⟩ := ythree w (.cells (yvs S) 38) (.cells (yvs k) 24) (.cells (yvs n) 64)
  refine (HC.out _).mono ?_
  rintro e w1 ⟨rfl, hb1⟩
  rw [hsz] at hb1
  have HB := Lib.hid (hbel.trans (hb1.mono (by omega)))
  clear hsz hbel hb1
  go_wp2_with fail
  go_ret2
  exact ⟨rfl, HB.out⟩

/-- As SliceOf, with a bound for the capacity. -/
def SliceUp (w : World) (l : List (BitVec 8)) (s : Nat) (e : Ending) (w' : World) : Prop := ∃ a cap, e = .returned (.tuple #[.slice a s cap, .int .i64 0]) ∧ BS w' (.slice a s cap) (l.map yv) ∧ s ≤ cap ∧ cap ≤ 9223372036854775807 ∧ (∀ x, a = some x → w.heap.size ≤ x.block) ∧ Below w.heap.size w w'
set_option maxRecDepth 100000 in
set_option maxHeartbeats 1600000 in
theorem rcrypt_up (k n l : List (BitVec 8)) (a : Option Addr) (len cap : Nat) (w : World) (hB : BS w (.slice a len cap) (l.map yv)) (hl : l.length = len) (hle : len ≤ 65536) (hk : k.length = 32) (hn : n.length = 12) :
    Calls Tryd.prog 31 #[.agg (yvs boxesL), .agg (yvs k), .agg (yvs n), .slice a len cap] w (SliceUp w (sumB l (strL (keysL k) n 0 len)) len) := by
  obtain ⟨S, hS⟩ : ∃ y, strL (keysL k) n 0 len = y := ⟨_, rfl⟩
  have hsl : S.length = len := by rw [← hS, strL_length]
  have hrs := fun w => rstream_ok k n 0 len w hk hn (by omega) hle
  rw [hS] at hrs
  rw [hS]
  have hxl := setF_xor l S len hl hsl
  rw [sumB_comm S l] at hxl
  have hbl := boxes_length
  obtain ⟨X, hX⟩ : ∃ y, boxesL = y := ⟨_, rfl⟩
  rw [hX] at hbl hrs
  rw [hX]
  have HC := Lib.hid hrs
  have HXL := Lib.hid hxl
  have HSL := Lib.hid hsl
  have HB0 := Lib.hid hB
  have HL := Lib.hid hl
  have IS := Lib.hid (size_t256 X hbl)
  have SK := Lib.hid (size_k32 k hk)
  have SN := Lib.hid (size_n12 n hn)
  have lI : (len : Int) ≤ 65536 := by omega
  have HLE := Lib.hid hle
  clear hS hsl hrs hxl hbl hX hB hl hle hk hn
  go_enter Tryd.func31, Tryd.ntmps31
  go_wp2_with (first
    | (with_reducible refine wpList_load_row (o := ⟨some 15, _, _, _, _, _⟩) rfl 38 _ rfl w.heap.size rfl 38 (yvs X) (0, 0) _ (ythree w _ _ _).1 Tryd.underlying38 rfl IS.out ?_)
    | (with_reducible refine wpList_load_row (o := ⟨some 16, _, _, _, _, _⟩) rfl 24 _ rfl (w.heap.size + 1) rfl 24 (yvs k) (0, 0) _ (ythree w _ _ _).2.1 Tryd.underlying24 rfl SK.out ?_)
    | (with_reducible refine wpList_load_row (o := ⟨some 17, _, _, _, _, _⟩) rfl 64 _ rfl (w.heap.size + 1 + 1) rfl 64 (yvs n) (0, 0) _ (ythree w _ _ _).2.2.1 Tryd.underlying64 rfl SN.out ?_))
  obtain ⟨_, _, _, hsz, hbel⟩ := ythree w (.cells (yvs X) 38) (.cells (yvs k) 24) (.cells (yvs n) 64)
  refine (HC.out _).mono ?_
  intro e w1 h1
  unfold SliceOf at h1
  obtain ⟨a1, cap1, rfl, B1, _, hb1⟩ := h1
  rw [hsz] at hb1
  have HB1 := Lib.hid (show Below w.heap.size w w1 from hbel.trans (hb1.mono (by omega)))
  have BS1 := Lib.hid B1
  have BL1 := Lib.hid (HB0.out.kept HB1.out)
  clear hsz hbel hb1 B1 HC
  have HBUF := Lib.hid (World.ownsRow_lit (base := w1.heap.size) (e := 5) (size := 1) w1 #[] 0 (Nat.le_refl _) (by unfold maxLen; omega) rfl)
  have HB2 := Lib.hid (show Below w1.heap.size w1 (w1.alloc (.cells #[] 5)) from (Below.refl _ _).alloc (Nat.le_refl _) _)
  have A1 := Lib.hid (BL1.out.kept HB2.out)
  have HLM := Lib.hid (show 0 + (l.map yv).length ≤ 140737488355328 by rw [List.length_map, HL.out]; have := HLE.out; omega)
  go_upto_region 5 with (first
    | (at_builtin; with_reducible refine wpList_append_BS (o := ⟨some 28, _, _, _, _, _⟩) rfl _ _ rfl w1.heap.size (.slice (some ⟨w1.heap.size, 0, none⟩) 0 0) 0 [] rfl HBUF.out (.slice a len cap) (l.map yv) rfl A1.out HLM.out (by simp) ?_; intro v3 w3 ho3 hg3))
  have hb3 := HB2.out.grown hg3 (by simp) (by intro k hk; simp [Value.ownBlock] at hk; omega)
  rw [List.nil_append, Nat.zero_add, List.length_map, HL.out] at ho3
  obtain ⟨a3, cap3, rfl, h3, h3m, _⟩ := own_bytes ho3 HL.out
  have HO3 := Lib.hid ho3
  have HB3 := Lib.hid hb3
  have H3 := Lib.hid h3
  clear hg3 hb3 ho3 h3 h3m A1 HBUF HB2 HLM
  go_wp2_with fail
  go_loopw [31] (fun v31 wr => ∃ i : Nat, i ≤ len ∧ v31 = .int .i64 (i : Nat) ∧ wr.ownsRow w1.heap.size 5 1 (.slice a3 len cap3) len (((setF id (fun i => l.getD i 0 ^^^ S.getD i 0) i l).map yv).map (Value.int .u8)) ∧ Below w1.heap.size w1 wr) (fun v _ => len - (intOf v).toNat)
  case atStart => exact ⟨0, by omega, rfl, HO3.out, HB3.out⟩
  case round =>
    obtain ⟨i, hi, rfl, ho, hb⟩ := hrel
    by_cases hlt : i < len
    · have ho2 := ho
      rcases ho2.2 with ⟨hh, h0⟩ | ⟨g, cap', cur, hh, hge, _, _⟩
      · omega
      injection hh with e1 e2 e3
      subst e1
      clear e3 ho2
      obtain ⟨bs, os, rfl, ls, cs⟩ := BS1.out.cellY HSL.out hlt
      have cs2 : wr.cell? ⟨bs, os + i, none⟩ = some (.int .u8 (yv (S.getD i 0))) := by rw [hb.cell (p := ⟨bs, os + i, none⟩) ls]; exact cs
      have hlm : (setF id (fun i => l.getD i 0 ^^^ S.getD i 0) i l).length = len := by rw [setF_length, HL.out]
      have ci : wr.cell? ⟨g, i, none⟩ = some (.int .u8 (yv (l.getD i 0))) := by
        rw [ho.cellAt i (by omega)]
        rw [List.getElem?_map, List.getElem?_map, setF_id_at _ _ _ _ (by rw [HL.out]; exact hlt), if_neg (by omega)]
        rfl
      have fi := ho.frozenAt i
      have hst := fun u => (ho.stored i u).1
      have hx := yv_xor (l.getD i 0) (S.getD i 0)
      have HST := Lib.hid (show setF id (fun i => l.getD i 0 ^^^ S.getD i 0) (i + 1) l = (setF id (fun i => l.getD i 0 ^^^ S.getD i 0) i l).set i (l.getD i 0 ^^^ S.getD i 0) from rfl)
      generalize hM2 : setF id (fun i => l.getD i 0 ^^^ S.getD i 0) (i + 1) l = M2 at *
      have HM2 := Lib.hid hM2
      clear hM2
      generalize setF id (fun i => l.getD i 0 ^^^ S.getD i 0) i l = M at *
      generalize l.getD i 0 = x at *
      generalize S.getD i 0 = y at *
      have HS := Lib.hid hst
      have HB := Lib.hid hb
      have HLT := Lib.hid (And.intro hlt hge)
      have iI : (i : Int) < (len : Int) := by omega
      have i0 : (0 : Int) ≤ (i : Int) := by omega
      clear hst hb hi hlt cs ls ho hlm hge
      go_wp2_with fail
      go_still_tail 10, (by kernel_rfl)
      go_wp2_with fail
      go_roundw
      case rel => exact ⟨i + 1, by have := HLT.out; omega, by go_num, by rw [HM2.out, HST.out, List.map_set, List.map_set]; exact HS.out _, (HB.out.drew).setCell (p := ⟨g, i, none⟩) HLT.out.2 _⟩
      case measure => simp [intOf]; omega
    · obtain rfl : len = i := by omega
      rw [HXL.out] at ho
      obtain ⟨a4, cap4, hv, h4, h5, B4⟩ := own_bytes ho (sumB_length _ _ _ HL.out HSL.out)
      have hnew : ∀ x, a3 = some x → w.heap.size ≤ x.block := by
        intro x hx
        rcases ho.2 with ⟨hh, _⟩ | ⟨g, cap', cur, hh, hge, _, _⟩
        · injection hh with e1 _ _
          rw [hx] at e1
          cases e1
        · injection hh with e1 _ _
          rw [hx] at e1
          injection e1 with e1
          subst e1
          exact Nat.le_trans HB1.out.size hge
      injection hv with e1 e2 e3
      subst e1; subst e3
      have HEND := Lib.hid (And.intro B4 (And.intro h4 (And.intro (show _ ≤ 9223372036854775807 from h5) (And.intro hnew (HB1.out.trans (hb.mono HB1.out.size))))))
      clear ho hb hi hlt B4 h4 h5 hnew
      go_wp2_with fail
      go_ret2
      unfold SliceUp
      exact ⟨_, _, rfl, HEND.out.1, HEND.out.2.1, HEND.out.2.2.1, HEND.out.2.2.2.1, HEND.out.2.2.2.2⟩
theorem rcrypt_ok (k n l : List (BitVec 8)) (a : Option Addr) (len cap : Nat) (w : World) (hB : BS w (.slice a len cap) (l.map yv)) (hl : l.length = len) (hle : len ≤ 65536) (hk : k.length = 32) (hn : n.length = 12) :
    Calls Tryd.prog 31 #[.agg (yvs boxesL), .agg (yvs k), .agg (yvs n), .slice a len cap] w (SliceOf w (sumB l (strL (keysL k) n 0 len)) len) :=
  (rcrypt_up k n l a len cap w hB hl hle hk hn).mono fun _ _ h => by
    unfold SliceUp at h
    obtain ⟨a, c, h1, h2, h3, _, _, h4⟩ := h
    exact ⟨a, c, h1, h2, h3, h4⟩
end Go.Proofs.YtfgdddejpdjllaaDoor
