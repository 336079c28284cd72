/-
  Two readers side by side, the program's and the reference's; read.
-/
import Derived.Test.YtclahpmghifehaaLays
import Derived.Stop.BytesEq
namespace Go.Proofs.Ytclahpmghifehaa
open Go.RowKit

structure RP (w0 w : World) (R1 R2 : Nat) (l1 l2 : List Int) : Prop where
  r1 : ∃ a x c, RR w 72 R1 a x c l1
  r2 : ∃ a x c, RR w 44 R2 a x c l2
  ne : R1 ≠ R2
  n1 : w0.heap.size ≤ R1
  n2 : w0.heap.size ≤ R2
  bel : Below w0.heap.size w0 w
theorem rr_chg {w w' : World} {t t' R R' lb cb lb' cb' : Nat} {ab ab' : Option Addr} {l l' : List Int} (h : RR w t R ab lb cb l) (h' : RR w t' R' ab' lb' cb' l') (q : Chg R' w w') (hne : R ≠ R') : RR w' t R ab lb cb l :=
  ⟨(q.block R (Array.getElem?_eq_some_iff.1 h.cell).1 hne).trans h.cell, h.bytes.old h'.cell q.block, h.len, h.cap, h.big⟩
theorem RP.below {w0 w w' : World} {R1 R2 : Nat} {l1 l2 : List Int} (h : RP w0 w R1 R2 l1 l2) (b : Below w.heap.size w w') : RP w0 w' R1 R2 l1 l2 := by
  obtain ⟨a, x, c, h1⟩ := h.r1
  obtain ⟨a2, x2, c2, h2⟩ := h.r2
  exact ⟨⟨a, x, c, h1.below b⟩, ⟨a2, x2, c2, h2.below b⟩, h.ne, h.n1, h.n2, h.bel.trans (b.mono h.bel.size)⟩
theorem rp_first {w0 w w' : World} {R1 R2 : Nat} {l1 l2 l : List Int} (h : RP w0 w R1 R2 l1 l2) (r : ∃ a x c, RR w' 72 R1 a x c l) (q : Chg R1 w w') : RP w0 w' R1 R2 l l2 := by
  obtain ⟨a, x, c, h1⟩ := h.r1
  obtain ⟨a2, x2, c2, h2⟩ := h.r2
  exact ⟨r, ⟨a2, x2, c2, rr_chg h2 h1 q h.ne.symm⟩, h.ne, h.n1, h.n2, h.bel.trans (q.below h.n1 h.bel.size)⟩
theorem rp_second {w0 w w' : World} {R1 R2 : Nat} {l1 l2 l : List Int} (h : RP w0 w R1 R2 l1 l2) (r : ∃ a x c, RR w' 44 R2 a x c l) (q : Chg R2 w w') : RP w0 w' R1 R2 l1 l := by
  obtain ⟨a, x, c, h1⟩ := h.r1
  obtain ⟨a2, x2, c2, h2⟩ := h.r2
  exact ⟨⟨a, x, c, rr_chg h1 h2 q h.ne⟩, r, h.ne, h.n1, h.n2, h.bel.trans (q.below h.n2 h.bel.size)⟩
theorem RP.big {w0 w : World} {R1 R2 : Nat} {l1 l2 : List Int} (h : RP w0 w R1 R2 l1 l2) : l1.length ≤ 140737488351232 := by
  obtain ⟨a, x, c, h1⟩ := h.r1
  rw [h1.len]; exact h1.big
theorem RP.byt {w0 w : World} {R1 R2 : Nat} {l1 l2 : List Int} (h : RP w0 w R1 R2 l1 l2) : Byt l1 := by
  obtain ⟨a, x, c, h1⟩ := h.r1
  exact h1.bytes.byt
section
variable {w0 w : World} {R1 R2 : Nat} {l1 l2 : List Int}
theorem rp_str1 (h : RP w0 w R1 R2 l1 l2) :
    Calls Try.prog 20 #[.pointer (some ⟨R1, 0, none⟩)] w fun e w' => e = .returned (.tuple #[.string (strA l1).1, .int .i64 (strA l1).2.1]) ∧ RP w0 w' R1 R2 (strA l1).2.2 l2 := by
  obtain ⟨a, x, c, h1⟩ := h.r1
  exact (pstr_any R1 x c a l1 w h1).mono fun e w' ⟨he, hr, hc⟩ => ⟨he, rp_first h hr hc⟩
theorem rp_str2 (h : RP w0 w R1 R2 l1 l2) :
    Calls Try.prog 32 #[.pointer (some ⟨R2, 0, none⟩)] w fun e w' => e = .returned (.tuple #[.string (strA l2).1, .int .i64 (strA l2).2.1]) ∧ RP w0 w' R1 R2 l1 (strA l2).2.2 := by
  obtain ⟨a, x, c, h1⟩ := h.r2
  exact (rstr_any R2 x c a l2 w h1).mono fun e w' ⟨he, hr, hc⟩ => ⟨he, rp_second h hr (Chg.of_only hc)⟩
theorem rp_hash1 (h : RP w0 w R1 R2 l1 l2) :
    Calls Try.prog 21 #[.pointer (some ⟨R1, 0, none⟩)] w fun e w' => e = .returned (.tuple #[.agg (i8s (hashA l1).1), .int .i64 (hashA l1).2.1]) ∧ RP w0 w' R1 R2 (hashA l1).2.2 l2 := by
  obtain ⟨a, x, c, h1⟩ := h.r1
  exact (phash_any R1 x c a l1 w h1).mono fun e w' ⟨he, hr, hc⟩ => ⟨he, rp_first h hr hc⟩
theorem rp_hash2 (h : RP w0 w R1 R2 l1 l2) :
    Calls Try.prog 33 #[.pointer (some ⟨R2, 0, none⟩)] w fun e w' => e = .returned (.tuple #[.agg (i8s (hashA l2).1), .int .i64 (hashA l2).2.1]) ∧ RP w0 w' R1 R2 l1 (hashA l2).2.2 ∧ Chg R2 w w' := by
  obtain ⟨a, x, c, h1⟩ := h.r2
  exact (rhash_any R2 x c a l2 w h1).mono fun e w' ⟨he, hr, hc⟩ => ⟨he, rp_second h hr hc, hc⟩
theorem rp_raw1 (n : Int) (hn : n ≤ 9223372036854775807) (h : RP w0 w R1 R2 l1 l2) :
    Calls Try.prog 22 #[.pointer (some ⟨R1, 0, none⟩), .int .i64 n] w fun e w' => (∃ v, e = .returned (.tuple #[v, .int .i64 (rawA n l1).2.1]) ∧ BS w' v (rawA n l1).1) ∧ RP w0 w' R1 R2 (rawA n l1).2.2 l2 ∧ Chg R1 w w' := by
  obtain ⟨a, x, c, h1⟩ := h.r1
  exact (praw_any R1 x c a l1 n w h1 hn).mono fun e w' ⟨he, hr, hc⟩ => ⟨he, rp_first h hr hc, hc⟩
theorem rp_raw2 (n : Int) (hn : n ≤ 9223372036854775807) (h : RP w0 w R1 R2 l1 l2) :
    Calls Try.prog 34 #[.pointer (some ⟨R2, 0, none⟩), .int .i64 n] w fun e w' => (∃ v, e = .returned (.tuple #[v, .int .i64 (rawA n l2).2.1]) ∧ BS w' v (rawA n l2).1) ∧ RP w0 w' R1 R2 l1 (rawA n l2).2.2 ∧ (∀ vx x, BS w vx x → BS w' vx x) := by
  obtain ⟨a, x, c, h1⟩ := h.r2
  exact (rraw_any R2 x c a l2 n w h1 hn).mono fun e w' ⟨he, hr, hc⟩ => ⟨he, rp_second h hr (Chg.of_only hc), fun vx x hx => hx.only h1.cell hc⟩
theorem rp_num1 (n : Int) (hn : n ≤ 9223372036854775807) (h : RP w0 w R1 R2 l1 l2) :
    Calls Try.prog 23 #[.pointer (some ⟨R1, 0, none⟩), .int .i64 n] w fun e w' => e = .returned (.tuple #[.int .u64 (numA n l1).1, .int .i64 (numA n l1).2.1]) ∧ RP w0 w' R1 R2 (numA n l1).2.2 l2 ∧ Chg R1 w w' := by
  obtain ⟨a, x, c, h1⟩ := h.r1
  exact (pnum7_any R1 x c a l1 n w h1 hn).mono fun e w' ⟨he, hr, hc⟩ => ⟨he, rp_first h hr (Chg.of_only hc), Chg.of_only hc⟩
theorem rp_num2 (n : Int) (hn : n ≤ 9223372036854775807) (h : RP w0 w R1 R2 l1 l2) :
    Calls Try.prog 36 #[.pointer (some ⟨R2, 0, none⟩), .int .i64 n] w fun e w' => e = .returned (.tuple #[.int .u64 (numA n l2).1, .int .i64 (numA n l2).2.1]) ∧ RP w0 w' R1 R2 l1 (numA n l2).2.2 := by
  obtain ⟨a, x, c, h1⟩ := h.r2
  exact (rnum7_any R2 x c a l2 n w h1 hn).mono fun e w' ⟨he, hr, hc⟩ => ⟨he, rp_second h hr (Chg.of_only hc)⟩
theorem rp_end1 (h : RP w0 w R1 R2 l1 l2) :
    Calls Try.prog 24 #[.pointer (some ⟨R1, 0, none⟩)] w fun e w' => e = .returned (.int .i64 (if zeroAll l1 then 0 else 4)) ∧ w' = w := by
  obtain ⟨a, x, c, h1⟩ := h.r1
  exact pend_any R1 x c a l1 w h1
theorem rp_end2 (h : RP w0 w R1 R2 l1 l2) :
    Calls Try.prog 35 #[.pointer (some ⟨R2, 0, none⟩)] w fun e w' => e = .returned (.int .i64 (if zeroAll l2 then 0 else 4)) ∧ w' = w := by
  obtain ⟨a, x, c, h1⟩ := h.r2
  exact rend_any R2 x c a l2 w h1
theorem rp_left1 (h : RP w0 w R1 R2 l1 l2) :
    Calls Try.prog 18 #[.pointer (some ⟨R1, 0, none⟩)] w fun e w' => e = .returned (.int .i64 (l1.length : Int)) ∧ w' = w := by
  obtain ⟨a, x, c, h1⟩ := h.r1
  exact pleft_any R1 x c a l1 w h1
end
theorem eq8_hash (x : List Int) (hx : x.length = 32) (hy : Byt x) (w : World) : (Op.equalIn 10000 30 (.agg (i8s x)) (.agg (i8s x))).run Try.prog w = .ok true w := by
  obtain ⟨i0, hi, hs⟩ := Option.map_eq_some_iff.1 yone
  have e : i8s x = ((x.map fun n => UInt8.ofNat n.toNat).map Extern.Stop.cell).toArray := by
    unfold i8s
    rw [List.map_map]
    congr 1
    apply List.map_congr_left
    intro z hz
    have := hy z hz
    simp only [Function.comp, Extern.Stop.cell]
    congr 1
    simp
    omega
  rw [e, run_equalIn_bytes w 9998 30 5 32 Try.underlying30 Try.underlying5 (fun w => by simp [sizeOf, typeInfo, hi, hs]) _ _ (by simpa using hx) (by simpa using hx)]
  simp
/-- What an act leaves to be read. -/
def readL (q : LayV) (l : List Int) : List Int :=
  if q.kd = 1 then (strA l).2.2 else if q.kd = 2 then (hashA l).2.2 else if q.kd = 3 then (rawA q.sz l).2.2 else if q.kd = 4 then l else (numA q.sz l).2.2
theorem hashA_ok (l : List Int) (h : Byt l) : (hashA l).1.length = 32 ∧ Byt (hashA l).1 := by
  unfold hashA
  split
  · exact ⟨by simp, byt_zeros 32⟩
  · exact ⟨by simp; omega, byt_take _ h 32⟩
set_option maxRecDepth 100000 in
set_option maxHeartbeats 3200000 in
theorem read_str (w0 w : World) (R1 R2 : Nat) (l : List Int) (q : LayV) (h : RP w0 w R1 R2 l l) (hq : q.h.length = 32) (k1 : q.kd = 1) :
    Calls Try.prog 17 #[.pointer (some ⟨R1, 0, none⟩), .pointer (some ⟨R2, 0, none⟩), .agg (layRow q).toArray] w fun e w' => e = .returned (.bool true) ∧ RP w0 w' R1 R2 (readL q l) (readL q l) := by
  have hb0 := (Below.refl w.heap.size w).alloc (Nat.le_refl _) (.cells (layRow q).toArray 32)
  have hAt := lay_at (heap_alloc_new w (.cells (layRow q).toArray 32)) hq
  have h1 := h.below hb0
  rw [show readL q l = (strA l).2.2 by unfold readL; rw [if_pos k1]]
  have HS := Lib.hid (rp_str1 h1)
  obtain ⟨kd, sz, n, s, hh, ab, lb, cb, bl⟩ := q
  dsimp only at k1 hAt HS ⊢
  subst k1
  obtain ⟨c0, c1, c2, c3, c4, _⟩ := hAt
  generalize (layRow _).toArray = AR at *
  have H2 := Lib.hid (fun (w1 : World) (h2 : RP w0 w1 R1 R2 (strA l).2.2 l) => rp_str2 h2)
  generalize strA l = S at *
  clear h hq hb0 h1
  go_enter Try.func17, Try.ntmps17
  go_wp2_with fail
  refine HS.out.mono ?_
  rintro e w1 ⟨rfl, h1⟩
  have HT := Lib.hid (H2.out w1 h1)
  clear h1 HS H2 c0 c1 c2 c3 c4
  go_wp2_with fail
  refine HT.out.mono ?_
  rintro e w2 ⟨rfl, h2⟩
  have HW := Lib.hid h2
  clear h2 HT
  go_wp2_with fail
  go_ret
  exact ⟨by simp, HW.out⟩
set_option maxRecDepth 100000 in
set_option maxHeartbeats 3200000 in
theorem read_end (w0 w : World) (R1 R2 : Nat) (l : List Int) (q : LayV) (h : RP w0 w R1 R2 l l) (hq : q.h.length = 32) (k1 : q.kd = 4) :
    Calls Try.prog 17 #[.pointer (some ⟨R1, 0, none⟩), .pointer (some ⟨R2, 0, none⟩), .agg (layRow q).toArray] w fun e w' => e = .returned (.bool true) ∧ RP w0 w' R1 R2 (readL q l) (readL q l) := by
  have hb0 := (Below.refl w.heap.size w).alloc (Nat.le_refl _) (.cells (layRow q).toArray 32)
  have hAt := lay_at (heap_alloc_new w (.cells (layRow q).toArray 32)) hq
  have h1 := h.below hb0
  rw [show readL q l = l by unfold readL; rw [if_neg (by omega), if_neg (by omega), if_neg (by omega), if_pos k1]]
  have HS := Lib.hid (rp_end1 h1)
  have HT := Lib.hid (rp_end2 h1)
  have HW := Lib.hid h1
  obtain ⟨kd, sz, n, s, hh, ab, lb, cb, bl⟩ := q
  dsimp only at k1 hAt HS HT HW ⊢
  subst k1
  obtain ⟨c0, c1, c2, c3, c4, _⟩ := hAt
  generalize (layRow _).toArray = AR at *
  generalize (if zeroAll l = true then (0 : Int) else 4) = S at *
  clear h hq hb0 h1
  go_enter Try.func17, Try.ntmps17
  go_wp2_with fail
  refine HS.out.mono ?_
  rintro e w1 ⟨rfl, rfl⟩
  go_wp2_with fail
  refine HT.out.mono ?_
  rintro e w2 ⟨rfl, rfl⟩
  go_wp2_with fail
  go_ret
  exact ⟨by simp, HW.out⟩
set_option maxRecDepth 100000 in
set_option maxHeartbeats 3200000 in
theorem read_num (w0 w : World) (R1 R2 : Nat) (l : List Int) (q : LayV) (h : RP w0 w R1 R2 l l) (hq : q.h.length = 32) (hz : q.sz ≤ 9223372036854775807) (k1 : q.kd ≠ 1) (k2 : q.kd ≠ 2) (k3 : q.kd ≠ 3) (k4 : q.kd ≠ 4) :
    Calls Try.prog 17 #[.pointer (some ⟨R1, 0, none⟩), .pointer (some ⟨R2, 0, none⟩), .agg (layRow q).toArray] w fun e w' => e = .returned (.bool true) ∧ RP w0 w' R1 R2 (readL q l) (readL q l) := by
  have hb0 := (Below.refl w.heap.size w).alloc (Nat.le_refl _) (.cells (layRow q).toArray 32)
  have hA := heap_alloc_new w (.cells (layRow q).toArray 32)
  have HAT := Lib.hid (fun (W : World) (hW : W.heap[w.heap.size]? = some (.cells (layRow q).toArray 32 (0, 0))) => lay_at hW hq)
  have h1 := h.below hb0
  have hlt : R1 < w.heap.size := by obtain ⟨a, x, c, hr⟩ := h.r1; exact (Array.getElem?_eq_some_iff.1 hr.cell).1
  rw [show readL q l = (numA q.sz l).2.2 by unfold readL; rw [if_neg k1, if_neg k2, if_neg k3, if_neg k4]]
  have HS := Lib.hid (rp_num1 q.sz hz h1)
  have H2 := Lib.hid (fun (w1 : World) (h2 : RP w0 w1 R1 R2 (numA q.sz l).2.2 l) => rp_num2 q.sz hz h2)
  obtain ⟨c0, c1, c2, c3, c4, _⟩ := HAT.out _ hA
  obtain ⟨kd, sz, n, s, hh, ab, lb, cb, bl⟩ := q
  dsimp only at k1 k2 k3 k4 c0 c1 c2 c3 c4 HAT HS H2 ⊢
  have e1 : (kd == 1) = false := by simp [k1]
  have e2 : (kd == 2) = false := by simp [k2]
  have e3 : (kd == 3) = false := by simp [k3]
  have e4 : (kd == 4) = false := by simp [k4]
  generalize (layRow _).toArray = AR at *
  have HA := Lib.hid hA
  have HLT := Lib.hid hlt
  generalize numA sz l = S at *
  clear h hq hb0 h1 hz k1 k2 k3 k4 hA hlt
  go_enter Try.func17, Try.ntmps17
  go_wp2_with fail
  refine HS.out.mono ?_
  rintro e w1 ⟨rfl, h1, hc1⟩
  have HT := Lib.hid (H2.out w1 h1)
  clear c0 c1 c2 c3 c4
  obtain ⟨c0, c1, c2, c3, c4, _⟩ := HAT.out w1 ((hc1.block _ (by simp) (by have := HLT.out; omega)).trans HA.out)
  clear h1 hc1 HS H2
  go_wp2_with fail
  refine HT.out.mono ?_
  rintro e w2 ⟨rfl, h2⟩
  have HW := Lib.hid h2
  clear h2 HT
  go_wp2_with fail
  go_ret
  exact ⟨by simp, HW.out⟩
set_option maxRecDepth 100000 in
set_option maxHeartbeats 3200000 in
theorem read_raw (w0 w : World) (R1 R2 : Nat) (l : List Int) (q : LayV) (h : RP w0 w R1 R2 l l) (hq : q.h.length = 32) (hz : q.sz ≤ 9223372036854775807) (k3 : q.kd = 3) :
    Calls Try.prog 17 #[.pointer (some ⟨R1, 0, none⟩), .pointer (some ⟨R2, 0, none⟩), .agg (layRow q).toArray] w fun e w' => e = .returned (.bool true) ∧ RP w0 w' R1 R2 (readL q l) (readL q l) := by
  have hb0 := (Below.refl w.heap.size w).alloc (Nat.le_refl _) (.cells (layRow q).toArray 32)
  have hA := heap_alloc_new w (.cells (layRow q).toArray 32)
  have HAT := Lib.hid (fun (W : World) (hW : W.heap[w.heap.size]? = some (.cells (layRow q).toArray 32 (0, 0))) => lay_at hW hq)
  have h1 := h.below hb0
  have hlt : R1 < w.heap.size := by obtain ⟨a, x, c, hr⟩ := h.r1; exact (Array.getElem?_eq_some_iff.1 hr.cell).1
  rw [show readL q l = (rawA q.sz l).2.2 by unfold readL; rw [if_neg (by omega), if_neg (by omega), if_pos k3]]
  have HS := Lib.hid (rp_raw1 q.sz hz h1)
  have H2 := Lib.hid (fun (w1 : World) (h2 : RP w0 w1 R1 R2 (rawA q.sz l).2.2 l) => rp_raw2 q.sz hz h2)
  obtain ⟨c0, c1, c2, c3, c4, _⟩ := HAT.out _ hA
  obtain ⟨kd, sz, n, s, hh, ab, lb, cb, bl⟩ := q
  dsimp only at k3 c0 c1 c2 c3 c4 HAT HS H2 ⊢
  subst k3
  generalize (layRow _).toArray = AR at *
  have HA := Lib.hid hA
  have HLT := Lib.hid hlt
  generalize rawA sz l = S at *
  clear h hq hb0 h1 hz hA hlt
  go_enter Try.func17, Try.ntmps17
  go_wp2_with fail
  refine HS.out.mono ?_
  rintro e w1 ⟨⟨va, rfl, hva⟩, h1, hc1⟩
  have HT := Lib.hid (H2.out w1 h1)
  have HVA := Lib.hid hva
  clear c0 c1 c2 c3 c4
  obtain ⟨c0, c1, c2, c3, c4, _⟩ := HAT.out w1 ((hc1.block _ (by simp) (by have := HLT.out; omega)).trans HA.out)
  clear h1 hc1 hva HS H2
  go_wp2_with fail
  refine HT.out.mono ?_
  rintro e w2 ⟨⟨vb, rfl, hvb⟩, h2, hk⟩
  have HSM := Lib.hid (same_eq w2 va vb _ (hk _ _ HVA.out) hvb)
  have HW := Lib.hid h2
  clear h2 hvb hk HT c0 c1 c2 c3 c4
  go_wp2_with fail
  refine HSM.out.mono ?_
  rintro e w3 ⟨rfl, rfl⟩
  go_wp2_with fail
  go_ret
  exact ⟨by simp, HW.out⟩
end Go.Proofs.Ytclahpmghifehaa
