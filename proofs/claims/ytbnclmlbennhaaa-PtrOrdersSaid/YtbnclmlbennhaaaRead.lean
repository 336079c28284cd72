/-
  Two readers side by side, the program's and the reference's; read.
-/
import Derived.Test.YtbnclmlbennhaaaLays
import Derived.Stop.BytesEq
namespace Go.Proofs.Ytbnclmlbennhaaa
set_option maxRecDepth 4000
open Go.RowKit

structure RP (w0 w : World) (R1 R2 : Nat) (l1 l2 : List Int) : Prop where
  r1 : ∃ a x c, RR w 75 R1 a x c l1
  r2 : ∃ a x c, RR w 39 R2 a x c l2
  ne : R1 ≠ R2
  n1 : w0.heap.size ≤ R1
  n2 : w0.heap.size ≤ R2
  bel : Below w0.heap.size w0 w
theorem rr_chg {w w' : World} {t t' R R' lb cb lb' cb' : Nat} {ab ab' : Option Addr} {l l' : List Int} (h : RR w t R ab lb cb l) (h' : RR w t' R' ab' lb' cb' l') (q : Chg R' w w') (hne : R ≠ R') : RR w' t R ab lb cb l :=
  ⟨(q.block R (Array.getElem?_eq_some_iff.1 h.cell).1 hne).trans h.cell, h.bytes.old h'.cell q.block, h.len, h.cap, h.big⟩
theorem RP.below {w0 w w' : World} {R1 R2 : Nat} {l1 l2 : List Int} (h : RP w0 w R1 R2 l1 l2) (b : Below w.heap.size w w') : RP w0 w' R1 R2 l1 l2 := by
  obtain ⟨a, x, c, h1⟩ := h.r1
  obtain ⟨a2, x2, c2, h2⟩ := h.r2
  exact ⟨⟨a, x, c, h1.below b⟩, ⟨a2, x2, c2, h2.below b⟩, h.ne, h.n1, h.n2, h.bel.trans (b.mono h.bel.size)⟩
theorem rp_first {w0 w w' : World} {R1 R2 : Nat} {l1 l2 l : List Int} (h : RP w0 w R1 R2 l1 l2) (r : ∃ a x c, RR w' 75 R1 a x c l) (q : Chg R1 w w') : RP w0 w' R1 R2 l l2 := by
  obtain ⟨a, x, c, h1⟩ := h.r1
  obtain ⟨a2, x2, c2, h2⟩ := h.r2
  exact ⟨r, ⟨a2, x2, c2, rr_chg h2 h1 q h.ne.symm⟩, h.ne, h.n1, h.n2, h.bel.trans (q.below h.n1 h.bel.size)⟩
theorem rp_second {w0 w w' : World} {R1 R2 : Nat} {l1 l2 l : List Int} (h : RP w0 w R1 R2 l1 l2) (r : ∃ a x c, RR w' 39 R2 a x c l) (q : Chg R2 w w') : RP w0 w' R1 R2 l1 l := by
  obtain ⟨a, x, c, h1⟩ := h.r1
  obtain ⟨a2, x2, c2, h2⟩ := h.r2
  exact ⟨⟨a, x, c, rr_chg h1 h2 q h.ne⟩, r, h.ne, h.n1, h.n2, h.bel.trans (q.below h.n2 h.bel.size)⟩
theorem RP.big {w0 w : World} {R1 R2 : Nat} {l1 l2 : List Int} (h : RP w0 w R1 R2 l1 l2) : l1.length ≤ 140737488351232 := by
  obtain ⟨a, x, c, h1⟩ := h.r1
  rw [h1.len]; exact h1.big
theorem RP.byt {w0 w : World} {R1 R2 : Nat} {l1 l2 : List Int} (h : RP w0 w R1 R2 l1 l2) : Byt l1 := by
  obtain ⟨a, x, c, h1⟩ := h.r1
  exact h1.bytes.byt
section
variable {w0 w : World} {R1 R2 : Nat} {l1 l2 : List Int}
theorem rp_hash1 (h : RP w0 w R1 R2 l1 l2) :
    Calls Try.prog 37 #[.pointer (some ⟨R1, 0, none⟩)] w fun e w' => e = .returned (.tuple #[.agg (i8s (hashA l1).1), .int .i64 (hashA l1).2.1]) ∧ RP w0 w' R1 R2 (hashA l1).2.2 l2 := by
  obtain ⟨a, x, c, h1⟩ := h.r1
  exact (phash_any R1 x c a l1 w h1).mono fun e w' ⟨he, hr, hc⟩ => ⟨he, rp_first h hr hc⟩
theorem rp_hash2 (h : RP w0 w R1 R2 l1 l2) :
    Calls Try.prog 39 #[.pointer (some ⟨R2, 0, none⟩)] w fun e w' => e = .returned (.tuple #[.agg (i8s (hashA l2).1), .int .i64 (hashA l2).2.1]) ∧ RP w0 w' R1 R2 l1 (hashA l2).2.2 ∧ Chg R2 w w' := by
  obtain ⟨a, x, c, h1⟩ := h.r2
  exact (rhash_any R2 x c a l2 w h1).mono fun e w' ⟨he, hr, hc⟩ => ⟨he, rp_second h hr hc, hc⟩
theorem rp_raw2 (n : Int) (hn : n ≤ 9223372036854775807) (h : RP w0 w R1 R2 l1 l2) :
    Calls Try.prog 50 #[.pointer (some ⟨R2, 0, none⟩), .int .i64 n] w fun e w' => (∃ v, e = .returned (.tuple #[v, .int .i64 (rawA n l2).2.1]) ∧ BS w' v (rawA n l2).1) ∧ RP w0 w' R1 R2 l1 (rawA n l2).2.2 ∧ (∀ vx x, BS w vx x → BS w' vx x) := by
  obtain ⟨a, x, c, h1⟩ := h.r2
  exact (rraw_any R2 x c a l2 n w h1 hn).mono fun e w' ⟨he, hr, hc⟩ => ⟨he, rp_second h hr (Chg.of_only hc), fun vx x hx => hx.only h1.cell hc⟩
theorem rp_num1 (n : Int) (hn : n ≤ 9223372036854775807) (h : RP w0 w R1 R2 l1 l2) :
    Calls Try.prog 36 #[.pointer (some ⟨R1, 0, none⟩), .int .i64 n] w fun e w' => e = .returned (.tuple #[.int .u64 (numA n l1).1, .int .i64 (numA n l1).2.1]) ∧ RP w0 w' R1 R2 (numA n l1).2.2 l2 ∧ Chg R1 w w' := by
  obtain ⟨a, x, c, h1⟩ := h.r1
  exact (pnum7_any R1 x c a l1 n w h1 hn).mono fun e w' ⟨he, hr, hc⟩ => ⟨he, rp_first h hr (Chg.of_only hc), Chg.of_only hc⟩
theorem rp_num2 (n : Int) (hn : n ≤ 9223372036854775807) (h : RP w0 w R1 R2 l1 l2) :
    Calls Try.prog 38 #[.pointer (some ⟨R2, 0, none⟩), .int .i64 n] w fun e w' => e = .returned (.tuple #[.int .u64 (numA n l2).1, .int .i64 (numA n l2).2.1]) ∧ RP w0 w' R1 R2 l1 (numA n l2).2.2 := by
  obtain ⟨a, x, c, h1⟩ := h.r2
  exact (rnum7_any R2 x c a l2 n w h1 hn).mono fun e w' ⟨he, hr, hc⟩ => ⟨he, rp_second h hr (Chg.of_only hc)⟩
theorem rp_left1 (h : RP w0 w R1 R2 l1 l2) :
    Calls Try.prog 21 #[.pointer (some ⟨R1, 0, none⟩)] w fun e w' => e = .returned (.int .i64 (l1.length : Int)) ∧ w' = w := by
  obtain ⟨a, x, c, h1⟩ := h.r1
  exact pleft_any R1 x c a l1 w h1
end
theorem eq8_hash (x : List Int) (hx : x.length = 32) (hy : Byt x) (w : World) : (Op.equalIn 10000 25 (.agg (i8s x)) (.agg (i8s x))).run Try.prog w = .ok true w := by
  obtain ⟨i0, hi, hs⟩ := Option.map_eq_some_iff.1 yone
  have e : i8s x = ((x.map fun n => UInt8.ofNat n.toNat).map Extern.Stop.cell).toArray := by
    unfold i8s
    rw [List.map_map]
    congr 1
    apply List.map_congr_left
    intro z hz
    have := hy z hz
    simp only [Function.comp, Extern.Stop.cell]
    congr 1
    simp
    omega
  rw [e, run_equalIn_bytes w 9998 25 5 32 Try.underlying25 Try.underlying5 (fun w => by simp [sizeOf, typeInfo, hi, hs]) _ _ (by simpa using hx) (by simpa using hx)]
  simp
/-- What an act leaves to be read. -/
def readL (q : LayV) (l : List Int) : List Int :=
  if q.kd = 1 then (strA l).2.2 else if q.kd = 2 then (hashA l).2.2 else if q.kd = 3 then (rawA q.sz l).2.2 else if q.kd = 4 then l else (numA q.sz l).2.2
theorem hashA_ok (l : List Int) (h : Byt l) : (hashA l).1.length = 32 ∧ Byt (hashA l).1 := by
  unfold hashA
  split
  · exact ⟨by simp, byt_zeros 32⟩
  · exact ⟨by simp; omega, byt_take _ h 32⟩
end Go.Proofs.Ytbnclmlbennhaaa
