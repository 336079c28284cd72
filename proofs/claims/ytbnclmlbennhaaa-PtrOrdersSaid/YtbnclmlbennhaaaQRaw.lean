/-
  The reference of layer 7: a reader in memory; Raw, Num, End.
-/
import Derived.Test.YtbnclmlbennhaaaTxt
import Derived.Test.YtbnclmlbennhaaaRef
namespace Go.Proofs.Ytbnclmlbennhaaa
set_option maxRecDepth 4000
open Go.RowKit

/-- A reader, in memory: one slice that reads as l. -/
structure RR (w : World) (t : Nat) (R : Nat) (ab : Option Addr) (lb cb : Nat) (l : List Int) : Prop where
  cell : w.heap[R]? = some (.cells #[.slice ab lb cb] t (0, 0))
  bytes : BS w (.slice ab lb cb) l
  len : l.length = lb
  cap : lb ≤ cb
  big : lb ≤ 140737488351232
theorem RR.at {w : World} {t R lb cb : Nat} {ab : Option Addr} {l : List Int} (h : RR w t R ab lb cb l) : w.cell? ⟨R, 0, none⟩ = some (.slice ab lb cb) := cell_of_row _ _ _ _ _ _ h.cell
theorem BS.only {w w' : World} {R t lb cb : Nat} {a : Option Addr} {v : Value} {l : List Int} (h : BS w v l) (hR : w.heap[R]? = some (.cells #[.slice a lb cb] t (0, 0))) (q : Only R w w') : BS w' v l := by
  obtain ⟨a', cap', hv, hy, hn, hc⟩ := h
  refine ⟨a', cap', hv, hy, hn, ?_⟩
  rcases hc with h0 | ⟨b, off, ha, hc⟩
  · exact .inl h0
  · by_cases hl : l = []
    · exact .inl hl
    · refine .inr ⟨b, off, ha, fun i hi => ?_⟩
      have hne : b ≠ R := by
        rintro rfl
        have q0 := hc i hi
        rw [cell_of_row _ _ _ _ _ _ hR] at q0
        cases ho : off + i with
        | zero => rw [ho] at q0; simp at q0
        | succ k => rw [ho] at q0; simp at q0
      have e : w'.cell? ⟨b, off + i, none⟩ = w.cell? ⟨b, off + i, none⟩ := by simp [World.cell?, q.rest b hne]
      rw [e]
      exact hc i hi
theorem BS.old {w W : World} {R t lb cb : Nat} {a : Option Addr} {v : Value} {l : List Int} (h : BS w v l) (hR : w.heap[R]? = some (.cells #[.slice a lb cb] t (0, 0))) (q : ∀ k, k < w.heap.size → k ≠ R → W.heap[k]? = w.heap[k]?) : BS W v l := by
  obtain ⟨a', cap', hv, hy, hn, hc⟩ := h
  refine ⟨a', cap', hv, hy, hn, ?_⟩
  rcases hc with h0 | ⟨b, off, ha, hc⟩
  · exact .inl h0
  · refine .inr ⟨b, off, ha, fun i hi => ?_⟩
    have q0 := hc i hi
    have hlt := block_lt_of_cell q0
    have hne : b ≠ R := by
      rintro rfl
      rw [cell_of_row _ _ _ _ _ _ hR] at q0
      cases ho : off + i with
      | zero => rw [ho] at q0; simp at q0
      | succ k => rw [ho] at q0; simp at q0
    have e : W.cell? ⟨b, off + i, none⟩ = w.cell? ⟨b, off + i, none⟩ := by simp [World.cell?, q b hlt hne]
    rw [e]
    exact q0
theorem RR.below {w w' : World} {t R lb cb : Nat} {ab : Option Addr} {l : List Int} (h : RR w t R ab lb cb l) (b : Below w.heap.size w w') : RR w' t R ab lb cb l :=
  ⟨(b.block R (Array.getElem?_eq_some_iff.1 h.cell).1).trans h.cell, h.bytes.kept b, h.len, h.cap, h.big⟩
/-- What Raw answers, and what is left. -/
def rawA (n : Int) (l : List Int) : List Int × Int × List Int := if n < 0 then ([], 2, l) else if (l.length : Int) < n then ([], 3, l) else (l.take n.toNat, 0, l.drop n.toNat)
theorem bs_nil (w : World) : BS w (.slice none 0 0) [] := ⟨none, 0, rfl, by intro z hz; simp at hz, fun _ => rfl, .inl rfl⟩
set_option maxHeartbeats 1600000 in
theorem rraw_old (R lb cb : Nat) (ab : Option Addr) (l : List Int) (n : Int) (w0 w : World) (h0' : RR w0 39 R ab lb cb l) (hb : Below w0.heap.size w0 w) (hn : n ≤ 9223372036854775807) :
    Calls Try.prog 50 #[.pointer (some ⟨R, 0, none⟩), .int .i64 n] w fun e w' => (∃ v, e = .returned (.tuple #[v, .int .i64 (rawA n l).2.1]) ∧ BS w' v (rawA n l).1) ∧ (∃ ab' lb' cb', ∀ W : World, (∀ k, k < w0.heap.size → k ≠ R → W.heap[k]? = w0.heap[k]?) → W.heap[R]? = w'.heap[R]? → RR W 39 R ab' lb' cb' (rawA n l).2.2) ∧ Only R w w' := by
  have h := h0'.below hb
  have H := Lib.hid h
  have H0 := Lib.hid h0'
  have c0 := h.at
  have hl := h.len
  have hbig := h.big
  have hcap := h.cap
  by_cases h0 : n < 0
  · rw [show rawA n l = ([], 2, l) by unfold rawA; rw [if_pos h0]]
    clear h h0' hb hl hbig hcap
    go_enter Try.func50, Try.ntmps50
    go_wp2_with fail
    go_ret2
    exact ⟨⟨_, rfl, bs_nil _⟩, ⟨_, _, _, fun W q1 q2 => ⟨q2.trans H.out.cell, H0.out.bytes.old H0.out.cell q1, H.out.len, H.out.cap, H.out.big⟩⟩, Only.refl _ _⟩
  · obtain ⟨m, rfl⟩ : ∃ m : Nat, n = (m : Int) := ⟨n.toNat, by omega⟩
    have m0 : (0 : Int) ≤ (m : Int) := by omega
    have lI : (lb : Int) ≤ 140737488351232 := by omega
    by_cases h1 : lb < m
    · rw [show rawA (m : Int) l = ([], 3, l) by unfold rawA; rw [if_neg (by omega), if_pos (by omega)]]
      have h1b : decide (lb < m) = true := by simp [h1]
      have h1c : (lb : Int) < (m : Int) := by omega
      clear h h0' hb hl hbig hcap h0 h1
      go_enter Try.func50, Try.ntmps50
      go_wp2_with fail
      go_ret2
      exact ⟨⟨_, rfl, bs_nil _⟩, ⟨_, _, _, fun W q1 q2 => ⟨q2.trans H.out.cell, H0.out.bytes.old H0.out.cell q1, H.out.len, H.out.cap, H.out.big⟩⟩, Only.refl _ _⟩
    · rw [show rawA (m : Int) l = (l.take m, 0, l.drop m) by unfold rawA; rw [if_neg (by omega), if_neg (by omega)]; rfl]
      have h1b : decide (lb < m) = false := by simp; omega
      obtain ⟨a1, _, _, e1, B1⟩ := slice_cut w0 ab lb cb 0 m l h0'.bytes hl (Nat.zero_le _) (by omega) hcap
      obtain ⟨a2, _, e2, _, B2⟩ := slice_cut w0 ab lb cb m lb l h0'.bytes hl (by omega) (Nat.le_refl _) hcap
      have e1 := e1 rfl
      have e2 := e2 rfl
      simp only [Nat.sub_zero] at e1 B1
      have f0 := frozen_of_row w R 0 _ _ h.cell
      have hO : Only R w (w.setCell ⟨R, 0, none⟩ (.slice a2 (lb - m) (cb - m))) := (Only.refl _ _).setCell _ _
      have HO := Lib.hid hO
      have HB1 := Lib.hid (show BS (w.setCell ⟨R, 0, none⟩ (.slice a2 (lb - m) (cb - m))) (.slice a1 m cb) (l.take m) from by have q := (B1.kept hb).only h.cell hO; simpa using q)
      have HRR := Lib.hid (show ∀ W : World, (∀ k, k < w0.heap.size → k ≠ R → W.heap[k]? = w0.heap[k]?) → W.heap[R]? = (w.setCell ⟨R, 0, none⟩ (.slice a2 (lb - m) (cb - m))).heap[R]? → RR W 39 R a2 (lb - m) (cb - m) (l.drop m) from fun W q1 q2 =>
        ⟨q2.trans (heap_setCell_same _ _ _ _ _ _ h.cell), by have q := B2.old H0.out.cell q1; rw [List.take_of_length_le (by rw [List.length_drop]; omega)] at q; exact q, by rw [List.length_drop]; omega, by omega, by omega⟩)
      clear h h0' hb hl hbig hcap h0 h1 B1 B2 hO
      go_enter Try.func50, Try.ntmps50
      go_wp2_with fail
      go_ret2
      exact ⟨⟨_, rfl, HB1.out⟩, ⟨_, _, _, HRR.out⟩, HO.out⟩
theorem rraw_any (R lb cb : Nat) (ab : Option Addr) (l : List Int) (n : Int) (w : World) (h : RR w 39 R ab lb cb l) (hn : n ≤ 9223372036854775807) :
    Calls Try.prog 50 #[.pointer (some ⟨R, 0, none⟩), .int .i64 n] w fun e w' => (∃ v, e = .returned (.tuple #[v, .int .i64 (rawA n l).2.1]) ∧ BS w' v (rawA n l).1) ∧ (∃ ab' lb' cb', RR w' 39 R ab' lb' cb' (rawA n l).2.2) ∧ Only R w w' := by
  refine (rraw_old R lb cb ab l n w w h (Below.refl _ _) hn).mono ?_
  rintro e w' ⟨hv, ⟨a, b, c, hr⟩, hO⟩
  exact ⟨hv, ⟨a, b, c, hr w' (fun k _ hk => hO.rest k hk) rfl⟩, hO⟩
/-- What Num answers, and what is left. -/
def numA (n : Int) (l : List Int) : Int × Int × List Int := if n < 0 ∨ 8 < n then (0, 2, l) else (num (rawA n l).1, (rawA n l).2.1, (rawA n l).2.2)
theorem rawA_short (n : Int) (l : List Int) (h : n ≤ 8) : (rawA n l).1.length ≤ 8 := by
  unfold rawA
  split
  · simp
  · split
    · simp
    · simp only [List.length_take]; omega
set_option maxHeartbeats 1600000 in
theorem rnum7_any (R lb cb : Nat) (ab : Option Addr) (l : List Int) (n : Int) (w : World) (h : RR w 39 R ab lb cb l) (hn : n ≤ 9223372036854775807) :
    Calls Try.prog 38 #[.pointer (some ⟨R, 0, none⟩), .int .i64 n] w fun e w' => e = .returned (.tuple #[.int .u64 (numA n l).1, .int .i64 (numA n l).2.1]) ∧ (∃ ab' lb' cb', RR w' 39 R ab' lb' cb' (numA n l).2.2) ∧ Only R w w' := by
  have H := Lib.hid h
  have HR := Lib.hid (rraw_any R lb cb ab l n w h hn)
  by_cases h0 : n < 0
  · rw [show numA n l = (0, 2, l) by unfold numA; rw [if_pos (.inl h0)]]
    clear h HR
    go_enter Try.func38, Try.ntmps38
    go_wp2_with fail
    go_ret2
    exact ⟨rfl, ⟨_, _, _, H.out⟩, Only.refl _ _⟩
  · by_cases h1 : 8 < n
    · rw [show numA n l = (0, 2, l) by unfold numA; rw [if_pos (.inr h1)]]
      have h00 : (0 : Int) ≤ n := by omega
      clear h HR h0
      go_enter Try.func38, Try.ntmps38
      go_wp2_with fail
      go_ret2
      exact ⟨rfl, ⟨_, _, _, H.out⟩, Only.refl _ _⟩
    · rw [show numA n l = (num (rawA n l).1, (rawA n l).2.1, (rawA n l).2.2) by unfold numA; rw [if_neg (by omega)]]
      have hs := rawA_short n l (by omega)
      have h00 : (0 : Int) ≤ n := by omega
      have h11 : n ≤ 8 := by omega
      have HS := Lib.hid hs
      generalize rawA n l = Q at *
      obtain ⟨q1, q2, q3⟩ := Q
      clear h h0 h1 hs
      go_enter Try.func38, Try.ntmps38
      go_wp2_with fail
      refine HR.out.mono ?_
      rintro e w1 ⟨⟨v, rfl, hv⟩, hr, hO⟩
      have HN := Lib.hid (rnum_any w1 v q1 hv HS.out)
      have HRR := Lib.hid hr
      have HO := Lib.hid hO
      clear hv hr hO HR
      go_wp2_with fail
      refine HN.out.mono ?_
      rintro e w2 ⟨rfl, rfl⟩
      go_wp2_with fail
      go_ret2
      exact ⟨rfl, HRR.out, HO.out⟩
/-- Whether all is noughts. -/
def zeroAll (l : List Int) : Bool := l.all (· == 0)
end Go.Proofs.Ytbnclmlbennhaaa
