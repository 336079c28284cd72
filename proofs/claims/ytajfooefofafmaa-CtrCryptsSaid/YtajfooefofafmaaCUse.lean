/-
  What the laws of layer 5 use: parts of slices, an appended slice, Crypt of any slice that reads as bytes.
-/
import Derived.Test.YtajfooefofafmaaCAlive
namespace Go.Proofs.Ytajfooefofafmaa
open Go.RowKit

/-- Part of a slice. -/
theorem slice_cut (W : World) (a : Option Addr) (len cap lo hi : Nat) (l : List Int) (hB : BS W (.slice a len cap) l) (hl : l.length = len) (h1 : lo ≤ hi) (h2 : hi ≤ len) (h3 : len ≤ cap) :
    ∃ a2 : Option Addr, (∀ W', (Instr.slice 32 (.slice a len cap) (some (.int .i64 (lo : Int))) (some (.int .i64 (hi : Int))) none).run Try.prog W' = .ok (.slice a2 (hi - lo) (cap - lo)) W') ∧
      (hi = len → ∀ W', (Instr.slice 32 (.slice a len cap) (some (.int .i64 (lo : Int))) none none).run Try.prog W' = .ok (.slice a2 (hi - lo) (cap - lo)) W') ∧
      (lo = 0 → ∀ W', (Instr.slice 32 (.slice a len cap) none (some (.int .i64 (hi : Int))) none).run Try.prog W' = .ok (.slice a2 (hi - lo) (cap - lo)) W') ∧
      BS W (.slice a2 (hi - lo) (cap - lo)) ((l.drop lo).take (hi - lo)) := by
  obtain ⟨i0, hi0, hs⟩ := Option.map_eq_some_iff.1 yone
  obtain ⟨a', cap', he, hy, hn, hc⟩ := hB
  injection he with e1 e2 e3
  subst e1; subst e3
  have hlen : ((l.drop lo).take (hi - lo)).length = hi - lo := by rw [List.length_take, List.length_drop]; omega
  have hyy : Byt ((l.drop lo).take (hi - lo)) := fun z hz => hy z (List.mem_of_mem_drop (List.mem_of_mem_take hz))
  refine ⟨if cap = lo then a else a.map (·.add (lo * 1)), ?_, ?_, ?_, ?_⟩
  · intro W'
    have b1 := ybound_ok hi cap .sliceAcap (by omega) W'
    have b2 := ybound_ok lo hi .sliceB h1 W'
    simp [Instr.slice, run_underlying Try.underlying32, Instr.sliceBounds, sizeOf, typeInfo, hi0, hs, b1, b2]
  · rintro rfl W'
    have b2 := ybound_ok lo hi .sliceB h1 W'
    simp [Instr.slice, run_underlying Try.underlying32, Instr.sliceBounds, sizeOf, typeInfo, hi0, hs, b2]
  · rintro rfl W'
    have b1 := ybound_ok hi cap .sliceAcap (by omega) W'
    simp [Instr.slice, run_underlying Try.underlying32, Instr.sliceBounds, sizeOf, typeInfo, hi0, b1]
  · refine ⟨_, _, by rw [hlen], hyy, ?_, ?_⟩
    · intro hnone
      cases a with
      | none => have := hn rfl; omega
      | some x =>
        by_cases h : cap = lo
        · omega
        · simp [h] at hnone
    · by_cases h0 : (l.drop lo).take (hi - lo) = []
      · exact .inl h0
      · right
        have hpos : 0 < hi - lo := by rw [← hlen]; exact List.length_pos_iff.2 h0
        rcases hc with hc | ⟨b, off, rfl, hc⟩
        · subst hc; simp at hl; omega
        · refine ⟨b, off + lo, ?_, fun i hi' => ?_⟩
          · rw [if_neg (by omega)]
            simp [Addr.add_mid]
          · rw [hlen] at hi'
            have := hc (lo + i) (by omega)
            rw [← Nat.add_assoc] at this
            rw [this, List.getD_eq_getElem?_getD, List.getD_eq_getElem?_getD, List.getElem?_take, if_pos hi', List.getElem?_drop]
/-- A slice's beginning. -/
theorem slice_to (W : World) (a : Option Addr) (len cap i : Nat) (l : List (BitVec 8)) (hB : BS W (.slice a len cap) (l.map yv)) (hl : l.length = len) (h : i ≤ len) (h3 : len ≤ cap) :
    ∃ a2 : Option Addr, (∀ W', (Instr.slice 32 (.slice a len cap) none (some (.int .i64 (i : Int))) none).run Try.prog W' = .ok (.slice a2 i cap) W') ∧ BS W (.slice a2 i cap) ((l.take i).map yv) := by
  obtain ⟨a2, _, _, h1, h2⟩ := slice_cut W a len cap 0 i (l.map yv) hB (by simpa using hl) (Nat.zero_le _) h h3
  refine ⟨a2, h1 rfl, ?_⟩
  rw [List.drop_zero, ← List.map_take] at h2
  exact h2
/-- A slice's end. -/
theorem slice_on (W : World) (a : Option Addr) (len cap i : Nat) (l : List (BitVec 8)) (hB : BS W (.slice a len cap) (l.map yv)) (hl : l.length = len) (h : i ≤ len) (h3 : len ≤ cap) :
    ∃ a2 : Option Addr, (∀ W', (Instr.slice 32 (.slice a len cap) (some (.int .i64 (i : Int))) none none).run Try.prog W' = .ok (.slice a2 (len - i) (cap - i)) W') ∧ BS W (.slice a2 (len - i) (cap - i)) ((l.drop i).map yv) := by
  obtain ⟨a2, _, h1, _, h2⟩ := slice_cut W a len cap i len (l.map yv) hB (by simpa using hl) h (Nat.le_refl _) h3
  refine ⟨a2, h1 rfl, ?_⟩
  rw [← List.map_drop, List.take_of_length_le (by simp; omega)] at h2
  exact h2
/-- What an append into a row of the call's own gives. -/
theorem own_bytes {w : World} {base n : Nat} {v : Value} {l : List (BitVec 8)} (h : w.ownsRow base 5 1 v n ((l.map yv).map (Value.int .u8))) (hl : l.length = n) :
    ∃ a cap, v = .slice a n cap ∧ n ≤ cap ∧ cap ≤ maxLen ∧ BS w (.slice a n cap) (l.map yv) := by
  have hb := BS.of_own h (by simpa using hl) (byt_yv l)
  rcases h.2 with ⟨rfl, rfl⟩ | ⟨g, cap, cur, rfl, _, _, h1, h2, _⟩
  · exact ⟨none, 0, rfl, Nat.le_refl _, by unfold maxLen; omega, hb⟩
  · exact ⟨_, cap, rfl, h1, h2, hb⟩
theorem sumB_take (a b : List (BitVec 8)) (i : Nat) : (sumB a b).take i = sumB (a.take i) (b.take i) := by simp [sumB, List.take_zipWith]
theorem sumB_twice (a b : List (BitVec 8)) (h : a.length = b.length) : sumB (sumB a b) b = a := by
  apply List.ext_getElem
  · simp [sumB, h]
  · intro i h1 h2
    simp [sumB, BitVec.xor_assoc]
theorem sumB_zero (n : Nat) (b : List (BitVec 8)) (h : b.length = n) : sumB (zeroY n) b = b := by
  apply List.ext_getElem
  · simp [sumB, zeroY, h]
  · intro i h1 h2
    simp [sumB, zeroY]
theorem size_n12 (l : List (BitVec 8)) (h : l.length = 12) : (Try.prog.info? 29).map (·.size) = some (yvs l).size := by rw [show (Try.prog.info? 29).map (·.size) = some 12 by kernel_rfl, yvs_size, h]
theorem size_k32 (l : List (BitVec 8)) (h : l.length = 32) : (Try.prog.info? 22).map (·.size) = some (yvs l).size := by rw [show (Try.prog.info? 22).map (·.size) = some 32 by kernel_rfl, yvs_size, h]
/-- A key and a nonce of the law's own, while it runs. -/
structure CW (w W : World) (X Y : Nat) (k m : List (BitVec 8)) : Prop where
  key : ArrY W X 22 k
  non : ArrY W Y 29 m
  bel : Below w.heap.size w W
theorem CW.below {w W W' : World} {X Y : Nat} {k m : List (BitVec 8)} (h : CW w W X Y k m) (hb : Below W.heap.size W W') : CW w W' X Y k m :=
  ⟨h.key.below hb (zlt h.key), h.non.below hb (zlt h.non), h.bel.trans (hb.mono h.bel.size)⟩
theorem CW.drew {w W : World} {X Y : Nat} {k m : List (BitVec 8)} (h : CW w W X Y k m) : CW w W.drew X Y k m := ⟨h.key, h.non, h.bel.drew⟩
end Go.Proofs.Ytajfooefofafmaa
