/-
  ctr's lay: a slice of a row is filled with a number's lowest bytes, the highest first.
-/
import Derived.Test.YtajfooefofafmaaCMath
namespace Go.Proofs.Ytajfooefofafmaa
open Go.RowKit

theorem lay_full (L : List (BitVec 8)) (o n x : Nat) (ho : o + n ≤ L.length) : setF (fun j => o + (n - 1 - j)) (fun j => BitVec.ofNat 8 (x / 2 ^ (8 * j))) n L = putL L o (beY n x) := by
  have hlen : (putL L o (beY n x)).length = L.length := putL_length L o _ (by rw [beY_length]; exact ho)
  have key : ∀ (k : Nat) (i : Nat), k ≤ n → i < L.length → (setF (fun j => o + (n - 1 - j)) (fun j => BitVec.ofNat 8 (x / 2 ^ (8 * j))) k L).getD i 0 = if o + n - k ≤ i ∧ i < o + n then BitVec.ofNat 8 (x / 2 ^ (8 * (o + n - 1 - i))) else L.getD i 0 := by
    intro k
    induction k with
    | zero => intro i _ _; rw [if_neg (by omega)]; rfl
    | succ k ih =>
      intro i hk hi
      have hih := ih i (by omega) hi
      show ((setF (fun j => o + (n - 1 - j)) (fun j => BitVec.ofNat 8 (x / 2 ^ (8 * j))) k L).set (o + (n - 1 - k)) (BitVec.ofNat 8 (x / 2 ^ (8 * k)))).getD i 0 = _
      have hl := setF_length (fun j => o + (n - 1 - j)) (fun j => BitVec.ofNat 8 (x / 2 ^ (8 * j))) k L
      by_cases h : o + (n - 1 - k) = i
      · subst h
        rw [if_pos (by omega), show o + n - 1 - (o + (n - 1 - k)) = k by omega]
        simp [List.getD, hl, hi]
      · have e : ((setF (fun j => o + (n - 1 - j)) (fun j => BitVec.ofNat 8 (x / 2 ^ (8 * j))) k L).set (o + (n - 1 - k)) (BitVec.ofNat 8 (x / 2 ^ (8 * k)))).getD i 0 = (setF (fun j => o + (n - 1 - j)) (fun j => BitVec.ofNat 8 (x / 2 ^ (8 * j))) k L).getD i 0 := by
          simp [List.getD, List.getElem?_set_ne h]
        rw [e, hih]
        by_cases h2 : o + n - k ≤ i ∧ i < o + n
        · rw [if_pos h2, if_pos (by omega)]
        · rw [if_neg h2, if_neg (by omega)]
  apply List.ext_getElem
  · rw [setF_length, hlen]
  · intro i h1 h2
    have hi : i < L.length := by rwa [setF_length] at h1
    have h := key n i (by omega) hi
    simp only [List.getD, List.getElem?_eq_getElem h1, Option.getD_some] at h
    rw [h]
    by_cases c : o + n - n ≤ i ∧ i < o + n
    · rw [if_pos c]
      simp only [putL]
      rw [List.getElem_append_left (by simp [beY_length]; omega), List.getElem_append_right (by simp; omega)]
      simp only [List.length_take, Nat.min_eq_left (show o ≤ L.length by omega), beY, List.getElem_map, List.getElem_range]
      rw [show o + n - 1 - i = n - 1 - (i - o) by omega]
    · rw [if_neg c]
      simp only [putL]
      by_cases c2 : i < o
      · rw [List.getElem_append_left (by simp [beY_length]; omega), List.getElem_append_left (by simp; omega)]
        simp [hi]
      · rw [List.getElem_append_right (by simp [beY_length]; omega)]
        simp [beY_length, hi, Nat.min_eq_left (show o ≤ L.length by omega), show o + n + (i - (o + n)) = i by omega]

set_option maxRecDepth 100000 in
set_option maxHeartbeats 1600000 in
theorem lay_any (w : World) (g t o n cap x : Nat) (L : List (BitVec 8)) (h : ArrY w g t L) (ho : o + n ≤ L.length) (hn : n ≤ 8) :
    Calls Try.prog 30 #[.slice (some ⟨g, o, none⟩) n cap, .int .u64 (x : Int)] w fun e w' => e = .returned (.tuple #[]) ∧ ArrY w' g t (putL L o (beY n x)) ∧ Only g w w' := by
  have HO := Lib.hid ho
  have HA0 := Lib.hid h
  have HF := Lib.hid (lay_full L o n x ho)
  have nI : (n : Int) ≤ 8 := by omega
  clear h
  go_enter Try.func30, Try.ntmps30
  go_wp2_with fail
  go_loopw [7] (fun v7 wr => ∃ i : Nat, i ≤ n ∧ v7 = .int .i64 (i : Nat) ∧ ArrY wr g t (setF (fun j => o + (n - 1 - j)) (fun j => BitVec.ofNat 8 (x / 2 ^ (8 * j))) i L) ∧ Only g w wr) (fun v _ => n - (intOf v).toNat)
  case atStart => exact ⟨0, by omega, rfl, HA0.out, Only.refl g w⟩
  case round =>
    obtain ⟨i, hi, rfl, hA, hO⟩ := hrel
    by_cases hlt : i < n
    · obtain ⟨p, hp, hp2⟩ : ∃ p : Nat, (n : Int) - 1 - (i : Int) = (p : Int) ∧ n - 1 - i = p := ⟨n - 1 - i, by omega, rfl⟩
      have HV := Lib.hid (show (x : Int) / 2 ^ (8 * i) % 256 = yv (BitVec.ofNat 8 (x / 2 ^ (8 * i))) by rw [yv_byte]; simp)
      have ci := hA.cell (k := o + p) (by rw [setF_length]; omega)
      have fi := hA.free (o + p)
      have HST := Lib.hid (show setF (fun j => o + (n - 1 - j)) (fun j => BitVec.ofNat 8 (x / 2 ^ (8 * j))) (i + 1) L = (setF (fun j => o + (n - 1 - j)) (fun j => BitVec.ofNat 8 (x / 2 ^ (8 * j))) i L).set (o + p) (BitVec.ofNat 8 (x / 2 ^ (8 * i))) by rw [← hp2]; rfl)
      generalize hM2 : setF (fun j => o + (n - 1 - j)) (fun j => BitVec.ofNat 8 (x / 2 ^ (8 * j))) (i + 1) L = M2 at *
      have HM2 := Lib.hid hM2
      clear hM2
      generalize setF (fun j => o + (n - 1 - j)) (fun j => BitVec.ofNat 8 (x / 2 ^ (8 * j))) i L = M at *
      generalize M.getD (o + p) 0 = old at *
      have HA := Lib.hid hA
      have HOO := Lib.hid hO
      have HLT := Lib.hid hlt
      have iI : (i : Int) < (n : Int) := by omega
      have i0 : (0 : Int) ≤ (i : Int) := by omega
      have pI : (p : Int) < (n : Int) := by omega
      have p0 : (0 : Int) ≤ (p : Int) := by omega
      have e1 : IntKind.i64.wrap ((n : Int) - 1) = (n : Int) - 1 := IntWalk.i64_in _ (by omega)
      have e2 : IntKind.i64.wrap ((n : Int) - 1 - (i : Int)) = (p : Int) := by rw [hp]; exact IntWalk.i64_in _ (by omega)
      have e3 : IntKind.i64.wrap (8 * (i : Int)) = 8 * (i : Int) := IntWalk.i64_in _ (by omega)
      clear hA hO hi hlt hp hp2 ho
      go_wp2_with fail
      go_roundw
      case rel => exact ⟨i + 1, by have := HLT.out; omega, by go_num, by rw [HM2.out, HST.out, HV.out]; exact HA.out.set (o + p) _, HOO.out.setCell _ _⟩
      case measure => simp [intOf]; omega
    · obtain rfl : i = n := by omega
      rw [HF.out] at hA
      have HA := Lib.hid hA
      have HOO := Lib.hid hO
      clear hA hO
      go_wp2_with fail
      go_end0
      exact ⟨rfl, HA.out, HOO.out⟩
end Go.Proofs.Ytajfooefofafmaa
