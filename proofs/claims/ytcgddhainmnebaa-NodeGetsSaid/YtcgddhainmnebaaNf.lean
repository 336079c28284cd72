/-
  Where a key stands: the library's BinarySearch over strings; Find.
-/
import Derived.Test.YtcgddhainmnebaaFs
namespace Go.Proofs.Ytcgddhainmnebaa
set_option maxRecDepth 4000
set_option linter.unusedVariables false
open Go.ChangeShapes Go.WideShapes Go.ChangeAt Go.RowKit

/-- Strings that rise. -/
def Rising (l : List ByteArray) : Prop := l.Pairwise (fun a b => lo a b = true)
theorem rises_pair : ∀ (a : ByteArray) (l : List ByteArray), risesFrom a l = true → Rising l ∧ ∀ s ∈ l, lo a s = true
  | _, [], _ => ⟨List.Pairwise.nil, nofun⟩
  | a, k :: r, h => by
    unfold risesFrom at h
    simp only [Bool.and_eq_true, decide_eq_true_eq] at h
    obtain ⟨h1, h2⟩ := rises_pair k r h.2
    refine ⟨List.Pairwise.cons h2 h1, fun s hs => ?_⟩
    rcases List.mem_cons.1 hs with rfl | hs
    · exact h.1.1
    · exact lo_trans h.1.1 (h2 s hs)
theorem form_rising {n : NodeV} (h : formB n = true) : Rising n.ks := by
  unfold formB at h
  simp only [Bool.and_eq_true] at h
  exact (rises_pair _ _ h.1.1.2).1
theorem rising_at {l : List ByteArray} (h : Rising l) {i j : Nat} {a b : ByteArray} (hij : i < j) (ha : l[i]? = some a) (hb : l[j]? = some b) : lo a b = true := by
  obtain ⟨h1, rfl⟩ := List.getElem?_eq_some_iff.1 ha
  obtain ⟨h2, rfl⟩ := List.getElem?_eq_some_iff.1 hb
  exact List.pairwise_iff_getElem.1 h i j h1 h2 hij
/-- How many stand ahead of a key; its place, and whether it is there. -/
def rankK (l : List ByteArray) (key : ByteArray) : Nat := l.countP (fun x => lo x key)
def hasK (l : List ByteArray) (key : ByteArray) : Bool := l.any (fun x => decide (x = key))
theorem hasK_iff {l : List ByteArray} {key : ByteArray} : hasK l key = true ↔ key ∈ l := by
  unfold hasK
  rw [List.any_eq_true]
  constructor
  · rintro ⟨x, hx, e⟩; rw [decide_eq_true_iff] at e; exact e ▸ hx
  · exact fun h => ⟨key, h, by simp⟩
def findA (n : NodeV) (key : ByteArray) : Int × Bool := ((rankK n.ks key : Int) + (if hasK n.ks key && !n.lf then 1 else 0), hasK n.ks key)
theorem rank_at {l : List ByteArray} {key : ByteArray} (i : Nat) (hi : i ≤ l.length) (h1 : ∀ x s, x < i → l[x]? = some s → lo s key = true) (h2 : ∀ x s, i ≤ x → l[x]? = some s → lo s key = false) : rankK l key = i := by
  unfold rankK
  rw [← List.take_append_drop i l, List.countP_append]
  have e1 : (l.take i).countP (fun x => lo x key) = i := by
    rw [List.countP_eq_length.2 (fun s hs => ?_), List.length_take]
    · omega
    · obtain ⟨x, hx, rfl⟩ := List.getElem_of_mem hs
      rw [List.length_take] at hx
      rw [List.getElem_take]
      exact h1 x _ (by omega) (List.getElem?_eq_getElem (by omega))
  have e2 : (l.drop i).countP (fun x => lo x key) = 0 := by
    rw [List.countP_eq_zero]
    intro s hs
    obtain ⟨x, hx, rfl⟩ := List.getElem_of_mem hs
    rw [List.length_drop] at hx
    have := h2 (i + x) _ (by omega) (List.getElem?_eq_getElem (by omega))
    rw [List.getElem_drop, this]
    decide
  omega
theorem has_at {l : List ByteArray} {key s : ByteArray} (hr : Rising l) (i : Nat) (h1 : ∀ x s, x < i → l[x]? = some s → lo s key = true) (hs : l[i]? = some s) (h2 : lo s key = false) : hasK l key = decide (s = key) := by
  by_cases e : s = key
  · subst e
    rw [decide_eq_true rfl, hasK_iff]
    exact List.mem_of_getElem? hs
  · rw [decide_eq_false e, ← Bool.not_eq_true, hasK_iff]
    intro hm
    obtain ⟨x, hx⟩ := List.getElem?_of_mem hm
    rcases Nat.lt_trichotomy x i with c | c | c
    · have := h1 x key c hx; rw [lo_irr] at this; cases this
    · subst c; rw [hs] at hx; exact e (Option.some.inj hx)
    · have := rising_at hr c hs hx; rw [this] at h2; cases h2
theorem has_none {l : List ByteArray} {key : ByteArray} (h1 : ∀ x s, x < l.length → l[x]? = some s → lo s key = true) : hasK l key = false := by
  rw [← Bool.not_eq_true, hasK_iff]
  intro hm
  obtain ⟨x, hx⟩ := List.getElem?_of_mem hm
  have := h1 x key (List.getElem?_eq_some_iff.1 hx).1 hx
  rw [lo_irr] at this
  cases this
set_option maxRecDepth 100000 in
set_option maxHeartbeats 1600000 in
theorem snan_any (s : ByteArray) (w : World) : Calls Try.prog 83 #[.string s] w fun e w' => e = .returned (.bool false) ∧ w' = w := by
  go_enter Try.func83, Try.ntmps83
  go_wp2_with fail
  go_ret
  exact ⟨by simp, rfl⟩
set_option maxRecDepth 100000 in
set_option maxHeartbeats 1600000 in
theorem cnan_any (s : ByteArray) (w : World) : Calls Try.prog 102 #[.string s] w fun e w' => e = .returned (.bool false) ∧ w' = w := by
  go_enter Try.func102, Try.ntmps102
  go_wp2_with fail
  go_ret
  exact ⟨by simp, rfl⟩
set_option maxRecDepth 100000 in
set_option maxHeartbeats 1600000 in
theorem cless_any (a b : ByteArray) (w : World) : Calls Try.prog 82 #[.string a, .string b] w fun e w' => e = .returned (.bool (lo a b)) ∧ w' = w := by
  have HN := Lib.hid (fun W => cnan_any a W)
  have HL := Lib.hid (show Op.bytesLess a.toList b.toList = lo a b from rfl)
  go_enter Try.func82, Try.ntmps82
  go_wp2_with fail
  refine (HN.out _).mono ?_
  rintro e w1 ⟨rfl, rfl⟩
  go_wp2_with fail
  go_ret
  rw [← HL.out]
  exact ⟨by simp, rfl⟩
set_option maxRecDepth 100000 in
set_option maxHeartbeats 3200000 in
theorem search_any (u : Value) (l : List ByteArray) (key : ByteArray) (w : World) (h : SS w u l) (hl : l.length ≤ 140737488351232) (hr : Rising l) :
    Calls Try.prog 56 #[u, .string key] w fun e w' => e = .returned (.tuple #[.int .i64 (rankK l key : Int), .bool (hasK l key)]) ∧ w' = w := by
  obtain ⟨a, c, rfl, hc, h1⟩ := h
  clear hc
  obtain ⟨n, hn⟩ : ∃ n, l.length = n := ⟨_, rfl⟩
  have H1 := Lib.hid h1
  have HN := Lib.hid hn
  have HR := Lib.hid hr
  rw [hn] at hl ⊢
  have nI : (n : Int) ≤ 140737488351232 := by omega
  have n0 : (0 : Int) ≤ (n : Int) := by omega
  have HCL := Lib.hid (fun s W => cless_any s key W)
  have HSN := Lib.hid (fun s W => snan_any s W)
  clear h1 hn hl hr
  go_enter Try.func56, Try.ntmps56
  go_wp2_with fail
  go_loopw [7, 8, 9] (fun v7 v8 _ wr => ∃ i j : Nat, i ≤ j ∧ j ≤ n ∧ v7 = .int .i64 (i : Int) ∧ v8 = .int .i64 (j : Int) ∧ (∀ x s, x < i → l[x]? = some s → lo s key = true) ∧ (∀ x s, j ≤ x → l[x]? = some s → lo s key = false) ∧ wr = w) (fun v7 v8 _ _ => (intOf v8).toNat - (intOf v7).toNat)
  case atStart => exact ⟨0, n, by omega, by omega, rfl, rfl, fun x s hx => absurd hx (by omega), fun x s hx hs => absurd (List.getElem?_eq_some_iff.1 hs).1 (by have := HN.out; omega), rfl⟩
  case round =>
    obtain ⟨i, j, hij, hj, rfl, rfl, hlo, hhi, rfl⟩ := hrel
    by_cases hlt : i < j
    · obtain ⟨m, hm⟩ : ∃ m : Nat, (i + j) / 2 = m := ⟨_, rfl⟩
      have hm1 : i ≤ m := by omega
      have hm2 : m < j := by omega
      obtain ⟨p, hp⟩ : ∃ p, l[m]? = some p := ⟨_, List.getElem?_eq_getElem (by have := HN.out; omega)⟩
      obtain ⟨b1, o1, rfl, g1⟩ := H1.out m p hp
      have hix := index_sl b1 o1 n c m (by omega)
      have iI : (i : Int) < (j : Int) := by omega
      have jI : (j : Int) ≤ (n : Int) := by omega
      have i0 : (0 : Int) ≤ (i : Int) := by omega
      have x1 : IntKind.u64.wrap ((i : Int) + (j : Int)) = (i : Int) + (j : Int) := IntWalk.u64_in _ (by omega)
      have mI : (m : Int) < (n : Int) := by omega
      have m0 : (0 : Int) ≤ (m : Int) := by omega
      have HM := Lib.hid (And.intro hm (And.intro hm1 (And.intro hm2 (And.intro hij hj))))
      have HLO := Lib.hid hlo
      have HHI := Lib.hid hhi
      have HPP := Lib.hid hp
      clear hm1 hm2 hij hj hlo hhi hlt hp
      have hmI : ((i : Int) + (j : Int)) / 2 = (m : Int) := by have := HM.out; omega
      go_upto_region 5 with fail
      try simp only [hmI]
      clear hmI x1
      go_wp2_with fail
      refine (HCL.out p _).mono ?_
      rintro e w2 ⟨rfl, rfl⟩
      cases hb : lo p key with
      | true =>
        have HLB := Lib.hid hb
        clear hb
        go_wp2_with fail
        go_roundw
        case rel => exact ⟨m + 1, j, by have := HM.out; omega, by have := HM.out; omega, by go_num, rfl, fun x s hx hs => by
          rcases Nat.lt_or_ge x i with c | c
          · exact HLO.out x s c hs
          · rcases Nat.lt_or_ge x m with d | d
            · exact lo_trans (rising_at HR.out d hs HPP.out) HLB.out
            · obtain rfl : x = m := by omega
              rw [HPP.out] at hs; cases hs; exact HLB.out, HHI.out, by trivial⟩
        case measure => simp [intOf]; have := HM.out; omega
      | false =>
        have HLB := Lib.hid hb
        clear hb
        go_wp2_with fail
        go_roundw
        case rel => exact ⟨i, m, by have := HM.out; omega, by have := HM.out; omega, rfl, rfl, HLO.out, fun x s hx hs => by
          rcases Nat.lt_or_ge x j with c | c
          · rcases Nat.lt_or_ge m x with d | d
            · cases e : lo s key with
              | false => rfl
              | true => have := lo_trans (rising_at HR.out d HPP.out hs) e; rw [HLB.out] at this; cases this
            · obtain rfl : x = m := by omega
              rw [HPP.out] at hs; cases hs; exact HLB.out
          · exact HHI.out x s c hs, by trivial⟩
        case measure => simp [intOf]; have := HM.out; omega
    · obtain rfl : i = j := by omega
      have hrk := rank_at (key := key) i (by have := HN.out; omega) hlo hhi
      have HRK := Lib.hid hrk
      by_cases hin : i < n
      · obtain ⟨p, hp⟩ : ∃ p, l[i]? = some p := ⟨_, List.getElem?_eq_getElem (by have := HN.out; omega)⟩
        obtain ⟨b1, o1, rfl, g1⟩ := H1.out i p hp
        have hix := index_sl b1 o1 n c i (by omega)
        have HHS := Lib.hid (has_at HR.out i hlo hp (hhi i p (Nat.le_refl _) hp))
        have iI : (i : Int) < (n : Int) := by omega
        have i0 : (0 : Int) ≤ (i : Int) := by omega
        clear hij hj hlo hhi hlt hrk hin hp
        cases hb : (p.toList == key.toList) with
        | true =>
          have HPB := Lib.hid hb
          go_wp2_with fail
          go_ret2
          rw [HRK.out, HHS.out, ← str_beq, HPB.out]
          exact ⟨rfl, rfl⟩
        | false =>
          go_wp2_with fail
          refine (HSN.out p _).mono ?_
          rintro e w2 ⟨rfl, rfl⟩
          have HPB := Lib.hid hb
          go_wp2_with fail
          go_ret2
          rw [HRK.out, HHS.out, ← str_beq, HPB.out]
          exact ⟨rfl, rfl⟩
      · obtain rfl : i = n := by omega
        have HHS := Lib.hid (has_none (key := key) (fun x s hx hs => hlo x s (by have := HN.out; omega) hs))
        clear hij hj hlo hhi hlt hrk hin
        go_wp2_with fail
        go_ret2
        rw [HRK.out, HHS.out]
        exact ⟨rfl, rfl⟩
set_option maxRecDepth 100000 in
set_option maxHeartbeats 1600000 in
theorem nfind_any (k v p : Value) (n : NodeV) (key : ByteArray) (w : World) (h : NR w k v p n) (hn : NB n) (hr : Rising n.ks) :
    Calls Try.prog 25 #[.agg #[.bool n.lf, k, v, p], .string key] w fun e w' => e = .returned (.tuple #[.int .i64 (findA n key).1, .bool (findA n key).2]) ∧ Below w.heap.size w w' := by
  have hb1 := (Below.refl w.heap.size w).alloc (Nat.le_refl _) (.cells #[.bool n.lf, k, v, p] 25)
  obtain ⟨c0, c1, _, _⟩ := node_at (heap_alloc_new w (.cells #[.bool n.lf, k, v, p] 25))
  have HF := Lib.hid (search_any k n.ks key _ (h.ks.below hb1) hn.kl hr)
  have HB1 := Lib.hid hb1
  have HE := Lib.hid (show findA n key = ((rankK n.ks key : Int) + (if hasK n.ks key && !n.lf then 1 else 0), hasK n.ks key) from rfl)
  have rI : (rankK n.ks key : Int) ≤ 140737488351232 := by have := hn.kl; have : rankK n.ks key ≤ n.ks.length := List.countP_le_length; omega
  have r0 : (0 : Int) ≤ (rankK n.ks key : Int) := by omega
  rw [HE.out]
  clear h hn hb1 hr HE
  generalize rankK n.ks key = R at *
  generalize hasK n.ks key = H at *
  generalize n.lf = lf at *
  go_enter Try.func25, Try.ntmps25
  go_wp2_with fail
  refine HF.out.mono ?_
  rintro e w2 ⟨rfl, rfl⟩
  cases H <;> cases lf <;>
  · go_wp2_with fail
    go_ret2
    exact ⟨by simp, HB1.out⟩
end Go.Proofs.Ytcgddhainmnebaa
