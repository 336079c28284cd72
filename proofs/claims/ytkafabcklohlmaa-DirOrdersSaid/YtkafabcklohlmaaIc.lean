/-
  Datasets loaded and stored whole; strings compared; where a name stands (the library's BinarySearchFunc; place). (Written by tools/XIc.make.py.)
-/
import Derived.Test.YtkafabcklohlmaaIb
import Derived.Deep.MidRow
namespace Go.Proofs.Ytkafabcklohlmaa
set_option maxRecDepth 4000
set_option linter.unusedVariables false
open Go.ChangeShapes Go.WideShapes Go.ChangeAt Go.RowKit

/-- A dataset's cells as an array. -/
structure SetR (AR : Array Value) (q : SetV) : Prop where
  eq : (setRow q).toArray = AR
  sz : (Try.prog.info? 38).map (·.size) = some AR.size
  one : AR.all (·.oneCell') = true
  n : AR.size = 37
theorem SetR.same {A B : Array Value} {p q : SetV} (h : SetR A p) (k : SetR B q) : A.size = B.size := by rw [h.n, k.n]
theorem setR (q : SetV) : ∃ AR, SetR AR q := ⟨_, rfl, size_setA q, setRow_one q, by simp [setRow_length]⟩
theorem set_atR {w : World} {b t : Nat} {fr : Nat × Nat} {AR : Array Value} {s : SetV} (h : w.heap[b]? = some (.cells AR t fr)) (hr : SetR AR s) :
    w.cell? ⟨b, 0, none⟩ = some (.string s.nm) ∧ w.cell? ⟨b, 1, none⟩ = some (.string s.fr) ∧ w.cell? ⟨b, 2, none⟩ = some (.bool s.sn) ∧ w.rangeAt b 3 (ptrRow s.rt) := by
  rw [← hr.eq] at h
  exact set_at h
theorem ls_one {w : World} {b : Nat} {AR : Array Value} {s : SetV} (h : w.heap[b]? = some (.cells AR 38 (0, 0))) (hr : SetR AR s) : LS w (.slice (some ⟨b, 0, none⟩) 1 1) [s] := by
  rw [← hr.eq] at h
  exact ls_one0 h
theorem fresh15 (w : World) (o1 c1 : Array Value) (T1 : TypeId) : ∀ W, W = (w.alloc (.cells o1 T1)).setRow w.heap.size c1 → W.heap[w.heap.size]? = some (.cells c1 T1 (0, 0)) ∧ Below w.heap.size w W := by
  rintro W rfl
  exact ⟨setRow_heap _ _ _ _ _ _ (heap_alloc_new w _), ybelow_row (ba15 w _) (Nat.le_refl _) _⟩
theorem ld_set {ops : Array Oper} {rest : List Oper} {op : Oper} {a : Act} {w : World} {Q : Exit → Act → World → Prop} (hgd : op.guard = none) (x : Operand) (ho : op.op = .load 38 x)
    (b o : Nat) (hx : a.eval x = .pointer (some ⟨b, o, none⟩)) (q : SetV) (AR : Array Value) (hA : (setRow q).toArray = AR) (hc : w.rangeAt b o (setRow q))
    (h : wpList Try.prog ops Q rest (a.put op.dst (.agg AR)) w) : wpList Try.prog ops Q (op :: rest) a w := by
  subst hA
  exact wpList_load_mid hgd 38 x ho b o hx (setRow q) _ hc Try.underlying38 rfl (size_set q) h
theorem ld_set_g {ops : Array Oper} {rest : List Oper} {op : Oper} {a : Act} {w : World} {Q : Exit → Act → World → Prop} (hw : Region.wanted op (yielded ops a.tmps) = true) (x : Operand) (ho : op.op = .load 38 x)
    (b o : Nat) (hx : a.eval x = .pointer (some ⟨b, o, none⟩)) (q : SetV) (AR : Array Value) (hA : (setRow q).toArray = AR) (hc : w.rangeAt b o (setRow q))
    (h : wpList Try.prog ops Q rest (a.put op.dst (.agg AR)) w) : wpList Try.prog ops Q (op :: rest) a w := by
  subst hA
  exact wpList_step fun _ hK => by rw [if_pos hw]; exact wp_load_mid 38 x ho b o hx (setRow q) _ hc Try.underlying38 rfl (size_set q) (hK _ _ h)
def cmpB15 (a b : ByteArray) : Int := Lib.compareBytes a.data.toList b.data.toList
theorem cmpL15 : ∀ (x y : List UInt8), (Lib.compareBytes x y < 0 ↔ x < y) ∧ (Lib.compareBytes x y = 0 ↔ x = y)
  | [], [] => by simp [Lib.compareBytes]
  | [], b :: y => by simp [Lib.compareBytes]
  | a :: x, [] => by simp [Lib.compareBytes]
  | a :: x, b :: y => by
    obtain ⟨h1, h2⟩ := cmpL15 x y
    unfold Lib.compareBytes
    rw [List.cons_lt_cons_iff]
    by_cases h : a < b
    · have : a ≠ b := fun e => by subst e; exact absurd h (UInt8.lt_irrefl _)
      simp [h, this]
    · by_cases k : b < a
      · have : a ≠ b := fun e => by subst e; exact absurd k (UInt8.lt_irrefl _)
        simp [h, k, this]
      · have e : a = b := UInt8.le_antisymm (UInt8.not_lt.1 k) (UInt8.not_lt.1 h)
        subst e
        simp [h, h1, h2]
theorem cmp_lo15 (a b : ByteArray) : decide (cmpB15 a b < 0) = lo a b := by
  rw [lo_lt, Lib.toList_data, Lib.toList_data]
  exact decide_eq_decide.2 (cmpL15 _ _).1
theorem cmp_eq15 (a b : ByteArray) : cmpB15 a b = 0 ↔ a = b := by
  unfold cmpB15
  rw [(cmpL15 _ _).2]
  exact ⟨fun h => ByteArray.ext (Array.toList_inj.1 h), fun h => by rw [h]⟩
set_option maxRecDepth 100000 in
set_option maxHeartbeats 1600000 in
theorem cmpstr15 (a b : ByteArray) (w : World) : Calls Try.prog 77 #[.string a, .string b] w fun e w' => e = .returned (.int .i64 (cmpB15 a b)) ∧ w' = w := by
  have HC := Lib.hid (fun W => Lib.run_compareString (P := Try.prog) a b W)
  go_enter Try.func77, Try.ntmps77
  go_wp2_with fail
  rw [run_callFunc_extern Try.func85 (by kernel_rfl) (by kernel_rfl) (by kernel_rfl) (e := Extern.BytealgCompare.compare) (by kernel_rfl), HC.out]
  simp only [Result.andThen]
  rw [Oper.upon_value]
  go_wp2_with fail
  go_ret
  exact ⟨rfl, rfl⟩
set_option maxRecDepth 100000 in
set_option maxHeartbeats 1600000 in
theorem strcmp15 (a b : ByteArray) (w : World) : Calls Try.prog 62 #[.string a, .string b] w fun e w' => e = .returned (.int .i64 (cmpB15 a b)) ∧ w' = w := by
  have HC := Lib.hid (fun W => cmpstr15 a b W)
  go_enter Try.func62, Try.ntmps62
  go_wp2_with fail
  refine (HC.out _).mono ?_
  rintro e w1 ⟨rfl, rfl⟩
  go_wp2_with fail
  go_ret
  exact ⟨rfl, rfl⟩
set_option maxRecDepth 100000 in
set_option maxHeartbeats 1600000 in
theorem placec15 (x : SetV) (AR : Array Value) (hr : SetR AR x) (key : ByteArray) (w : World) :
    Calls Try.prog 61 #[.agg AR, .string key] w fun e w' => e = .returned (.int .i64 (cmpB15 x.nm key)) ∧ Below w.heap.size w w' := by
  have hn := new15 w (.cells AR 38)
  obtain ⟨c0, _, _, _⟩ := set_atR hn hr
  have HB := Lib.hid (ba15 w (.cells AR 38))
  have HC := Lib.hid (fun W => strcmp15 x.nm key W)
  clear hr hn
  go_enter Try.func61, Try.ntmps61
  go_wp2_with fail
  refine (HC.out _).mono ?_
  rintro e w1 ⟨rfl, hw⟩
  subst hw
  go_wp2_with fail
  go_ret
  exact ⟨rfl, HB.out⟩
set_option maxRecDepth 100000 in
set_option maxHeartbeats 3200000 in
theorem bsf15 (a : Option Addr) (n c : Nat) (L : List SetV) (key : ByteArray) (w : World) (h : LS w (.slice a n c) L) (hs : n ≤ 1000) (hr : Rising (nms L)) :
    Calls Try.prog 60 #[.slice a n c, .string key, .func (.func 61) #[] #[]] w fun e w' => e = .returned (.tuple #[.int .i64 (rankK (nms L) key : Nat), .bool (hasK (nms L) key)]) ∧ Below w.heap.size w w' := by
  obtain ⟨a', c', he, _, hat⟩ := h
  injection he with e1 e2 e3
  subst e1; subst e3
  have HI := Lib.hid hat
  have HN := Lib.hid (show (nms L).length = n by rw [e2]; exact List.length_map ..)
  have HL := Lib.hid e2
  have HR := Lib.hid hr
  have nI : (n : Int) ≤ 1000 := by omega
  have n0 : (0 : Int) ≤ (n : Int) := by omega
  have HC := Lib.hid (fun (x : SetV) AR (h : SetR AR x) W => placec15 x AR h key W)
  clear hat hr e2
  go_enter Try.func60, Try.ntmps60
  go_wp2_with fail
  go_loopw [9, 10, 11] (fun v9 v10 _ wr => ∃ i j : Nat, i ≤ j ∧ j ≤ n ∧ v9 = .int .i64 (i : Int) ∧ v10 = .int .i64 (j : Int) ∧ (∀ x s, x < i → (nms L)[x]? = some s → lo s key = true) ∧ (∀ x s, j ≤ x → (nms L)[x]? = some s → lo s key = false) ∧ Below w.heap.size w wr) (fun v v2 _ _ => (intOf v2).toNat - (intOf v).toNat)
  case atStart => exact ⟨0, n, by omega, by omega, rfl, rfl, fun x s hx => absurd hx (by omega), fun x s hx hs => absurd (List.getElem?_eq_some_iff.1 hs).1 (by have := HN.out; omega), Below.refl _ _⟩
  case round =>
    obtain ⟨i, j, hij, hj, rfl, rfl, hlo, hhi, hb⟩ := hrel
    have HB := Lib.hid hb
    clear hb
    by_cases hlt : i < j
    · obtain ⟨m, hm⟩ : ∃ m : Nat, (i + j) / 2 = m := ⟨_, rfl⟩
      have hm1 : i ≤ m := by omega
      have hm2 : m < j := by omega
      obtain ⟨p, hp⟩ : ∃ p, L[m]? = some p := ⟨_, List.getElem?_eq_getElem (by have := HL.out; omega)⟩
      obtain ⟨b1, o1, rfl, hrg⟩ := HI.out m p hp
      have HRG := Lib.hid (range_below hrg HB.out)
      obtain ⟨AR, har⟩ := setR p
      have HAR := Lib.hid har
      have hpk : (nms L)[m]? = some p.nm := by unfold nms; rw [List.getElem?_map, hp]; rfl
      have hix := index_set b1 o1 n c m (by omega)
      have iI : (i : Int) < (j : Int) := by omega
      have jI : (j : Int) ≤ (n : Int) := by omega
      have i0 : (0 : Int) ≤ (i : Int) := by omega
      have x1 : IntKind.u64.wrap ((i : Int) + (j : Int)) = (i : Int) + (j : Int) := IntWalk.u64_in _ (by omega)
      have mI : (m : Int) < (n : Int) := by omega
      have m0 : (0 : Int) ≤ (m : Int) := by omega
      have HM := Lib.hid (And.intro hm (And.intro hm1 (And.intro hm2 (And.intro hij hj))))
      have HLO := Lib.hid hlo
      have HHI := Lib.hid hhi
      have HPP := Lib.hid hpk
      clear hm1 hm2 hij hj hlo hhi hlt hp hpk hrg har
      have hmI : ((i : Int) + (j : Int)) / 2 = (m : Int) := by have := HM.out; omega
      go_upto_region 5 with fail
      try simp only [hmI]
      clear hmI x1
      go_wp2_with (first
        | (with_reducible refine ld_set (op := ⟨some 28, _, _, _, _, _⟩) rfl _ rfl b1 (o1 + m * 37) rfl p _ HAR.out.eq HRG.out ?_)
        | (refine (HC.out p AR HAR.out _).mono ?_; rintro e w2 ⟨rfl, hb2⟩; have HB2 := Lib.hid (bt15 HB.out hb2); clear hb2))
      · rename_i hc
        have hb : lo p.nm key = true := by rw [← cmp_lo15]; exact decide_eq_true hc
        exact ⟨⟨m + 1, j, by have := HM.out; omega, by have := HM.out; omega, by go_num, rfl, fun x s hx hs => by
          rcases Nat.lt_or_ge x i with c | c
          · exact HLO.out x s c hs
          · rcases Nat.lt_or_ge x m with d | d
            · exact lo_trans (rising_at HR.out d hs HPP.out) hb
            · obtain rfl : x = m := by omega
              rw [HPP.out] at hs; cases hs; exact hb, HHI.out, HB2.out⟩, by simp only [intOf]; have := HM.out; omega⟩
      · rename_i hc
        have hb : lo p.nm key = false := by rw [← cmp_lo15]; exact decide_eq_false (by omega)
        exact ⟨⟨i, m, by have := HM.out; omega, by have := HM.out; omega, rfl, rfl, HLO.out, fun x s hx hs => by
          rcases Nat.lt_or_ge x j with c | c
          · rcases Nat.lt_or_ge m x with d | d
            · cases e : lo s key with
              | false => rfl
              | true => have := lo_trans (rising_at HR.out d HPP.out hs) e; rw [hb] at this; cases this
            · obtain rfl : x = m := by omega
              rw [HPP.out] at hs; cases hs; exact hb
          · exact HHI.out x s c hs, HB2.out⟩, by simp only [intOf]; have := HM.out; omega⟩
    · obtain rfl : i = j := by omega
      have hrk := rank_at (key := key) i (by have := HN.out; omega) hlo hhi
      have HRK := Lib.hid hrk
      by_cases hin : i < n
      · obtain ⟨p, hp⟩ : ∃ p, L[i]? = some p := ⟨_, List.getElem?_eq_getElem (by have := HL.out; omega)⟩
        obtain ⟨b1, o1, rfl, hrg⟩ := HI.out i p hp
        have HRG := Lib.hid (range_below hrg HB.out)
        obtain ⟨AR, har⟩ := setR p
        have HAR := Lib.hid har
        have hpk : (nms L)[i]? = some p.nm := by unfold nms; rw [List.getElem?_map, hp]; rfl
        have hix := index_set b1 o1 n c i (by omega)
        have HHS := Lib.hid (has_at HR.out i hlo hpk (hhi i p.nm (Nat.le_refl _) hpk))
        have iI : (i : Int) < (n : Int) := by omega
        have i0 : (0 : Int) ≤ (i : Int) := by omega
        clear hij hj hlo hhi hlt hrk hin hp hpk hrg har
        go_wp2_with (first
          | (with_reducible refine ld_set_g (op := ⟨some 44, _, _, _, _, _⟩) (by kernel_rfl) _ rfl b1 (o1 + i * 37) rfl p _ HAR.out.eq HRG.out ?_)
          | (refine (HC.out p AR HAR.out _).mono ?_; rintro e w2 ⟨rfl, hb2⟩; have HB2 := Lib.hid (bt15 HB.out hb2); clear hb2))
        go_ret2
        rw [HRK.out, HHS.out]
        refine ⟨?_, HB2.out⟩
        have e : (cmpB15 p.nm key == 0) = decide (p.nm = key) := by
          by_cases h : p.nm = key
          · rw [(cmp_eq15 _ _).2 h, decide_eq_true h]; rfl
          · rw [decide_eq_false h, beq_eq_false_iff_ne]; exact fun e => h ((cmp_eq15 _ _).1 e)
        simp [e]
      · have HHS := Lib.hid (has_none (key := key) (l := nms L) (fun x s hx hs => hlo x s (by have := HN.out; omega) hs))
        have iI : ¬ ((i : Int) < (n : Int)) := by omega
        clear hij hj hlo hhi hlt hrk hin
        go_wp2_with fail
        go_ret2
        rw [HRK.out, HHS.out]
        exact ⟨rfl, HB.out⟩
set_option maxRecDepth 100000 in
set_option maxHeartbeats 1600000 in
theorem place15 (v : Value) (L : List SetV) (key : ByteArray) (w : World) (h : LS w v L) (hs : L.length ≤ 1000) (hr : Rising (nms L)) :
    Calls Try.prog 35 #[v, .string key] w fun e w' => e = .returned (.tuple #[.int .i64 (rankK (nms L) key : Nat), .bool (hasK (nms L) key)]) ∧ Below w.heap.size w w' := by
  obtain ⟨a, c, rfl, h2⟩ := h
  have HC := Lib.hid (bsf15 a L.length c L key w ⟨a, c, rfl, h2⟩ hs hr)
  clear h2 hr
  go_enter Try.func35, Try.ntmps35
  go_wp2_with fail
  refine HC.out.mono ?_
  rintro e w1 ⟨rfl, hb⟩
  have HB := Lib.hid hb
  clear hb
  go_wp2_with fail
  go_ret2
  exact ⟨rfl, HB.out⟩
end Go.Proofs.Ytkafabcklohlmaa
