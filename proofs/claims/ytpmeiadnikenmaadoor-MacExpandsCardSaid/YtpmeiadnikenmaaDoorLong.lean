/-
  The reference's numbers of digits by 10000: made of a number, their product, their power, which is greater.
-/
import Derived.Test.YtpmeiadnikenmaaDoorRows
import Derived.WalkKit
import Derived.WalkSpells
import Derived.WalkLawsBesides
import Derived.Deep.QuietTactic
import Derived.BigQuiet
import Derived.BigRegion
import Derived.WalkSmall
import Derived.Lib.Hide
import Derived.Test.YtpmeiadnikenmaaDoorDigits
namespace Go.Proofs.YtpmeiadnikenmaaDoor
open Go.RowKit

/-- A slice of ints that reads as l. -/
def LS (w : World) (v : Value) (l : List Int) : Prop :=
  ∃ a cap, v = .slice a l.length cap ∧ (l = [] ∨ ∃ b off, a = some ⟨b, off, none⟩ ∧ ∀ i, i < l.length → w.cell? ⟨b, off + i, none⟩ = some (.int .i64 (l[i]?.getD 0)))
theorem LS.kept {w w' : World} {v : Value} {l : List Int} (h : LS w v l) (hb : Below w.heap.size w w') : LS w' v l := by
  obtain ⟨a, cap, hv, h⟩ := h
  refine ⟨a, cap, hv, ?_⟩
  rcases h with h | ⟨b, off, ha, hc⟩
  · exact .inl h
  · refine .inr ⟨b, off, ha, fun i hi => ?_⟩
    have hlt := block_lt_of_cell (hc i hi)
    rw [hb.cell hlt]; exact hc i hi
theorem LS.of_own {w : World} {base n : Nat} {v : Value} {l : List Int} (h : w.ownsRow base 3 1 v n (l.map (Value.int .i64))) (hl : l.length = n) : LS w v l := by
  rcases h.2 with ⟨rfl, h0⟩ | ⟨g, cap, cur, rfl, _, hg, hc, _, hs, ht⟩
  · have : l = [] := List.eq_nil_of_length_eq_zero (by omega)
    subst this
    exact ⟨none, 0, rfl, .inl rfl⟩
  · refine ⟨some ⟨g, 0, none⟩, cap, by rw [hl], .inr ⟨g, 0, rfl, fun i hi => ?_⟩⟩
    rw [Nat.zero_add, h.cellAt i (by omega)]
    simp [hi]
theorem info_int : (Tryd.prog.info? 3).map (fun i => (i.zero, i.size, i.bytes)) = some (some (.int .i64 0), 1, 8) := by kernel_rfl

theorem mul_lt_both (a b c d : Int) (ha : 0 ≤ a) (hac : a < c) (hb : 0 ≤ b) (hbd : b < d) : a * b < c * d := by
  have h1 : a * b ≤ a * d := Int.mul_le_mul_of_nonneg_left (Int.le_of_lt hbd) ha
  have h2 : a * d < c * d := Int.mul_lt_mul_of_pos_right hac (by omega)
  omega
/-- What a product leaves. -/
def Prod (w : World) (la lb : List Int) (n : Nat) (e : Ending) (w' : World) : Prop :=
  ∃ v r, e = .returned v ∧ LS w' v r ∧ Dig r ∧ Trim r ∧ valL r = valL la * valL lb ∧ r.length ≤ n ∧ Below w.heap.size w w'
/-- A row of ints that the call made, at block O. -/
def Row (w : World) (O n : Nat) (xs : List Int) : Prop := w.ownsRow O 3 1 (.slice (some ⟨O, 0, none⟩) n n) n (xs.map (Value.int .i64))
theorem Row.cell {w : World} {O n : Nat} {xs : List Int} (h : Row w O n xs) (hl : xs.length = n) {j : Nat} (hj : j < n) : w.cell? ⟨O, j, none⟩ = some (.int .i64 (xs[j]?.getD 0)) := by
  have := World.ownsRow.cellAt h j (by omega)
  rw [this]; simp [hl, hj]
theorem Row.free {w : World} {O n : Nat} {xs : List Int} (h : Row w O n xs) (j : Nat) : w.frozen? ⟨O, j, none⟩ = false := World.ownsRow.frozenAt h j
theorem Row.set {w : World} {O n : Nat} {xs : List Int} (h : Row w O n xs) (j : Nat) (v : Int) : Row (w.setCell ⟨O, j, none⟩ (.int .i64 v)) O n (xs.set j v) := by
  have := (World.ownsRow.stored h j (.int .i64 v)).1
  unfold Row
  rwa [List.map_set]
theorem Row.drewN {w : World} {O n : Nat} {xs : List Int} (h : Row w O n xs) (k : Nat) : Row (w.drewN k) O n xs := h
theorem Row.drew {w : World} {O n : Nat} {xs : List Int} (h : Row w O n xs) : Row w.drew O n xs := h
theorem Row.part {w : World} {O n : Nat} {xs : List Int} (h : Row w O n xs) (hl : xs.length = n) (m : Nat) (hm : m ≤ n) : LS w (.slice (some ⟨O, 0, none⟩) m n) (xs.take m) := by
  have hlen : (xs.take m).length = m := by rw [List.length_take, Nat.min_eq_left (by omega)]
  refine ⟨_, n, by rw [hlen], .inr ⟨O, 0, rfl, fun i hi => ?_⟩⟩
  rw [hlen] at hi
  rw [Nat.zero_add, h.cell hl (by omega), List.getElem?_take, if_pos hi]
theorem zeros_row (n : Nat) : (List.replicate n (0 : Int)).map (Value.int .i64) = List.replicate n (Value.int .i64 0) := by simp
set_option maxRecDepth 100000 in
set_option maxHeartbeats 1600000 in
theorem ltimes_some (la lb : List Int) (ba oa ca bb ob cb : Nat) (w : World) (ha : Dig la) (hb : Dig lb) (na : la.length ≤ 100) (nb : lb.length ≤ 100)
    (cA : ∀ i, i < la.length → w.cell? ⟨ba, oa + i, none⟩ = some (.int .i64 (la[i]?.getD 0))) (cB : ∀ i, i < lb.length → w.cell? ⟨bb, ob + i, none⟩ = some (.int .i64 (lb[i]?.getD 0)))
    (lA : ba < w.heap.size) (lB : bb < w.heap.size) :
    Calls Tryd.prog 57 #[.slice (some ⟨ba, oa, none⟩) la.length ca, .slice (some ⟨bb, ob, none⟩) lb.length cb] w
      (Prod w la lb (la.length + lb.length + 1)) := by
  obtain ⟨i0, hi, hz0, hz1, hz2⟩ := info_parts info_int
  have HST := Lib.hid (Out10.start la lb)
  generalize hA : la.length = A at *
  generalize hB : lb.length = B at *
  have HA := Lib.hid hA
  have HB := Lib.hid hB
  clear hA hB
  go_enter Tryd.func57, Tryd.ntmps57
  go_wp2_with (at_make; refine wpList_make_full _ rfl _ _ _ rfl w.heap.size 3 i0 (.int .i64 0) 1 Tryd.underlying94 hi hz0 hz1 .i64 .i64 _ _ (A + B + 1) rfl rfl (by rfl) (by rfl) ?c1 ?c2 ?c3 ?_)
  case c1 => rw [hz2]; omega
  case c2 => unfold maxLen; omega
  case c3 => omega
  intro w1 hown hgrow
  have hb1 := (Below.refl w.heap.size w).grown hgrow (Nat.le_refl _) (by simp)
  have hrow : Row w1 w.heap.size (A + B + 1) (List.replicate (A + B + 1) 0) := by unfold Row; rw [zeros_row, ← toList_madeCells_one]; exact hown
  have cA1 : ∀ i, i < A → w1.cell? ⟨ba, oa + i, none⟩ = some (.int .i64 (la[i]?.getD 0)) := fun i hi => (hb1.cell (p := ⟨ba, oa + i, none⟩) lA).trans (cA i hi)
  have cB1 : ∀ i, i < B → w1.cell? ⟨bb, ob + i, none⟩ = some (.int .i64 (lb[i]?.getD 0)) := fun i hi => (hb1.cell (p := ⟨bb, ob + i, none⟩) lB).trans (cB i hi)
  clear hgrow hown hi hz0 hz1 hz2 cA cB
  generalize hO : w.heap.size = O at *
  go_wp2
  go_loopw [18] (fun v18 wr => ∃ i xs, i ≤ A ∧ v18 = .int .i64 (i : Nat) ∧ Out10 la lb xs i ∧ Row wr O (A + B + 1) xs ∧ Below O w1 wr) (fun v _ => A - (intOf v).toNat)
  case atStart => exact ⟨0, _, by omega, rfl, HST.out, hrow, Below.refl _ _⟩
  case round =>
    obtain ⟨i, xs, hi, rfl, hX, hR, hbe⟩ := hrel
    by_cases hiA : i < A
    · have HIN := Lib.hid hX.inner
      have HV := Lib.hid hX.val
      have HR := Lib.hid hR
      clear hX hR hrow
      go_wp2_with fail
      go_loopw [23] (fun v23 wr => ∃ k ys, k ≤ B ∧ v23 = .int .i64 (k : Nat) ∧ Inn10 la lb ys i k (valL xs) ∧ Row wr O (A + B + 1) ys ∧ Below O w1 wr) (fun v _ => B - (intOf v).toNat)
      case atStart => exact ⟨0, xs, by omega, rfl, HIN.out, HR.out, hbe⟩
      case round =>
        obtain ⟨k, ys, hk, rfl, hI, hW, hby⟩ := hrel
        by_cases hkB : k < B
        · have hlen : ys.length = A + B + 1 := by rw [← HA.out, ← HB.out]; exact hI.len
          obtain ⟨a, hae⟩ : ∃ a, la[i]?.getD 0 = a := ⟨_, rfl⟩
          obtain ⟨b, hbe'⟩ : ∃ b, lb[k]?.getD 0 = b := ⟨_, rfl⟩
          obtain ⟨x, hxe⟩ : ∃ x, ys[i + k]?.getD 0 = x := ⟨_, rfl⟩
          obtain ⟨y, hye⟩ : ∃ y, ys[i + k + 1]?.getD 0 = y := ⟨_, rfl⟩
          have c1 := (hby.cell (p := ⟨ba, oa + i, none⟩) lA).trans (cA1 i hiA)
          have c2 := (hby.cell (p := ⟨bb, ob + k, none⟩) lB).trans (cB1 k hkB)
          have c3 := hW.cell hlen (j := i + k) (by omega)
          have c4 := hW.cell hlen (j := i + k + 1) (by omega)
          have f3 := hW.free (i + k)
          have f4 := hW.free (i + k + 1)
          obtain ⟨⟨s0, s1⟩, hnext⟩ := hI.step (by rw [HA.out]; exact hiA) (by rw [HB.out]; exact hkB) ha hb _ rfl
          have a12 := dig_at la ha i
          have b12 := dig_at lb hb k
          have x0 := hI.pos (i + k)
          have x1 := hI.cur
          have y0 := hI.pos (i + k + 1)
          have y1 := hI.le (i + k + 1) (by omega)
          rw [hae] at c1 a12 s0 s1 hnext
          rw [hbe'] at c2 b12 s0 s1 hnext
          rw [hxe] at c3 x0 x1 s0 s1 hnext
          rw [hye] at c4 y0 y1 hnext
          obtain ⟨m1, m2⟩ := mul_dig a b a12.1 a12.2 b12.1 b12.2
          have hne1 : ba ≠ O := by omega
          have hne2 : bb ≠ O := by omega
          have HN := Lib.hid hnext
          have HW := Lib.hid hW
          clear hae hbe' hxe hye hnext hI hW hlen HIN HR HV cA1 cB1 HST
          go_wp2_with fail
          go_region
          go_wp2_with fail
          go_region
          go_wp2_with fail
          go_roundw
          case rel =>
            exact ⟨k + 1, _, by omega, by go_num, HN.out, ((HW.out.set (i + k) (x + a * b)).set (i + k + 1) (y + (x + a * b) / 10000)).set (i + k) ((x + a * b) % 10000),
              ((((hby.setCell (p := ⟨O, i + k, none⟩) (Nat.le_refl _) _).setCell (p := ⟨O, i + k + 1, none⟩) (Nat.le_refl _) _).setCell (p := ⟨O, i + k, none⟩) (Nat.le_refl _) _).drew).drew⟩
          case measure => simp [intOf]; omega
        · obtain rfl : k = B := by omega
          have HI := Lib.hid hI
          have HW := Lib.hid hW
          clear hI hW cA1 cB1
          go_wp2_with fail
          go_roundw
          case rel =>
            have hI := HI.out
            rw [← HB.out] at hI
            exact ⟨i + 1, ys, by omega, by go_num, hI.outer HV.out (by rw [HA.out]; exact hiA), HW.out, hby⟩
          case measure => simp [intOf]; omega
    · obtain rfl : i = A := by omega
      have hN := hX.norm
      have hvx := hX.val
      rw [← HA.out, List.take_length] at hvx
      rw [hvx, HA.out, HB.out] at hN
      have hVb : valL la * valL lb < 10000 ^ (i + B) := by
        have p := valL_bound la ha
        have q := valL_bound lb hb
        rw [HA.out] at p
        rw [HB.out] at q
        rw [Int.pow_add]
        exact mul_lt_both _ _ _ _ p.1 p.2 q.1 q.2
      have HVB := Lib.hid hVb
      generalize hVe : valL la * valL lb = V at *
      have HVE := Lib.hid hVe
      clear hVe
      have HN0 := Lib.hid hN
      have HR0 := Lib.hid hR
      clear hX hR hN hvx hVb cA1 cB1 hrow
      go_wp2_with fail
      go_loopw [8] (fun v8 wr => ∃ j ys, j ≤ i + B ∧ v8 = .int .i64 (j : Nat) ∧ Nrm ys j (i + B + 1) V ∧ Row wr O (i + B + 1) ys ∧ Below O w1 wr) (fun v _ => i + B - (intOf v).toNat)
      case atStart => exact ⟨0, xs, by omega, rfl, HN0.out, HR0.out, hbe⟩
      case round =>
        obtain ⟨j, ys, hj, rfl, hI, hW, hby⟩ := hrel
        have hlen : ys.length = i + B + 1 := hI.len
        by_cases hjl : j < i + B
        · obtain ⟨x, hxe⟩ : ∃ x, ys[j]?.getD 0 = x := ⟨_, rfl⟩
          obtain ⟨y, hye⟩ : ∃ y, ys[j + 1]?.getD 0 = y := ⟨_, rfl⟩
          have c3 := hW.cell hlen (j := j) (by omega)
          have c4 := hW.cell hlen (j := j + 1) (by omega)
          have f3 := hW.free j
          have f4 := hW.free (j + 1)
          have hnext := hI.step (by omega)
          have x0 := hI.pos j
          have x1 := hI.cur
          have y0 := hI.pos (j + 1)
          have y1 := hI.hi (j + 1) (by omega)
          rw [hxe] at c3 x0 x1 hnext
          rw [hye] at c4 y0 y1 hnext
          have HN := Lib.hid hnext
          have HW := Lib.hid hW
          clear hxe hye hnext hI hW hlen HN0 HR0
          go_wp2_with fail
          go_region
          go_wp2_with fail
          go_roundw
          case rel =>
            exact ⟨j + 1, _, by omega, by go_num, HN.out, (HW.out.set (j + 1) (y + x / 10000)).set j (x % 10000),
              ((hby.setCell (p := ⟨O, j + 1, none⟩) (Nat.le_refl _) _).setCell (p := ⟨O, j, none⟩) (Nat.le_refl _) _).drew⟩
          case measure => simp [intOf]; omega
        · obtain rfl : j = i + B := by omega
          have hD := hI.done rfl HVB.out
          have hVy := hI.val
          have HD := Lib.hid hD
          have HW := Lib.hid hW
          have HL := Lib.hid hlen
          have HVY := Lib.hid hVy
          clear hI hW hlen hD hVy HN0 HR0
          go_wp2_with fail
          go_loop [5] (fun v5 => ∃ m, m ≤ i + B + 1 ∧ v5 = .slice (some ⟨O, 0, none⟩) m (i + B + 1) ∧ valL (ys.take m) = V) (fun v => match v with | .slice _ m _ => m | _ => 0)
          case atStart => exact ⟨i + B + 1, by omega, rfl, by rw [List.take_of_length_le (by rw [HL.out]; omega)]; exact HVY.out⟩
          case round =>
            obtain ⟨m, hm, rfl, hV⟩ := hrel
            cases m with
            | zero =>
              have HV := Lib.hid hV
              clear hV
              go_wp2
              go_ret
              have hV := HV.out
              exact ⟨_, [], rfl, by simpa using HW.out.part HL.out 0 (by omega), by simp [Dig], .inl rfl, by rw [HVE.out, ← HV.out]; simp, by simp, by rw [hO]; exact hb1.trans hby⟩
            | succ q =>
              have c3 := HW.out.cell HL.out (j := q) (by omega)
              have d3 := dig_at ys HD.out q
              have ht := trim_step ys q (by rw [HL.out]; omega)
              have hd := trim_done ys q (by rw [HL.out]; omega)
              generalize ys[q]?.getD 0 = x at *
              by_cases hx : x = 0
              · have hV2 := (ht hx).trans hV
                have HV := Lib.hid hV2
                subst hx
                clear hV hV2 ht hd
                go_wp2
                go_round
                case rel => exact ⟨q, by omega, rfl, HV.out⟩
                case measure => simp
              · have HV := Lib.hid hV
                have HT := Lib.hid (hd hx)
                have hx1 : 0 < x := by omega
                clear hV ht hd hx
                go_wp2
                go_ret
                exact ⟨_, ys.take (q + 1), rfl, HW.out.part HL.out (q + 1) (by omega), dig_take ys HD.out _, HT.out, by rw [HVE.out]; exact HV.out, by rw [List.length_take, HL.out]; omega, by rw [hO]; exact hb1.trans hby⟩

/-- The reference's product. -/
theorem ltimes_any (va vb : Value) (la lb : List Int) (w : World) (hA : LS w va la) (hB : LS w vb lb) (a0 : la ≠ []) (b0 : lb ≠ []) (ha : Dig la) (hb : Dig lb) (na : la.length ≤ 100) (nb : lb.length ≤ 100) :
    Calls Tryd.prog 57 #[va, vb] w (Prod w la lb (la.length + lb.length + 1)) := by
  obtain ⟨a, ca, rfl, h1⟩ := hA
  obtain ⟨b, cb, rfl, h2⟩ := hB
  obtain ⟨ba, oa, rfl, cA⟩ := h1.resolve_left a0
  obtain ⟨bb, ob, rfl, cB⟩ := h2.resolve_left b0
  exact ltimes_some la lb ba oa ca bb ob cb w ha hb na nb cA cB (block_lt_of_cell (cA 0 (List.length_pos_iff.2 a0))) (block_lt_of_cell (cB 0 (List.length_pos_iff.2 b0)))

/-- What is made of a number. -/
def Made (w : World) (x : Int) (n : Nat) (e : Ending) (w' : World) : Prop :=
  ∃ v r, e = .returned v ∧ LS w' v r ∧ Dig r ∧ Trim r ∧ valL r = x ∧ r.length ≤ n ∧ Below w.heap.size w w'

set_option maxHeartbeats 800000 in
theorem lof_any (x : Int) (w : World) (h0 : 0 ≤ x) (h1 : x < 18446744073709551616) :
    Calls Tryd.prog 58 #[.int .u64 x] w (Made w x 20) := by
  obtain ⟨i0, hi, hz0, hz1, hz2⟩ := info_parts info_int
  have HI := Lib.hid hi
  have HZ0 := Lib.hid hz0
  have HZ1 := Lib.hid hz1
  have HZ2 := Lib.hid hz2
  clear hi hz0 hz1 hz2
  go_enter Tryd.func58, Tryd.ntmps58
  go_wp2_with fail
  go_loopw [0, 3] (fun v0 v3 wr => ∃ (y : Int) (l : List Int), v0 = .int .u64 y ∧ Of10 x y l ∧
      wr.ownsRow w.heap.size 3 1 v3 l.length (l.map (Value.int .i64)) ∧ Below w.heap.size w wr) (fun v _ _ => (intOf v).toNat)
  case atStart => exact ⟨x, [], rfl, Of10.start x h0 h1, World.ownsRow_nil _ _ _ _, Below.refl _ _⟩
  case round =>
    obtain ⟨y, l, rfl, hx, ho, hb⟩ := hrel
    by_cases hy : y = 0
    · subst hy
      have HX := Lib.hid hx
      have HO := Lib.hid ho
      clear hx ho
      go_wp2_with fail
      go_ret
      have hx := HX.out
      exact ⟨_, l, rfl, LS.of_own HO.out rfl, hx.dig, hx.trim rfl, by simpa using hx.val, hx.len, hb⟩
    · have y0 := hx.y0
      have y1 := hx.y1
      have hy1 : 0 < y := by omega
      obtain ⟨hs, hl⟩ := hx.step hy1
      have HX := Lib.hid hs
      have HO := Lib.hid (ho.alloc (.cells #[Value.int .i64 (y % 10000)] 3))
      have hsz := hb.size
      have hb2 := hb.alloc hsz (.cells #[Value.int .i64 (y % 10000)] 3)
      have HC := Lib.hid (heap_alloc_new wr (.cells #[Value.int .i64 (y % 10000)] 3))
      clear hx ho hs
      go_wp2_with (at_builtin; go_must (with_reducible refine wpList_append_own _ rfl _ _ 94 rfl w.heap.size 3 i0 (.int .i64 0) 1 8 Tryd.underlying94 HI.out HZ0.out HZ1.out HZ2.out rfl (by decide) u3 l.length (l.map (Value.int .i64)) rfl HO.out ⟨wr.heap.size, 0, none⟩ 1 1 [.int .i64 (y % 10000)] rfl rfl ?c1 ?c2 ?c3 ?c4 ?c5 ?_))
      case c1 =>
        intro j u hj
        match j, hj with
        | 0, hj =>
          simp at hj; subst hj
          simp [Addr.add]
        | j + 1, hj => simp at hj
      case c2 => intro u hu; simp at hu; subst hu; rfl
      case c3 => unfold maxLen; omega
      case c4 => omega
      case c5 => simp; omega
      intro v' w1 hown' hgrow _
      have hb3 := hb2.grown hgrow (by simp; omega) (fun k hk => (HO.out.lt k hk).1)
      have HW := Lib.hid (show w1.ownsRow w.heap.size 3 1 v' (l ++ [y % 10000]).length ((l ++ [y % 10000]).map (Value.int .i64)) from by simpa using hown')
      clear hown' hgrow
      go_wp2_with fail
      go_roundw
      case rel => exact ⟨y / 10000, l ++ [y % 10000], rfl, HX.out, HW.out, hb3⟩
      case measure => simp [intOf]; omega

/-- The reference's power. -/
def Pow (w : World) (l : List Int) (k n : Nat) (e : Ending) (w' : World) : Prop :=
  ∃ v r, e = .returned v ∧ LS w' v r ∧ r ≠ [] ∧ Dig r ∧ Trim r ∧ valL r = valL l ^ k ∧ r.length ≤ n ∧ Below w.heap.size w w'
theorem ne_of_pos (r : List Int) (h : 0 < valL r) : r ≠ [] := by intro e; subst e; simp [valL] at h

set_option maxHeartbeats 800000 in
theorem lpower_any (v : Value) (l : List Int) (k : Nat) (w : World) (hL : LS w v l) (hd : Dig l) (hp : 0 < valL l) (hn : l.length ≤ 20) (hk : k ≤ 3) :
    Calls Tryd.prog 59 #[v, .int .i64 k] w (Pow w l k 100) := by
  have h0 := ne_of_pos l hp
  go_enter Tryd.func59, Tryd.ntmps59
  go_wp2_with fail
  have hb0 := (Below.refl w.heap.size w).alloc (Nat.le_refl _) (.cells #[Value.int .i64 1] 3)
  have ho := World.ownsRow_lit (base := w.heap.size) (e := 3) (size := 1) w #[Value.int .i64 1] 1 (Nat.le_refl _) (by unfold maxLen; omega) rfl
  have hl1 := LS.of_own (l := [1]) ho rfl
  have hL1 := hL.kept hb0
  generalize w.alloc (.cells #[Value.int .i64 1] 3) = W0 at *
  clear ho hL
  go_loopw [5, 6] (fun v5 v6 wr => ∃ i r, i ≤ k ∧ v6 = .int .i64 (i : Nat) ∧ LS wr v5 r ∧ r ≠ [] ∧ Dig r ∧ Trim r ∧ valL r = valL l ^ i ∧ r.length ≤ 1 + i * 21 ∧ Below w.heap.size w wr ∧ LS wr v l) (fun _ v _ => k - (intOf v).toNat)
  case atStart => exact ⟨0, [1], by omega, rfl, hl1, by simp, by simp [Dig], .inr (by simp), by simp [valL], by simp, hb0, hL1⟩
  case round =>
    obtain ⟨i, r, hi, rfl, hr, hr0, hrd, hrt, hrv, hrn, hb, hl⟩ := hrel
    have HR := Lib.hid hr
    have HL := Lib.hid hl
    have HV := Lib.hid hrv
    have HT := Lib.hid hrt
    clear hr hl hrv hL1 hl1 hrt
    by_cases hik : i < k
    · go_wp2_with fail
      refine (ltimes_any _ _ r l _ HR.out HL.out hr0 h0 hrd hd (by omega) (by omega)).mono ?_
      rintro e w2 ⟨v2, r2, rfl, k1, k2, k3, k4, k5, hb2⟩
      have K1 := Lib.hid k1
      have K3 := Lib.hid k3
      have K4 := Lib.hid k4
      have HL2 := Lib.hid (HL.out.kept hb2)
      clear k1 k3 k4
      go_wp2_with fail
      go_roundw
      case rel =>
        have e4 : valL r2 = valL l ^ (i + 1) := by rw [K4.out, HV.out, Int.pow_succ]
        exact ⟨i + 1, r2, by omega, by go_num, K1.out, ne_of_pos r2 (by rw [e4]; exact Int.pow_pos hp), k2, K3.out, e4, by omega, hb.trans (hb2.mono hb.size), HL2.out⟩
      case measure => simp [intOf]; omega
    · obtain rfl : i = k := by omega
      go_wp2_with fail
      go_ret
      exact ⟨_, r, rfl, HR.out, hr0, hrd, HT.out, HV.out, by omega, hb⟩

set_option maxHeartbeats 800000 in
theorem lmore_same (la lb : List Int) (ba oa ca bb ob cb : Nat) (w : World) (ha : Dig la) (hb : Dig lb) (na : la.length ≤ 1000) (hlen : lb.length = la.length)
    (cA : ∀ i, i < la.length → w.cell? ⟨ba, oa + i, none⟩ = some (.int .i64 (la[i]?.getD 0))) (cB : ∀ i, i < la.length → w.cell? ⟨bb, ob + i, none⟩ = some (.int .i64 (lb[i]?.getD 0)))
    (lA : ba < w.heap.size) (lB : bb < w.heap.size) :
    Calls Tryd.prog 60 #[.slice (some ⟨ba, oa, none⟩) la.length ca, .slice (some ⟨bb, ob, none⟩) la.length cb] w fun e w' => e = .returned (.bool (decide (valL lb < valL la))) ∧ Below w.heap.size w w' := by
  generalize hA : la.length = A at *
  have HA := Lib.hid hA
  have HB := Lib.hid hlen
  clear hA hlen
  go_enter Tryd.func60, Tryd.ntmps60
  go_wp2
  go_loopw [5] (fun v wr => ∃ m : Nat, m ≤ A ∧ v = .int .i64 ((m : Int) - 1) ∧ la.drop m = lb.drop m ∧ Below w.heap.size w wr) (fun v _ => (intOf v + 1).toNat)
  case atStart => exact ⟨A, by omega, rfl, by rw [List.drop_of_length_le (by rw [HA.out]; omega), List.drop_of_length_le (by rw [HB.out]; omega)], Below.refl _ _⟩
  case round =>
    obtain ⟨m, hm, rfl, hd, hbx⟩ := hrel
    cases m with
    | zero =>
      have HD := Lib.hid hd
      clear hd
      go_wp2
      go_ret
      have e : la = lb := by simpa using HD.out
      exact ⟨by rw [e]; simp, hbx⟩
    | succ i =>
      have e0 : ((i + 1 : Nat) : Int) - 1 = (i : Int) := by omega
      rw [e0]
      clear e0
      have c1 := (hbx.cell (p := ⟨ba, oa + i, none⟩) lA).trans (cA i (by omega))
      have c2 := (hbx.cell (p := ⟨bb, ob + i, none⟩) lB).trans (cB i (by omega))
      have hcmp := cmp_at la lb i (by rw [HA.out]; omega) (by rw [HB.out]; omega) ha hb hd
      have hdd : la[i]?.getD 0 = lb[i]?.getD 0 → la.drop i = lb.drop i := fun h => by rw [dropL_at la i (by rw [HA.out]; omega), dropL_at lb i (by rw [HB.out]; omega), hd, h]
      obtain ⟨x, hx⟩ : ∃ x, la[i]?.getD 0 = x := ⟨_, rfl⟩
      obtain ⟨y, hy⟩ : ∃ y, lb[i]?.getD 0 = y := ⟨_, rfl⟩
      rw [hx] at c1
      rw [hy] at c2
      rw [hx, hy] at hcmp hdd
      have HC := Lib.hid hcmp
      have HDD := Lib.hid hdd
      clear hcmp hdd hd hx hy cA cB
      by_cases hxy : x = y
      · subst hxy
        go_wp2
        go_quiet (fail)
        go_wp2
        go_roundw
        case rel => exact ⟨i, by omega, rfl, HDD.out (by simp), below_drewN hbx _⟩
        case measure => simp [intOf]
      · go_wp2
        go_quiet (fail)
        go_wp2
        go_quiet (fail)
        go_wp2
        go_ret
        refine ⟨?_, below_drewN (below_drewN hbx _) _⟩
        rw [decide_eq_decide.2 (HC.out hxy)]
        rfl

set_option maxHeartbeats 800000 in
theorem lmore_len (la lb : List Int) (a b : Option Addr) (ca cb : Nat) (w : World) (ha : Dig la) (hb : Dig lb) (ta : Trim la) (tb : Trim lb) (na : la.length ≤ 1000) (nb : lb.length ≤ 1000) (hlen : la.length ≠ lb.length) :
    Calls Tryd.prog 60 #[.slice a la.length ca, .slice b lb.length cb] w fun e w' => e = .returned (.bool (decide (valL lb < valL la))) ∧ w' = w := by
  have hval : decide (valL lb < valL la) = decide ((lb.length : Int) < (la.length : Int)) := by
    apply decide_eq_decide.2
    rcases Nat.lt_or_gt_of_ne hlen with h | h
    · have := cmp_len la lb ha hb tb h
      omega
    · have := cmp_len lb la hb ha ta h
      omega
  generalize la.length = A at *
  generalize lb.length = B at *
  have HV := Lib.hid hval
  have hne : ((A : Int) == (B : Int)) = false := by simp; omega
  clear hval
  by_cases h : B < A
  · have hi : (B : Int) < (A : Int) := by omega
    go_enter Tryd.func60, Tryd.ntmps60
    go_wp2
    go_ret
    exact ⟨by rw [HV.out, decide_eq_true hi]; simp, rfl⟩
  · have hi : (A : Int) < (B : Int) := by omega
    go_enter Tryd.func60, Tryd.ntmps60
    go_wp2
    go_ret
    exact ⟨by rw [HV.out, decide_eq_false (by omega)]; simp, rfl⟩

/-- Which is greater, of two that aren't nought. -/
theorem lmore_any (va vb : Value) (la lb : List Int) (w : World) (hA : LS w va la) (hB : LS w vb lb) (a0 : la ≠ []) (b0 : lb ≠ []) (ha : Dig la) (hb : Dig lb) (ta : Trim la) (tb : Trim lb) (na : la.length ≤ 1000) (nb : lb.length ≤ 1000) :
    Calls Tryd.prog 60 #[va, vb] w fun e w' => e = .returned (.bool (decide (valL lb < valL la))) ∧ Below w.heap.size w w' := by
  obtain ⟨a, ca, rfl, h1⟩ := hA
  obtain ⟨b, cb, rfl, h2⟩ := hB
  by_cases hlen : la.length = lb.length
  · obtain ⟨ba, oa, rfl, cA⟩ := h1.resolve_left a0
    obtain ⟨bb, ob, rfl, cB⟩ := h2.resolve_left b0
    have l1 := block_lt_of_cell (cA 0 (List.length_pos_iff.2 a0))
    have l2 := block_lt_of_cell (cB 0 (List.length_pos_iff.2 b0))
    rw [← hlen] at cB ⊢
    exact lmore_same la lb ba oa ca bb ob cb w ha hb na hlen.symm cA cB l1 l2
  · refine (lmore_len la lb a b ca cb w ha hb ta tb na nb hlen).mono ?_
    rintro e w' ⟨rfl, rfl⟩
    exact ⟨rfl, Below.refl _ _⟩
end Go.Proofs.YtpmeiadnikenmaaDoor
