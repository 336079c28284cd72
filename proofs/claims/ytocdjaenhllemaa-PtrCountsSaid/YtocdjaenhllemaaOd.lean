/-
  The order among pointers: what the program's order tells of two.
-/
import Derived.Test.YtocdjaenhllemaaPv
import Derived.Test.YtocdjaenhllemaaCod0
import Derived.Lib.BytesEntry
import Derived.Lib.Bytealg
import Derived.Sort.Grow
import Derived.StillTailTactics
namespace Go.Proofs.Ytocdjaenhllemaa
set_option maxRecDepth 4000
open Go.RowKit Go.Sort

def cmpI (x y : Int) : Int := if x < y then -1 else if y < x then 1 else 0
def lexI : List Int → List Int → Int
  | [], [] => 0
  | [], _ :: _ => -1
  | _ :: _, [] => 1
  | a :: l, b :: r => if a < b then -1 else if b < a then 1 else lexI l r
/-- What order tells of two pointers. -/
def ordP (p q : PtrV) : Int := if cmpI p.ad q.ad ≠ 0 then cmpI p.ad q.ad else if cmpI p.bi q.bi ≠ 0 then cmpI p.bi q.bi else lexI p.su q.su
/-- A pointer as one number. -/
def nuP (q : PtrV) : Int := (q.ad * 18446744073709551616 + q.bi) * 256 ^ 32 + num q.su
theorem num_consI (a : Int) (l : List Int) : num (a :: l) = a * 256 ^ l.length + num l := by
  have key : ∀ (l : List Int) (x : Int), l.foldl (fun x c => x * 256 + c) x = x * 256 ^ l.length + l.foldl (fun x c => x * 256 + c) 0 := by
    intro l
    induction l with
    | nil => intro x; simp
    | cons c l ih =>
      intro x
      rw [List.foldl_cons, ih (x * 256 + c), List.foldl_cons, ih (0 * 256 + c), List.length_cons, Int.pow_succ, Int.add_mul, Int.mul_assoc, Int.mul_comm 256 (256 ^ l.length)]
      simp only [Int.zero_mul, Int.zero_add]
      omega
  show (a :: l).foldl (fun x c => x * 256 + c) 0 = _
  rw [List.foldl_cons, key l (0 * 256 + a)]
  simp only [Int.zero_mul, Int.zero_add]
  rfl
theorem cmpI_lt {a b : Int} (h : a < b) : cmpI a b = -1 := by unfold cmpI; rw [if_pos h]
theorem cmpI_gt {a b : Int} (h : b < a) : cmpI a b = 1 := by unfold cmpI; rw [if_neg (by omega), if_pos h]
theorem cmpI_self (a : Int) : cmpI a a = 0 := by unfold cmpI; rw [if_neg (by omega), if_neg (by omega)]
theorem mul_step {a b B : Int} (h : a < b) (hB : 0 ≤ B) : a * B + B ≤ b * B := by
  have : (a + 1) * B ≤ b * B := Int.mul_le_mul_of_nonneg_right (by omega) hB
  rw [Int.add_mul] at this
  omega
theorem cmpI_pair (a b x y B : Int) (hx : 0 ≤ x ∧ x < B) (hy : 0 ≤ y ∧ y < B) : cmpI (a * B + x) (b * B + y) = if cmpI a b ≠ 0 then cmpI a b else cmpI x y := by
  rcases Int.lt_trichotomy a b with h | rfl | h
  · have := mul_step h (show 0 ≤ B by omega)
    rw [cmpI_lt h, cmpI_lt (by omega), if_pos (by decide)]
  · rw [cmpI_self, if_neg (by simp)]
    rcases Int.lt_trichotomy x y with h | rfl | h
    · rw [cmpI_lt h, cmpI_lt (by omega)]
    · rw [cmpI_self, cmpI_self]
    · rw [cmpI_gt h, cmpI_gt (by omega)]
  · have := mul_step h (show 0 ≤ B by omega)
    rw [cmpI_gt h, cmpI_gt (by omega), if_pos (by decide)]
theorem lexI_num : ∀ (l r : List Int), l.length = r.length → Byt l → Byt r → lexI l r = cmpI (num l) (num r)
  | [], [], _, _, _ => rfl
  | a :: l, b :: r, hl, hx, hy => by
    have hl' : l.length = r.length := by simpa using hl
    have hx' : Byt l := fun z hz => hx z (by simp [hz])
    have hy' : Byt r := fun z hz => hy z (by simp [hz])
    have n1 := num_bound l hx'
    have n2 := num_bound r hy'
    rw [← hl'] at n2
    rw [num_consI, num_consI, ← hl', cmpI_pair a b _ _ _ n1 n2, ← lexI_num l r hl' hx' hy']
    show (if a < b then -1 else if b < a then 1 else lexI l r) = _
    rcases Int.lt_trichotomy a b with h | rfl | h
    · rw [cmpI_lt h, if_pos h, if_pos (by decide)]
    · rw [cmpI_self, if_neg (by omega), if_neg (by omega), if_neg (by simp)]
    · rw [cmpI_gt h, if_neg (by omega), if_pos h, if_pos (by decide)]
theorem su_bound (q : PtrV) : 0 ≤ num q.su ∧ num q.su < 256 ^ 32 := by
  have := num_bound q.su q.s0.2
  rwa [q.s0.1] at this
theorem ordP_num (p q : PtrV) : ordP p q = cmpI (nuP p) (nuP q) := by
  unfold ordP nuP
  rw [cmpI_pair _ _ _ _ _ (su_bound p) (su_bound q), cmpI_pair _ _ _ _ _ ⟨p.b0.1, by have := p.b0.2; omega⟩ ⟨q.b0.1, by have := q.b0.2; omega⟩, lexI_num _ _ (p.s0.1.trans q.s0.1.symm) p.s0.2 q.s0.2]
  by_cases h1 : cmpI p.ad q.ad = 0
  · simp only [h1, ne_eq, not_true_eq_false, if_false]
  · simp only [h1, ne_eq, not_false_eq_true, if_true]
theorem num_injI : ∀ (l r : List Int), l.length = r.length → Byt l → Byt r → num l = num r → l = r
  | [], [], _, _, _, _ => rfl
  | a :: l, b :: r, hl, hx, hy, h => by
    have hl' : l.length = r.length := by simpa using hl
    have hx' : Byt l := fun z hz => hx z (by simp [hz])
    have hy' : Byt r := fun z hz => hy z (by simp [hz])
    have n1 := num_bound l hx'
    have n2 := num_bound r hy'
    rw [num_consI, num_consI, ← hl'] at h
    rw [← hl'] at n2
    have hab : a = b := by
      rcases Int.lt_trichotomy a b with c | c | c
      · have : (a + 1) * 256 ^ l.length ≤ b * 256 ^ l.length := Int.mul_le_mul_of_nonneg_right (by omega) (by omega)
        rw [Int.add_mul] at this
        omega
      · exact c
      · have : (b + 1) * 256 ^ l.length ≤ a * 256 ^ l.length := Int.mul_le_mul_of_nonneg_right (by omega) (by omega)
        rw [Int.add_mul] at this
        omega
    subst hab
    rw [num_injI l r hl' hx' hy' (by omega)]
theorem nuP_inj {p q : PtrV} (h : nuP p = nuP q) : p = q := by
  unfold nuP at h
  have h1 := su_bound p
  have h2 := su_bound q
  have e : (256 : Int) ^ 32 = 115792089237316195423570985008687907853269984665640564039457584007913129639936 := by decide
  rw [e] at h h1 h2
  have b1 := p.b0
  have b2 := q.b0
  refine PtrV.same (by omega) (by omega) (num_injI _ _ (p.s0.1.trans q.s0.1.symm) p.s0.2 q.s0.2 (by omega))

/-! ### the calls -/
set_option maxHeartbeats 800000 in
theorem pcmp32 (x y : Int) (w : World) : Calls Try.prog 31 #[.int .u32 x, .int .u32 y] w fun e w' => e = .returned (.int .i64 (cmpI x y)) ∧ w' = w := by
  have hx : (x != x) = false := by simp
  have hy : (y != y) = false := by simp
  by_cases h1 : x < y
  · rw [show cmpI x y = -1 by unfold cmpI; rw [if_pos h1]]
    go_enter Try.func31, Try.ntmps31
    go_wp2
    go_ret
    exact ⟨rfl, rfl⟩
  · by_cases h2 : y < x
    · rw [show cmpI x y = 1 by unfold cmpI; rw [if_neg h1, if_pos h2]]
      go_enter Try.func31, Try.ntmps31
      go_wp2
      go_ret
      exact ⟨rfl, rfl⟩
    · rw [show cmpI x y = 0 by unfold cmpI; rw [if_neg h1, if_neg h2]]
      go_enter Try.func31, Try.ntmps31
      go_wp2
      go_ret
      exact ⟨rfl, rfl⟩
set_option maxHeartbeats 800000 in
theorem pcmp64 (x y : Int) (w : World) : Calls Try.prog 32 #[.int .u64 x, .int .u64 y] w fun e w' => e = .returned (.int .i64 (cmpI x y)) ∧ w' = w := by
  have hx : (x != x) = false := by simp
  have hy : (y != y) = false := by simp
  by_cases h1 : x < y
  · rw [show cmpI x y = -1 by unfold cmpI; rw [if_pos h1]]
    go_enter Try.func32, Try.ntmps32
    go_wp2
    go_ret
    exact ⟨rfl, rfl⟩
  · by_cases h2 : y < x
    · rw [show cmpI x y = 1 by unfold cmpI; rw [if_neg h1, if_pos h2]]
      go_enter Try.func32, Try.ntmps32
      go_wp2
      go_ret
      exact ⟨rfl, rfl⟩
    · rw [show cmpI x y = 0 by unfold cmpI; rw [if_neg h1, if_neg h2]]
      go_enter Try.func32, Try.ntmps32
      go_wp2
      go_ret
      exact ⟨rfl, rfl⟩
theorem lex_bytes : ∀ (l r : List Int), Byt l → Byt r → Lib.compareBytes (Lib.bytesOf l) (Lib.bytesOf r) = lexI l r
  | [], [], _, _ => rfl
  | [], _ :: _, _, _ => rfl
  | _ :: _, [], _, _ => rfl
  | a :: l, b :: r, hx, hy => by
    have ih := lex_bytes l r (fun z hz => hx z (by simp [hz])) (fun z hz => hy z (by simp [hz]))
    have ha := hx a (by simp)
    have hb := hy b (by simp)
    have e : ∀ z : Int, 0 ≤ z ∧ z ≤ 255 → z.toNat.toUInt8.toNat = z.toNat := fun z hz => by simp; omega
    have h1 : (a.toNat.toUInt8 < b.toNat.toUInt8) ↔ a < b := by rw [UInt8.lt_iff_toNat_lt, e a ha, e b hb]; omega
    have h2 : (b.toNat.toUInt8 < a.toNat.toUInt8) ↔ b < a := by rw [UInt8.lt_iff_toNat_lt, e a ha, e b hb]; omega
    show Lib.compareBytes (a.toNat.toUInt8 :: Lib.bytesOf l) (b.toNat.toUInt8 :: Lib.bytesOf r) = _
    unfold Lib.compareBytes lexI
    simp only [h1, h2, ih]
theorem run_bytes8 {w : World} {v : Value} {l : List Int} (h : BS w v l) : ∃ b : ByteArray, (Extern.Bytes.bytesOf v).run Try.prog w = .ok b w ∧ b.data.toList = Lib.bytesOf l := by
  obtain ⟨a, c, rfl, hy, hn, hc⟩ := h
  cases a with
  | none =>
    have hl : l = [] := by
      rcases hc with h | ⟨b, off, h, _⟩
      · exact h
      · cases h
    subst hl
    exact ⟨.empty, rfl, rfl⟩
  | some a =>
    have hl := Lib.run_loadBytesX (P := Try.prog) w l a .empty (fun j x hj => by
      have hjl := (List.getElem?_eq_some_iff.1 hj).1
      rcases hc with h | ⟨b, off, he, hc⟩
      · subst h; simp at hjl
      · obtain rfl := Option.some.inj he
        rw [Addr.add_mid, hc j hjl]
        simp [List.getD, hj])
    exact ⟨_, hl, by rw [Array.toList_append]; rfl⟩
theorem run_compare8 {w : World} {u v : Value} {l r : List Int} (hu : BS w u l) (hv : BS w v r) :
    (Extern.BytealgCompare.compare #[u, v]).run Try.prog w = .ok (.int .i64 (lexI l r)) w := by
  obtain ⟨x, hx, ex⟩ := run_bytes8 hu
  obtain ⟨y, hy, ey⟩ := run_bytes8 hv
  show Sem.run Try.prog (do pure (goInt (Extern.BytealgCompare.cmp (← Extern.Bytes.bytesOf u) (← Extern.Bytes.bytesOf v)))) w = _
  simp only [Sem.run_bind, hx, hy, Result.andThen, Sem.run_pure]
  rw [Lib.cmp_eq, ex, ey, lex_bytes l r hu.byt hv.byt]
  rfl
set_option maxRecDepth 100000 in
set_option maxHeartbeats 800000 in
theorem pcmpb (u v : Value) (l r : List Int) (w : World) (hu : BS w u l) (hv : BS w v r) :
    Calls Try.prog 33 #[u, v] w fun e w' => e = .returned (.int .i64 (lexI l r)) ∧ w' = w := by
  have HC := Lib.hid (run_compare8 hu hv)
  clear hu hv
  go_enter Try.func33, Try.ntmps33
  go_wp2_with fail
  rw [run_callFunc_extern Try.func42 (by kernel_rfl) (by kernel_rfl) (by kernel_rfl) (e := Extern.BytealgCompare.compare) (by kernel_rfl), HC.out]
  simp only [Result.andThen]
  rw [Oper.upon_value]
  go_wp2_with fail
  go_ret
  exact ⟨rfl, rfl⟩
theorem por3_at (a b c : Int) (w : World) (g : Nat) (h : w.heap[g]? = some (.cells #[.int .i64 a, .int .i64 b, .int .i64 c] 3 (0, 0))) :
    w.cell? ⟨g, 0, none⟩ = some (.int .i64 a) ∧ w.cell? ⟨g, 1, none⟩ = some (.int .i64 b) ∧ w.cell? ⟨g, 2, none⟩ = some (.int .i64 c) :=
  ⟨cell_of_row _ _ _ _ _ _ h, cell_of_row _ _ _ _ _ _ h, cell_of_row _ _ _ _ _ _ h⟩
theorem index_int (g i : Nat) (h : i < 3) (W : World) : (Instr.indexAt 80 (.slice (some ⟨g, 0, none⟩) 3 3) (.int .i64 (i : Int))).run Try.prog W = .ok (.pointer (some ⟨g, i, none⟩)) W := by
  obtain ⟨i0, hi, hs⟩ := Option.map_eq_some_iff.1 (show (Try.prog.info? 3).map (·.size) = some 1 by kernel_rfl)
  simp [Instr.indexAt, asIntOf, run_underlying Try.underlying80, sizeOf, typeInfo, hi, hs, h, Addr.add_mid]
/-- The first that is not 0. -/
def or3 (a b c : Int) : Int := if a ≠ 0 then a else if b ≠ 0 then b else c
set_option maxRecDepth 100000 in
set_option maxHeartbeats 1600000 in
theorem por3 (a b c : Int) (w : World) (g : Nat) (h : w.heap[g]? = some (.cells #[.int .i64 a, .int .i64 b, .int .i64 c] 3 (0, 0))) :
    Calls Try.prog 30 #[.slice (some ⟨g, 0, none⟩) 3 3] w fun e w' => e = .returned (.int .i64 (or3 a b c)) ∧ w' = w := by
  obtain ⟨c0, c1, c2⟩ := por3_at a b c w g h
  have HC := Lib.hid (And.intro c0 (And.intro c1 c2))
  clear h c0 c1 c2
  go_enter Try.func30, Try.ntmps30
  go_wp2
  go_loop [8] (fun v => ∃ i : Nat, i ≤ 3 ∧ v = .int .i64 (i : Int) ∧ (0 < i → a = 0) ∧ (1 < i → b = 0) ∧ (2 < i → c = 0)) (fun v => 3 - (intOf v).toNat)
  case atStart => exact ⟨0, by omega, rfl, by omega, by omega, by omega⟩
  case round =>
    obtain ⟨i, hi, rfl, ha, hb, hc⟩ := hrel
    have c0 := HC.out.1
    have c1 := HC.out.2.1
    have c2 := HC.out.2.2
    match i, hi with
    | 0, _ =>
      clear ha hb hc c1 c2
      have hix := index_int g 0 (by decide)
      by_cases h : a = 0
      · subst h
        go_wp2
        go_round
        case rel => exact ⟨1, by omega, rfl, by simp, by omega, by omega⟩
        case measure => simp [intOf]
      · have hn : (a != 0) = true := by simp [h]
        have HO := Lib.hid (show or3 a b c = a by unfold or3; rw [if_pos h])
        clear h
        go_wp2
        go_ret
        exact ⟨by rw [HO.out]; rfl, rfl⟩
    | 1, _ =>
      obtain rfl := ha (by omega)
      clear ha hb hc c0 c2
      have hix := index_int g 1 (by decide)
      by_cases h : b = 0
      · subst h
        go_wp2
        go_round
        case rel => exact ⟨2, by omega, rfl, by simp, by simp, by omega⟩
        case measure => simp [intOf]
      · have hn : (b != 0) = true := by simp [h]
        have HO := Lib.hid (show or3 0 b c = b by unfold or3; rw [if_neg (by simp), if_pos h])
        clear h
        go_wp2
        go_ret
        exact ⟨by rw [HO.out]; rfl, rfl⟩
    | 2, _ =>
      obtain rfl := ha (by omega)
      obtain rfl := hb (by omega)
      clear ha hb hc c0 c1
      have hix := index_int g 2 (by decide)
      by_cases h : c = 0
      · subst h
        go_wp2
        go_round
        case rel => exact ⟨3, by omega, rfl, by simp, by simp, by simp⟩
        case measure => simp [intOf]
      · have hn : (c != 0) = true := by simp [h]
        have HO := Lib.hid (show or3 0 0 c = c by unfold or3; rw [if_neg (by simp), if_neg (by simp)])
        clear h
        go_wp2
        go_ret
        exact ⟨by rw [HO.out]; rfl, rfl⟩
    | 3, _ =>
      obtain rfl := ha (by omega)
      obtain rfl := hb (by omega)
      obtain rfl := hc (by omega)
      clear ha hb hc c0 c1 c2
      go_wp2
      go_ret
      exact ⟨rfl, rfl⟩
theorem lit3_int (a b c : Int) (W : World) : (Instr.buildSlice 80 3 #[(0, .int .i64 a), (1, .int .i64 b), (2, .int .i64 c)]).run Try.prog W = .ok (.slice (some ⟨W.heap.size, 0, none⟩) 3 3) (W.alloc (.cells #[.int .i64 a, .int .i64 b, .int .i64 c] 3)) := by
  obtain ⟨i, hi, hzz⟩ := Option.map_eq_some_iff.1 (show (Try.prog.info? 3).map (fun i => (i.zero, i.size, i.bytes)) = some (some (.int .i64 0), 1, 8) by kernel_rfl)
  simp only [Prod.mk.injEq] at hzz
  obtain ⟨hz, hs, hb⟩ := hzz
  refine run_buildSlice W 80 3 3 _ _ i _ Try.underlying80 hi hz (by rw [hs]; decide) (by rw [hs]; decide) ?_
  rw [hs]
  kernel_rfl
theorem or_ord (p q : PtrV) : or3 (cmpI p.ad q.ad) (cmpI p.bi q.bi) (lexI p.su q.su) = ordP p q := rfl
set_option maxRecDepth 100000 in
set_option maxHeartbeats 3200000 in
theorem porder_any (p q : PtrV) (w : World) :
    Calls Try.prog 22 #[.agg (ptrRow p).toArray, .agg (ptrRow q).toArray] w fun e w' => e = .returned (.int .i64 (ordP p q)) ∧ ∃ n os, w' = grow (w.drewN n) os := by
  obtain ⟨T, hT⟩ : ∃ T, w.heap.size = T := ⟨_, rfl⟩
  obtain ⟨U, hU⟩ : ∃ U, T + 1 = U := ⟨_, rfl⟩
  have hs1 : (w.alloc (.cells (ptrRow p).toArray 35)).heap.size = U := by rw [← hU, ← hT]; simp
  have hA := heap_alloc_new w (.cells (ptrRow p).toArray 35)
  have hA2 := (((Below.refl _ (w.alloc (.cells (ptrRow p).toArray 35))).alloc (Nat.le_refl _) (.cells (ptrRow q).toArray 35)).block w.heap.size (by simp)).trans hA
  have hB2 := heap_alloc_new (w.alloc (.cells (ptrRow p).toArray 35)) (.cells (ptrRow q).toArray 35)
  rw [hs1] at hB2
  rw [hT] at hA2
  obtain ⟨hl1, hl2⟩ : T < ((w.alloc (.cells (ptrRow p).toArray 35)).alloc (.cells (ptrRow q).toArray 35)).heap.size ∧ U < ((w.alloc (.cells (ptrRow p).toArray 35)).alloc (.cells (ptrRow q).toArray 35)).heap.size := by
    constructor <;> simp <;> omega
  have HW := Lib.hid (show (w.alloc (.cells (ptrRow p).toArray 35)).alloc (.cells (ptrRow q).toArray 35) = grow w #[.cells (ptrRow p).toArray 35, .cells (ptrRow q).toArray 35] by
    rw [alloc_eq_grow, alloc_eq_grow, grow_grow]; rfl)
  obtain ⟨p0, p1, p2⟩ := ptr_at hA2
  obtain ⟨q0, q1, q2⟩ := ptr_at hB2
  have bsf : ∀ (W : World) (g : Nat) (r : PtrV), W.rangeAt g 2 (r.su.map (Value.int .u8)) → BS W (.slice (some ⟨g, 2, none⟩) 32 32) r.su := fun W g r h =>
    ⟨some ⟨g, 2, none⟩, 32, by rw [r.s0.1], r.s0.2, nofun, .inr ⟨g, 2, rfl, fun i hi => h i _ (by rw [List.getElem?_map, List.getElem?_eq_getElem hi]; simp [List.getD, hi])⟩⟩
  have HS := Lib.hid (show ∀ W : World, Below ((w.alloc (.cells (ptrRow p).toArray 35)).alloc (.cells (ptrRow q).toArray 35)).heap.size ((w.alloc (.cells (ptrRow p).toArray 35)).alloc (.cells (ptrRow q).toArray 35)) W →
      W.cell? ⟨T, 0, none⟩ = some (.int .u32 p.ad) ∧ W.cell? ⟨T, 1, none⟩ = some (.int .u64 p.bi) ∧ W.cell? ⟨U, 0, none⟩ = some (.int .u32 q.ad) ∧ W.cell? ⟨U, 1, none⟩ = some (.int .u64 q.bi) ∧ BS W (.slice (some ⟨T, 2, none⟩) 32 32) p.su ∧ BS W (.slice (some ⟨U, 2, none⟩) 32 32) q.su from
    fun W hb => ⟨(hb.cell hl1).trans p0, (hb.cell hl1).trans p1, (hb.cell hl2).trans q0, (hb.cell hl2).trans q1, (bsf _ T p p2).kept hb, (bsf _ U q q2).kept hb⟩)
  have HO := Lib.hid (or_ord p q)
  have hslT := slice_hash_mid T 2
  have hslU := slice_hash_mid U 2
  clear hA hA2 hB2 hl1 hl2 p0 p1 p2 q0 q1 q2 bsf hs1
  generalize ordP p q = R at *
  generalize (ptrRow p).toArray = AP at *
  generalize (ptrRow q).toArray = AQ at *
  generalize p.ad = pa at *
  generalize p.bi = pb at *
  generalize p.su = ps at *
  generalize q.ad = qa at *
  generalize q.bi = qb at *
  generalize q.su = qs at *
  generalize hW2 : (w.alloc (.cells AP 35)).alloc (.cells AQ 35) = w2 at *
  go_enter Try.func22, Try.ntmps22
  go_upto_region 1 with fail
  clear hW2
  try rw [hT]
  try rw [hU]
  clear hT hU
  try simp only [Act.put]
  refine wp_region_noPanic ?_
  refine wp_region_held_drew (S := fun W => W.cell? ⟨T, 0, none⟩ = some (.int .u32 pa) ∧ W.cell? ⟨T, 1, none⟩ = some (.int .u64 pb) ∧ W.cell? ⟨U, 0, none⟩ = some (.int .u32 qa) ∧ W.cell? ⟨U, 1, none⟩ = some (.int .u64 qb) ∧ BS W (.slice (some ⟨T, 2, none⟩) 32 32) ps ∧ BS W (.slice (some ⟨U, 2, none⟩) 32 32) qs) (by kernel_rfl) (HS.out _ (Below.refl _ w2).drew) (fun hHeld => ?_)
  refine wpAnyH_take (i := 0) (oi := ⟨some 5, _, _, _, _, _⟩) (v := ?_) rfl (by kernel_rfl) (by decide +kernel) (by decide +kernel) (fun _ _ _ h => h) (Or.inl ⟨by rfl, ?_⟩) (by assumption) ?_
  rotate_left 1
  · (intro w' hSw; go_simp; try with_reducible rfl)
  try simp only [Act.put, List.setIfInBounds_toArray, List.set_cons_zero, List.set_cons_succ]
  refine wpAnyH_take (i := 1) (oi := ⟨some 6, _, _, _, _, _⟩) (v := ?_) rfl (by kernel_rfl) (by decide +kernel) (by decide +kernel) (fun _ _ _ h => h) (Or.inl ⟨by rfl, ?_⟩) (by assumption) ?_
  rotate_left 1
  · (intro w' hSw; obtain ⟨h0, h1, h2, h3, h4, h5⟩ := hSw; go_simp; try with_reducible rfl)
  try simp only [Act.put, List.setIfInBounds_toArray, List.set_cons_zero, List.set_cons_succ]
  refine wpAnyH_take (i := 2) (oi := ⟨some 7, _, _, _, _, _⟩) (v := ?_) rfl (by kernel_rfl) (by decide +kernel) (by decide +kernel) (fun _ _ _ h => h) (Or.inl ⟨by rfl, ?_⟩) (by assumption) ?_
  rotate_left 1
  · (intro w' hSw; go_simp; try with_reducible rfl)
  try simp only [Act.put, List.setIfInBounds_toArray, List.set_cons_zero, List.set_cons_succ]
  refine wpAnyH_take (i := 3) (oi := ⟨some 8, _, _, _, _, _⟩) (v := ?_) rfl (by kernel_rfl) (by decide +kernel) (by decide +kernel) (fun _ _ _ h => h) (Or.inl ⟨by rfl, ?_⟩) (by assumption) ?_
  rotate_left 1
  · (intro w' hSw; obtain ⟨h0, h1, h2, h3, h4, h5⟩ := hSw; go_simp; try with_reducible rfl)
  try simp only [Act.put, List.setIfInBounds_toArray, List.set_cons_zero, List.set_cons_succ]
  refine wpAnyH_take (i := 5) (oi := ⟨some 10, _, _, _, _, _⟩) (v := ?_) rfl (by kernel_rfl) (by decide +kernel) (by decide +kernel) (fun _ _ _ h => h) (Or.inl ⟨by rfl, ?_⟩) (by assumption) ?_
  rotate_left 1
  · (intro w' hSw; go_simp; try with_reducible rfl)
  try simp only [Act.put, List.setIfInBounds_toArray, List.set_cons_zero, List.set_cons_succ]
  refine wpAnyH_take (i := 6) (oi := ⟨some 11, _, _, _, _, _⟩) (v := ?_) rfl (by kernel_rfl) (by decide +kernel) (by decide +kernel) (fun _ _ _ h => h) (Or.inl ⟨by rfl, ?_⟩) (by assumption) ?_
  rotate_left 1
  · (intro w' hSw; obtain ⟨h0, h1, h2, h3, h4, h5⟩ := hSw; go_simp; try with_reducible rfl)
  try simp only [Act.put, List.setIfInBounds_toArray, List.set_cons_zero, List.set_cons_succ]
  refine wpAnyH_take (i := 7) (oi := ⟨some 12, _, _, _, _, _⟩) (v := ?_) rfl (by kernel_rfl) (by decide +kernel) (by decide +kernel) (fun _ _ _ h => h) (Or.inl ⟨by rfl, ?_⟩) (by assumption) ?_
  rotate_left 1
  · (intro w' hSw; go_simp; try with_reducible rfl)
  try simp only [Act.put, List.setIfInBounds_toArray, List.set_cons_zero, List.set_cons_succ]
  refine wpAnyH_take (i := 8) (oi := ⟨some 13, _, _, _, _, _⟩) (v := ?_) rfl (by kernel_rfl) (by decide +kernel) (by decide +kernel) (fun _ _ _ h => h) (Or.inl ⟨by rfl, ?_⟩) (by assumption) ?_
  rotate_left 1
  · (intro w' hSw; obtain ⟨h0, h1, h2, h3, h4, h5⟩ := hSw; go_simp; try with_reducible rfl)
  try simp only [Act.put, List.setIfInBounds_toArray, List.set_cons_zero, List.set_cons_succ]
  refine wpAnyH_take (i := 10) (oi := ⟨some 15, _, _, _, _, _⟩) (v := ?_) rfl (by kernel_rfl) (by decide +kernel) (by decide +kernel) (fun _ _ _ h => h) (Or.inl ⟨by rfl, ?_⟩) (by assumption) ?_
  rotate_left 1
  · (intro w' hSw; go_simp; try with_reducible rfl)
  try simp only [Act.put, List.setIfInBounds_toArray, List.set_cons_zero, List.set_cons_succ]
  refine wpAnyH_take (i := 11) (oi := ⟨some 16, _, _, _, _, _⟩) (v := ?_) rfl (by kernel_rfl) (by decide +kernel) (by decide +kernel) (fun _ _ _ h => h) (Or.inl ⟨by rfl, ?_⟩) (by assumption) ?_
  rotate_left 1
  · (intro w' hSw; go_simp; try with_reducible rfl)
  try simp only [Act.put, List.setIfInBounds_toArray, List.set_cons_zero, List.set_cons_succ]
  refine wpAnyH_take (i := 12) (oi := ⟨some 17, _, _, _, _, _⟩) (v := ?_) rfl (by kernel_rfl) (by decide +kernel) (by decide +kernel) (fun _ _ _ h => h) (Or.inl ⟨by rfl, ?_⟩) (by assumption) ?_
  rotate_left 1
  · (intro w' hSw; go_simp; try with_reducible rfl)
  try simp only [Act.put, List.setIfInBounds_toArray, List.set_cons_zero, List.set_cons_succ]
  refine wpAnyH_take (i := 13) (oi := ⟨some 18, _, _, _, _, _⟩) (v := ?_) rfl (by kernel_rfl) (by decide +kernel) (by decide +kernel) (fun _ _ _ h => h) (Or.inl ⟨by rfl, ?_⟩) (by assumption) ?_
  rotate_left 1
  · (intro w' hSw; go_simp; try with_reducible rfl)
  try simp only [Act.put, List.setIfInBounds_toArray, List.set_cons_zero, List.set_cons_succ]
  refine wpAnyH_ready (rs := [4]) (by decide +kernel) (by simp) ?_
  refine AllReadyH.cons rfl (fun K hK => ?_) AllReadyH.nil
  go_simp
  go_at_call 31
  refine (pcmp32 pa qa _).mono ?_
  rintro e wt ⟨rfl, rfl⟩
  clear hHeld
  go_wp2_with fail
  refine hK.out _ _ (HS.out _ (Below.refl _ w2).drew) (fun hHeld => ?_)
  clear hK K
  try simp only [Act.put, List.setIfInBounds_toArray, List.set_cons_zero, List.set_cons_succ]
  refine wpAnyH_ready (rs := [9]) (by decide +kernel) (by simp) ?_
  refine AllReadyH.cons rfl (fun K hK => ?_) AllReadyH.nil
  go_simp
  go_at_call 32
  refine (pcmp64 pb qb _).mono ?_
  rintro e wt ⟨rfl, rfl⟩
  clear hHeld
  go_wp2_with fail
  refine hK.out _ _ (HS.out _ (Below.refl _ w2).drew) (fun hHeld => ?_)
  clear hK K
  try simp only [Act.put, List.setIfInBounds_toArray, List.set_cons_zero, List.set_cons_succ]
  refine wpAnyH_ready (rs := [14]) (by decide +kernel) (by simp) ?_
  refine AllReadyH.cons rfl (fun K hK => ?_) AllReadyH.nil
  go_simp
  go_at_call 33
  refine (pcmpb _ _ ps qs _ (HS.out _ (Below.refl _ w2).drew).2.2.2.2.1 (HS.out _ (Below.refl _ w2).drew).2.2.2.2.2).mono ?_
  rintro e wt ⟨rfl, rfl⟩
  clear hHeld
  go_wp2_with fail
  refine hK.out _ _ (HS.out _ (Below.refl _ w2).drew) (fun hHeld => ?_)
  clear hK K
  try simp only [Act.put, List.setIfInBounds_toArray, List.set_cons_zero, List.set_cons_succ]
  clear hHeld
  refine wpAnyH_ready (rs := [15]) (by decide +kernel) (by simp) ?_
  refine AllReadyH.cons rfl (fun K hK => ?_) AllReadyH.nil
  rw [if_pos (by kernel_rfl)]
  refine wp_lit_at (o := ⟨some 20, _, _, _, _, _⟩) _ _ _ rfl #[(0, .int .i64 (cmpI pa qa)), (1, .int .i64 (cmpI pb qb)), (2, .int .i64 (lexI ps qs))] (by simp [Act.eval]) _ _ (lit3_int _ _ _ _) ?_
  refine hK.out _ _ (HS.out _ ((Below.refl _ w2).drew.alloc (Nat.le_refl _) _)) (fun hHeld => ?_)
  clear hK K
  try simp only [Act.put, List.setIfInBounds_toArray, List.set_cons_zero, List.set_cons_succ]
  refine wpAnyH_ready (rs := [16]) (by decide +kernel) (by simp) ?_
  refine AllReadyH.cons rfl (fun K hK => ?_) AllReadyH.nil
  go_simp
  go_at_call 30
  refine (por3 (cmpI pa qa) (cmpI pb qb) (lexI ps qs) _ w2.heap.size (show (World.drew (w2.alloc _)).heap[w2.heap.size]? = _ from heap_alloc_new w2 _)).mono ?_
  rintro e wt ⟨rfl, rfl⟩
  clear hHeld
  go_wp2_with fail
  refine hK.out _ _ (HS.out _ ((Below.refl _ w2).drew.alloc (Nat.le_refl _) _)) (fun hHeld => ?_)
  clear hK K
  try simp only [Act.put, List.setIfInBounds_toArray, List.set_cons_zero, List.set_cons_succ]
  refine wpAnyH_take (i := 17) (oi := ⟨some 4, _, _, _, _, _⟩) (v := ?_) rfl (by kernel_rfl) (by decide +kernel) (by decide +kernel) (fun _ _ _ h => h) (Or.inl ⟨by rfl, ?_⟩) (by assumption) ?_
  rotate_left 1
  · (intro w' hSw; go_simp; try with_reducible rfl)
  try simp only [Act.put, List.setIfInBounds_toArray, List.set_cons_zero, List.set_cons_succ]
  clear hHeld
  refine wpAnyH_done (by decide +kernel) ?_ _
  refine NoPanic.normal ?_
  go_wp2_with fail
  go_ret
  exact ⟨by rw [← HO.out]; rfl, 1, _, by rw [HW.out, alloc_eq_grow, grow_grow]; rfl⟩
end Go.Proofs.Ytocdjaenhllemaa
