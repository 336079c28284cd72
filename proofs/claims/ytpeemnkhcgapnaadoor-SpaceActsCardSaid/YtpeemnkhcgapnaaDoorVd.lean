/-
  The program's Space: Take, Left, Taken, Set.
-/
import Derived.Test.YtpeemnkhcgapnaaDoorVc
namespace Go.Proofs.YtpeemnkhcgapnaaDoor
set_option maxRecDepth 4000
set_option linter.unusedVariables false
open Go.RowKit

theorem index_words (F : Nat → Bool) (i : Nat) (h : i < 64) (W : World) : (Instr.index 57 (.agg (wordsF F).toArray) (.int .i64 (i : Int))).run Tryd.prog W = .ok (.int .u64 (xv (wordB F i))) W := by
  obtain ⟨i0, hi, hs⟩ := Option.map_eq_some_iff.1 (show (Tryd.prog.info? 42).map (·.size) = some 1 by kernel_rfl)
  exact yindex_agg _ _ _ _ i _ i0 _ Tryd.underlying57 Tryd.underlying42 rfl hi hs h (by rw [List.getElem?_toArray]; exact wordsF_at F i h) W
theorem size_sectorsL (F : Nat → Bool) : (Tryd.prog.info? 57).map (·.size) = some (wordsF F).length := by
  rw [size_sectors F, List.size_toArray]
theorem low_or_none (F : Nat → Bool) (n : Nat) (h : ∀ a, F a = true → 2 ≤ a ∧ a < n) : (∀ a, F a = false) ∨ ∃ a, F a = true ∧ ∀ x, x < a → F x = false := by
  by_cases hn : ∃ a, F a = true
  · right
    obtain ⟨a, ha⟩ := hn
    induction a using Nat.strongRecOn with
    | _ a ih =>
      by_cases hx : ∃ x, x < a ∧ F x = true
      · obtain ⟨x, hxa, hx⟩ := hx
        exact ih x hxa hx
      · refine ⟨a, ha, fun x hxa => ?_⟩
        cases hF : F x with
        | false => rfl
        | true => exact absurd ⟨x, hxa, hF⟩ hx
  · left
    intro a
    cases hF : F a with
    | false => rfl
    | true => exact absurd ⟨a, hF⟩ hn
theorem ptake11_nil (w : World) : Calls Tryd.prog 19 #[.pointer none] w fun e w' => e = .returned (.tuple #[.int .u32 0, .int .i64 1]) ∧ w' = w := by
  go_enter Tryd.func19, Tryd.ntmps19
  go_wp2_with fail
  go_ret2
  exact ⟨rfl, rfl⟩
set_option maxRecDepth 100000 in
set_option maxHeartbeats 1600000 in
theorem ptake11_full (S n : Nat) (F : Nat → Bool) (w : World) (h : SP w S n F) (hF : ∀ a, F a = false) :
    Calls Tryd.prog 19 #[.pointer (some ⟨S, 0, none⟩)] w fun e w' => e = .returned (.tuple #[.int .u32 0, .int .i64 6]) ∧ w' = w := by
  have HR := Lib.hid (h.arr.range (o := 1) rfl)
  have SZ := Lib.hid (size_sectorsL F)
  have HIX := Lib.hid (index_words F)
  have HZ := Lib.hid (fun i => (wordB_nought F i).2 fun j _ => hF _)
  clear h hF
  generalize hW : wordsF F = WS at *
  clear hW
  go_enter Tryd.func19, Tryd.ntmps19
  go_wp2_with (first
    | (with_reducible refine wpList_load_mid (op := ⟨some 12, _, _, _, _, _⟩) rfl 57 _ rfl S 1 rfl WS _ HR.out Tryd.underlying57 rfl SZ.out ?_))
  go_loopw [4, 5, 6, 13] (fun _ _ _ v13 wr => ∃ i : Nat, i ≤ 64 ∧ v13 = .int .i64 (i : Int) ∧ wr = w) (fun _ _ _ v _ => 64 - (intOf v).toNat)
  case atStart => exact ⟨0, by omega, rfl, rfl⟩
  case round =>
    obtain ⟨i, hi, rfl, rfl⟩ := hrel
    by_cases hlt : i < 64
    · have hix := HIX.out i hlt
      rw [HZ.out i, xv_zero] at hix
      have iI : (i : Int) < 64 := by omega
      have i0 : (0 : Int) ≤ (i : Int) := by omega
      go_wp2_with fail
      go_roundw
      case rel => exact ⟨i + 1, by omega, by go_num, trivial⟩
      case measure => simp [intOf]; omega
    · obtain rfl : i = 64 := by omega
      go_wp2_with fail
      go_ret2
      exact ⟨rfl, rfl⟩
set_option maxRecDepth 100000 in
set_option maxHeartbeats 1600000 in
theorem ptake11_ok (S n a : Nat) (F : Nat → Bool) (w : World) (h : SP w S n F) (hT : TZ w) (ha : F a = true) (hlow : ∀ x, x < a → F x = false) :
    Calls Tryd.prog 19 #[.pointer (some ⟨S, 0, none⟩)] w fun e w' => e = .returned (.tuple #[.int .u32 (a : Int), .int .i64 0]) ∧ SP w' S n (updF F a false) ∧ Touch [S] w w' := by
  have hown := h.own a ha
  have hhi := h.hi
  have HH := Lib.hid h
  have HR := Lib.hid (h.arr.range (o := 1) rfl)
  have SZ := Lib.hid (size_sectorsL F)
  have HIX := Lib.hid (index_words F)
  have HZ := Lib.hid (fun i (hi : i < a / 64) => (wordB_nought F i).2 fun j hj => hlow _ (by omega))
  have HNZ := Lib.hid (show wordB F (a / 64) ≠ 0#64 from fun e => by
    have := (wordB_nought F (a / 64)).1 e (a % 64) (by omega)
    rw [show 64 * (a / 64) + a % 64 = a by omega, ha] at this
    cases this)
  have HK := Lib.hid (show Lib.ctz 64 (wordB F (a / 64)).toNat = a % 64 by
    obtain ⟨k, hk, e, h1, h2⟩ := low_word F (a / 64) HNZ.out
    rw [e]
    by_cases q : k < a % 64
    · rw [hlow _ (by omega)] at h1; cases h1
    · by_cases q2 : k = a % 64
      · exact q2
      · have := h2 (a % 64) (by omega)
        rw [show 64 * (a / 64) + a % 64 = a by omega, ha] at this
        cases this)
  have HTZ := Lib.hid (tz_any (wordB F (a / 64)) w hT)
  rw [HK.out] at HTZ
  have HDR := Lib.hid (drop_any11 S 59 1 a [.int .u32 (n : Int)] F w h.arr rfl (by omega))
  have HLT := Lib.hid (show a < 4096 by omega)
  have HNX := Lib.hid (show (xv (wordB F (a / 64)) != 0) = true by rw [xv_ne, decide_eq_false HNZ.out]; rfl)
  clear h hown hhi hT ha hlow HK
  generalize hW : wordsF F = WS at *
  clear hW
  go_enter Tryd.func19, Tryd.ntmps19
  go_wp2_with (first
    | (with_reducible refine wpList_load_mid (op := ⟨some 12, _, _, _, _, _⟩) rfl 57 _ rfl S 1 rfl WS _ HR.out Tryd.underlying57 rfl SZ.out ?_))
  go_loopw [4, 5, 6, 13] (fun _ _ _ v13 wr => ∃ i : Nat, i ≤ a / 64 ∧ v13 = .int .i64 (i : Int) ∧ wr = w) (fun _ _ _ v _ => 64 - (intOf v).toNat)
  case atStart => exact ⟨0, by omega, rfl, rfl⟩
  case round =>
    obtain ⟨i, hi, rfl, rfl⟩ := hrel
    have h64 := HLT.out
    have hix := HIX.out i (by omega)
    have iI : (i : Int) < 64 := by omega
    have i0 : (0 : Int) ≤ (i : Int) := by omega
    by_cases hlt : i < a / 64
    · rw [HZ.out i hlt, xv_zero] at hix
      go_wp2_with fail
      go_roundw
      case rel => exact ⟨i + 1, by omega, by go_num, trivial⟩
      case measure => simp [intOf]; omega
    · obtain rfl : i = a / 64 := by omega
      have hne := HNX.out
      obtain ⟨x, hx⟩ : ∃ x, xv (wordB F (a / 64)) = x := ⟨_, rfl⟩
      rw [hx] at hix HTZ hne
      obtain ⟨k, hk⟩ : ∃ k, a % 64 = k := ⟨_, rfl⟩
      rw [hk] at HTZ
      obtain ⟨q, hq⟩ : ∃ q, a / 64 = q := ⟨_, rfl⟩
      rw [hq] at hix iI i0 ⊢
      have e1 : IntKind.u32.wrap ((q : Int) * 64 + (k : Int)) = (a : Int) := by rw [IntWalk.u32_in _ (by omega)]; omega
      have kI : (k : Int) < 64 := by omega
      have k0 : (0 : Int) ≤ (k : Int) := by omega
      clear hi hlt hx hk hq h64 HNX HNZ HZ HIX
      go_wp2_with fail
      refine HTZ.out.mono ?_
      rintro e w2 ⟨rfl, rfl⟩
      clear HTZ
      go_wp2_with fail
      refine HDR.out.mono ?_
      rintro e w3 ⟨rfl, hs3, ht3⟩
      have HQ := Lib.hid (And.intro hs3 ht3)
      clear HDR hs3 ht3
      go_wp2_with fail
      go_ret2
      exact ⟨rfl, ⟨HQ.out.1, HH.out.lo, HH.out.hi, SP.drop HH.out.own⟩, HQ.out.2⟩
/-! ### how many are left, which are taken -/
theorem cnt_stop (F : Nat → Bool) (n : Nat) (h : ∀ a, F a = true → 2 ≤ a ∧ a < n) : ∀ m, n ≤ m → cnt F m = cnt F n := by
  intro m hm
  obtain ⟨d, rfl⟩ : ∃ d, m = n + d := ⟨m - n, by omega⟩
  rw [cnt_add, cnt_none _ d (fun j _ => by
    cases hF : F (n + j) with
    | false => rfl
    | true => have := h _ hF; omega)]
  rfl
set_option maxRecDepth 100000 in
set_option maxHeartbeats 1600000 in
theorem pleft11_any (S n : Nat) (F : Nat → Bool) (w : World) (h : SP w S n F) :
    Calls Tryd.prog 24 #[.pointer (some ⟨S, 0, none⟩)] w fun e w' => e = .returned (.int .i64 (cnt F n : Nat)) ∧ w' = w := by
  have HE := Lib.hid (cnt_stop F n h.own 4096 h.hi)
  have HR := Lib.hid (h.arr.range (o := 1) rfl)
  have SZ := Lib.hid (size_sectorsL F)
  have HIX := Lib.hid (index_words F)
  have HC := Lib.hid (fun k => cnt_le F k)
  have HW := Lib.hid (cnt_word F)
  clear h
  generalize hW : wordsF F = WS at *
  clear hW
  rw [← HE.out]
  go_enter Tryd.func24, Tryd.ntmps24
  go_wp2_with (first
    | (with_reducible refine wpList_load_mid (op := ⟨some 11, _, _, _, _, _⟩) rfl 57 _ rfl S 1 rfl WS _ HR.out Tryd.underlying57 rfl SZ.out ?_))
  go_loopw [3, 5, 12] (fun v3 _ v12 wr => ∃ i : Nat, i ≤ 64 ∧ v12 = .int .i64 (i : Int) ∧ v3 = .int .i64 (cnt F (64 * i) : Nat) ∧ wr = w) (fun _ _ v _ => 64 - (intOf v).toNat)
  case atStart => exact ⟨0, by omega, rfl, rfl, rfl⟩
  case round =>
    obtain ⟨i, hi, rfl, rfl, rfl⟩ := hrel
    by_cases hlt : i < 64
    · have hix := HIX.out i hlt
      have HON := Lib.hid (ones_any (wordB F i) wr)
      have hw := HW.out i
      have l1 := HC.out (64 * i)
      have l2 := HC.out (64 * (i + 1))
      generalize hq : cnt F (64 * (i + 1)) = q at *
      generalize cnt F (64 * i) = p at *
      generalize cnt (fun j => (wordB F i).getLsbD j) 64 = c at *
      generalize wordB F i = x at *
      have iI : (i : Int) < 64 := by omega
      have i0 : (0 : Int) ≤ (i : Int) := by omega
      have pI : (p : Int) ≤ 4096 := by omega
      have cI : (c : Int) ≤ 4096 := by omega
      have HQ := Lib.hid hq
      have HWW := Lib.hid hw
      clear hq hw l1 l2 hi
      go_wp2_with fail
      refine HON.out.mono ?_
      rintro e w2 ⟨rfl, rfl⟩
      clear HON
      go_wp2_with fail
      go_roundw
      case rel => exact ⟨i + 1, by omega, by go_num, by rw [HQ.out, HWW.out]; simp, trivial⟩
      case measure => simp [intOf]; omega
    · obtain rfl : i = 64 := by omega
      go_wp2_with fail
      go_ret
      exact ⟨rfl, rfl⟩
/-- The addresses below k that are taken. -/
def tkn (F : Nat → Bool) : Nat → List Nat
  | 0 => []
  | k + 1 => tkn F k ++ (if 2 ≤ k ∧ F k = false then [k] else [])
theorem tkn_len (F : Nat → Bool) : ∀ k, (tkn F k).length ≤ k
  | 0 => Nat.le_refl _
  | k + 1 => by have := tkn_len F k; rw [tkn, List.length_append]; split <;> simp <;> omega
theorem tkn_two (F : Nat → Bool) : tkn F 2 = [] := by simp [tkn]
theorem tkn_mem (F : Nat → Bool) (a : Nat) : ∀ k, a ∈ tkn F k ↔ a < k ∧ 2 ≤ a ∧ F a = false
  | 0 => by simp [tkn]
  | k + 1 => by
    rw [tkn, List.mem_append, tkn_mem F a k]
    by_cases e : a = k
    · subst e
      by_cases h : 2 ≤ a ∧ F a = false
      · rw [if_pos h]; simp [h.1, h.2]
      · rw [if_neg h]
        simp only [List.not_mem_nil, or_false]
        constructor
        · intro q; omega
        · intro q; exact absurd q.2 h
    · have : (a < k + 1) = (a < k) := by apply propext; omega
      rw [this]
      split
      · simp only [List.mem_singleton]
        constructor
        · intro q; exact q.resolve_right e
        · intro q; exact .inl q
      · simp
theorem tkn_count (F : Nat → Bool) (h : ∀ a, F a = true → 2 ≤ a) : ∀ k, 2 ≤ k → (tkn F k).length + cnt F k = k - 2
  | 0, h2 => by omega
  | k + 1, h2 => by
    by_cases e : k = 1
    · subst e
      have h0 : F 0 = false := by cases hF : F 0 with
        | false => rfl
        | true => have := h _ hF; omega
      have h1 : F 1 = false := by cases hF : F 1 with
        | false => rfl
        | true => have := h _ hF; omega
      simp [tkn, cnt, h0, h1]
    · have ih := tkn_count F h k (by omega)
      rw [tkn, cnt, List.length_append]
      cases hF : F k with
      | false => rw [if_pos ⟨by omega, rfl⟩, if_neg (by simp)]; simp only [List.length_singleton]; omega
      | true => rw [if_neg (by simp), if_pos rfl]; simp only [List.length_nil]; omega
theorem tkn_congr {F G : Nat → Bool} : ∀ (k : Nat), (∀ j, j < k → F j = G j) → tkn F k = tkn G k
  | 0, _ => rfl
  | k + 1, h => by rw [tkn, tkn, tkn_congr k (fun j hj => h j (by omega)), h k (by omega)]
def u32n (l : List Nat) : List Value := l.map fun (x : Nat) => Value.int .u32 (x : Int)
theorem u32n_len (l : List Nat) : (u32n l).length = l.length := by simp [u32n]
theorem u32n_at (l : List Nat) (i : Nat) (h : i < l.length) : (u32n l)[i]? = some (.int .u32 (l.getD i 0 : Nat)) := by simp [u32n, h]
theorem u32n_append (l m : List Nat) : u32n (l ++ m) = u32n l ++ u32n m := by simp [u32n]
theorem info_u32n : (Tryd.prog.info? 31).map (fun i => (i.zero, i.size, i.bytes)) = some (some (.int .u32 0), 1, 4) := by kernel_rfl
theorem own_sl {w : World} {base n : Nat} {e : TypeId} {v : Value} {xs : List Value} (h : w.ownsRow base e 1 v n xs) :
    ∃ a cap, v = .slice a n cap ∧ (n = 0 ∨ ∃ g, a = some ⟨g, 0, none⟩ ∧ ∀ j, j < n → w.cell? ⟨g, j, none⟩ = xs[j]?) := by
  rcases h.2 with ⟨rfl, rfl⟩ | ⟨g, cap, cur, rfl, _⟩
  · exact ⟨none, 0, rfl, .inl rfl⟩
  · exact ⟨_, cap, rfl, .inr ⟨g, rfl, fun j hj => h.cellAt j (by omega)⟩⟩
/-- A row of addresses of one's own. -/
def OU (w : World) (B : Nat) (v : Value) (l : List Nat) : Prop := w.ownsRow B 31 1 v l.length (u32n l)
theorem OU.nil (w : World) (B : Nat) : OU w B (.slice none 0 0) [] := World.ownsRow_nil _ _ _ _
theorem OU.touch {w w' : World} {B : Nat} {v : Value} {l : List Nat} {m : List Nat} (h : OU w B v l) (t : Touch m w w') (hg : ∀ g, v.ownBlock = some g → g ∉ m) : OU w' B v l := own_touch h t hg
theorem OU.below {w w' : World} {B : Nat} {v : Value} {l : List Nat} (h : OU w B v l) (t : Below w.heap.size w w') : OU w' B v l := own_touch h (Touch.of_below (l := []) t) (fun _ _ => by simp)
set_option maxRecDepth 100000 in
set_option maxHeartbeats 1600000 in
theorem ptaken11_any (S n : Nat) (F : Nat → Bool) (w : World) (h : SP w S n F) :
    Calls Tryd.prog 23 #[.pointer (some ⟨S, 0, none⟩)] w fun e w' => ∃ a c, e = .returned (.slice a (tkn F n).length c) ∧ OU w' w.heap.size (.slice a (tkn F n).length c) (tkn F n) ∧ Below w.heap.size w w' := by
  obtain ⟨i0, hi, hz0, hz1, hz2⟩ := info_parts info_u32n
  have HI := Lib.hid hi
  have HZ := Lib.hid (And.intro hz0 (And.intro hz1 hz2))
  have HH := Lib.hid h
  have hlo := h.lo
  have hhi := h.hi
  clear h hi hz0 hz1 hz2
  go_enter Tryd.func23, Tryd.ntmps23
  go_wp2_with fail
  go_loopw [3, 4] (fun v3 v4 wr => ∃ a : Nat, 2 ≤ a ∧ a ≤ n ∧ v4 = .int .u32 (a : Int) ∧ OU wr w.heap.size v3 (tkn F a) ∧ Below w.heap.size w wr) (fun _ v _ => n - (intOf v).toNat)
  case atStart => exact ⟨2, by omega, by omega, rfl, by rw [tkn_two]; exact OU.nil _ _, Below.refl _ _⟩
  case round =>
    obtain ⟨a, ha2, han, rfl, ho, hb⟩ := hrel
    have hS := HH.out.below hb
    have hc := hS.size
    have hlen := tkn_len F a
    by_cases hlt : a < n
    · have HHAS := Lib.hid (has_any S 59 1 a [.int .u32 (n : Int)] F wr hS.arr rfl (by omega))
      have HNX := Lib.hid (show tkn F (a + 1) = tkn F a ++ (if 2 ≤ a ∧ F a = false then [a] else []) from rfl)
      generalize hL : tkn F a = L at *
      have HL := Lib.hid hL
      have HO := Lib.hid ho
      have HB := Lib.hid hb
      have HLT := Lib.hid (And.intro ha2 hlt)
      have iI : (a : Int) < (n : Int) := by omega
      have i0' : (0 : Int) ≤ (a : Int) := by omega
      have nI : (n : Int) ≤ 4096 := by omega
      have lI : L.length ≤ 4096 := by omega
      clear hS ho hb hL ha2 han hlt hlen
      cases hF : F a with
      | true =>
        rw [hF] at HHAS HNX
        rw [if_neg (by simp), List.append_nil] at HNX
        clear hF
        go_wp2_with fail
        refine HHAS.out.mono ?_
        rintro e w2 ⟨rfl, hb2⟩
        have HB2 := Lib.hid hb2
        clear HHAS hb2 hc
        go_wp2_with fail
        go_roundw
        case rel => exact ⟨a + 1, by have := HLT.out; omega, by have := HLT.out; omega, by go_num, by rw [HNX.out]; exact HO.out.below HB2.out, HB.out.trans (HB2.out.mono HB.out.size)⟩
        case measure => simp [intOf]; have := HLT.out; omega
      | false =>
        rw [hF] at HHAS HNX
        rw [if_pos ⟨HLT.out.1, rfl⟩] at HNX
        clear hF
        go_wp2_with fail
        refine HHAS.out.mono ?_
        rintro e w2 ⟨rfl, hb2⟩
        have HB2 := Lib.hid (HB.out.trans (hb2.mono HB.out.size))
        have ho2 : w2.ownsRow w.heap.size 31 1 _ L.length (u32n L) := HO.out.below hb2
        obtain ⟨u, cap, hv, _⟩ := own_sl ho2
        subst hv
        have HO2 := Lib.hid (ho2.alloc (.cells #[Value.int .u32 (a : Int)] 31))
        have hb3 := HB2.out.alloc HB2.out.size (.cells #[Value.int .u32 (a : Int)] 31)
        have HB3 := Lib.hid hb3
        have HC := Lib.hid (heap_alloc_new w2 (.cells #[Value.int .u32 (a : Int)] 31))
        clear HHAS hb2 hc ho2 HO hb3
        go_wp2_with (at_builtin; go_must (with_reducible refine wpList_append_own _ rfl _ _ 32 rfl w.heap.size 31 i0 (.int .u32 0) 1 4 Tryd.underlying32 HI.out HZ.out.1 HZ.out.2.1 HZ.out.2.2 rfl (by decide) (.slice u L.length cap) L.length (u32n L) rfl HO2.out ⟨w2.heap.size, 0, none⟩ 1 1 [.int .u32 (a : Int)] rfl rfl ?c1 ?c2 ?c3 ?c4 ?c5 ?_))
        case c1 => exact cell_one_new _ _ _
        case c2 => intro u hu; simp only [List.mem_cons, List.not_mem_nil, or_false] at hu; subst hu; rfl
        case c3 => unfold maxLen; omega
        case c4 => omega
        case c5 => exact HB3.out.size
        intro v' w4 hown' hgrow _
        have hb4 := HB3.out.grown hgrow HB3.out.size (fun k hk => (HO2.out.lt k hk).1)
        have HW := Lib.hid (show OU w4 w.heap.size v' (L ++ [a]) from by unfold OU; rw [List.length_append, u32n_append]; exact hown')
        have HB4 := Lib.hid hb4
        clear hown' hgrow hb4 HO2 HC
        go_wp2_with fail
        go_roundw
        case rel => exact ⟨a + 1, by have := HLT.out; omega, by have := HLT.out; omega, by go_num, by rw [HNX.out]; exact HW.out, HB4.out⟩
        case measure => simp [intOf]; have := HLT.out; omega
    · obtain rfl : n = a := by omega
      have HO := Lib.hid ho
      have HB := Lib.hid hb
      obtain ⟨u, cap, hv, _⟩ := own_sl ho
      subst hv
      clear ho hb hS
      go_wp2_with fail
      go_ret
      exact ⟨_, _, rfl, HO.out, HB.out⟩
end Go.Proofs.YtpeemnkhcgapnaaDoor
