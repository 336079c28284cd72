/-
  Layer 11's laws: addresses that come in; the reference's Same.
-/
import Derived.Test.YtpeemnkhcgapnaaDoorVf
namespace Go.Proofs.YtpeemnkhcgapnaaDoor
set_option maxRecDepth 4000
set_option linter.unusedVariables false
open Go.ChangeShapes Go.WideShapes Go.ChangeAt Go.RowKit

theorem us_slr {w : World} {x : List Int} {a : Option Addr} {n c : Nat} (h : SlR (RInt .u32 0 4294967295) 1 w x a n c) : US w a n c (x.map Int.toNat) := by
  have hs : ∀ (i : Nat) (hi : i < x.length), 0 ≤ x[i] ∧ x[i] ≤ 4294967295 := fun i hi => by
    obtain ⟨b, off, cs, _, h2, _⟩ := h.here i hi
    exact h2.2
  refine ⟨by rw [List.length_map]; exact h.len, fun y hy => ?_, ?_⟩
  · obtain ⟨z, hz, rfl⟩ := List.mem_map.1 hy
    obtain ⟨i, hi, rfl⟩ := List.getElem_of_mem hz
    have := hs i hi
    omega
  · by_cases h0 : n = 0
    · left
      have := h.len
      rw [List.map_eq_nil_iff]
      exact List.eq_nil_of_length_eq_zero (by omega)
    · right
      obtain ⟨b, off, cs, h1, _⟩ := h.here 0 (by rw [h.len]; omega)
      refine ⟨b, off, h1, fun i hi => ?_⟩
      have hix : i < x.length := by rw [h.len]; exact hi
      obtain ⟨b', off', cs', h1', h2', _, h5'⟩ := h.here i hix
      rw [h1] at h1'
      injection h1' with e
      injection e with e1 e2
      subst e1 e2
      have hc := h5' 0 (.int .u32 x[i]) (by rw [h2'.1]; rfl)
      rw [Nat.mul_one, Nat.add_zero] at hc
      rw [hc]
      have e : (x.map Int.toNat).getD i 0 = x[i].toNat := by simp [List.getD, hix]
      rw [e]
      have := hs i hix
      congr 2
      omega
theorem opn_u32 : Opn 31 (RInt .u32 0 4294967295) := opn_int .u32 _ _ Tryd.underlying31 wf_u32
theorem opn_u32s : Opn 32 (RSl (RInt .u32 0 4294967295) 1) := opn_slice 1 Tryd.underlying32 (by kernel_rfl) (by decide) (of_decide_eq_true (by kernel_rfl)) opn_u32
theorem par_u32s {H : Type} {enc : TypeId × Value → H} {W : World} {base : Nat} {v : Value} {d : DataW H} {p : List MemPlace} {ts : List TypeId} {ds : List (DataW H)} {j : Nat} (hok : Value.okWide Tryd.prog W .any base 32 v) (h : ∃ fuel, DataW.trod enc Tryd.prog W 0 (fun _ => true) true fuel 32 v.cells.toList = some (d, p))
    (hsz : (DataW.weightsEach Tryd.prog ts ds).all (· ≤ reachBytes) = true) (ht : ts[j]? = some 32) (hd : ds[j]? = some d) :
    ∃ (l : List Nat) (a : Option Addr) (n c : Nat), v = .slice a n c ∧ US W a n c l ∧ n ≤ c ∧ n ≤ 140737488351232 := by
  obtain ⟨x, a, n, c, rfl, hs⟩ := par_slice Tryd.underlying32 opn_u32s hok h hsz ht hd
  exact ⟨_, a, n, c, rfl, us_slr hs, hs.cap, by have := hs.big; have := hs.cap; omega⟩
theorem par_nat32 {H : Type} {enc : TypeId × Value → H} {W : World} {base : Nat} {v : Value} {d : DataW H} {p : List MemPlace} {ts : List TypeId} {ds : List (DataW H)} {j : Nat} (hok : Value.okWide Tryd.prog W .any base 31 v) (h : ∃ fuel, DataW.trod enc Tryd.prog W 0 (fun _ => true) true fuel 31 v.cells.toList = some (d, p))
    (hsz : (DataW.weightsEach Tryd.prog ts ds).all (· ≤ reachBytes) = true) (ht : ts[j]? = some 31) (hd : ds[j]? = some d) :
    ∃ n : Nat, v = .int .u32 (n : Int) ∧ n < 4294967296 := by
  obtain ⟨z, rfl, h0, h1⟩ := par_int .u32 _ _ Tryd.underlying31 wf_u32 hok h hsz ht hd
  exact ⟨z.toNat, by rw [Int.toNat_of_nonneg h0], by omega⟩
theorem par_nat16 {H : Type} {enc : TypeId × Value → H} {W : World} {base : Nat} {v : Value} {d : DataW H} {p : List MemPlace} {ts : List TypeId} {ds : List (DataW H)} {j : Nat} (hok : Value.okWide Tryd.prog W .any base 48 v) (h : ∃ fuel, DataW.trod enc Tryd.prog W 0 (fun _ => true) true fuel 48 v.cells.toList = some (d, p))
    (hsz : (DataW.weightsEach Tryd.prog ts ds).all (· ≤ reachBytes) = true) (ht : ts[j]? = some 48) (hd : ds[j]? = some d) :
    ∃ n : Nat, v = .int .u16 (n : Int) ∧ n < 65536 := by
  obtain ⟨z, rfl, h0, h1⟩ := par_int .u16 _ _ Tryd.underlying48 wf_u16 hok h hsz ht hd
  exact ⟨z.toNat, by rw [Int.toNat_of_nonneg h0], by omega⟩
theorem par_nat8 {H : Type} {enc : TypeId × Value → H} {W : World} {base : Nat} {v : Value} {d : DataW H} {p : List MemPlace} {ts : List TypeId} {ds : List (DataW H)} {j : Nat} (hok : Value.okWide Tryd.prog W .any base 5 v) (h : ∃ fuel, DataW.trod enc Tryd.prog W 0 (fun _ => true) true fuel 5 v.cells.toList = some (d, p))
    (hsz : (DataW.weightsEach Tryd.prog ts ds).all (· ≤ reachBytes) = true) (ht : ts[j]? = some 5) (hd : ds[j]? = some d) :
    ∃ n : Nat, v = .int .u8 (n : Int) ∧ n < 256 := by
  obtain ⟨z, rfl, h0, h1⟩ := par_int .u8 _ _ Tryd.underlying5 wf_u8 hok h hsz ht hd
  exact ⟨z.toNat, by rw [Int.toNat_of_nonneg h0], by omega⟩
/-- Addresses in a row that was made behind B. -/
structure TU (w : World) (B : Nat) (a : Option Addr) (n c : Nat) (l : List Nat) : Prop where
  us : US w a n c l
  new : ∀ b off, a = some ⟨b, off, none⟩ → B ≤ b
theorem TU.below {w w' : World} {B : Nat} {a : Option Addr} {n c : Nat} {l : List Nat} (h : TU w B a n c l) (q : Below w.heap.size w w') : TU w' B a n c l := ⟨h.us.below q, h.new⟩
theorem TU.touch {w w' : World} {B : Nat} {a : Option Addr} {n c : Nat} {l m : List Nat} (h : TU w B a n c l) (q : Touch m w w') (hm : ∀ k ∈ m, k < B) : TU w' B a n c l :=
  ⟨h.us.touch q (fun b off ha hb => by have := hm b hb; have := h.new b off ha; omega), h.new⟩
theorem tu_own {w : World} {B n c : Nat} {a : Option Addr} {l : List Nat} (h : OU w B (.slice a n c) l) (hs : ∀ x ∈ l, x < 4294967296) (hn : n = l.length) : TU w B a n c l :=
  ⟨us_own h hs hn, fun b off ha => by
    subst hn
    rcases h.2 with ⟨hv, _⟩ | ⟨g, cap, cur, hv, hg, _⟩
    · injection hv with e; rw [ha] at e; cases e
    · injection hv with e; rw [ha] at e; injection e with e; injection e with e; omega⟩
theorem so_takenU (w0 w : World) (S n k : Nat) (F : Nat → Bool) (h : SO w0 w S n F) (hk : (tkn F n).length = k) :
    Calls Tryd.prog 23 #[.pointer (some ⟨S, 0, none⟩)] w fun e w' => ∃ a c, e = .returned (.slice a k c) ∧ TU w' w.heap.size a k c (tkn F n) ∧ SO w0 w' S n F ∧ Below w.heap.size w w' := by
  subst hk
  refine (so_taken w0 w S n F h).mono ?_
  rintro e w' ⟨a, c, he, ho, hs, hb⟩
  exact ⟨a, c, he, tu_own ho (fun x hx => by have := ((tkn_mem F x n).1 hx).1; have := h.sp.hi; omega) rfl, hs, hb⟩
theorem mark_cases (n : Nat) (F : Nat → Bool) (a : Nat) : (∃ v : Int, (v = 2 ∨ v = 9) ∧ markA n F a = (v, F)) ∨ (2 ≤ a ∧ a < n ∧ F a = true ∧ markA n F a = (0, updF F a false)) := by
  unfold markA
  by_cases hb : a < 2 ∨ n ≤ a
  · rw [if_pos hb]; exact .inl ⟨2, .inl rfl, rfl⟩
  · rw [if_neg hb]
    by_cases hF : F a = true
    · rw [if_pos hF]; exact .inr ⟨by omega, by omega, hF, rfl⟩
    · rw [if_neg hF]; exact .inl ⟨9, .inr rfl, rfl⟩
theorem free_ok {n a : Nat} {F : Nat → Bool} (h0 : 2 ≤ a) (h1 : a < n) (h : F a = false) : freeA n F a = (0, updF F a true) := by
  unfold freeA; rw [if_neg (by omega), if_neg (by simp [h])]
theorem free_none {n a : Nat} {F : Nat → Bool} (h0 : 2 ≤ a) (h1 : a < n) (h : F a = true) : freeA n F a = (8, F) := by
  unfold freeA; rw [if_neg (by omega), if_pos h]
theorem has_in {n a : Nat} {F : Nat → Bool} (h0 : 2 ≤ a) (h1 : a < n) : hasA n F a = !F a := by
  unfold hasA; simp [h0, h1]
theorem updF_back (F : Nat → Bool) (a : Nat) (h : F a = true) : updF (updF F a false) a true = F := by rw [updF_twice, updF_self _ _ _ h]
theorem cnt_drop {F : Nat → Bool} {a n : Nat} (h1 : a < n) (h : F a = true) : cnt (updF F a false) n + 1 = cnt F n := by
  have := cnt_upd F a false n
  rw [if_pos ⟨h1, h⟩, if_neg (by simp)] at this
  omega
theorem tkn_drop {F : Nat → Bool} {a n : Nat} (hF : ∀ x, F x = true → 2 ≤ x) (h0 : 2 ≤ a) (h1 : a < n) (h : F a = true) : (tkn (updF F a false) n).length = (tkn F n).length + 1 := by
  have e1 := tkn_count F hF n (by omega)
  have e2 := tkn_count (updF F a false) (fun x hx => by
    unfold updF at hx
    split at hx
    · cases hx
    · exact hF x hx) n (by omega)
  have e3 := cnt_drop h1 h
  omega
theorem same_at {l m : List Nat} {n i : Nat} (hl : l.length = n) (hm : m.length = n) (hi : i < n) (h : l.take i = m.take i) : l.take (i + 1) = m.take (i + 1) ↔ l.getD i 0 = m.getD i 0 := by
  rw [List.take_succ_eq_append_getElem (l := l) (i := i) (by omega), List.take_succ_eq_append_getElem (l := m) (i := i) (by omega), h, List.append_right_inj]
  simp [List.getD, show i < l.length by omega, show i < m.length by omega]
set_option maxRecDepth 100000 in
set_option maxHeartbeats 1600000 in
theorem rsame11_any (a b : Option Addr) (n k c d : Nat) (l m : List Nat) (w : World) (hl : US w a n c l) (hm : US w b k d m) (hn : n ≤ 140737488351232) (hk : k ≤ 140737488351232) :
    Calls Tryd.prog 22 #[.slice a n c, .slice b k d] w fun e w' => e = .returned (.bool (decide (l = m))) ∧ Below w.heap.size w w' := by
  by_cases hnk : n = k
  · subst hnk
    have HL := Lib.hid hl
    have HM := Lib.hid hm
    have HN := Lib.hid (And.intro hl.len hm.len)
    have nI : (n : Int) ≤ 140737488351232 := by omega
    clear hl hm hn hk
    go_enter Tryd.func22, Tryd.ntmps22
    go_wp2_with fail
    go_loopw [5, 13] (fun _ v13 wr => ∃ i : Nat, i ≤ n ∧ v13 = .int .i64 (i : Int) ∧ l.take i = m.take i ∧ Below w.heap.size w wr) (fun _ v _ => n - (intOf v).toNat)
    case atStart => exact ⟨0, by omega, rfl, rfl, Below.refl _ _⟩
    case round =>
      obtain ⟨i, hi, rfl, ht, hb⟩ := hrel
      by_cases hlt : i < n
      · obtain ⟨b1, o1, rfl, c1⟩ := (HL.out.below hb).at hlt
        obtain ⟨b2, o2, rfl, c2⟩ := (HM.out.below hb).at hlt
        have i1 := index_u32 b1 o1 n c i hlt
        have i2 := index_u32 b2 o2 n d i hlt
        have HS := Lib.hid (same_at HN.out.1 HN.out.2 hlt ht)
        have HB := Lib.hid hb
        have HLT := Lib.hid hlt
        have iI : (i : Int) < (n : Int) := by omega
        have i0 : (0 : Int) ≤ (i : Int) := by omega
        generalize l.getD i 0 = x at *
        generalize m.getD i 0 = y at *
        clear ht hb hlt hi
        by_cases hxy : x = y
        · subst hxy
          have HT := Lib.hid (HS.out.2 rfl)
          clear HS
          go_wp2_with fail
          go_quiet (fail)
          go_wp2_with fail
          go_roundw
          case rel => exact ⟨i + 1, by have := HLT.out; omega, by go_num, HT.out, ybelow_drewN HB.out _⟩
          case measure => simp [intOf]; omega
        · have hne : ((x : Int) != (y : Int)) = true := by simp; omega
          have HE := Lib.hid (show decide (l = m) = false from decide_eq_false fun e => hxy (HS.out.1 (by rw [e])))
          clear HS hxy
          go_wp2_with fail
          go_quiet (fail)
          go_wp2_with fail
          go_ret
          exact ⟨by rw [HE.out]; rfl, ybelow_drewN HB.out _⟩
      · obtain rfl : i = n := by omega
        have HE := Lib.hid (show decide (l = m) = true from decide_eq_true (by
          rw [List.take_of_length_le (by rw [HN.out.1]; omega), List.take_of_length_le (by rw [HN.out.2]; omega)] at ht
          exact ht))
        have HB := Lib.hid hb
        clear ht hb hlt hi
        go_wp2_with fail
        go_ret
        exact ⟨by rw [HE.out]; rfl, HB.out⟩
  · have hne : decide (l = m) = false := decide_eq_false fun e => hnk (by rw [← hl.len, ← hm.len, e])
    rw [hne]
    have nk : ((n : Int) != (k : Int)) = true := by simp; omega
    clear hl hm hne hnk
    go_enter Tryd.func22, Tryd.ntmps22
    go_wp2_with fail
    go_ret
    exact ⟨rfl, Below.refl _ _⟩
end Go.Proofs.YtpeemnkhcgapnaaDoor
