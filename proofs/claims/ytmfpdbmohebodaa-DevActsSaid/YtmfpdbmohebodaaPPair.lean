/-
  The program's device and the reference's, side by side; what each call answers, in one word for both.
-/
import Derived.Test.YtmfpdbmohebodaaPTwo
import Derived.Test.YtmfpdbmohebodaaRWrite
namespace Go.Proofs.Ytmfpdbmohebodaa
open Go.RowKit

/-- The reference's blocks. -/
def rfp (E hl : Nat) (vv : Value) : List Nat := E :: hl :: vv.ownBlock.toList
theorem RD.lt {w : World} {E hl n : Nat} {vv : Value} {F : List (BitVec 8)} {ws : List (Nat × List (BitVec 8))} {lim : Int} {dn : Bool} (h : RD w E hl n vv F ws lim dn) : ∀ g ∈ rfp E hl vv, g < w.heap.size := by
  intro g hg
  simp only [rfp, List.mem_cons, Option.mem_toList] at hg
  rcases hg with rfl | rfl | hg
  · exact rd_lt h.dev
  · exact zlt h.lay
  · exact own_lt h.wai g hg
theorem RD.same {w w' : World} {E hl n : Nat} {vv : Value} {F : List (BitVec 8)} {ws : List (Nat × List (BitVec 8))} {lim : Int} {dn : Bool} (h : RD w E hl n vv F ws lim dn) (q : Stay (rfp E hl vv) w w') : RD w' E hl n vv F ws lim dn :=
  ⟨(q E (by simp [rfp])).trans h.dev, (q hl (by simp [rfp])).trans h.lay, h.len, own_same h.wai (fun g hg => q g (by simp [rfp, hg])), h.wok, h.big, h.lim1⟩
def RO (w0 w : World) (K : List Nat) (E hl n : Nat) (F : List (BitVec 8)) (ws : List (Nat × List (BitVec 8))) (lim : Int) (dn : Bool) : Prop :=
  ∃ vv, RD w E hl n vv F ws lim dn ∧ (∀ g ∈ rfp E hl vv, w0.heap.size ≤ g ∧ g ∉ K) ∧ (∀ k ∈ K, k < w.heap.size) ∧ Below w0.heap.size w0 w
theorem ro_step {w0 w w' : World} {K : List Nat} {E hl n : Nat} {vv vv' : Value} {F' : List (BitVec 8)} {ws' : List (Nat × List (BitVec 8))} {lim' : Int} {dn' : Bool}
    (hf : ∀ g ∈ rfp E hl vv, w0.heap.size ≤ g ∧ g ∉ K) (hk : ∀ k ∈ K, k < w.heap.size) (hb : Below w0.heap.size w0 w)
    (h' : RD w' E hl n vv' F' ws' lim' dn') (t : Touch (rfp E hl vv) w w') (hn : ∀ g ∈ rfp E hl vv', g ∈ rfp E hl vv ∨ w.heap.size ≤ g) : RO w0 w' K E hl n F' ws' lim' dn' ∧ Stay K w w' := by
  refine ⟨⟨vv', h', fun g hg => ?_, fun k hm => Nat.lt_of_lt_of_le (hk k hm) t.size, hb.trans (t.below hb.size (fun k hm => (hf k hm).1))⟩, fun k hm => t.block k (hk k hm) (fun e => (hf k e).2 hm)⟩
  rcases hn g hg with h1 | h1
  · exact hf g h1
  · exact ⟨Nat.le_trans hb.size h1, fun hm => by have := hk g hm; omega⟩
theorem RO.below {w0 w w' : World} {K : List Nat} {E hl n : Nat} {F : List (BitVec 8)} {ws : List (Nat × List (BitVec 8))} {lim : Int} {dn : Bool} (h : RO w0 w K E hl n F ws lim dn) (q : Below w.heap.size w w') : RO w0 w' K E hl n F ws lim dn := by
  obtain ⟨vv, h, hf, hk, hb⟩ := h
  exact ⟨vv, h.below q, hf, fun k hm => Nat.lt_of_lt_of_le (hk k hm) q.size, hb.trans (q.mono hb.size)⟩
theorem RO.stay {w w' : World} {K : List Nat} (hk : ∀ k ∈ K, k < w.heap.size) (q : Below w.heap.size w w') : Stay K w w' := fun k hm => q.block k (hk k hm)
theorem ro_own {w0 w w' : World} {K : List Nat} {E hl n g : Nat} {vv : Value} {F' : List (BitVec 8)} {ws : List (Nat × List (BitVec 8))} {lim' : Int} {dn' : Bool}
    (hf : ∀ g ∈ rfp E hl vv, w0.heap.size ≤ g ∧ g ∉ K) (hk : ∀ k ∈ K, k < w.heap.size) (hb : Below w0.heap.size w0 w)
    (h' : RD w' E hl n vv F' ws lim' dn') (t : Only g w w') (hg : g = E ∨ g = hl) : RO w0 w' K E hl n F' ws lim' dn' ∧ Stay K w w' :=
  ro_step hf hk hb h' (Touch.of_only t (by rcases hg with rfl | rfl <;> simp [rfp])) (fun g hg => .inl hg)
theorem rfp_none {E hl s : Nat} {vv : Value} : ∀ g ∈ rfp E hl (.slice none 0 0), g ∈ rfp E hl vv ∨ s ≤ g := by
  intro g hg
  simp only [rfp, Value.ownBlock, Option.toList_none, List.mem_cons, List.not_mem_nil, or_false] at hg ⊢
  rcases hg with h1 | h1
  · exact .inl (.inl h1)
  · exact .inl (.inr (.inl h1))
theorem touch_rfp {E hl : Nat} {vv : Value} {w w' : World} (h : Touch [E, hl] w w') : Touch (rfp E hl vv) w w' := h.more (by intro k hk; simp only [List.mem_cons, List.not_mem_nil, or_false] at hk; rcases hk with rfl | rfl <;> simp [rfp])

/-! What the calls answer. -/
def writeA (good : Bool) (p : Nat × List (BitVec 8)) (ws : List (Nat × List (BitVec 8))) (lim : Int) (dn : Bool) : Int × List (Nat × List (BitVec 8)) × Int × Bool :=
  if good = false then (2, ws, lim, dn) else if (goP lim dn).2 = true then (7, ws, (goP lim dn).1, true) else (0, ws ++ [p], (goP lim dn).1, false)
def flushA (F : List (BitVec 8)) (ws : List (Nat × List (BitVec 8))) (lim : Int) (dn : Bool) : Int × List (BitVec 8) × List (Nat × List (BitVec 8)) × Int × Bool :=
  if (goP lim dn).2 = true then (7, F, ws, (goP lim dn).1, true) else (0, flushM F ws, [], (goP lim dn).1, false)
def readA (n a : Nat) (F : List (BitVec 8)) (ws : List (Nat × List (BitVec 8))) (dn : Bool) : List (BitVec 8) × Int := if a < n then (if dn = true then ([], 7) else (readM F ws a, 0)) else ([], 2)
theorem writeA_length (good : Bool) (p : Nat × List (BitVec 8)) (ws : List (Nat × List (BitVec 8))) (lim : Int) (dn : Bool) : (writeA good p ws lim dn).2.1.length ≤ ws.length + 1 := by
  unfold writeA; split <;> (try split) <;> simp
theorem flushA_length (F : List (BitVec 8)) (ws : List (Nat × List (BitVec 8))) (lim : Int) (dn : Bool) : (flushA F ws lim dn).2.2.1.length ≤ ws.length := by
  unfold flushA; split <;> simp
section
variable (w0 w : World) (K : List Nat) (D gl n : Nat) (F : List (BitVec 8)) (ws : List (Nat × List (BitVec 8))) (lim : Int) (dn : Bool)
theorem goP_up (hdn : (goP lim dn).2 = false) : dn = false ∧ lim ≠ 0 := by
  unfold goP at hdn
  simpa using hdn
theorem po_write_all (a bx o lb cap : Nat) (l : List (BitVec 8)) (h : PO w0 w K D gl n F ws lim dn) (ha : a < 4294967296) (hB : ArrY w bx 5 l) (hl : l.length = 512) (ho : lb = 512 → o = 0) (hws : ws.length ≤ 1000000) :
    Calls Try.prog 28 #[.pointer (some ⟨D, 0, none⟩), .int .u32 (a : Int), .slice (some ⟨bx, o, none⟩) lb cap] w fun e w' => e = .returned (.int .i64 (writeA (decide (a < n ∧ lb = 512)) (a, l) ws lim dn).1) ∧
      PO w0 w' K D gl n F (writeA (decide (a < n ∧ lb = 512)) (a, l) ws lim dn).2.1 (writeA (decide (a < n ∧ lb = 512)) (a, l) ws lim dn).2.2.1 (writeA (decide (a < n ∧ lb = 512)) (a, l) ws lim dn).2.2.2 ∧ Stay K w w' := by
  by_cases hg : a < n ∧ lb = 512
  · have hl2 := hg.2
    subst hl2
    obtain rfl := ho rfl
    cases hq : (goP lim dn).2 with
    | true =>
      rw [show writeA (decide (a < n ∧ 512 = 512)) (a, l) ws lim dn = (7, ws, (goP lim dn).1, true) by unfold writeA; rw [if_neg (by simp [hg.1]), if_pos hq]]
      exact po_write_no w0 w K D gl n a cap _ F ws lim dn h hg.1 hq
    | false =>
      rw [show writeA (decide (a < n ∧ 512 = 512)) (a, l) ws lim dn = (0, ws ++ [(a, l)], (goP lim dn).1, false) by unfold writeA; rw [if_neg (by simp [hg.1]), if_neg (by simp [hq])]]
      obtain ⟨rfl, h0⟩ := goP_up lim dn hq
      exact po_write_lim w0 w K D gl n a bx cap F l ws lim h h0 hg.1 hB hl hws
  · rw [show writeA (decide (a < n ∧ lb = 512)) (a, l) ws lim dn = (2, ws, lim, dn) by unfold writeA; rw [if_pos (by simpa using hg)]]
    have h' := h
    obtain ⟨bm, vw, h, hf, hk, hb⟩ := h
    refine (pwrite_no D gl bm n a vw F ws lim dn _ lb cap w h ha hg).mono ?_
    rintro e w' ⟨he, rfl⟩
    exact ⟨he, h', fun _ _ => rfl⟩
theorem ro_write_all (a bx o lb cap : Nat) (l : List (BitVec 8)) (h : RO w0 w K D gl n F ws lim dn) (ha : a < 4294967296) (hB : ArrY w bx 5 l) (hl : l.length = 512) (ho : lb = 512 → o = 0) (hws : ws.length ≤ 1000000) :
    Calls Try.prog 29 #[.pointer (some ⟨D, 0, none⟩), .int .u32 (a : Int), .slice (some ⟨bx, o, none⟩) lb cap] w fun e w' => e = .returned (.int .i64 (writeA (decide (a < n ∧ lb = 512)) (a, l) ws lim dn).1) ∧
      RO w0 w' K D gl n F (writeA (decide (a < n ∧ lb = 512)) (a, l) ws lim dn).2.1 (writeA (decide (a < n ∧ lb = 512)) (a, l) ws lim dn).2.2.1 (writeA (decide (a < n ∧ lb = 512)) (a, l) ws lim dn).2.2.2 ∧ Stay K w w' := by
  have h' := h
  obtain ⟨vv, h, hf, hk, hb⟩ := h
  by_cases hg : a < n ∧ lb = 512
  · have hl2 := hg.2
    subst hl2
    obtain rfl := ho rfl
    cases hq : (goP lim dn).2 with
    | true =>
      rw [show writeA (decide (a < n ∧ 512 = 512)) (a, l) ws lim dn = (7, ws, (goP lim dn).1, true) by unfold writeA; rw [if_neg (by simp [hg.1]), if_pos hq]]
      cases dn with
      | true =>
        rw [show (goP lim true).1 = lim by unfold goP; simp]
        refine (rwrite_down D gl n a vv F ws lim _ cap w h hg.1).mono ?_
        rintro e w' ⟨he, rfl⟩
        exact ⟨he, h', fun _ _ => rfl⟩
      | false =>
        have h0 : lim = 0 := by unfold goP at hq; simpa using hq
        subst h0
        rw [show (goP 0 false).1 = 0 by decide]
        refine (rwrite_limit D gl n a vv F ws _ cap w h hg.1).mono ?_
        rintro e w' ⟨he, hR, hO⟩
        exact ⟨he, ro_own hf hk hb hR hO (.inl rfl)⟩
    | false =>
      rw [show writeA (decide (a < n ∧ 512 = 512)) (a, l) ws lim dn = (0, ws ++ [(a, l)], (goP lim dn).1, false) by unfold writeA; rw [if_neg (by simp [hg.1]), if_neg (by simp [hq])]]
      obtain ⟨rfl, h0⟩ := goP_up lim dn hq
      refine (rwrite_ok D gl n a bx cap vv F l ws lim w h hg.1 hB hl h0 hws).mono ?_
      rintro e w' ⟨he, vv', hR, hT, hn⟩
      rw [show (goM lim false).1 = (goP lim false).1 by unfold goM goP; simp] at hR
      refine ⟨he, ro_step hf hk hb hR (hT.more (by intro k hk; simp only [List.mem_cons, List.not_mem_nil, or_false] at hk; subst hk; simp [rfp])) (fun g hg => ?_)⟩
      simp only [rfp, List.mem_cons, Option.mem_toList] at hg ⊢
      rcases hg with h1 | h1 | h1
      · exact .inl (.inl h1)
      · exact .inl (.inr (.inl h1))
      · exact .inr (hn g h1)
  · rw [show writeA (decide (a < n ∧ lb = 512)) (a, l) ws lim dn = (2, ws, lim, dn) by unfold writeA; rw [if_pos (by simpa using hg)]]
    by_cases ha2 : a < n
    · refine (rwrite_size D gl n a vv F ws lim dn _ lb cap w h ha2 (fun e => hg ⟨ha2, e⟩)).mono ?_
      rintro e w' ⟨he, rfl⟩
      exact ⟨he, h', fun _ _ => rfl⟩
    · refine (rwrite_far D gl n a vv _ F ws lim dn w h ha (by omega)).mono ?_
      rintro e w' ⟨he, rfl⟩
      exact ⟨he, h', fun _ _ => rfl⟩
theorem po_flush_all (h : PO w0 w K D gl n F ws lim dn) (hws : ws.length ≤ 1000000) :
    Calls Try.prog 15 #[.pointer (some ⟨D, 0, none⟩)] w fun e w' => e = .returned (.int .i64 (flushA F ws lim dn).1) ∧ PO w0 w' K D gl n (flushA F ws lim dn).2.1 (flushA F ws lim dn).2.2.1 (flushA F ws lim dn).2.2.2.1 (flushA F ws lim dn).2.2.2.2 ∧ Stay K w w' := by
  cases hq : (goP lim dn).2 with
  | true =>
    rw [show flushA F ws lim dn = (7, F, ws, (goP lim dn).1, true) by unfold flushA; rw [if_pos hq]]
    exact po_flush_no w0 w K D gl n F ws lim dn h hq
  | false =>
    rw [show flushA F ws lim dn = (0, flushM F ws, [], (goP lim dn).1, false) by unfold flushA; rw [if_neg (by simp [hq])]]
    obtain ⟨rfl, h0⟩ := goP_up lim dn hq
    exact po_flush_lim w0 w K D gl n F ws lim h h0 hws
theorem ro_flush_all (h : RO w0 w K D gl n F ws lim dn) (hws : ws.length ≤ 1000000) :
    Calls Try.prog 16 #[.pointer (some ⟨D, 0, none⟩)] w fun e w' => e = .returned (.int .i64 (flushA F ws lim dn).1) ∧ RO w0 w' K D gl n (flushA F ws lim dn).2.1 (flushA F ws lim dn).2.2.1 (flushA F ws lim dn).2.2.2.1 (flushA F ws lim dn).2.2.2.2 ∧ Stay K w w' := by
  have h' := h
  obtain ⟨vv, h, hf, hk, hb⟩ := h
  cases hq : (goP lim dn).2 with
  | true =>
    rw [show flushA F ws lim dn = (7, F, ws, (goP lim dn).1, true) by unfold flushA; rw [if_pos hq]]
    cases dn with
    | true =>
      rw [show (goP lim true).1 = lim by unfold goP; simp]
      refine (rflush_down D gl n vv F ws lim w h).mono ?_
      rintro e w' ⟨he, rfl⟩
      exact ⟨he, h', fun _ _ => rfl⟩
    | false =>
      have h0 : lim = 0 := by unfold goP at hq; simpa using hq
      subst h0
      rw [show (goP 0 false).1 = 0 by decide]
      refine (rflush_limit D gl n vv F ws w h).mono ?_
      rintro e w' ⟨he, hR, hO⟩
      exact ⟨he, ro_own hf hk hb hR hO (.inl rfl)⟩
  | false =>
    rw [show flushA F ws lim dn = (0, flushM F ws, [], (goP lim dn).1, false) by unfold flushA; rw [if_neg (by simp [hq])]]
    obtain ⟨rfl, h0⟩ := goP_up lim dn hq
    refine (rflush_ok D gl n vv F ws lim w h h0 hws).mono ?_
    rintro e w' ⟨he, hR, hT⟩
    rw [show (goM lim false).1 = (goP lim false).1 by unfold goM goP; simp] at hR
    exact ⟨he, ro_step hf hk hb hR (touch_rfp hT) rfp_none⟩
theorem ro_limit (x : Int) (h : RO w0 w K D gl n F ws lim dn) (hx : x ≤ 9223372036854775807) :
    Calls Try.prog 18 #[.pointer (some ⟨D, 0, none⟩), .int .i64 x] w fun e w' => e = .returned (.tuple #[]) ∧ RO w0 w' K D gl n F ws (if x < 0 then -1 else x) dn ∧ Stay K w w' := by
  obtain ⟨vv, h, hf, hk, hb⟩ := h
  refine (rsetlimit_any D gl n vv F ws lim x dn w h hx).mono ?_
  rintro e w' ⟨he, hR, hO⟩
  exact ⟨he, ro_own hf hk hb hR hO (.inl rfl)⟩
theorem ro_crash (keep : Nat) (torn : Int) (h : RO w0 w K D gl n F ws lim dn) (hws : ws.length ≤ 1000000) (hkp : keep < 18446744073709551616) :
    Calls Try.prog 20 #[.pointer (some ⟨D, 0, none⟩), .int .u64 (keep : Int), .int .i64 torn] w fun e w' => e = .returned (.tuple #[]) ∧ RO w0 w' K D gl n (crashM keep torn F ws ws.length) [] (-1) false ∧ Stay K w w' := by
  obtain ⟨vv, h, hf, hk, hb⟩ := h
  refine (rcrash_any D gl n keep torn vv F ws lim dn w h hws hkp).mono ?_
  rintro e w' ⟨he, hR, hT⟩
  exact ⟨he, ro_step hf hk hb hR (touch_rfp hT) rfp_none⟩
def pokeA (good : Bool) (a : Nat) (F l : List (BitVec 8)) : Int × List (BitVec 8) := if good = true then (0, putL F (a * 512) l) else (2, F)
theorem po_poke_all (a bx o lb cap : Nat) (l : List (BitVec 8)) (h : PO w0 w K D gl n F ws lim dn) (ha : a < 4294967296) (hB : ArrY w bx 5 l) (hl : l.length = 512) (ho : lb = 512 → o = 0) :
    Calls Try.prog 21 #[.pointer (some ⟨D, 0, none⟩), .int .u32 (a : Int), .slice (some ⟨bx, o, none⟩) lb cap] w fun e w' => e = .returned (.int .i64 (pokeA (decide (a < n ∧ lb = 512)) a F l).1) ∧ PO w0 w' K D gl n (pokeA (decide (a < n ∧ lb = 512)) a F l).2 ws lim dn ∧ Stay K w w' := by
  by_cases hg : a < n ∧ lb = 512
  · rw [show pokeA (decide (a < n ∧ lb = 512)) a F l = (0, putL F (a * 512) l) by unfold pokeA; rw [if_pos (by simpa using hg)]]
    obtain ⟨ha2, rfl⟩ := hg
    obtain rfl := ho rfl
    exact po_poke w0 w K D gl n a bx cap F l ws lim dn h ha2 hB hl
  · rw [show pokeA (decide (a < n ∧ lb = 512)) a F l = (2, F) by unfold pokeA; rw [if_neg (by simpa using hg)]]
    have h' := h
    obtain ⟨bm, vw, h, hf, hk, hb⟩ := h
    refine (ppoke_no D gl bm n a vw F ws lim dn _ lb cap w h ha hg).mono ?_
    rintro e w' ⟨he, rfl⟩
    exact ⟨he, h', fun _ _ => rfl⟩
theorem ro_poke_all (a bx o lb cap : Nat) (l : List (BitVec 8)) (h : RO w0 w K D gl n F ws lim dn) (ha : a < 4294967296) (hB : ArrY w bx 5 l) (hl : l.length = 512) (ho : lb = 512 → o = 0) :
    Calls Try.prog 22 #[.pointer (some ⟨D, 0, none⟩), .int .u32 (a : Int), .slice (some ⟨bx, o, none⟩) lb cap] w fun e w' => e = .returned (.int .i64 (pokeA (decide (a < n ∧ lb = 512)) a F l).1) ∧ RO w0 w' K D gl n (pokeA (decide (a < n ∧ lb = 512)) a F l).2 ws lim dn ∧ Stay K w w' := by
  have h' := h
  obtain ⟨vv, h, hf, hk, hb⟩ := h
  by_cases hg : a < n ∧ lb = 512
  · rw [show pokeA (decide (a < n ∧ lb = 512)) a F l = (0, putL F (a * 512) l) by unfold pokeA; rw [if_pos (by simpa using hg)]]
    obtain ⟨ha2, rfl⟩ := hg
    obtain rfl := ho rfl
    refine (rpoke_ok D gl n a vv F l ws lim dn _ cap w h ha2 (BS.of_arr0 (n := 512) (cap := cap) hB hl) hl).mono ?_
    rintro e w' ⟨he, hR, hO⟩
    exact ⟨he, ro_own hf hk hb hR hO (.inr rfl)⟩
  · rw [show pokeA (decide (a < n ∧ lb = 512)) a F l = (2, F) by unfold pokeA; rw [if_neg (by simpa using hg)]]
    by_cases ha2 : a < n
    · refine (rpoke_size D gl n a vv F ws lim dn _ lb cap w h ha2 (fun e => hg ⟨ha2, e⟩)).mono ?_
      rintro e w' ⟨he, rfl⟩
      exact ⟨he, h', fun _ _ => rfl⟩
    · refine (rpoke_far D gl n a vv _ F ws lim dn w h ha (by omega)).mono ?_
      rintro e w' ⟨he, rfl⟩
      exact ⟨he, h', fun _ _ => rfl⟩
theorem sect_none (err : Int) {e : Ending} {w' : World} (he : e = .returned (.tuple #[.slice none 0 0, .int .i64 err])) (hw : w' = w) : Sect w [] err e w' := by
  subst hw
  exact ⟨_, he, bs_none _, Below.refl _ _⟩
theorem po_read_all (a : Nat) (h : PO w0 w K D gl n F ws lim dn) (ha : a < 4294967296) :
    Calls Try.prog 23 #[.pointer (some ⟨D, 0, none⟩), .int .u32 (a : Int)] w (Sect w (readA n a F ws dn).1 (readA n a F ws dn).2) := by
  obtain ⟨bm, vw, h, _⟩ := h
  unfold readA
  by_cases h1 : a < n
  · rw [if_pos h1]
    cases dn with
    | true => exact (pread_down D gl bm n a vw F ws lim w h h1).mono fun e w' h => sect_none w 7 h.1 h.2
    | false => exact (pread_ok D gl bm n a vw F ws lim w h h1).mono fun e w' h => h.sect
  · rw [if_neg h1]
    exact (pread_far D gl bm n a vw F ws lim dn w h ha (by omega)).mono fun e w' h => sect_none w 2 h.1 h.2
theorem ro_read_all (a : Nat) (h : RO w0 w K D gl n F ws lim dn) (ha : a < 4294967296) (hws : ws.length ≤ 1000000) :
    Calls Try.prog 24 #[.pointer (some ⟨D, 0, none⟩), .int .u32 (a : Int)] w (Sect w (readA n a F ws dn).1 (readA n a F ws dn).2) := by
  obtain ⟨vv, h, _⟩ := h
  unfold readA
  by_cases h1 : a < n
  · rw [if_pos h1]
    cases dn with
    | true => exact (rread_down D gl n a vv F ws lim w h h1).mono fun e w' h => sect_none w 7 h.1 h.2
    | false => exact rread_ok D gl n a vv F ws lim w h h1 hws
  · rw [if_neg h1]
    exact (rread_far D gl n a vv F ws lim dn w h ha (by omega)).mono fun e w' h => sect_none w 2 h.1 h.2
theorem po_peek_all (a : Nat) (h : PO w0 w K D gl n F ws lim dn) (ha : a < 4294967296) :
    Calls Try.prog 25 #[.pointer (some ⟨D, 0, none⟩), .int .u32 (a : Int)] w (Sect w (if a < n then secY F a else []) (if a < n then 0 else 2)) := by
  obtain ⟨bm, vw, h, _⟩ := h
  by_cases h1 : a < n
  · rw [if_pos h1, if_pos h1]
    exact (ppeek_ok D gl bm n a vw F ws lim dn w h h1).mono fun e w' h => h.sect
  · rw [if_neg h1, if_neg h1]
    exact (ppeek_far D gl bm n a vw F ws lim dn w h ha h1).mono fun e w' h => sect_none w 2 h.1 h.2
theorem ro_peek_all (a : Nat) (h : RO w0 w K D gl n F ws lim dn) (ha : a < 4294967296) :
    Calls Try.prog 26 #[.pointer (some ⟨D, 0, none⟩), .int .u32 (a : Int)] w (Sect w (if a < n then secY F a else []) (if a < n then 0 else 2)) := by
  obtain ⟨vv, h, _⟩ := h
  exact rpeek_any D gl n a vv F ws lim dn w h ha
end
/-- Both, apart from each other. -/
def PR (w0 w : World) (D gl n : Nat) (F : List (BitVec 8)) (ws : List (Nat × List (BitVec 8))) (lim : Int) (dn : Bool) (E hl m : Nat) (G : List (BitVec 8)) (vs : List (Nat × List (BitVec 8))) (lin : Int) (dm : Bool) : Prop :=
  ∃ bm vw vv, PD w D gl bm n vw F ws lim dn ∧ RD w E hl m vv G vs lin dm ∧ (∀ g ∈ pfp D gl bm vw, w0.heap.size ≤ g ∧ g ∉ rfp E hl vv) ∧ (∀ g ∈ rfp E hl vv, w0.heap.size ≤ g) ∧ Below w0.heap.size w0 w
/-- A block of the law's: bytes, or an act. -/
def Plain (w : World) (k : Nat) : Prop := ∃ cs t fr, w.heap[k]? = some (.cells cs t fr) ∧ (t = 5 ∨ t = 35)
theorem plain_p {w : World} {k D gl bm n : Nat} {vw : Value} {F : List (BitVec 8)} {ws : List (Nat × List (BitVec 8))} {lim : Int} {dn : Bool} (h : PD w D gl bm n vw F ws lim dn) (q : Plain w k) : k ∉ pfp D gl bm vw := by
  obtain ⟨cs, t, fr, hk, ht⟩ := q
  obtain ⟨left, hd, _⟩ := h.dev
  intro hm
  simp only [pfp, List.mem_cons, Option.mem_toList] at hm
  rcases hm with rfl | rfl | rfl | hm
  · exact (type_ne hk hd (by rcases ht with rfl | rfl <;> decide)) rfl
  · exact (type_ne hk h.lay (by rcases ht with rfl | rfl <;> decide)) rfl
  · exact h.map.ne hk rfl
  · exact own_type h.wai hk (by rcases ht with rfl | rfl <;> decide) hm
theorem plain_r {w : World} {k E hl n : Nat} {vv : Value} {F : List (BitVec 8)} {ws : List (Nat × List (BitVec 8))} {lim : Int} {dn : Bool} (h : RD w E hl n vv F ws lim dn) (q : Plain w k) : k ∉ rfp E hl vv := by
  obtain ⟨cs, t, fr, hk, ht⟩ := q
  intro hm
  simp only [rfp, List.mem_cons, Option.mem_toList] at hm
  rcases hm with rfl | rfl | hm
  · exact (type_ne hk h.dev (by rcases ht with rfl | rfl <;> decide)) rfl
  · exact (type_ne hk h.lay (by rcases ht with rfl | rfl <;> decide)) rfl
  · exact own_type h.wai hk (by rcases ht with rfl | rfl <;> decide) hm
theorem plain_lt {w : World} {k : Nat} (q : Plain w k) : k < w.heap.size := by
  obtain ⟨cs, t, fr, hk, ht⟩ := q
  exact rd_lt hk
section
variable {w0 w w' : World} {D gl n : Nat} {F : List (BitVec 8)} {ws : List (Nat × List (BitVec 8))} {lim : Int} {dn : Bool} {E hl m : Nat} {G : List (BitVec 8)} {vs : List (Nat × List (BitVec 8))} {lin : Int} {dm : Bool}
theorem PR.below (h : PR w0 w D gl n F ws lim dn E hl m G vs lin dm) (q : Below w.heap.size w w') : PR w0 w' D gl n F ws lim dn E hl m G vs lin dm := by
  obtain ⟨bm, vw, vv, h1, h2, h3, h4, h5⟩ := h
  exact ⟨bm, vw, vv, h1.below q, h2.below q, h3, h4, h5.trans (q.mono h5.size)⟩
theorem PR.bel (h : PR w0 w D gl n F ws lim dn E hl m G vs lin dm) : Below w0.heap.size w0 w := by
  obtain ⟨bm, vw, vv, h1, h2, h3, h4, h5⟩ := h
  exact h5
theorem PR.prog (h : PR w0 w D gl n F ws lim dn E hl m G vs lin dm) (L : List Nat) (hL : ∀ k ∈ L, Plain w k) : ∃ K, (∀ k ∈ L, k ∈ K) ∧ PO w0 w K D gl n F ws lim dn ∧
    ∀ w' F' ws' lim' dn', PO w0 w' K D gl n F' ws' lim' dn' → Stay K w w' → PR w0 w' D gl n F' ws' lim' dn' E hl m G vs lin dm := by
  obtain ⟨bm, vw, vv, h1, h2, h3, h4, h5⟩ := h
  refine ⟨L ++ rfp E hl vv, fun k hk => List.mem_append_left _ hk, ⟨bm, vw, h1, fun g hg => ⟨(h3 g hg).1, fun e => ?_⟩, fun k hk => ?_, h5⟩, ?_⟩
  · rcases List.mem_append.1 e with e | e
    · exact plain_p h1 (hL g e) hg
    · exact (h3 g hg).2 e
  · rcases List.mem_append.1 hk with e | e
    · exact plain_lt (hL k e)
    · exact h2.lt k e
  · intro w' F' ws' lim' dn' hP hS
    obtain ⟨bm', vw', g1, g2, g3, g4⟩ := hP
    exact ⟨bm', vw', vv, g1, h2.same (fun k hk => hS k (List.mem_append_right _ hk)), fun g hg => ⟨(g2 g hg).1, fun e => (g2 g hg).2 (List.mem_append_right _ e)⟩, h4, g4⟩
theorem PR.refd (h : PR w0 w D gl n F ws lim dn E hl m G vs lin dm) (L : List Nat) (hL : ∀ k ∈ L, Plain w k) : ∃ K, (∀ k ∈ L, k ∈ K) ∧ RO w0 w K E hl m G vs lin dm ∧
    ∀ w' F' ws' lim' dn', RO w0 w' K E hl m F' ws' lim' dn' → Stay K w w' → PR w0 w' D gl n F ws lim dn E hl m F' ws' lim' dn' := by
  obtain ⟨bm, vw, vv, h1, h2, h3, h4, h5⟩ := h
  refine ⟨L ++ pfp D gl bm vw, fun k hk => List.mem_append_left _ hk, ⟨vv, h2, fun g hg => ⟨h4 g hg, fun e => ?_⟩, fun k hk => ?_, h5⟩, ?_⟩
  · rcases List.mem_append.1 e with e | e
    · exact plain_r h2 (hL g e) hg
    · exact (h3 g e).2 hg
  · rcases List.mem_append.1 hk with e | e
    · exact plain_lt (hL k e)
    · exact h1.lt k e
  · intro w' F' ws' lim' dn' hP hS
    obtain ⟨vv', g1, g2, g3, g4⟩ := hP
    exact ⟨bm, vw, vv', h1.same (fun k hk => hS k (List.mem_append_right _ hk)), g1, fun g hg => ⟨(h3 g hg).1, fun e => (g2 g e).2 (List.mem_append_right _ hg)⟩, fun g hg => (g2 g hg).1, g4⟩
theorem PR.mk (h : PO w0 w [] D gl n F ws lim dn) (q : RO w w' [] E hl m G vs lin dm) : PR w0 w' D gl n F ws lim dn E hl m G vs lin dm := by
  obtain ⟨bm, vw, h1, h2, _, h3⟩ := h
  obtain ⟨vv, q1, q2, _, q3⟩ := q
  refine ⟨bm, vw, vv, h1.below q3, q1, fun g hg => ⟨(h2 g hg).1, fun e => ?_⟩, fun g hg => Nat.le_trans h3.size (q2 g hg).1, h3.trans (q3.mono h3.size)⟩
  have a := h1.lt g hg
  have b := (q2 g e).1
  omega
end
theorem ro_new (w : World) (n : Nat) (h0 : 16 ≤ n) (h1 : n ≤ 4096) :
    Calls Try.prog 12 #[.int .i64 (n : Int)] w fun e w' => e = .returned (.tuple #[.pointer (some ⟨w.heap.size + 1, 0, none⟩), .bool true]) ∧ RO w w' [] (w.heap.size + 1) w.heap.size n (zeroY (n * 512)) [] (-1) false := by
  refine (rnew_ok n w h0 h1).mono ?_
  rintro e w' ⟨he, hR, hB⟩
  refine ⟨he, _, hR, ?_, by simp, hB⟩
  intro g hg
  simp only [rfp, Value.ownBlock, Option.toList_none, List.mem_cons, List.not_mem_nil, or_false] at hg
  exact ⟨by omega, by simp⟩
end Go.Proofs.Ytmfpdbmohebodaa
