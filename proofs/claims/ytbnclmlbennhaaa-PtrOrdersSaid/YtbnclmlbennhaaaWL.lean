/-
  A Writer and a Reader of a law's own; alive.
-/
import Derived.Test.YtbnclmlbennhaaaQLay2
namespace Go.Proofs.Ytbnclmlbennhaaa
set_option maxRecDepth 4000
open Go.RowKit

/-- A Writer of a law's own: its blocks are new since w0. -/
def WL (w0 w : World) (P : Nat) (l : List Int) : Prop := ∃ v, WO w P w0.heap.size v l ∧ w0.heap.size ≤ P ∧ Below w0.heap.size w0 w
theorem WL.bel {w0 w : World} {P : Nat} {l : List Int} (h : WL w0 w P l) : Below w0.heap.size w0 w := by obtain ⟨_, _, _, h⟩ := h; exact h
theorem WL.byt {w0 w : World} {P : Nat} {l : List Int} (h : WL w0 w P l) : Byt l := by obtain ⟨_, h, _⟩ := h; exact h.byt
theorem WL.below {w0 w w' : World} {P : Nat} {l : List Int} (h : WL w0 w P l) (b : Below w.heap.size w w') : WL w0 w' P l := by
  obtain ⟨v, h, hP, hb⟩ := h
  exact ⟨v, h.below b, hP, hb.trans (b.mono hb.size)⟩
theorem wl_step {w0 w w' : World} {P : Nat} {v : Value} {l l' : List Int} (h : WO w P w0.heap.size v l) (hP : w0.heap.size ≤ P) (hb : Below w0.heap.size w0 w) (s : WStep w w' P w0.heap.size v l') : WL w0 w' P l' := by
  obtain ⟨v', h', t, n⟩ := s
  refine ⟨v', h', hP, hb.trans (t.below hb.size (fun k hk => ?_))⟩
  simp only [List.mem_cons, Option.mem_toList] at hk
  rcases hk with rfl | hk
  · exact hP
  · exact (h.own.lt k hk).1
theorem wl_new {w0 w1 : World} (hb : Below w0.heap.size w0 w1) : WL w0 (w1.alloc (.cells #[.slice none 0 0] 31)) w1.heap.size [] :=
  ⟨.slice none 0 0, ⟨heap_alloc_new w1 _, World.ownsRow_nil _ _ _ _, by intro z hz; simp at hz⟩, hb.size, hb.alloc hb.size _⟩
theorem wl_raw (w0 w : World) (P : Nat) (l x : List Int) (vx : Value) (h : WL w0 w P l) (hx : BS w vx x) (h63 : l.length + x.length ≤ 140737488351232) :
    Calls Try.prog 47 #[.pointer (some ⟨P, 0, none⟩), vx] w fun e w' => e = .returned (.int .i64 0) ∧ WL w0 w' P (l ++ x) := by
  obtain ⟨v, h, hP, hb⟩ := h
  exact (wraw_any P _ v vx l x w h hx h63 hb.size).mono fun e w' ⟨he, hs⟩ => ⟨he, wl_step h hP hb hs⟩
theorem wl_num (w0 w : World) (P : Nat) (l : List Int) (x n : Int) (h : WL w0 w P l) (h0 : 0 ≤ x) (h63 : l.length ≤ 140737488200000) :
    Calls Try.prog 33 #[.pointer (some ⟨P, 0, none⟩), .int .u64 x, .int .i64 n] w fun e w' => e = .returned (.int .i64 (numW x n).2) ∧ WL w0 w' P (l ++ (numW x n).1) := by
  obtain ⟨v, h, hP, hb⟩ := h
  exact (wnum_any P _ v l x n w h h0 (by omega) hb.size).mono fun e w' ⟨he, hs⟩ => ⟨he, wl_step h hP hb hs⟩
theorem wl_hash (w0 w : World) (P : Nat) (l q : List Int) (h : WL w0 w P l) (hq : q.length = 32) (hy : Byt q) (h63 : l.length ≤ 140737488200000) :
    Calls Try.prog 34 #[.pointer (some ⟨P, 0, none⟩), .agg (i8s q)] w fun e w' => e = .returned (.int .i64 0) ∧ WL w0 w' P (l ++ q) := by
  obtain ⟨v, h, hP, hb⟩ := h
  exact (whash_any P _ v l q w h hq hy h63 hb.size).mono fun e w' ⟨he, hs⟩ => ⟨he, wl_step h hP hb hs⟩
theorem wl_bytes (w0 w : World) (P : Nat) (l : List Int) (h : WL w0 w P l) (h63 : l.length ≤ 140737488351232) :
    Calls Try.prog 16 #[.pointer (some ⟨P, 0, none⟩)] w fun e w' => ∃ a c, e = .returned (.slice a l.length c) ∧ l.length ≤ c ∧ BS w' (.slice a l.length c) l ∧ WL w0 w' P l ∧ Below w.heap.size w w' := by
  have h' := h
  obtain ⟨v, h, hP, hb⟩ := h
  refine (wbytes_any P _ v l w h h63).mono fun e w' ⟨v', he, ho, hb'⟩ => ?_
  obtain ⟨a, c, rfl, hc, hbs⟩ := own_bs ho rfl h.byt
  exact ⟨a, c, he, hc, hbs, h'.below hb', hb'⟩
/-- A Reader of a law's own. -/
def RL (w0 w : World) (R : Nat) (l : List Int) : Prop := ∃ ab lb cb, RR w 75 R ab lb cb l ∧ w0.heap.size ≤ R ∧ Below w0.heap.size w0 w
theorem RL.bel {w0 w : World} {R : Nat} {l : List Int} (h : RL w0 w R l) : Below w0.heap.size w0 w := by obtain ⟨_, _, _, _, _, h⟩ := h; exact h
theorem RL.big {w0 w : World} {R : Nat} {l : List Int} (h : RL w0 w R l) : l.length ≤ 140737488351232 := by obtain ⟨_, _, _, h, _⟩ := h; rw [h.len]; exact h.big
theorem RL.byt {w0 w : World} {R : Nat} {l : List Int} (h : RL w0 w R l) : Byt l := by obtain ⟨_, _, _, h, _⟩ := h; exact h.bytes.byt
theorem RL.below {w0 w w' : World} {R : Nat} {l : List Int} (h : RL w0 w R l) (b : Below w.heap.size w w') : RL w0 w' R l := by
  obtain ⟨a, x, c, h, hR, hb⟩ := h
  exact ⟨a, x, c, h.below b, hR, hb.trans (b.mono hb.size)⟩
theorem rl_read (w0 w : World) (v : Value) (l : List Int) (hb : Below w0.heap.size w0 w) (h : BS w v l) (h63 : l.length ≤ 140737488351232) :
    Calls Try.prog 12 #[v] w fun e w' => ∃ R, e = .returned (.pointer (some ⟨R, 0, none⟩)) ∧ RL w0 w' R l ∧ Below w.heap.size w w' := by
  refine (pread7_any v l w h h63).mono fun e w' ⟨R, ab, cb, he, hr, hR, hb', _⟩ => ?_
  exact ⟨R, he, ⟨_, _, _, hr, Nat.le_trans hb.size hR, hb.trans (hb'.mono hb.size)⟩, hb'⟩
theorem rl_num (w0 w : World) (R : Nat) (l : List Int) (n : Int) (h : RL w0 w R l) (hn : n ≤ 9223372036854775807) :
    Calls Try.prog 36 #[.pointer (some ⟨R, 0, none⟩), .int .i64 n] w fun e w' => e = .returned (.tuple #[.int .u64 (numA n l).1, .int .i64 (numA n l).2.1]) ∧ RL w0 w' R (numA n l).2.2 := by
  obtain ⟨a, x, c, h, hR, hb⟩ := h
  refine (pnum7_any R x c a l n w h hn).mono fun e w' ⟨he, ⟨a', x', c', hr⟩, hO⟩ => ⟨he, a', x', c', hr, hR, hb.trans (hO.bel _ hR)⟩
theorem rl_hash (w0 w : World) (R : Nat) (l : List Int) (h : RL w0 w R l) :
    Calls Try.prog 37 #[.pointer (some ⟨R, 0, none⟩)] w fun e w' => e = .returned (.tuple #[.agg (i8s (hashA l).1), .int .i64 (hashA l).2.1]) ∧ RL w0 w' R (hashA l).2.2 := by
  obtain ⟨a, x, c, h, hR, hb⟩ := h
  refine (phash_any R x c a l w h).mono fun e w' ⟨he, ⟨a', x', c', hr⟩, hO⟩ => ⟨he, a', x', c', hr, hR, hb.trans (hO.below hR hb.size)⟩
theorem rl_left (w0 w : World) (R : Nat) (l : List Int) (h : RL w0 w R l) :
    Calls Try.prog 21 #[.pointer (some ⟨R, 0, none⟩)] w fun e w' => e = .returned (.int .i64 (l.length : Int)) ∧ w' = w := by
  obtain ⟨a, x, c, h, hR, hb⟩ := h
  exact pleft_any R x c a l w h
theorem pnum_nil (n : Int) (w : World) :
    Calls Try.prog 36 #[.pointer none, .int .i64 n] w fun e w' => e = .returned (.tuple #[.int .u64 0, .int .i64 1]) ∧ w' = w := by
  go_enter Try.func36, Try.ntmps36
  go_wp2_with fail
  go_ret2
  exact ⟨rfl, rfl⟩
theorem zero_writer (W : World) : (zeroValue 31).run Try.prog W = .ok (.agg #[.slice none 0 0]) W := by kernel_rfl
end Go.Proofs.Ytbnclmlbennhaaa
