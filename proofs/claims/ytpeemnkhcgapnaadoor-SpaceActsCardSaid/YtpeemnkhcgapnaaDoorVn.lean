/-
  Layer 11's acts: how they come in; the program's Space and the reference's beside one another.
-/
import Derived.Test.YtpeemnkhcgapnaaDoorVm
import Derived.Deep.QuietTactic
namespace Go.Proofs.YtpeemnkhcgapnaaDoor
set_option maxRecDepth 4000
set_option linter.unusedVariables false
open Go.ChangeShapes Go.WideShapes Go.ChangeAt Go.RowKit

structure ActS where
  kd : Int
  ad : Nat
  ab : Option Addr
  ln : Nat
  cp : Nat
  l : List Nat
def actRowS (x : ActS) : List Value := [.int .i64 x.kd, .int .u32 (x.ad : Int), .slice x.ab x.ln x.cp]
structure ActOk (W : World) (x : ActS) : Prop where
  lo : -9223372036854775808 ≤ x.kd
  hi : x.kd ≤ 9223372036854775807
  small : x.ad < 4294967296
  us : US W x.ab x.ln x.cp x.l
  big : x.ln ≤ 140737488351232
def RActS : World → ActS → List Value → Prop := fun W x cs => cs = actRowS x ∧ ActOk W x
theorem opn_act11 : Opn 34 RActS := by
  intro H enc W fuel cs y h hw
  obtain ⟨xs, k, _, hx, hlen, hxl, hfs⟩ := DataW.trod_struct Tryd.underlying34 h
  rw [show Tryd.prog.cellsOf 34 = 3 by kernel_rfl] at hlen
  have hxk : xs.length = 3 := hxl
  have hd := congrArg Prod.fst hx
  dsimp only at hd
  clear hx hxl
  match xs, hxk with
  | [y0, y1, y2], _ =>
    have e0 : Tryd.prog.cellsOf 3 = 1 := by kernel_rfl
    have e1 : Tryd.prog.cellsOf 31 = 1 := by kernel_rfl
    have e2 : Tryd.prog.cellsOf 32 = 1 := by kernel_rfl
    have hw2 : ∀ n ∈ DataW.weightsEach Tryd.prog [3, 31, 32] [y0.1, y1.1, y2.1], n ≤ reachBytes := fun n hn => hw n (by rw [hd]; simp only [DataW.weights, Tryd.underlying34]; exact hn)
    have g0 : DataW.trod enc Tryd.prog W 0 (fun _ => true) true k 3 ((cs.drop 0).take 1) = some y0 := by have q := hfs 0 _ rfl; rw [← e0]; exact q
    have g1 : DataW.trod enc Tryd.prog W 0 (fun _ => true) true k 31 ((cs.drop 1).take 1) = some y1 := by have q := hfs 1 _ rfl; rw [← e1]; exact q
    have g2 : DataW.trod enc Tryd.prog W 0 (fun _ => true) true k 32 ((cs.drop 2).take 1) = some y2 := by have q := hfs 2 _ rfl; rw [← e2]; exact q
    obtain ⟨kd, r0, k0, k1⟩ := opn_int .i64 _ _ Tryd.underlying3 wf_i64 _ _ _ _ _ _ g0 (fun n hn => hw2 n (DataW.weights_mem_each (j := 0) rfl rfl n hn))
    obtain ⟨z, r1, z0, z1⟩ := opn_u32 _ _ _ _ _ _ g1 (fun n hn => hw2 n (DataW.weights_mem_each (j := 1) rfl rfl n hn))
    obtain ⟨l, a, n, c, r2, hs⟩ := opn_u32s _ _ _ _ _ _ g2 (fun n hn => hw2 n (DataW.weights_mem_each (j := 2) rfl rfl n hn))
    have hcs : cs = (cs.drop 0).take 1 ++ ((cs.drop 1).take 1 ++ (cs.drop 2).take 1) := by
      conv => lhs; rw [← List.drop_zero (l := cs), lcut cs 0 1, lcut cs (0 + 1) 1, lcut cs (0 + 1 + 1) 1]
      rw [List.drop_eq_nil_of_le (show cs.length ≤ 0 + 1 + 1 + 1 by omega), List.append_nil]
    rw [r0, r1, r2] at hcs
    refine ⟨⟨kd, z.toNat, a, n, c, _⟩, ?_, ⟨k0, k1, by show z.toNat < 4294967296; omega, us_slr hs, by show n ≤ _; have := hs.big; have := hs.cap; omega⟩⟩
    rw [hcs]
    show _ = [Value.int .i64 kd, .int .u32 (z.toNat : Int), .slice a n c]
    rw [Int.toNat_of_nonneg z0]
    rfl
theorem opn_acts11 : Opn 22 (RSl RActS 3) := opn_slice 3 Tryd.underlying22 (by kernel_rfl) (by decide) (of_decide_eq_true (by kernel_rfl)) opn_act11
theorem range_below11 {w w' : World} {b o : Nat} {cs : List Value} (h : w.rangeAt b o cs) (q : Below w.heap.size w w') : w'.rangeAt b o cs := fun j v hj => (q.cell (block_lt_of_cell (h j v hj))).trans (h j v hj)
theorem acts11_at {w w' : World} {x : List ActS} {a : Option Addr} {n c i : Nat} (h : SlR RActS 3 w x a n c) (hb : Below w.heap.size w w') (hi : i < n) :
    ∃ b off q, a = some ⟨b, off, none⟩ ∧ w'.rangeAt b (off + i * 3) (actRowS q) ∧ ActOk w q := by
  obtain ⟨b, off, cs, h1, h2, _, h5⟩ := h.here i (by rw [h.len]; exact hi)
  obtain ⟨rfl, ho⟩ := h2
  exact ⟨b, off, _, h1, range_below11 h5 hb, ho⟩
theorem index_act11 (b off len cap i : Nat) (h : i < len) (W : World) : (Instr.indexAt 22 (.slice (some ⟨b, off, none⟩) len cap) (.int .i64 (i : Int))).run Tryd.prog W = .ok (.pointer (some ⟨b, off + i * 3, none⟩)) W := by
  obtain ⟨i0, hi, hs⟩ := Option.map_eq_some_iff.1 (show (Tryd.prog.info? 34).map (·.size) = some 3 by kernel_rfl)
  simp [Instr.indexAt, asIntOf, run_underlying Tryd.underlying22, sizeOf, typeInfo, hi, hs, h, Addr.add_mid]
theorem zero_act11 (W : World) : (zeroValue 34).run Tryd.prog W = .ok (.agg #[.int .i64 0, .int .u32 0, .slice none 0 0]) W := by kernel_rfl
theorem size_act11 (x : ActS) : (Tryd.prog.info? 34).map (·.size) = some (actRowS x).length := by
  rw [show (Tryd.prog.info? 34).map (·.size) = some 3 by kernel_rfl]; rfl
theorem size_act11A (x : ActS) : (Tryd.prog.info? 34).map (·.size) = some (actRowS x).toArray.size := by rw [size_act11 x]; simp
theorem act11_one (x : ActS) : (actRowS x).toArray.all (·.oneCell') = true := by
  apply all_oneCell_toArray
  intro v hv
  simp only [actRowS, List.mem_cons, List.not_mem_nil, or_false] at hv
  rcases hv with rfl | rfl | rfl <;> rfl
/-- An act in memory. -/
def AC (w : World) (T : Nat) (x : ActS) : Prop := w.heap[T]? = some (.cells (actRowS x).toArray 34 (0, 0))
theorem AC.lt {w : World} {T : Nat} {x : ActS} (h : AC w T x) : T < w.heap.size := (Array.getElem?_eq_some_iff.1 h).1
theorem AC.touch {w w' : World} {T : Nat} {x : ActS} {l : List Nat} (h : AC w T x) (t : Touch l w w') (hT : T ∉ l) : AC w' T x := (t.block T h.lt hT).trans h
theorem AC.below {w w' : World} {T : Nat} {x : ActS} (h : AC w T x) (t : Below w.heap.size w w') : AC w' T x := (t.block T h.lt).trans h
theorem AC.kd {w : World} {T : Nat} {x : ActS} (h : AC w T x) : w.cell? ⟨T, 0, none⟩ = some (.int .i64 x.kd) := by rw [cell_of_row _ _ _ _ _ _ h]; rfl
theorem AC.ad {w : World} {T : Nat} {x : ActS} (h : AC w T x) : w.cell? ⟨T, 1, none⟩ = some (.int .u32 (x.ad : Int)) := by rw [cell_of_row _ _ _ _ _ _ h]; rfl
theorem AC.sl {w : World} {T : Nat} {x : ActS} (h : AC w T x) : w.cell? ⟨T, 2, none⟩ = some (.slice x.ab x.ln x.cp) := by rw [cell_of_row _ _ _ _ _ _ h]; rfl
/-- The program's Space and the reference's, both of the law's own. -/
structure CS (w0 w : World) (S M n : Nat) (F F2 : Nat → Bool) : Prop where
  so : SO w0 w S n F
  rw : ∃ G, RW w M G n F2 ∧ S ≠ G ∧ w0.heap.size ≤ G
  sm : S ≠ M
  nm : w0.heap.size ≤ M
theorem CS.below {w0 w w' : World} {S M n : Nat} {F F2 : Nat → Bool} (h : CS w0 w S M n F F2) (b : Below w.heap.size w w') : CS w0 w' S M n F F2 := by
  obtain ⟨G, h1, h2, h3⟩ := h.rw
  exact ⟨h.so.below b, ⟨G, h1.below b, h2, h3⟩, h.sm, h.nm⟩
/-- .. and an act beside them. -/
structure CA (w0 w : World) (S M n : Nat) (F F2 : Nat → Bool) (T : Nat) (x : ActS) : Prop where
  so : SO w0 w S n F
  rw : ∃ G, RW w M G n F2 ∧ S ≠ G ∧ w0.heap.size ≤ G ∧ G ≠ T
  sm : S ≠ M
  nm : w0.heap.size ≤ M
  ac : AC w T x
  st : S ≠ T
  mt : M ≠ T
theorem CA.cs {w0 w : World} {S M n T : Nat} {F F2 : Nat → Bool} {x : ActS} (h : CA w0 w S M n F F2 T x) : CS w0 w S M n F F2 := by
  obtain ⟨G, h1, h2, h3, _⟩ := h.rw
  exact ⟨h.so, ⟨G, h1, h2, h3⟩, h.sm, h.nm⟩
theorem ca_new {w0 w w' : World} {S M n : Nat} {F F2 : Nat → Bool} {x : ActS} (h : CS w0 w S M n F F2) (b : Below w.heap.size w w') (ha : AC w' w.heap.size x) : CA w0 w' S M n F F2 w.heap.size x := by
  obtain ⟨G, h1, h2, h3⟩ := h.rw
  have s1 := h.so.lt
  have m1 := h1.ltM
  have g1 := h1.ltG
  exact ⟨h.so.below b, ⟨G, h1.below b, h2, h3, by omega⟩, h.sm, h.nm, ha, by omega, by omega⟩
theorem CA.below {w0 w w' : World} {S M n T : Nat} {F F2 : Nat → Bool} {x : ActS} (h : CA w0 w S M n F F2 T x) (b : Below w.heap.size w w') : CA w0 w' S M n F F2 T x := by
  obtain ⟨G, h1, h2, h3, h4⟩ := h.rw
  exact ⟨h.so.below b, ⟨G, h1.below b, h2, h3, h4⟩, h.sm, h.nm, h.ac.below b, h.st, h.mt⟩
theorem CA.stepP {w0 w w' : World} {S M n T : Nat} {F F2 F' : Nat → Bool} {x : ActS} (h : CA w0 w S M n F F2 T x) (s : SO w0 w' S n F') (t : Touch [S] w w') : CA w0 w' S M n F' F2 T x := by
  obtain ⟨G, h1, h2, h3, h4⟩ := h.rw
  exact ⟨s, ⟨G, h1.touch t (by simp; exact fun e => h.sm e.symm) (by simp; exact fun e => h2 e.symm), h2, h3, h4⟩, h.sm, h.nm, h.ac.touch t (by simp; exact fun e => h.st e.symm), h.st, h.mt⟩
theorem CA.stepR {w0 w w' : World} {S M n T G G' : Nat} {F F2 F2' : Nat → Bool} {x : ActS} (h : CA w0 w S M n F F2 T x) (h2 : S ≠ G) (h3 : w0.heap.size ≤ G) (h4 : G ≠ T) (h1 : RW w' M G' n F2') (t : Touch [M, G] w w') (hG : G' = G ∨ w.heap.size ≤ G') : CA w0 w' S M n F F2' T x := by
  have hs := h.so.lt
  have ht := h.ac.lt
  refine ⟨h.so.touch t (by simp; exact ⟨h.sm, h2⟩) (by intro k hk; simp at hk; rcases hk with rfl | rfl; exact h.nm; exact h3), ⟨G', h1, ?_, ?_, ?_⟩, h.sm, h.nm, h.ac.touch t (by simp; exact ⟨fun e => h.mt e.symm, fun e => h4 e.symm⟩), h.st, h.mt⟩
  · rcases hG with rfl | hG
    · exact h2
    · omega
  · rcases hG with rfl | hG
    · exact h3
    · have := h.so.bel.size; omega
  · rcases hG with rfl | hG
    · exact h4
    · omega
section
variable {w0 w : World} {S M n T : Nat} {F F2 : Nat → Bool} {x : ActS}
theorem ca_markP (a : Nat) (h : CA w0 w S M n F F2 T x) : Calls Tryd.prog 13 #[.pointer (some ⟨S, 0, none⟩), .int .u32 (a : Int)] w fun e w' => e = .returned (.int .i64 (markA n F a).1) ∧ CA w0 w' S M n (markA n F a).2 F2 T x :=
  (so_mark w0 w S n a F h.so).mono fun e w' ⟨he, hs, ht⟩ => ⟨he, h.stepP hs ht⟩
theorem ca_freeP (a : Nat) (h : CA w0 w S M n F F2 T x) : Calls Tryd.prog 15 #[.pointer (some ⟨S, 0, none⟩), .int .u32 (a : Int)] w fun e w' => e = .returned (.int .i64 (freeA n F a).1) ∧ CA w0 w' S M n (freeA n F a).2 F2 T x :=
  (so_free w0 w S n a F h.so).mono fun e w' ⟨he, hs, ht⟩ => ⟨he, h.stepP hs ht⟩
theorem ca_setP (l : List Nat) (a : Option Addr) (len cap : Nat) (ok : Bool) (h : CA w0 w S M n F F2 T x) (hl : US w a len cap l) (hlen : len ≤ 100000000) (hok : ok = true ↔ allIn n l) :
    Calls Tryd.prog 17 #[.pointer (some ⟨S, 0, none⟩), .slice a len cap] w fun e w' => e = .returned (.int .i64 (setA n F l ok).1) ∧ CA w0 w' S M n (setA n F l ok).2 F2 T x :=
  (so_set w0 w S n len cap a F l h.so hl hlen ok hok).mono fun e w' ⟨he, hs, ht⟩ => ⟨he, h.stepP hs ht⟩
theorem ca_takeP (a : Nat) (h : CA w0 w S M n F F2 T x) (ha : F a = true) (hlow : ∀ y, y < a → F y = false) :
    Calls Tryd.prog 19 #[.pointer (some ⟨S, 0, none⟩)] w fun e w' => e = .returned (.tuple #[.int .u32 (a : Int), .int .i64 0]) ∧ CA w0 w' S M n (updF F a false) F2 T x :=
  (so_take w0 w S n a F h.so ha hlow).mono fun e w' ⟨he, hs, ht⟩ => ⟨he, h.stepP hs ht⟩
theorem ca_markR (a : Nat) (h : CA w0 w S M n F F2 T x) (ha : a < 4294967296) : Calls Tryd.prog 14 #[.pointer (some ⟨M, 0, none⟩), .int .u32 (a : Int)] w fun e w' => e = .returned (.int .i64 (markA n F2 a).1) ∧ CA w0 w' S M n F (markA n F2 a).2 T x := by
  obtain ⟨G, h1, h2, h3, h4⟩ := h.rw
  exact (rmark11_any M G n a F2 w h1 ha).mono fun e w' ⟨he, hs, ht⟩ => ⟨he, h.stepR h2 h3 h4 hs (ht.more (by simp)) (.inl rfl)⟩
theorem ca_freeR (a : Nat) (h : CA w0 w S M n F F2 T x) (ha : a < 4294967296) : Calls Tryd.prog 16 #[.pointer (some ⟨M, 0, none⟩), .int .u32 (a : Int)] w fun e w' => e = .returned (.int .i64 (freeA n F2 a).1) ∧ CA w0 w' S M n F (freeA n F2 a).2 T x := by
  obtain ⟨G, h1, h2, h3, h4⟩ := h.rw
  exact (rfree11_any M G n a F2 w h1 ha).mono fun e w' ⟨he, hs, ht⟩ => ⟨he, h.stepR h2 h3 h4 hs (ht.more (by simp)) (.inl rfl)⟩
theorem ca_setR (l : List Nat) (a : Option Addr) (len cap : Nat) (ok : Bool) (h : CA w0 w S M n F F2 T x) (hl : US w a len cap l) (hlen : len ≤ 100000000) (hok : ok = true ↔ allIn n l) :
    Calls Tryd.prog 18 #[.pointer (some ⟨M, 0, none⟩), .slice a len cap] w fun e w' => e = .returned (.int .i64 (setA n F2 l ok).1) ∧ CA w0 w' S M n F (setA n F2 l ok).2 T x := by
  obtain ⟨G, h1, h2, h3, h4⟩ := h.rw
  exact (rset11_any M G n len cap a F2 l w h1 hl hlen ok hok).mono fun e w' ⟨G', he, hs, ht, hG⟩ => ⟨he, h.stepR h2 h3 h4 hs (ht.more (by simp)) hG⟩
theorem ca_takeR (a : Nat) (h : CA w0 w S M n F F2 T x) (ha : F2 a = true) (hr : 2 ≤ a ∧ a < n) (hlow : ∀ y, y < a → F2 y = false) :
    Calls Tryd.prog 20 #[.pointer (some ⟨M, 0, none⟩)] w fun e w' => e = .returned (.tuple #[.int .u32 (a : Int), .int .i64 0]) ∧ CA w0 w' S M n F (updF F2 a false) T x := by
  obtain ⟨G, h1, h2, h3, h4⟩ := h.rw
  exact (rtake11_ok M G n a F2 w h1 ha hr hlow).mono fun e w' ⟨he, hs, ht⟩ => ⟨he, h.stepR h2 h3 h4 hs (ht.more (by simp)) (.inl rfl)⟩
theorem ca_fullR (h : CA w0 w S M n F F2 T x) (hF : ∀ a, F2 a = false) :
    Calls Tryd.prog 20 #[.pointer (some ⟨M, 0, none⟩)] w fun e w' => e = .returned (.tuple #[.int .u32 0, .int .i64 6]) ∧ w' = w := by
  obtain ⟨G, h1, _⟩ := h.rw
  exact rtake11_full M G n F2 w h1 hF
theorem ca_takenR (k : Nat) (h : CA w0 w S M n F F2 T x) (hk : (tkn F2 n).length = k) :
    Calls Tryd.prog 21 #[.pointer (some ⟨M, 0, none⟩)] w fun e w' => ∃ a c, e = .returned (.slice a k c) ∧ US w' a k c (tkn F2 n) ∧ CA w0 w' S M n F F2 T x ∧ Below w.heap.size w w' := by
  obtain ⟨G, h1, _⟩ := h.rw
  subst hk
  refine (rtaken11_any M G n F2 w h1).mono ?_
  rintro e w' ⟨a, c, he, ho, hb⟩
  exact ⟨a, c, he, us_own ho (fun y hy => by have := ((tkn_mem F2 y n).1 hy).1; have := h1.hi; omega) rfl, h.below hb, hb⟩
theorem ca_takenP (k : Nat) (h : CA w0 w S M n F F2 T x) (hk : (tkn F n).length = k) :
    Calls Tryd.prog 23 #[.pointer (some ⟨S, 0, none⟩)] w fun e w' => ∃ a c, e = .returned (.slice a k c) ∧ US w' a k c (tkn F n) ∧ CA w0 w' S M n F F2 T x ∧ Below w.heap.size w w' := by
  refine (so_takenU w0 w S n k F h.so hk).mono ?_
  rintro e w' ⟨a, c, he, hu, _, hb⟩
  exact ⟨a, c, he, hu.us, h.below hb, hb⟩
theorem ca_hasP (a : Nat) (h : CA w0 w S M n F F2 T x) : Calls Tryd.prog 25 #[.pointer (some ⟨S, 0, none⟩), .int .u32 (a : Int)] w fun e w' => e = .returned (.bool (takF n F a)) ∧ CA w0 w' S M n F F2 T x :=
  (so_has w0 w S n a F h.so).mono fun e w' ⟨he, _, hb⟩ => ⟨he, h.below hb⟩
end
theorem cs_start {w0 w w' w2 : World} {S n : Nat} {F : Nat → Bool} {M G : Nat} (h : SO w0 w S n F) (b : Below w.heap.size w w') (hr : RW w' M G n F) (hM : w.heap.size ≤ M) (hG : w.heap.size ≤ G) : CS w0 w' S M n F F := by
  have h1 := h.lt
  have h2 := h.bel.size
  exact ⟨h.below b, ⟨G, hr, by omega, by omega⟩, by omega, by omega⟩
end Go.Proofs.YtpeemnkhcgapnaaDoor
