/-
  The acts of layer 7's laws: how they come in, how one is taken out; lay.
-/
import Derived.Test.YtclahpmghifehaaWL
import Derived.Test.YtclahpmghifehaaOpn
namespace Go.Proofs.Ytclahpmghifehaa
open Go.ChangeShapes Go.WideShapes Go.ChangeAt Go.RowKit

def RLayV : World → LayV → List Value → Prop := fun W q cs => cs = layRow q ∧ q.Ok W ∧ -9223372036854775808 ≤ q.kd ∧ q.kd ≤ 9223372036854775807
theorem opn_lay : Opn 32 RLayV := by
  intro H enc W fuel cs y h hw
  obtain ⟨xs, k, _, hx, hlen, hxl, hfs⟩ := DataW.trod_struct Try.underlying32 h
  rw [show Try.prog.cellsOf 32 = 37 by kernel_rfl] at hlen
  have hxk : xs.length = 6 := hxl
  have hd := congrArg Prod.fst hx
  dsimp only at hd
  clear hx hxl
  match xs, hxk with
  | [y0, y1, y2, y3, y4, y5], _ =>
    have e0 : Try.prog.cellsOf 3 = 1 := by kernel_rfl
    have e2 : Try.prog.cellsOf 28 = 1 := by kernel_rfl
    have e3 : Try.prog.cellsOf 9 = 1 := by kernel_rfl
    have e4 : Try.prog.cellsOf 30 = 32 := by kernel_rfl
    have e5 : Try.prog.cellsOf 25 = 1 := by kernel_rfl
    have hw2 : ∀ n ∈ DataW.weightsEach Try.prog [3, 3, 28, 9, 30, 25] [y0.1, y1.1, y2.1, y3.1, y4.1, y5.1], n ≤ reachBytes := fun n hn => hw n (by rw [hd]; simp only [DataW.weights, Try.underlying32]; exact hn)
    have g0 : DataW.trod enc Try.prog W 0 (fun _ => true) true k 3 ((cs.drop 0).take 1) = some y0 := by have q := hfs 0 _ rfl; rw [← e0]; exact q
    have g1 : DataW.trod enc Try.prog W 0 (fun _ => true) true k 3 ((cs.drop 1).take 1) = some y1 := by have q := hfs 1 _ rfl; rw [← e0]; exact q
    have g2 : DataW.trod enc Try.prog W 0 (fun _ => true) true k 28 ((cs.drop 2).take 1) = some y2 := by have q := hfs 2 _ rfl; rw [← e2]; exact q
    have g3 : DataW.trod enc Try.prog W 0 (fun _ => true) true k 9 ((cs.drop 3).take 1) = some y3 := by have q := hfs 3 _ rfl; rw [← e3]; exact q
    have g4 : DataW.trod enc Try.prog W 0 (fun _ => true) true k 30 ((cs.drop 4).take 32) = some y4 := by have q := hfs 4 _ rfl; rw [← e4]; exact q
    have g5 : DataW.trod enc Try.prog W 0 (fun _ => true) true k 25 ((cs.drop 36).take 1) = some y5 := by have q := hfs 5 _ rfl; rw [← e5]; exact q
    obtain ⟨a0, r0, l0, h0⟩ := opn_int .i64 _ _ Try.underlying3 wf_i64 _ _ _ _ _ _ g0 (fun n hn => hw2 n (DataW.weights_mem_each (j := 0) rfl rfl n hn))
    obtain ⟨a1, r1, l1, h1⟩ := opn_int .i64 _ _ Try.underlying3 wf_i64 _ _ _ _ _ _ g1 (fun n hn => hw2 n (DataW.weights_mem_each (j := 1) rfl rfl n hn))
    obtain ⟨a2, r2, l2, h2⟩ := opn_int .u64 _ _ Try.underlying28 wf_u64 _ _ _ _ _ _ g2 (fun n hn => hw2 n (DataW.weights_mem_each (j := 2) rfl rfl n hn))
    obtain ⟨a3, r3, z3⟩ := opn_str Try.underlying9 _ _ _ _ _ _ g3 (fun n hn => hw2 n (DataW.weights_mem_each (j := 3) rfl rfl n hn))
    obtain ⟨a4, r4, l4, z4⟩ := opn_row Try.underlying30 e4 _ _ _ _ _ _ g4 (fun n hn => hw2 n (DataW.weights_mem_each (j := 4) rfl rfl n hn))
    obtain ⟨a5, ad, cp, r5, m5, n5, b5⟩ := opn_bytes _ _ _ _ _ _ g5 (fun n hn => hw2 n (DataW.weights_mem_each (j := 5) rfl rfl n hn))
    have hcs : cs = (cs.drop 0).take 1 ++ ((cs.drop 1).take 1 ++ ((cs.drop 2).take 1 ++ ((cs.drop 3).take 1 ++ ((cs.drop 4).take 32 ++ (cs.drop 36).take 1)))) := by
      conv => lhs; rw [← List.drop_zero (l := cs), lcut cs 0 1, lcut cs (0 + 1) 1, lcut cs (0 + 1 + 1) 1, lcut cs (0 + 1 + 1 + 1) 1, lcut cs (0 + 1 + 1 + 1 + 1) 32, lcut cs (0 + 1 + 1 + 1 + 1 + 32) 1]
      rw [List.drop_eq_nil_of_le (show cs.length ≤ 0 + 1 + 1 + 1 + 1 + 32 + 1 by omega), List.append_nil]
    rw [r0, r1, r2, r3, r4, r5] at hcs
    refine ⟨⟨a0, a1, a2.toNat, a3, a4, ad, a5.length, cp, a5⟩, ?_, ⟨l4, z4, b5, rfl, m5, by dsimp only; omega, by dsimp only; omega, z3, l1, h1⟩, l0, h0⟩
    rw [hcs]
    simp only [layRow, Int.toNat_of_nonneg l2, List.cons_append, List.nil_append]
/-- The acts of a law. -/
abbrev Lays (w : World) (x : List LayV) (a : Option Addr) (n c : Nat) : Prop := SlR RLayV 37 w x a n c
theorem opn_lays : Opn 22 (RSl RLayV 37) := opn_slice 37 Try.underlying22 (by kernel_rfl) (by decide) (of_decide_eq_true (by kernel_rfl)) opn_lay
def zeroLay : LayV := ⟨0, 0, 0, ⟨#[]⟩, List.replicate 32 0, none, 0, 0, []⟩
theorem zero_lay (W : World) : (zeroValue 32).run Try.prog W = .ok (.agg (layRow zeroLay).toArray) W := by kernel_rfl
theorem layRow_length (q : LayV) (h : q.h.length = 32) : (layRow q).length = 37 := by simp [layRow, h]
theorem size_lay (q : LayV) (h : q.h.length = 32) : (Try.prog.info? 32).map (·.size) = some (layRow q).length := by
  rw [show (Try.prog.info? 32).map (·.size) = some 37 by kernel_rfl, layRow_length q h]
theorem lay_one (q : LayV) : (layRow q).toArray.all (·.oneCell') = true := by
  apply all_oneCell_toArray
  intro v hv
  simp only [layRow, List.mem_append, List.mem_cons, List.mem_map, List.not_mem_nil, or_false] at hv
  rcases hv with (rfl | rfl | rfl | rfl) | ⟨z, _, rfl⟩ | rfl <;> rfl
theorem index_lay (b off len cap i : Nat) (h : i < len) (W : World) : (Instr.indexAt 22 (.slice (some ⟨b, off, none⟩) len cap) (.int .i64 (i : Int))).run Try.prog W = .ok (.pointer (some ⟨b, off + i * 37, none⟩)) W := by
  obtain ⟨i0, hi, hs⟩ := Option.map_eq_some_iff.1 (show (Try.prog.info? 32).map (·.size) = some 37 by kernel_rfl)
  simp [Instr.indexAt, asIntOf, run_underlying Try.underlying22, sizeOf, typeInfo, hi, hs, h, Addr.add_mid]
theorem range_below {w w' : World} {b o : Nat} {cs : List Value} (h : w.rangeAt b o cs) (q : Below w.heap.size w w') : w'.rangeAt b o cs := by
  intro j v hv
  have h0 := h j v hv
  rw [q.cell (block_lt_of_cell h0)]
  exact h0
/-- One of them, at any world that comes behind. -/
theorem lays_at {w w' : World} {x : List LayV} {a : Option Addr} {n c i : Nat} (h : Lays w x a n c) (hb : Below w.heap.size w w') (hi : i < n) :
    ∃ b off q, a = some ⟨b, off, none⟩ ∧ x[i]? = some q ∧ q.Ok w' ∧ (-9223372036854775808 ≤ q.kd ∧ q.kd ≤ 9223372036854775807) ∧ w'.rangeAt b (off + i * 37) (layRow q) := by
  obtain ⟨b, off, cs, h1, ⟨rfl, h3, h4⟩, _, h5⟩ := h.here i (by rw [h.len]; exact hi)
  exact ⟨b, off, _, h1, List.getElem?_eq_getElem _, h3.below hb, h4, range_below h5 hb⟩
theorem lay_hash_range {W : World} {T t : Nat} {fr : Nat × Nat} {q : LayV} (h : W.heap[T]? = some (.cells (layRow q).toArray t fr)) (hh : q.h.length = 32) : W.rangeAt T 4 (q.h.map (Value.int .u8)) := (lay_at h hh).2.2.2.2.2
set_option maxRecDepth 100000 in
set_option maxHeartbeats 3200000 in
theorem lay7_step (w : World) (P B : Nat) (v : Value) (l : List Int) (q : LayV) (h : WO w P B v l) (hB : B ≤ w.heap.size) (hq : q.Ok w) (hl : l.length + q.lb ≤ 140737488200000) :
    Calls Try.prog 13 #[.pointer (some ⟨P, 0, none⟩), .agg (layRow q).toArray] w fun e w' => e = .returned (.int .i64 (layM l.length q).2) ∧ WStep w w' P B v (l ++ (layM l.length q).1) := by
  have hb0 := (Below.refl w.heap.size w).alloc (Nat.le_refl _) (.cells (layRow q).toArray 32)
  have hAt := lay_at (heap_alloc_new w (.cells (layRow q).toArray 32)) hq.hash
  have h1 := h.below hb0
  have HB0 := Lib.hid hb0
  have hB1 : B ≤ (w.alloc (.cells (layRow q).toArray 32)).heap.size := Nat.le_trans hB hb0.size
  have hq1 := hq.below hb0
  have hHL := hq.hash
  by_cases k1 : q.kd = 1
  · rw [show layM l.length q = strW q.s by unfold layM; rw [if_pos k1]]
    have HS := Lib.hid (wstr_any P B v l q.s _ h1 hq.str (by omega) hB1)
    obtain ⟨kd, sz, n, s, hh, ab, lb, cb, bl⟩ := q
    dsimp only at k1 hAt HS ⊢
    subst k1
    obtain ⟨c0, c1, c2, c3, c4, _⟩ := hAt
    generalize (layRow _).toArray = AR at *
    clear h hq hl hB hB1 hb0 h1 hq1 hHL
    go_enter Try.func13, Try.ntmps13
    go_wp2_with fail
    refine HS.out.mono ?_
    rintro e w1 ⟨rfl, hW⟩
    have HW := Lib.hid (hW.of_below HB0.out)
    clear hW HS
    go_wp2_with fail
    go_ret
    exact ⟨rfl, HW.out⟩
  · by_cases k2 : q.kd = 2
    · rw [show layM l.length q = (q.h, 0) by unfold layM; rw [if_neg k1, if_pos k2]]
      have HS := Lib.hid (whash_any P B v l q.h _ h1 hq.hash hq.hbyt (by omega) hB1)
      obtain ⟨kd, sz, n, s, hh, ab, lb, cb, bl⟩ := q
      dsimp only at k2 hAt HS hHL ⊢
      subst k2
      obtain ⟨c0, c1, c2, c3, c4, c5⟩ := hAt
      generalize (layRow _).toArray = AR at *
      have SH := Lib.hid (show (Try.prog.info? 30).map (·.size) = some (hh.map (Value.int .u8)).length by rw [show (Try.prog.info? 30).map (·.size) = some 32 by kernel_rfl, List.length_map, hHL])
      have HRG := Lib.hid (show (w.alloc (.cells AR 32)).rangeAt w.heap.size 4 (hh.map (Value.int .u8)) from c5)
      clear h hq hl hB hB1 hb0 h1 hq1 hHL c5 k1
      go_enter Try.func13, Try.ntmps13
      go_wp2_with (first
        | (with_reducible refine wpList_load_mid (op := ⟨some 17, _, _, _, _, _⟩) rfl 30 _ rfl w.heap.size 4 rfl (hh.map (Value.int .u8)) _ HRG.out Try.underlying30 rfl SH.out ?_))
      refine HS.out.mono ?_
      rintro e w1 ⟨rfl, hW⟩
      have HW := Lib.hid (hW.of_below HB0.out)
      clear hW HS
      go_wp2_with fail
      go_ret
      exact ⟨rfl, HW.out⟩
    · by_cases k3 : q.kd = 3
      · rw [show layM l.length q = (q.bl, 0) by unfold layM; rw [if_neg k1, if_neg k2, if_pos k3]]
        have HS := Lib.hid (wraw_any P B v _ l q.bl _ h1 hq1.bs (by rw [hq.len]; omega) hB1)
        obtain ⟨kd, sz, n, s, hh, ab, lb, cb, bl⟩ := q
        dsimp only at k3 hAt HS ⊢
        subst k3
        obtain ⟨c0, c1, c2, c3, c4, _⟩ := hAt
        generalize (layRow _).toArray = AR at *
        clear h hq hl hB hB1 hb0 h1 hq1 hHL k1 k2
        go_enter Try.func13, Try.ntmps13
        go_wp2_with fail
        refine HS.out.mono ?_
        rintro e w1 ⟨rfl, hW⟩
        have HW := Lib.hid (hW.of_below HB0.out)
        clear hW HS
        go_wp2_with fail
        go_ret
        exact ⟨rfl, HW.out⟩
      · by_cases k4 : q.kd = 4
        · rw [show layM l.length q = padW l.length q.sz by unfold layM; rw [if_neg k1, if_neg k2, if_neg k3, if_pos k4]]
          have HS := Lib.hid (wpad_any P B v l q.sz _ h1 (by omega) hB1)
          obtain ⟨kd, sz, n, s, hh, ab, lb, cb, bl⟩ := q
          dsimp only at k4 hAt HS ⊢
          subst k4
          obtain ⟨c0, c1, c2, c3, c4, _⟩ := hAt
          generalize (layRow _).toArray = AR at *
          clear h hq hl hB hB1 hb0 h1 hq1 hHL k1 k2 k3
          go_enter Try.func13, Try.ntmps13
          go_wp2_with fail
          refine HS.out.mono ?_
          rintro e w1 ⟨rfl, hW⟩
          have HW := Lib.hid (hW.of_below HB0.out)
          clear hW HS
          go_wp2_with fail
          go_ret
          exact ⟨rfl, HW.out⟩
        · rw [show layM l.length q = numW (q.n : Int) q.sz by unfold layM; rw [if_neg k1, if_neg k2, if_neg k3, if_neg k4]]
          have HS := Lib.hid (wnum_any P B v l (q.n : Int) q.sz _ h1 (by omega) (by omega) hB1)
          obtain ⟨kd, sz, n, s, hh, ab, lb, cb, bl⟩ := q
          dsimp only at k1 k2 k3 k4 hAt HS ⊢
          have e1 : (kd == 1) = false := by simp [k1]
          have e2 : (kd == 2) = false := by simp [k2]
          have e3 : (kd == 3) = false := by simp [k3]
          have e4 : (kd == 4) = false := by simp [k4]
          obtain ⟨c0, c1, c2, c3, c4, _⟩ := hAt
          generalize (layRow _).toArray = AR at *
          clear h hq hl hB hB1 hb0 h1 hq1 hHL k1 k2 k3 k4
          go_enter Try.func13, Try.ntmps13
          go_wp2_with fail
          refine HS.out.mono ?_
          rintro e w1 ⟨rfl, hW⟩
          have HW := Lib.hid (hW.of_below HB0.out)
          clear hW HS
          go_wp2_with fail
          go_ret
          exact ⟨rfl, HW.out⟩
theorem lay7_any (w0 w : World) (P : Nat) (l : List Int) (q : LayV) (h : WL w0 w P l) (hq : q.Ok w) (hl : l.length + q.lb ≤ 140737488200000) :
    Calls Try.prog 13 #[.pointer (some ⟨P, 0, none⟩), .agg (layRow q).toArray] w fun e w' => e = .returned (.int .i64 (layM l.length q).2) ∧ WL w0 w' P (l ++ (layM l.length q).1) := by
  obtain ⟨v, h, hP, hb⟩ := h
  exact (lay7_step w P _ v l q h hb.size hq hl).mono fun e w' ⟨he, hs⟩ => ⟨he, wl_step h hP hb hs⟩
theorem layM_len (n : Nat) (q : LayV) (w : World) (hq : q.Ok w) (h1 : q.lb ≤ 9000) : (layM n q).1.length ≤ 66000 := by
  unfold layM
  split
  · unfold strW; split
    · simp
    · simp [btxt_length]; omega
  · split
    · dsimp only; rw [hq.hash]; omega
    · split
      · dsimp only; rw [hq.len]; omega
      · split
        · unfold padW; split
          · simp
          · simp; omega
        · have := numW_len (q.n : Int) q.sz; omega
/-- A Writer of a law's, and a row of the law's beside it. -/
structure WW (w0 w : World) (P : Nat) (v1 v4 : Value) (l1 l4 : List Int) : Prop where
  wo : WO w P w0.heap.size v1 l1
  own : w.ownsRow w0.heap.size 5 1 v4 l4.length (l4.map (Value.int .u8))
  apart : ∀ g, v4.ownBlock = some g → v1.ownBlock ≠ some g
  new : w0.heap.size ≤ P
  bel : Below w0.heap.size w0 w
theorem WW.below {w0 w w' : World} {P : Nat} {v1 v4 : Value} {l1 l4 : List Int} (h : WW w0 w P v1 v4 l1 l4) (b : Below w.heap.size w w') : WW w0 w' P v1 v4 l1 l4 :=
  ⟨h.wo.below b, own_touch h.own (Touch.of_below (l := []) b) (by simp), h.apart, h.new, h.bel.trans (b.mono h.bel.size)⟩
theorem ww_row {w0 w w' : World} {P : Nat} {v1 v4 v4' : Value} {l1 l4 l : List Int} (h : WW w0 w P v1 v4 l1 l4) (s : OStep w w' w0.heap.size v4 v4' l) : WW w0 w' P v1 v4' l1 l := by
  have hP : v4.ownBlock ≠ some P := own_ne h.own h.wo.cell (by decide)
  refine ⟨h.wo.touch s.touch (fun hm => hP (Option.mem_toList.1 hm)) (fun g hg hm => h.apart g (Option.mem_toList.1 hm) hg), s.own, fun g hg => ?_, h.new, h.bel.trans (s.touch.below h.bel.size (fun k hk => (h.own.lt k (Option.mem_toList.1 hk)).1))⟩
  rcases s.new with n | ⟨g', n, hg'⟩
  · exact h.apart g (n ▸ hg)
  · intro e
    have h1 := (h.wo.own.lt g e).2
    rw [n] at hg
    have := Option.some.inj hg
    omega
theorem ww_wr {w0 w w' : World} {P : Nat} {v1 v4 : Value} {l1 l4 l : List Int} (h : WW w0 w P v1 v4 l1 l4) (s : WStep w w' P w0.heap.size v1 l) : ∃ v1', WW w0 w' P v1' v4 l l4 := by
  obtain ⟨v1', h1, t, n⟩ := s
  have hP : v4.ownBlock ≠ some P := own_ne h.own h.wo.cell (by decide)
  refine ⟨v1', h1, own_touch h.own t (fun g hg hm => ?_), fun g hg e => ?_, h.new, h.bel.trans (t.below h.bel.size (fun k hk => ?_))⟩
  · simp only [List.mem_cons, Option.mem_toList] at hm
    rcases hm with rfl | hm
    · exact hP hg
    · exact h.apart g hg hm
  · rcases n with n | ⟨g', n, hg'⟩
    · exact h.apart g hg (n ▸ e)
    · have h2 := (h.own.lt g hg).2
      rw [n] at e
      have := Option.some.inj e
      omega
  · simp only [List.mem_cons, Option.mem_toList] at hk
    rcases hk with rfl | hk
    · exact h.new
    · exact (h.wo.own.lt k hk).1
end Go.Proofs.Ytclahpmghifehaa
