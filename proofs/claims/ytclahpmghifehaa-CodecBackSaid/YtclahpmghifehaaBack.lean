/-
  What is laid is read: the acts that were laid, one behind the other.
-/
import Derived.Test.YtclahpmghifehaaGreat
import Derived.Test.YtclahpmghifehaaRead
import Derived.Test.YtclahpmghifehaaFill
namespace Go.Proofs.Ytclahpmghifehaa
open Go.RowKit

def okL (q : LayV) : Bool := decide (q.kd ≠ 4) && decide ((layM 0 q).2 = 0)
def bysL (q : LayV) : List Int := (layM 0 q).1
theorem layM_no4 (n : Nat) (q : LayV) (h : q.kd ≠ 4) : layM n q = layM 0 q := by
  unfold layM
  split
  · rfl
  · split
    · rfl
    · split
      · rfl
      · first | rfl | (rw [if_neg h, if_neg h])
theorem layM_err (q : LayV) (h : q.kd ≠ 4) (he : (layM 0 q).2 ≠ 0) : (layM 0 q).1 = [] := by
  unfold layM at he ⊢
  split
  · rename_i h1; rw [if_pos h1] at he; unfold strW at he ⊢; split
    · rfl
    · rename_i h2; rw [if_neg h2] at he; exact absurd rfl he
  · rename_i h1; rw [if_neg h1] at he
    split
    · rename_i h2; rw [if_pos h2] at he; exact absurd rfl he
    · rename_i h2; rw [if_neg h2] at he
      split
      · rename_i h3; rw [if_pos h3] at he; exact absurd rfl he
      · rename_i h3; rw [if_neg h3] at he
        rw [if_neg h] at he
        first | (rw [if_neg h]) | skip
        unfold numW at he ⊢
        split
        · rfl
        · rename_i h5; rw [if_neg h5] at he; exact absurd rfl he
def catL (qs : List LayV) : List Int := qs.flatMap bysL
theorem catL_snoc (qs : List LayV) (q : LayV) : catL (qs ++ [q]) = catL qs ++ bysL q := by simp [catL]
def wells (x : List LayV) : List LayV := x.filter okL
theorem wells_next (x : List LayV) (i : Nat) (q : LayV) (h : x[i]? = some q) : wells (x.take (i + 1)) = wells (x.take i) ++ (if okL q then [q] else []) := by
  unfold wells
  rw [List.take_add_one, h, Option.toList_some, List.filter_append]
  congr 1
  rw [List.filter_cons, List.filter_nil]
theorem bysL_len (q : LayV) (w : World) (hq : q.Ok w) : ((bysL q).length : Int) ≤ wtL q + 65577 * (if q.kd = 4 then 1 else 0) + 41 := by
  have hp := wtL_pos q
  unfold bysL layM
  split
  · rename_i h1; rw [if_neg (by omega)]; unfold strW; split
    · simp; omega
    · simp [btxt_length]; omega
  · split
    · rename_i h1 h2; rw [if_neg (by omega)]; have := hq.hash; dsimp only; omega
    · split
      · rename_i h3; rw [if_neg (by omega)]; have := hq.len; dsimp only; omega
      · split
        · rename_i h4; first | (rw [if_pos h4]) | skip
          unfold padW; split
          · simp; omega
          · simp; omega
        · rename_i h4; first | (rw [if_neg h4]) | skip
          have := numW_len (q.n : Int) q.sz; omega
theorem catL_len (x : List LayV) (h : ∀ q ∈ x, ∃ w, q.Ok w) : ((catL (wells x)).length : Int) ≤ gsum x + 41 * (x.length : Int) := by
  induction x with
  | nil => simp [catL, wells, gsum]
  | cons q r ih =>
    have ih := ih (fun p hp => h p (List.mem_cons_of_mem _ hp))
    have hp := (wtL_pos q).1
    unfold wells at ih ⊢
    rw [List.filter_cons]
    simp only [gsum, List.length_cons, Int.natCast_add]
    split
    · rename_i ho
      obtain ⟨w, hq⟩ := h q (List.mem_cons_self ..)
      have hl := bysL_len q w hq
      unfold okL at ho
      simp only [Bool.and_eq_true, decide_eq_true_eq] at ho
      rw [if_neg ho.1] at hl
      simp only [catL, List.flatMap_cons, List.length_append, Int.natCast_add] at ih ⊢
      omega
    · omega
theorem lays_ok {w : World} {x : List LayV} {a : Option Addr} {n c : Nat} (h : Lays w x a n c) : ∀ q ∈ x, q.Ok w := by
  intro q hq
  obtain ⟨i, hi, rfl⟩ := List.getElem_of_mem hq
  obtain ⟨b, off, cs, h1, ⟨rfl, h3, h4⟩, _, h5⟩ := h.here i hi
  exact h3
theorem strOf_btxt (s : ByteArray) : strOfNums (btxt s) = s := by
  have h : (strOfNums (btxt s)).data.toList = s.data.toList := by
    rw [strOfNums_data]
    unfold btxt
    rw [List.map_map]
    conv => rhs; rw [← List.map_id s.data.toList]
    apply List.map_congr_left
    intro b _
    simp
  cases s with
  | mk d =>
    have h2 : (strOfNums (btxt ⟨d⟩)).data = d := Array.toList_inj.1 h
    exact (show strOfNums (btxt ⟨d⟩) = ⟨(strOfNums (btxt ⟨d⟩)).data⟩ from rfl).trans (by rw [h2])
/-- What an act laid is read. -/
theorem back_str (q : LayV) (R : List Int) (h1 : q.kd = 1) (ho : okL q = true) : strA (bysL q ++ R) = (q.s, 0, R) := by
  unfold okL at ho
  simp only [Bool.and_eq_true, decide_eq_true_eq] at ho
  have h2 := ho.2
  unfold bysL
  unfold layM at h2 ⊢
  rw [if_pos h1] at h2 ⊢
  unfold strW at h2 ⊢
  by_cases hs : 255 < q.s.size
  · rw [if_pos hs] at h2; simp at h2
  · rw [if_neg hs]
    unfold strA
    rw [if_neg (by simp [btxt_length]; omega)]
    simp only [List.cons_append, List.getD_cons_zero, Int.toNat_natCast, List.drop_succ_cons, List.drop_zero]
    rw [List.take_append_of_le_length (by rw [btxt_length]; omega), List.take_of_length_le (by rw [btxt_length]; omega), strOf_btxt, Nat.add_comm 1, List.drop_succ_cons, ← btxt_length, List.drop_left]
theorem back_hash (q : LayV) (R : List Int) (w : World) (hq : q.Ok w) (h1 : q.kd = 2) : hashA (bysL q ++ R) = (q.h, 0, R) := by
  unfold bysL layM
  rw [if_neg (by omega), if_pos h1]
  have hl := hq.hash
  unfold hashA
  dsimp only
  rw [if_neg (by rw [List.length_append]; omega), ← hl, List.take_left, List.drop_left]
theorem back_raw (q : LayV) (R : List Int) (w : World) (hq : q.Ok w) (h1 : q.kd = 3) : rawA (q.lb : Int) (bysL q ++ R) = (q.bl, 0, R) := by
  unfold bysL layM
  rw [if_neg (by omega), if_neg (by omega), if_pos h1]
  have hl := hq.len
  unfold rawA
  dsimp only
  rw [if_neg (by omega), if_neg (by rw [List.length_append]; omega), Int.toNat_natCast, ← hl, List.take_left, List.drop_left]
theorem back_num (q : LayV) (R : List Int) (h1 : q.kd ≠ 1) (h2 : q.kd ≠ 2) (h3 : q.kd ≠ 3) (ho : okL q = true) : numA q.sz (bysL q ++ R) = ((q.n : Int), 0, R) := by
  unfold okL at ho
  simp only [Bool.and_eq_true, decide_eq_true_eq] at ho
  have h4 := ho.1
  have h5 := ho.2
  unfold bysL
  unfold layM at h5 ⊢
  rw [if_neg h1, if_neg h2, if_neg h3, if_neg h4] at h5 ⊢
  unfold numW at h5 ⊢
  by_cases hc : q.sz < 0 ∨ 8 < q.sz ∨ 2 ^ (8 * q.sz.toNat) ≤ (q.n : Int)
  · rw [if_pos hc] at h5; simp at h5
  · rw [if_neg hc]
    obtain ⟨m, hm⟩ : ∃ m : Nat, q.sz = (m : Int) := ⟨q.sz.toNat, by omega⟩
    rw [hm] at hc ⊢
    have hl := putI_length (q.n : Int) m
    unfold numA rawA
    dsimp only
    rw [Int.toNat_natCast] at hc ⊢
    rw [if_neg (by omega), if_neg (by omega), if_neg (by rw [List.length_append, hl]; omega)]
    dsimp only
    have e : (putI (q.n : Int) m ++ R).take m = putI (q.n : Int) m := List.take_left' hl
    have e2 : (putI (q.n : Int) m ++ R).drop m = R := List.drop_left' hl
    rw [e, e2, putI_num m _ (by omega) (by omega)]
section
variable (w0 w : World) (R : Nat) (l : List Int)
theorem rlc_str (h : RL w0 w R l) :
    Calls Try.prog 20 #[.pointer (some ⟨R, 0, none⟩)] w fun e w' => e = .returned (.tuple #[.string (strA l).1, .int .i64 (strA l).2.1]) ∧ RL w0 w' R (strA l).2.2 ∧ Chg R w w' := by
  obtain ⟨a, x, c, h, hR, hb⟩ := h
  exact (pstr_any R x c a l w h).mono fun e w' ⟨he, ⟨a', x', c', hr⟩, hO⟩ => ⟨he, ⟨a', x', c', hr, hR, hb.trans (hO.below hR hb.size)⟩, hO⟩
theorem rlc_hash (h : RL w0 w R l) :
    Calls Try.prog 21 #[.pointer (some ⟨R, 0, none⟩)] w fun e w' => e = .returned (.tuple #[.agg (i8s (hashA l).1), .int .i64 (hashA l).2.1]) ∧ RL w0 w' R (hashA l).2.2 ∧ Chg R w w' := by
  obtain ⟨a, x, c, h, hR, hb⟩ := h
  exact (phash_any R x c a l w h).mono fun e w' ⟨he, ⟨a', x', c', hr⟩, hO⟩ => ⟨he, ⟨a', x', c', hr, hR, hb.trans (hO.below hR hb.size)⟩, hO⟩
theorem rlc_raw (n : Int) (h : RL w0 w R l) (hn : n ≤ 9223372036854775807) :
    Calls Try.prog 22 #[.pointer (some ⟨R, 0, none⟩), .int .i64 n] w fun e w' => (∃ v, e = .returned (.tuple #[v, .int .i64 (rawA n l).2.1]) ∧ BS w' v (rawA n l).1) ∧ RL w0 w' R (rawA n l).2.2 ∧ Chg R w w' := by
  obtain ⟨a, x, c, h, hR, hb⟩ := h
  exact (praw_any R x c a l n w h hn).mono fun e w' ⟨he, ⟨a', x', c', hr⟩, hO⟩ => ⟨he, ⟨a', x', c', hr, hR, hb.trans (hO.below hR hb.size)⟩, hO⟩
theorem rlc_num (n : Int) (h : RL w0 w R l) (hn : n ≤ 9223372036854775807) :
    Calls Try.prog 23 #[.pointer (some ⟨R, 0, none⟩), .int .i64 n] w fun e w' => e = .returned (.tuple #[.int .u64 (numA n l).1, .int .i64 (numA n l).2.1]) ∧ RL w0 w' R (numA n l).2.2 ∧ Chg R w w' := by
  obtain ⟨a, x, c, h, hR, hb⟩ := h
  exact (pnum7_any R x c a l n w h hn).mono fun e w' ⟨he, ⟨a', x', c', hr⟩, hO⟩ => ⟨he, ⟨a', x', c', hr, hR, hb.trans (hO.bel _ hR)⟩, Chg.of_only hO⟩
end
def rowsL (ws : List LayV) : List Value := ws.flatMap layRow
theorem rowsL_length (ws : List LayV) (h : ∀ q ∈ ws, q.h.length = 32) : (rowsL ws).length = ws.length * 37 := by
  induction ws with
  | nil => rfl
  | cons q r ih =>
    have h1 := layRow_length q (h q (by simp))
    have h2 := ih (fun p hp => h p (by simp [hp]))
    simp only [rowsL, List.flatMap_cons, List.length_append, List.length_cons] at h2 ⊢
    omega
theorem rowsL_at (ws : List LayV) (h : ∀ q ∈ ws, q.h.length = 32) (i : Nat) (q : LayV) (hi : ws[i]? = some q) (j : Nat) (hj : j < 37) : (rowsL ws)[i * 37 + j]? = (layRow q)[j]? := by
  induction ws generalizing i with
  | nil => simp at hi
  | cons p ws ih =>
    have h1 := layRow_length p (h p (by simp))
    show (layRow p ++ rowsL ws)[i * 37 + j]? = _
    cases i with
    | zero =>
      obtain rfl : p = q := by simpa using hi
      rw [List.getElem?_append_left (by omega)]; simp
    | succ i =>
      rw [List.getElem?_append_right (by omega), h1, show (i + 1) * 37 + j - 37 = i * 37 + j by omega]
      exact ih (fun q hq => h q (by simp [hq])) i (by simpa using hi)
/-- One of the acts that were kept, in memory. -/
theorem kept_range {w : World} {B n c : Nat} {a : Option Addr} {ws : List LayV} (h : w.ownsRow B 32 37 (.slice a n c) n (rowsL ws)) (hw : ∀ q ∈ ws, q.h.length = 32) (hn : ws.length = n) (i : Nat) (q : LayV) (hi : ws[i]? = some q) : ∃ g, a = some ⟨g, 0, none⟩ ∧ w.rangeAt g (0 + i * 37) (layRow q) ∧ g < w.heap.size := by
  have hlt : i < ws.length := (List.getElem?_eq_some_iff.1 hi).1
  rcases h.2 with ⟨h5, h6⟩ | ⟨g, c', cur, h5, hb, hg, hr⟩
  · omega
  · injection h5 with e1 e2 e3
    subst e1
    refine ⟨g, rfl, fun j u hu => ?_, (Array.getElem?_eq_some_iff.1 hg).1⟩
    have hql := layRow_length q (hw q (List.mem_of_getElem? hi))
    have hj : j < 37 := by
      have := (List.getElem?_eq_some_iff.1 hu).1
      omega
    rw [Nat.zero_add, h.cellAt (i * 37 + j) (by omega), rowsL_at ws hw i q hi j hj]
    exact hu
theorem info_lay : (Try.prog.info? 32).map (fun i => (i.zero, i.size, i.bytes)) = some (some (.agg (layRow zeroLay).toArray), 37, 96) := by kernel_rfl
/-- A Writer, and the acts that were kept, beside each other. -/
structure WB (w0 w : World) (P : Nat) (v1 v6 : Value) (l : List Int) (ws : List LayV) : Prop where
  wo : WO w P w0.heap.size v1 l
  own : w.ownsRow w0.heap.size 32 37 v6 ws.length (rowsL ws)
  new : w0.heap.size ≤ P
  bel : Below w0.heap.size w0 w
theorem WB.below {w0 w w' : World} {P : Nat} {v1 v6 : Value} {l : List Int} {ws : List LayV} (h : WB w0 w P v1 v6 l ws) (b : Below w.heap.size w w') : WB w0 w' P v1 v6 l ws :=
  ⟨h.wo.below b, own_touch h.own (Touch.of_below (l := []) b) (by simp), h.new, h.bel.trans (b.mono h.bel.size)⟩
theorem own_own_ne {w : World} {B B' n n' k k' : Nat} {e e' : TypeId} {v v' : Value} {xs xs' : List Value} (h : w.ownsRow B e k v n xs) (h' : w.ownsRow B' e' k' v' n' xs') (hne : e ≠ e') (g : Nat) (hg : v.ownBlock = some g) : v'.ownBlock ≠ some g := by
  intro hg'
  obtain ⟨cur, h1⟩ := own_type h hg
  obtain ⟨cur', h2⟩ := own_type h' hg'
  rw [h1] at h2
  simp only [Option.some.injEq, Obj.cells.injEq] at h2
  exact hne h2.2.1
theorem wb_wr {w0 w w' : World} {P : Nat} {v1 v6 : Value} {l l' : List Int} {ws : List LayV} (h : WB w0 w P v1 v6 l ws) (s : WStep w w' P w0.heap.size v1 l') : ∃ v1', WB w0 w' P v1' v6 l' ws := by
  obtain ⟨v1', h1, t, n⟩ := s
  have hP : v6.ownBlock ≠ some P := own_ne h.own h.wo.cell (by decide)
  refine ⟨v1', h1, own_touch h.own t (fun g hg hm => ?_), h.new, h.bel.trans (t.below h.bel.size (fun k hk => ?_))⟩
  · simp only [List.mem_cons, Option.mem_toList] at hm
    rcases hm with rfl | hm
    · exact hP hg
    · exact own_own_ne h.own h.wo.own (by decide) g hg hm
  · simp only [List.mem_cons, Option.mem_toList] at hk
    rcases hk with rfl | hk
    · exact h.new
    · exact (h.wo.own.lt k hk).1
/-- One act more is kept. -/
theorem wb_more {w0 w : World} {P : Nat} {v1 v6 : Value} {l : List Int} {ws : List LayV} (h : WB w0 w P v1 v6 l ws) (q : LayV) (hq : q.h.length = 32) (hn : ws.length ≤ 1000000) :
    ∃ a c w', (Builtin.append_ #[22, 22] 22 #[v6, .slice (some ⟨w.heap.size, 0, none⟩) 1 1]).run Try.prog (w.alloc (.cells (layRow q).toArray 32)) = .ok (.slice a (ws.length + 1) c) w' ∧ WB w0 w' P v1 (.slice a (ws.length + 1) c) l (ws ++ [q]) := by
  have hb := (Below.refl w.heap.size w).alloc (Nat.le_refl _) (.cells (layRow q).toArray 32)
  have h' := h.below hb
  obtain ⟨a, c, w', hr, ho, hg, hnb⟩ := append_one (P := Try.prog) Try.underlying22 info_lay (by rw [List.size_toArray, layRow_length zeroLay (by decide)]) (by decide) h'.own w.heap.size (layRow q) (heap_alloc_new w _) (layRow_length q hq) (fun u hu => Array.all_eq_true_iff_forall_mem.1 (lay_one q) u (by simpa using hu)) hn (by decide) h'.bel.size
  refine ⟨a, c, w', hr, ?_⟩
  have t := Touch.grown hg
  have hP : v6.ownBlock ≠ some P := own_ne h'.own h'.wo.cell (by decide)
  refine ⟨h'.wo.touch t (fun hm => hP (Option.mem_toList.1 hm)) (fun g hg' hm => own_own_ne h'.own h'.wo.own (by decide) g (Option.mem_toList.1 hm) hg'), ?_, h'.new, h'.bel.trans (t.below h'.bel.size (fun k hk => (h'.own.lt k (Option.mem_toList.1 hk)).1))⟩
  have e : rowsL (ws ++ [q]) = rowsL ws ++ layRow q := by simp [rowsL]
  rw [List.length_append, e]
  exact ho
end Go.Proofs.Ytclahpmghifehaa
