/-
  A slice of pointers, sorted; the program's All.
-/
import Derived.Test.YtocdjaenhllemaaIt
import Derived.Test.YtocdjaenhllemaaSo
import Derived.Sort.OwnSorted
import Derived.Shelf.SlSortCmp.WholeK
namespace Go.Proofs.Ytocdjaenhllemaa
section
set_option maxRecDepth 4000
open Go.RowKit Go.Maps Go.Sort Go.Shelf

theorem append_any8 (w0 w : World) (Bm K : Nat) (mv : Value) (L : List PtrV) (hm : w.cell? ⟨Bm, 0, none⟩ = some mv) (h : MV8 w0 w mv L K) (hL : distinct L ≤ 1000000) :
    Calls Try.prog 37 #[.slice none 0 0, .func (.func 29) #[] #[.pointer (some ⟨Bm, 0, none⟩)]] w fun e W' =>
      ∃ v ss, e = .returned v ∧ (ss.Nodup ∧ ∀ q, q ∈ ss ↔ q ∈ L) ∧ W'.ownsRow w.heap.size 35 34 v ss.length (rowsP ss) ∧ (v = .slice none 0 0 ↔ ss = []) ∧ Below w.heap.size w W' :=
  (callsIn_wide (n := 4)).1 (append_seq8 4 (by omega) w w Bm (distinct L) _ _ hL (keys_stop8 Fence.wide (4 - 1) trivial rfl (by omega) w0 w Bm K mv L hm h) (Below.refl _ w))
set_option maxHeartbeats 800000 in
theorem collect_any8 (w0 w : World) (Bm K : Nat) (mv : Value) (L : List PtrV) (hm : w.cell? ⟨Bm, 0, none⟩ = some mv) (h : MV8 w0 w mv L K) (hL : distinct L ≤ 1000000) :
    Calls Try.prog 27 #[.func (.func 29) #[] #[.pointer (some ⟨Bm, 0, none⟩)]] w fun e W' =>
      ∃ v ss, e = .returned v ∧ (ss.Nodup ∧ ∀ q, q ∈ ss ↔ q ∈ L) ∧ W'.ownsRow w.heap.size 35 34 v ss.length (rowsP ss) ∧ (v = .slice none 0 0 ↔ ss = []) ∧ Below w.heap.size w W' := by
  have HC := Lib.hid (append_any8 w0 w Bm K mv L hm h hL)
  clear hm h hL
  go_enter Try.func27, Try.ntmps27
  go_wp2_with fail
  refine HC.out.mono ?_
  rintro e w1 ⟨v, ss, rfl, h1, h2, h3, h4⟩
  have H1 := Lib.hid (And.intro h1 (And.intro h2 (And.intro h3 h4)))
  clear HC h1 h2 h3 h4
  go_wp2_with fail
  go_ret
  exact ⟨v, ss, rfl, H1.out.1, H1.out.2.1, H1.out.2.2.1, H1.out.2.2.2⟩
theorem keys_any8 (w : World) (mb : Option Nat) :
    Calls Try.prog 21 #[.map mb] w fun e w' => e = .returned (.func (.func 29) #[] #[.pointer (some ⟨w.heap.size, 0, none⟩)]) ∧ w' = w.alloc (.cells #[.map mb] 53) :=
  (callsIn_wide (n := 4)).1 (keys_made Fence.wide 4 trivial rfl mb w)
end
section
set_option maxRecDepth 4000
open Go.RowKit Go.Maps Go.Shelf
open Go.Sort hiding Below

theorem swo8 : «Sort».SWO (ltOf ordP) := by
  have e : ∀ p q : PtrV, ltOf ordP p q = decide (nuP p < nuP q) := fun p q => by
    unfold ltOf
    rw [ordP_num]
    rcases Int.lt_trichotomy (nuP p) (nuP q) with h | h | h
    · rw [cmpI_lt h]; simp; omega
    · rw [h, cmpI_self]; simp
    · rw [cmpI_gt h]; simp; omega
  constructor
  · intro x; rw [e]; simp
  · intro x y z; rw [e, e, e]; simp; omega
  · intro x y z; rw [e, e, e]; simp; omega
theorem lt_ord (p q : PtrV) : ltOf ordP p q = false ↔ nuP q ≤ nuP p := by
  unfold ltOf
  rw [ordP_num]
  rcases Int.lt_trichotomy (nuP p) (nuP q) with h | h | h
  · rw [cmpI_lt h]; simp; omega
  · rw [h, cmpI_self]; simp
  · rw [cmpI_gt h]; simp; omega
theorem flat_rows (l : List PtrV) : (flatK ptrRow 34 l.toArray).toList = rowsP l := by
  apply List.ext_getElem?
  intro t
  by_cases ht : t < l.length * 34
  · have hd : t / 34 < l.length := by omega
    have hm : t % 34 < 34 := by omega
    have e : t = t / 34 * 34 + t % 34 := by omega
    rw [Array.getElem?_toList, getElem?_pos _ t (by rw [size_flatK]; simpa using ht)]
    have h1 := get_flatK ptrRow 34 l.toArray t (by simpa using ht)
    rw [getElem!_pos _ t (by rw [size_flatK]; simpa using ht)] at h1
    rw [h1, e, rowsP_at l (t / 34) l[t / 34] (by rw [List.getElem?_eq_getElem hd]) (t % 34) hm, ← e]
    rw [getElem!_pos l.toArray (t / 34) (by simpa using hd), getElem!_pos _ (t % 34) (by rw [List.getElem_toArray, ptrRow_length]; exact hm), List.getElem?_eq_getElem (by rw [ptrRow_length]; exact hm)]
    simp
  · rw [Array.getElem?_toList, getElem?_neg _ t (by rw [size_flatK]; simpa using ht), List.getElem?_eq_none (by rw [rowsP_length]; omega)]
theorem holds_ptrs {w : World} {g : Nat} {cur : Array Value} {e : TypeId} {ss : List PtrV} (hb : w.heap[g]? = some (.cells cur e (0, 0))) (ht : cur.toList.take (ss.length * 34) = rowsP ss) : HoldsK ptrRow 34 w g 0 ss.toArray := by
  intro j hj
  have hj' : j < ss.length * 34 := by rw [size_flatK] at hj; simpa using hj
  refine ⟨?_, by simp [World.frozen?, hb]⟩
  have h1 : (cur.toList.take (ss.length * 34))[j]? = (flatK ptrRow 34 ss.toArray).toList[j]? := by rw [ht, flat_rows]
  rw [List.getElem?_take_of_lt hj', Array.getElem?_toList, Array.getElem?_toList, getElem?_pos (flatK ptrRow 34 ss.toArray) j hj] at h1
  simp only [World.cell?, hb, Nat.zero_add]
  simp only [Option.isSome_none, Bool.false_eq_true, if_false]
  rw [h1, getElem!_pos _ j hj]
  rfl
theorem heap_sorted8 {w : World} {g n : Nat} {os : Array Obj} {cur : Array Value} {e : TypeId} {fr : Nat × Nat} (F : Array Value) (hb : w.heap[g]? = some (.cells cur e fr)) :
    (grow («Sort».putRow id («Sort».ahead w n) g 0 F) os).heap[g]? = some (.cells («Sort».putCells id 0 F cur) e fr) := by
  have hg : g < w.heap.size := (Array.getElem?_eq_some_iff.1 hb).1
  rw [heap_grow_old _ _ (by simpa using hg)]
  simp [«Sort».putRow, «Sort».mapBlock, «Sort».ahead, Array.getElem?_modify, hb, «Sort».onCells]
theorem grown_sorted8 {w : World} {g n : Nat} {os : Array Obj} (F : Array Value) : w.grownBy (grow («Sort».putRow id («Sort».ahead w n) g 0 F) os) (some g) := by
  refine ⟨rfl, rfl, rfl, by simp, fun k hk hne => ?_⟩
  rw [heap_grow_old _ _ (by simpa using hk)]
  have : g ≠ k := fun e => hne (by rw [e])
  simp [«Sort».putRow, «Sort».mapBlock, «Sort».ahead, Array.getElem?_modify, this]
theorem take_put8 (cur F : Array Value) (h : F.size ≤ cur.size) : («Sort».putCells id 0 F cur).toList.take F.size = F.toList := by
  apply List.ext_getElem?
  intro j
  by_cases hj : j < F.size
  · rw [List.getElem?_take_of_lt hj, Array.getElem?_toList]
    simp [«Sort».putCells, hj, show j < cur.size by omega]
  · rw [List.getElem?_take_eq_none (by omega), List.getElem?_eq_none (by simp; omega)]
theorem below_grown8 {n g : Nat} {w w' : World} (hn : n ≤ w.heap.size) (h : w.grownBy w' (some g)) (hg : n ≤ g) : Below n w w' :=
  (Below.refl n w).grown h hn (fun k e => by cases e; exact hg)
theorem isAgg8 (w : World) : (isAgg 35).run Try.prog w = .ok true w := by kernel_rfl
theorem sizeOf8 (w : World) : (Go.sizeOf 35).run Try.prog w = .ok 34 w := by kernel_rfl
set_option maxHeartbeats 800000 in
theorem sort_any8 (w : World) (B g cap : Nat) (ss : List PtrV) (hn : ss.length ≤ 1000000) (h : w.ownsRow B 35 34 (.slice (some ⟨g, 0, none⟩) ss.length cap) ss.length (rowsP ss)) :
    Calls Try.prog 28 #[.slice (some ⟨g, 0, none⟩) ss.length cap, .func (.func 22) #[] #[]] w fun e w' =>
      e = .returned (.tuple #[]) ∧ ∃ ts : List PtrV, ts.Perm ss ∧ (ts.Pairwise fun x y => nuP x ≤ nuP y) ∧ w'.ownsRow B 35 34 (.slice (some ⟨g, 0, none⟩) ss.length cap) ss.length (rowsP ts) ∧ w.grownBy w' (some g) := by
  obtain ⟨hl, h | ⟨g', cap', cur, he, hbase, hb, h1, h2, h3, h4⟩⟩ := h
  · cases h.1
  cases he
  refine (AnyQ.slices_SortFunc sortPtr 34 isAgg8 sizeOf8 ptrRow ptrRow_length ptrRow_cells1 ordP swo8 22 #[] g 0 cap ss.toArray w (enters_of Try.func22 (by kernel_rfl) rfl)
    (fun m os dk hs x y => porder_any x y _) (holds_ptrs hb h4) (Array.getElem?_eq_some_iff.1 hb).1 (by simp; omega)).mono ?_
  rintro e w' ⟨rfl, d', n, os, hp, hs, rfl⟩
  have hsz : d'.size = ss.length := by have := hp.1; simpa using this
  refine ⟨rfl, d'.toList, ?_, ?_, ?_, grown_sorted8 _⟩
  · have := hp.2.2
    rw [show ss.toArray.size = d'.size by simp [hsz]] at this
    have h9 : (List.take ss.length d'.toList).Perm ss := by simpa [Array.extract_size, hsz] using this
    rwa [List.take_of_length_le (by simp [hsz])] at h9
  · rw [List.pairwise_iff_getElem]
    intro i j hi hj hij
    have := hs i j (by omega) hij (by simpa [hsz] using hj)
    rw [lt_ord] at this
    rw [getElem!_pos d' i (by simpa using hi), getElem!_pos d' j (by simpa using hj)] at this
    simpa using this
  · refine ⟨by rw [rowsP_length]; simp [hsz], .inr ⟨g, cap, _, rfl, hbase, heap_sorted8 _ hb, h1, h2, by simp [«Sort».putCells, h3], ?_⟩⟩
    have e1 : rowsP d'.toList = (flatK ptrRow 34 d').toList := by rw [← flat_rows]
    rw [e1, show ss.length * 34 = (flatK ptrRow 34 d').size by rw [size_flatK, hsz]]
    exact take_put8 _ _ (by rw [size_flatK, hsz, h3]; exact Nat.mul_le_mul_right 34 h1)
/-- What SortedFunc hands back over a map's keys: all of them, each once, rising. -/
def AllP (base : Nat) (W : World) (v : Value) (L : List PtrV) : Prop :=
  W.ownsRow base 35 34 v (allL L).length (rowsP (allL L)) ∧ (v = .slice none 0 0 ↔ allL L = [])
set_option maxHeartbeats 1600000 in
theorem insert_nil8 (w : World) : Calls Try.prog 44 #[.slice none 0 0, .int .i64 0, .int .i64 0, .func (.func 22) #[] #[]] w fun e w' => e = .returned (.tuple #[]) ∧ w' = w := by
  go_enter Try.func44, Try.ntmps44
  go_wp2_with fail
  refine wp_loop_once ?_
  go_wp2_with fail
  go_end0
  exact ⟨rfl, rfl⟩
set_option maxHeartbeats 1600000 in
theorem pdq_nil8 (w : World) : Calls Try.prog 38 #[.slice none 0 0, .int .i64 0, .int .i64 0, .int .i64 0, .func (.func 22) #[] #[]] w fun e w' => e = .returned (.tuple #[]) ∧ w' = w := by
  have HI := Lib.hid (insert_nil8 w)
  go_enter Try.func38, Try.ntmps38
  go_wp2_with fail
  refine wp_loop_once ?_
  go_wp2_with fail
  refine HI.out.mono ?_
  rintro e w1 ⟨rfl, rfl⟩
  go_wp2_with fail
  refine bodyPost_ret (results_none rfl _ _ _) rfl ?_
  exact ⟨rfl, rfl⟩
set_option maxHeartbeats 1600000 in
/-- A slice of no elements is sorted as it is. -/
theorem sort_nil8 (w : World) : Calls Try.prog 28 #[.slice none 0 0, .func (.func 22) #[] #[]] w fun e w' => e = .returned (.tuple #[]) ∧ w' = w := by
  have HI := Lib.hid (pdq_nil8 w)
  have HL := Lib.hid (show Calls Try.prog 39 #[.int .u64 0] w fun e w' => e = .returned (.int .i64 0) ∧ w' = w from
    (Any.bits_Len (SlLaysF0.n15.bits (P := Try.prog) (ρ := sortPtr_ren) { sortPtr with }) 0 w (by omega) (by omega)))
  go_enter Try.func28, Try.ntmps28
  go_wp2_with fail
  refine HL.out.mono ?_
  rintro e w1 ⟨rfl, rfl⟩
  go_wp2_with fail
  refine HI.out.mono ?_
  rintro e w2 ⟨rfl, rfl⟩
  go_wp2_with fail
  go_end0
  exact ⟨rfl, rfl⟩
set_option maxHeartbeats 1600000 in
theorem sorted_any8 (w0 w : World) (Bm K : Nat) (mv : Value) (L : List PtrV) (hm : w.cell? ⟨Bm, 0, none⟩ = some mv) (h : MV8 w0 w mv L K) (hL : distinct L ≤ 1000000) :
    Calls Try.prog 20 #[.func (.func 29) #[] #[.pointer (some ⟨Bm, 0, none⟩)], .func (.func 22) #[] #[]] w fun e W' =>
      ∃ v, e = .returned v ∧ AllP w.heap.size W' v L ∧ Below w.heap.size w W' := by
  have HC := Lib.hid (collect_any8 w0 w Bm K mv L hm h hL)
  have HDL := Lib.hid (show (allL L).length ≤ 1000000 from hL)
  clear hm h hL
  go_enter Try.func20, Try.ntmps20
  go_wp2_with fail
  refine HC.out.mono ?_
  rintro e w1 ⟨v, ss, rfl, ⟨h1, h2⟩, h3, h4, h5⟩
  clear HC
  have hlen : ss.length = (allL L).length := ((List.perm_ext_iff_of_nodup h1 (rise_nodup (allL_rise L))).2 (fun x => by rw [h2, mem_allL])).length_eq
  rcases h3.2 with ⟨rfl, h0⟩ | ⟨g, cap, cur, rfl, hbase, hb, _⟩
  · have hss : ss = [] := h4.1 rfl
    subst hss
    have hal : allL L = [] := List.length_eq_zero_iff.1 (by rw [← hlen]; rfl)
    have HS := Lib.hid (sort_nil8 w1)
    have HH := Lib.hid (And.intro hal h5)
    clear h1 h2 h3 h4 h5 hlen h0 hal HDL
    go_wp2_with fail
    refine HS.out.mono ?_
    rintro e w2 ⟨rfl, rfl⟩
    clear HS
    go_wp2_with fail
    go_ret
    refine ⟨_, rfl, ⟨?_, ?_⟩, HH.out.2⟩
    · rw [HH.out.1]; exact World.ownsRow_nil _ _ _ _
    · rw [HH.out.1]; simp
  · have HS := Lib.hid (sort_any8 w1 w.heap.size g cap ss (by rw [hlen]; exact HDL.out) h3)
    have hne : ss ≠ [] := fun e => by have := h4.2 e; cases this
    have HH := Lib.hid (And.intro h1 (And.intro h2 (And.intro hlen (And.intro h5 (And.intro hbase hne)))))
    clear h1 h2 h3 h4 h5 hlen hb hbase hne HDL
    go_wp2_with fail
    refine HS.out.mono ?_
    rintro e w2 ⟨rfl, ts, hp, hr, ho, hg⟩
    obtain ⟨h1, h2, hlen, h5, hbase, hne⟩ := HH.out
    have hts : ts = allL L := all_of_sorted hr (hp.nodup_iff.2 h1) (fun x => hp.mem_iff.trans (h2 x))
    subst hts
    have HR := Lib.hid (show AllP w.heap.size w2 (.slice (some ⟨g, 0, none⟩) (ss.length : Nat) cap) L ∧ Below w.heap.size w w2 from
      ⟨⟨by rw [← hlen]; exact ho, ⟨fun e => (by cases e), fun e => absurd (List.length_eq_zero_iff.1 (by rw [hlen, e]; rfl)) hne⟩⟩, h5.trans (below_grown8 h5.size hg hbase)⟩)
    clear HS HH h1 h2 hlen h5 hbase hne hp hr ho hg
    go_wp2_with fail
    go_ret
    exact ⟨_, rfl, HR.out⟩
theorem AllP.lower {b b' : Nat} {W : World} {v : Value} {L : List PtrV} (h : AllP b' W v L) (hb : b ≤ b') : AllP b W v L := by
  obtain ⟨⟨h1, h2⟩, h3⟩ := h
  refine ⟨⟨h1, ?_⟩, h3⟩
  rcases h2 with h2 | ⟨g, cap, cur, e, hg, r⟩
  · exact .inl h2
  · exact .inr ⟨g, cap, cur, e, by omega, r⟩
theorem AllP.below {b : Nat} {W W' : World} {v : Value} {L : List PtrV} (h : AllP b W v L) (hb : Below W.heap.size W W') : AllP b W' v L := ⟨own_belowP h.1 hb, h.2⟩
set_option maxHeartbeats 1600000 in
theorem pall8 (w0 w : World) (C K : Nat) (mv : Value) (L : List PtrV) (h : CO w0 w C mv L K) (hL : distinct L ≤ 1000000) :
    Calls Try.prog 15 #[.pointer (some ⟨C, 0, none⟩)] w fun e W' => ∃ v, e = .returned v ∧ AllP w.heap.size W' v L ∧ Below w.heap.size w W' := by
  obtain ⟨c0, _⟩ := cell1 h.cell
  obtain ⟨mb, hmb⟩ : ∃ mb, mv = .map mb := by
    rcases h.map with ⟨e, _⟩ | ⟨bm, D, e, _⟩
    · exact ⟨_, e⟩
    · exact ⟨_, e⟩
  subst hmb
  have hb := (Below.refl w.heap.size w).alloc (Nat.le_refl _) (.cells #[.map mb] 53)
  have h1 := h.below hb
  have HK := Lib.hid (keys_any8 w mb)
  have HS := Lib.hid (sorted_any8 w0 (w.alloc (.cells #[.map mb] 53)) w.heap.size K _ L (cell_of_row _ _ _ _ _ _ (heap_alloc_new w _)) h1.map hL)
  have HB := Lib.hid hb
  clear h h1 hb hL
  go_enter Try.func15, Try.ntmps15
  go_wp2_with fail
  refine HK.out.mono ?_
  rintro e w1 ⟨rfl, rfl⟩
  go_wp2_with fail
  refine HS.out.mono ?_
  rintro e w2 ⟨v, rfl, ha, hb2⟩
  have HR := Lib.hid (show AllP w.heap.size w2 v L ∧ Below w.heap.size w w2 from ⟨ha.lower HB.out.size, HB.out.trans (hb2.mono HB.out.size)⟩)
  clear ha hb2 HS HK HB
  go_wp2_with fail
  go_ret
  exact ⟨v, rfl, HR.out⟩
end
end Go.Proofs.Ytocdjaenhllemaa
