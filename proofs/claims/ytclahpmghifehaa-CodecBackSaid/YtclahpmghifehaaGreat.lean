/-
  Are acts more than are looked at?
-/
import Derived.Test.YtclahpmghifehaaLays
namespace Go.Proofs.Ytclahpmghifehaa
open Go.RowKit

def wtL (q : LayV) : Int := (q.lb : Int) + (q.s.size : Int) + (if q.kd = 4 ∧ q.sz ≤ 65536 then max 0 q.sz else 0)
def gsum : List LayV → Int
  | [] => 0
  | q :: r => wtL q + gsum r
theorem gsum_snoc (l : List LayV) (q : LayV) : gsum (l ++ [q]) = gsum l + wtL q := by
  induction l with
  | nil => simp [gsum]
  | cons a t ih => simp only [List.cons_append, gsum, ih]; omega
theorem wtL_pos (q : LayV) : 0 ≤ wtL q ∧ (q.lb : Int) ≤ wtL q ∧ (q.s.size : Int) ≤ wtL q := by
  unfold wtL
  split <;> omega
theorem gsum_pos (l : List LayV) : 0 ≤ gsum l := by
  induction l with
  | nil => exact Int.le_refl _
  | cons a t ih => have := (wtL_pos a).1; simp only [gsum]; omega
theorem gsum_mem (l : List LayV) (q : LayV) (h : q ∈ l) : wtL q ≤ gsum l := by
  induction l with
  | nil => simp at h
  | cons a t ih =>
    simp only [gsum]
    rcases List.mem_cons.1 h with rfl | h
    · have := gsum_pos t; omega
    · have := ih h; have := (wtL_pos a).1; omega
theorem gsum_next (x : List LayV) (i : Nat) (q : LayV) (h : x[i]? = some q) : gsum (x.take (i + 1)) = gsum (x.take i) + wtL q := by
  rw [List.take_add_one, h, Option.toList_some, gsum_snoc]
theorem gsum_le (x : List LayV) (B : Int) (hB : ∀ q ∈ x, wtL q ≤ B) (i : Nat) (hi : i ≤ x.length) : gsum (x.take i) ≤ (i : Int) * B := by
  induction i with
  | zero => simp [gsum]
  | succ i ih =>
    have h := ih (by omega)
    rw [gsum_next x i x[i] (List.getElem?_eq_getElem (by omega))]
    have := hB x[i] (List.getElem_mem _)
    rw [Int.natCast_add, Int.add_mul]
    omega
theorem wtL_no4 (q : LayV) (h : q.kd ≠ 4) : wtL q = (q.lb : Int) + (q.s.size : Int) := by unfold wtL; rw [if_neg (fun e => h e.1)]; omega
theorem wtL_far (q : LayV) (h : 65536 < q.sz) : wtL q = (q.lb : Int) + (q.s.size : Int) := by unfold wtL; rw [if_neg (fun e => by omega)]; omega
theorem wtL_neg (q : LayV) (h : q.sz < 0) : wtL q = (q.lb : Int) + (q.s.size : Int) := by unfold wtL; split <;> omega
theorem wtL_in (q : LayV) (h4 : q.kd = 4) (h : q.sz ≤ 65536) (h0 : 0 ≤ q.sz) : wtL q = (q.lb : Int) + (q.s.size : Int) + q.sz := by unfold wtL; rw [if_pos ⟨h4, h⟩]; omega
theorem lays_wt {w : World} {x : List LayV} {a : Option Addr} {n c : Nat} (h : Lays w x a n c) : ∀ q ∈ x, wtL q ≤ 281474976800000 := by
  intro q hq
  obtain ⟨i, hi, rfl⟩ := List.getElem_of_mem hq
  obtain ⟨b, off, cs, h1, ⟨rfl, h3, h4⟩, _, h5⟩ := h.here i hi
  have h6 := h3.big
  have h7 := h3.str
  unfold wtL
  split <;> omega
def greatG (x : List LayV) : Bool := decide (100 < x.length) || decide (9000 < gsum x)
theorem great_no (x : List LayV) (h : greatG x = false) : x.length ≤ 100 ∧ ∀ q ∈ x, q.lb ≤ 9000 ∧ q.s.size ≤ 9000 := by
  unfold greatG at h
  simp only [Bool.or_eq_false_iff, decide_eq_false_iff_not] at h
  refine ⟨by omega, fun q hq => ?_⟩
  have h1 := gsum_mem x q hq
  have h2 := wtL_pos q
  omega
set_option maxRecDepth 100000 in
set_option maxHeartbeats 3200000 in
theorem great_few (w : World) (x : List LayV) (a : Option Addr) (n c : Nat) (h : Lays w x a n c) (hn : n ≤ 100) :
    Calls Try.prog 11 #[.slice a n c] w fun e w' => e = .returned (.bool (greatG x)) ∧ Below w.heap.size w w' := by
  have nI : (n : Int) ≤ 140737488351232 := by have := h.big; have := h.cap; omega
  have HH := Lib.hid h
  have HWT := Lib.hid (lays_wt h)
  have HLN := Lib.hid h.len
  have HNI := Lib.hid hn
  have hnI : decide ((100 : Int) < (n : Int)) = false := by simp; omega
  have HG := Lib.hid (show greatG x = decide ((9000 : Int) < gsum x) by unfold greatG; rw [decide_eq_false (by rw [h.len]; omega)]; simp)
  rw [HG.out]
  clear h hn
  go_enter Try.func11, Try.ntmps11
  go_wp2_with fail
  go_loopw [3, 8] (fun v3 v8 wr => ∃ i : Nat, i ≤ n ∧ v8 = .int .i64 (i : Int) ∧ (v3 = .int .i64 (gsum (x.take i))) ∧ Below w.heap.size w wr) (fun _ v _ => n - (intOf v).toNat)
  case atStart => exact ⟨0, by omega, rfl, rfl, Below.refl _ _⟩
  case round =>
    obtain ⟨i, hi, rfl, rfl, hb⟩ := hrel
    by_cases hlt : i < n
    · obtain ⟨b, off, q, rfl, hxi, hok, _, hrg⟩ := lays_at HH.out hb hlt
      have hix := index_lay b off n c i hlt
      have hz := zero_lay
      have SWC := Lib.hid (size_lay q hok.hash)
      have SWR := Lib.hid (show (Try.prog.info? 32).map (·.size) = some (layRow q).toArray.size by rw [List.size_toArray]; exact size_lay q hok.hash)
      have EW := Lib.hid (show (layRow zeroLay).toArray.size = (layRow q).toArray.size by rw [List.size_toArray, List.size_toArray, layRow_length q hok.hash, layRow_length zeroLay (by decide)])
      have WO := Lib.hid (lay_one q)
      have HRG := Lib.hid hrg
      have HOK := Lib.hid hok
      have HLT := Lib.hid hlt
      have HB := Lib.hid hb
      have HXI := Lib.hid hxi
      have iI : (i : Int) < (n : Int) := by omega
      have i0 : (0 : Int) ≤ (i : Int) := by omega
      have hg0 := gsum_pos (x.take i)
      have hg1 : gsum (x.take i) ≤ 28147497680000000 := by
        have h1 := gsum_le x _ HWT.out i (by rw [HLN.out]; omega)
        have h2 : (i : Int) * 281474976800000 ≤ 100 * 281474976800000 := Int.mul_le_mul_of_nonneg_right (by have := HNI.out; omega) (by decide)
        omega
      have HNX := Lib.hid (gsum_next x i q hxi)
      generalize gsum (x.take i) = g at *
      generalize (layRow zeroLay).toArray = ZA at *
      clear hi hlt hok hrg hb hxi
      go_upto_region 5 with (first
        | (with_reducible refine wpList_load_mid (op := ⟨some 11, _, _, _, _, _⟩) rfl 32 _ rfl b (off + i * 37) rfl (layRow q) _ HRG.out Try.underlying32 rfl SWC.out ?_)
        | (with_reducible refine wpList_store_row (o := ⟨none, .store _ (.tmp 5) _, _, _, _, _⟩) rfl 32 _ _ rfl wr.heap.size (layRow q).toArray rfl rfl 32 ZA (heap_alloc_new wr _) SWR.out EW.out WO.out ?_))
      clear hix hz
      generalize hW7 : World.setRow _ wr.heap.size _ = W7
      have h7 : W7.heap[wr.heap.size]? = some (.cells (layRow q).toArray 32 (0, 0)) ∧ Below wr.heap.size wr W7 := by
        obtain ⟨e1, e2, e3⟩ := ygen_row (w := wr) (old := ZA) (cs := (layRow q).toArray) (T := 32)
        rw [← hW7]
        exact ⟨e1, e3⟩
      have HB7 := Lib.hid (HB.out.trans (h7.2.mono HB.out.size))
      obtain ⟨c0, c1, c2, c3, c4, _⟩ := lay_at h7.1 HOK.out.hash
      clear hW7 h7 HRG SWC EW WO HB
      generalize wr.heap.size = T at *
      have lbI : (q.lb : Int) ≤ 140737488351232 := by have := HOK.out.big; omega
      have sI : (q.s.size : Int) ≤ 140737488351232 := by have := HOK.out.str; omega
      by_cases k4 : q.kd = 4
      · rw [k4] at c0
        by_cases far : 65536 < q.sz
        · have hf : decide (q.sz ≤ 65536) = false := by simp; omega
          have HX := Lib.hid (wtL_far q far)
          clear k4 far
          go_wp2_with fail
          go_roundw
          case rel => exact ⟨i + 1, by have := HLT.out; omega, by go_num, by rw [HNX.out, HX.out], HB7.out⟩
          case measure => simp [intOf]; have := HLT.out; omega
        · have hf : q.sz ≤ 65536 := by omega
          by_cases neg : q.sz < 0
          · have HX := Lib.hid (wtL_neg q neg)
            have hmn : (q.sz : Int) ≤ 0 := by omega
            clear k4 far
            go_wp2_with fail
            all_goals
              go_roundw
              case rel => exact ⟨i + 1, by have := HLT.out; omega, by go_num, by rw [HNX.out, HX.out], HB7.out⟩
              case measure => simp [intOf]; have := HLT.out; omega
          · have hs0 : 0 ≤ q.sz := by omega
            have HX := Lib.hid (wtL_in q k4 hf hs0)
            clear k4 far neg
            go_wp2_with fail
            all_goals
              go_roundw
              case rel => exact ⟨i + 1, by have := HLT.out; omega, by go_num, by rw [HNX.out, HX.out]; congr 1; split <;> omega, HB7.out⟩
              case measure => simp [intOf]; have := HLT.out; omega
      · have hk : (q.kd == 4) = false := by simp [k4]
        have HX := Lib.hid (wtL_no4 q k4)
        clear k4
        go_wp2_with fail
        go_roundw
        case rel => exact ⟨i + 1, by have := HLT.out; omega, by go_num, by rw [HNX.out, HX.out], HB7.out⟩
        case measure => simp [intOf]; have := HLT.out; omega
    · obtain rfl : i = n := by omega
      have HB := Lib.hid hb
      rw [List.take_of_length_le (by rw [HLN.out]; omega)]
      generalize hgx : gsum x = g at *
      have HGX := Lib.hid hgx
      clear hi hlt hb hgx
      go_wp2_with fail
      go_ret
      exact ⟨by simp [HGX.out], HB.out⟩
set_option maxRecDepth 100000 in
set_option maxHeartbeats 3200000 in
theorem great_many (w : World) (x : List LayV) (a : Option Addr) (n c : Nat) (h : Lays w x a n c) (hn : 100 < n) :
    Calls Try.prog 11 #[.slice a n c] w fun e w' => e = .returned (.bool (greatG x)) ∧ Below w.heap.size w w' := by
  have nI : (n : Int) ≤ 140737488351232 := by have := h.big; have := h.cap; omega
  have HH := Lib.hid h
  have HWT := Lib.hid (lays_wt h)
  have HLN := Lib.hid h.len
  have hnI : (100 : Int) < (n : Int) := by omega
  have HG := Lib.hid (show greatG x = true by unfold greatG; rw [decide_eq_true (by rw [h.len]; omega)]; simp)
  rw [HG.out]
  clear h hn
  go_enter Try.func11, Try.ntmps11
  go_wp2_with fail
  go_loopw [3, 8] (fun v3 v8 wr => ∃ i : Nat, i ≤ n ∧ v8 = .int .i64 (i : Int) ∧ (∃ g : Int, v3 = .int .i64 g) ∧ Below w.heap.size w wr) (fun _ v _ => n - (intOf v).toNat)
  case atStart => exact ⟨0, by omega, rfl, ⟨0, rfl⟩, Below.refl _ _⟩
  case round =>
    obtain ⟨i, hi, rfl, ⟨g, rfl⟩, hb⟩ := hrel
    by_cases hlt : i < n
    · obtain ⟨b, off, q, rfl, hxi, hok, _, hrg⟩ := lays_at HH.out hb hlt
      have hix := index_lay b off n c i hlt
      have hz := zero_lay
      have SWC := Lib.hid (size_lay q hok.hash)
      have SWR := Lib.hid (show (Try.prog.info? 32).map (·.size) = some (layRow q).toArray.size by rw [List.size_toArray]; exact size_lay q hok.hash)
      have EW := Lib.hid (show (layRow zeroLay).toArray.size = (layRow q).toArray.size by rw [List.size_toArray, List.size_toArray, layRow_length q hok.hash, layRow_length zeroLay (by decide)])
      have WO := Lib.hid (lay_one q)
      have HRG := Lib.hid hrg
      have HOK := Lib.hid hok
      have HLT := Lib.hid hlt
      have HB := Lib.hid hb
      have HXI := Lib.hid hxi
      have iI : (i : Int) < (n : Int) := by omega
      have i0 : (0 : Int) ≤ (i : Int) := by omega
      generalize (layRow zeroLay).toArray = ZA at *
      clear hi hlt hok hrg hb hxi
      go_upto_region 5 with (first
        | (with_reducible refine wpList_load_mid (op := ⟨some 11, _, _, _, _, _⟩) rfl 32 _ rfl b (off + i * 37) rfl (layRow q) _ HRG.out Try.underlying32 rfl SWC.out ?_)
        | (with_reducible refine wpList_store_row (o := ⟨none, .store _ (.tmp 5) _, _, _, _, _⟩) rfl 32 _ _ rfl wr.heap.size (layRow q).toArray rfl rfl 32 ZA (heap_alloc_new wr _) SWR.out EW.out WO.out ?_))
      clear hix hz
      generalize hW7 : World.setRow _ wr.heap.size _ = W7
      have h7 : W7.heap[wr.heap.size]? = some (.cells (layRow q).toArray 32 (0, 0)) ∧ Below wr.heap.size wr W7 := by
        obtain ⟨e1, e2, e3⟩ := ygen_row (w := wr) (old := ZA) (cs := (layRow q).toArray) (T := 32)
        rw [← hW7]
        exact ⟨e1, e3⟩
      have HB7 := Lib.hid (HB.out.trans (h7.2.mono HB.out.size))
      obtain ⟨c0, c1, c2, c3, c4, _⟩ := lay_at h7.1 HOK.out.hash
      clear hW7 h7 HRG SWC EW WO HB
      generalize wr.heap.size = T at *
      have lbI : (q.lb : Int) ≤ 140737488351232 := by have := HOK.out.big; omega
      have sI : (q.s.size : Int) ≤ 140737488351232 := by have := HOK.out.str; omega
      by_cases k4 : q.kd = 4
      · rw [k4] at c0
        by_cases far : 65536 < q.sz
        · have hf : decide (q.sz ≤ 65536) = false := by simp; omega
          have HX := Lib.hid (wtL_far q far)
          clear k4 far
          go_wp2_with fail
          go_roundw
          case rel => exact ⟨i + 1, by have := HLT.out; omega, by go_num, ⟨_, rfl⟩, HB7.out⟩
          case measure => simp [intOf]; have := HLT.out; omega
        · have hf : q.sz ≤ 65536 := by omega
          by_cases neg : q.sz < 0
          · have HX := Lib.hid (wtL_neg q neg)
            have hmn : (q.sz : Int) ≤ 0 := by omega
            clear k4 far
            go_wp2_with fail
            all_goals
              go_roundw
              case rel => exact ⟨i + 1, by have := HLT.out; omega, by go_num, ⟨_, rfl⟩, HB7.out⟩
              case measure => simp [intOf]; have := HLT.out; omega
          · have hs0 : 0 ≤ q.sz := by omega
            have HX := Lib.hid (wtL_in q k4 hf hs0)
            clear k4 far neg
            go_wp2_with fail
            all_goals
              go_roundw
              case rel => exact ⟨i + 1, by have := HLT.out; omega, by go_num, ⟨_, rfl⟩, HB7.out⟩
              case measure => simp [intOf]; have := HLT.out; omega
      · have hk : (q.kd == 4) = false := by simp [k4]
        have HX := Lib.hid (wtL_no4 q k4)
        clear k4
        go_wp2_with fail
        go_roundw
        case rel => exact ⟨i + 1, by have := HLT.out; omega, by go_num, ⟨_, rfl⟩, HB7.out⟩
        case measure => simp [intOf]; have := HLT.out; omega
    · obtain rfl : i = n := by omega
      have HB := Lib.hid hb
      clear hi hlt hb
      go_wp2_with fail
      go_ret
      exact ⟨by simp, HB.out⟩
theorem great_any (w : World) (x : List LayV) (a : Option Addr) (n c : Nat) (h : Lays w x a n c) :
    Calls Try.prog 11 #[.slice a n c] w fun e w' => e = .returned (.bool (greatG x)) ∧ Below w.heap.size w w' := by
  by_cases hn : n ≤ 100
  · exact great_few w x a n c h hn
  · exact great_many w x a n c h (by omega)
end Go.Proofs.Ytclahpmghifehaa
