/-
  read, of a hash; any act.
-/
import Derived.Test.YtclahpmghifehaaRead
namespace Go.Proofs.Ytclahpmghifehaa
open Go.RowKit

set_option maxRecDepth 100000 in
set_option maxHeartbeats 3200000 in
theorem read_hash (w0 w : World) (R1 R2 : Nat) (l : List Int) (q : LayV) (h : RP w0 w R1 R2 l l) (hq : q.h.length = 32) (k2 : q.kd = 2) :
    Calls Try.prog 17 #[.pointer (some ⟨R1, 0, none⟩), .pointer (some ⟨R2, 0, none⟩), .agg (layRow q).toArray] w fun e w' => e = .returned (.bool true) ∧ RP w0 w' R1 R2 (readL q l) (readL q l) := by
  have hb0 := (Below.refl w.heap.size w).alloc (Nat.le_refl _) (.cells (layRow q).toArray 32)
  have hAt := lay_at (heap_alloc_new w (.cells (layRow q).toArray 32)) hq
  have h1 := h.below hb0
  rw [show readL q l = (hashA l).2.2 by unfold readL; rw [if_neg (by omega), if_pos k2]]
  have HS := Lib.hid (rp_hash1 h1)
  have hok := hashA_ok l h.byt
  have HLT := Lib.hid (show R2 < w.heap.size by obtain ⟨a, x, c, hr⟩ := h.r2; exact (Array.getElem?_eq_some_iff.1 hr.cell).1)
  obtain ⟨kd, sz, n, s, hh, ab, lb, cb, bl⟩ := q
  dsimp only at k2 hAt HS ⊢
  subst k2
  obtain ⟨c0, c1, c2, c3, c4, _⟩ := hAt
  generalize (layRow _).toArray = AR at *
  have H2 := Lib.hid (fun (w1 : World) (h2 : RP w0 w1 R1 R2 (hashA l).2.2 l) => rp_hash2 h2)
  generalize hashA l = S at *
  obtain ⟨x, er, l'⟩ := S
  dsimp only at hok HS H2 ⊢
  have HEQ := Lib.hid (fun W => eq8_hash x hok.1 hok.2 W)
  have SH := Lib.hid (size_hash7 x hok.1)
  have WO := Lib.hid (i8s_one x)
  have EZ := Lib.hid (show (i8s (List.replicate 32 0)).size = (i8s x).size by rw [i8s_size, i8s_size, hok.1]; simp)
  have hzh := zero_hash7
  generalize i8s x = X at *
  generalize i8s (List.replicate 32 0) = Z at *
  clear h hq hb0 h1 hok
  go_enter Try.func17, Try.ntmps17
  go_wp2_with fail
  refine HS.out.mono ?_
  rintro e w1 ⟨rfl, h1⟩
  have HR1 := Lib.hid h1
  have HSZ := Lib.hid (show R2 < w1.heap.size by obtain ⟨a, x, c, hr⟩ := h1.r2; exact (Array.getElem?_eq_some_iff.1 hr.cell).1)
  clear h1 HS c0 c1 c2 c3 c4
  go_upto_region 8 with (first
    | (with_reducible refine wpList_store_row (o := ⟨none, .store _ (.tmp 11) _, _, _, _, _⟩) rfl 30 _ _ rfl w1.heap.size X rfl rfl 30 Z (heap_alloc_new w1 _) SH.out EZ.out WO.out ?_))
  generalize hW2 : World.setRow _ w1.heap.size _ = w2
  have h2 : w2.heap[w1.heap.size]? = some (.cells X 30 (0, 0)) ∧ Below w1.heap.size w1 w2 := by
    obtain ⟨e1, e2, e3⟩ := ygen_row (w := w1) (old := Z) (cs := X) (T := 30)
    rw [← hW2]
    exact ⟨e1, e3⟩
  have HT := Lib.hid (H2.out w2 (HR1.out.below h2.2))
  have HX2 := Lib.hid h2.1
  clear hW2 h2 HR1 H2
  generalize w1.heap.size = B1 at *
  go_wp2_with fail
  refine HT.out.mono ?_
  rintro e w3 ⟨rfl, h3, hc3⟩
  have HX3 := Lib.hid (show w3.heap[B1]? = some (.cells X 30 (0, 0)) from (hc3.block B1 (Array.getElem?_eq_some_iff.1 HX2.out).1 (by have := HSZ.out; omega)).trans HX2.out)
  have HR3 := Lib.hid h3
  clear h3 hc3 HT HX2
  go_upto_region 9 with (first
    | (with_reducible refine wpList_store_row (o := ⟨none, .store _ (.tmp 13) _, _, _, _, _⟩) rfl 30 _ _ rfl w3.heap.size X rfl rfl 30 Z (heap_alloc_new w3 _) SH.out EZ.out WO.out ?_))
  generalize hW4 : World.setRow _ w3.heap.size _ = w4
  have h4 : w4.heap[w3.heap.size]? = some (.cells X 30 (0, 0)) ∧ Below w3.heap.size w3 w4 := by
    obtain ⟨e1, e2, e3⟩ := ygen_row (w := w3) (old := Z) (cs := X) (T := 30)
    rw [← hW4]
    exact ⟨e1, e3⟩
  have HX4 := Lib.hid (show w4.heap[B1]? = some (.cells X 30 (0, 0)) from (h4.2.block B1 (Array.getElem?_eq_some_iff.1 HX3.out).1).trans HX3.out)
  have HY4 := Lib.hid h4.1
  have HR4 := Lib.hid (HR3.out.below h4.2)
  have heq := HEQ.out
  clear hW4 h4 HR3 HX3 hzh HEQ
  go_wp2_with (first
    | (with_reducible refine wpList_load_row (o := ⟨some 57, _, _, _, _, _⟩) rfl 30 _ rfl B1 rfl 30 X (0, 0) _ HX4.out Try.underlying30 rfl SH.out ?_)
    | (with_reducible refine wpList_load_row (o := ⟨some 58, _, _, _, _, _⟩) rfl 30 _ rfl w3.heap.size rfl 30 X (0, 0) _ HY4.out Try.underlying30 rfl SH.out ?_))
  go_ret
  exact ⟨by simp, HR4.out⟩
theorem read_any (w0 w : World) (R1 R2 : Nat) (l : List Int) (q : LayV) (h : RP w0 w R1 R2 l l) (hq : q.h.length = 32) (hz : q.sz ≤ 9223372036854775807) :
    Calls Try.prog 17 #[.pointer (some ⟨R1, 0, none⟩), .pointer (some ⟨R2, 0, none⟩), .agg (layRow q).toArray] w fun e w' => e = .returned (.bool true) ∧ RP w0 w' R1 R2 (readL q l) (readL q l) := by
  by_cases k1 : q.kd = 1
  · exact read_str w0 w R1 R2 l q h hq k1
  · by_cases k2 : q.kd = 2
    · exact read_hash w0 w R1 R2 l q h hq k2
    · by_cases k3 : q.kd = 3
      · exact read_raw w0 w R1 R2 l q h hq hz k3
      · by_cases k4 : q.kd = 4
        · exact read_end w0 w R1 R2 l q h hq k4
        · exact read_num w0 w R1 R2 l q h hq hz k1 k2 k3 k4
end Go.Proofs.Ytclahpmghifehaa
