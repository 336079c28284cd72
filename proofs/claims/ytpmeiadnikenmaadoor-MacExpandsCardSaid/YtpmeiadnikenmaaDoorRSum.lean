/-
  The reference's hash of bytes at once.
-/
import Derived.Test.YtpmeiadnikenmaaDoorWith2
import Derived.Test.YtpmeiadnikenmaaDoorRHex
namespace Go.Proofs.YtpmeiadnikenmaaDoor
open Go.RowKit

set_option maxRecDepth 100000 in
set_option maxHeartbeats 800000 in
theorem rsum_any (l : List Int) (v : Value) (w : World) (hv : BS w v l) (hn : l.length ≤ 1000000) :
    Calls Tryd.prog 14 #[v] w fun e w' => e = .returned (.agg (u8s (hashS l))) ∧ Below w.heap.size w w' := by
  have HV := Lib.hid hv
  have HN := Lib.hid hn
  have SH := Lib.hid (size_h32 (hashS l) (hashS_length l))
  have SE := Lib.hid (show (u8s (List.replicate 32 0)).size = (u8s (hashS l)).size by rw [u8s_size, u8s_size, hashS_length]; rfl)
  clear hv hn
  go_enter Tryd.func14, Tryd.ntmps14
  go_wp2_with fail
  refine (made_any _).mono ?_
  rintro e w1 ⟨⟨g1, c1, g2, c2, rfl, hM⟩, hb1⟩
  have hR := (hb1.block w.heap.size (by simp)).trans (heap_alloc_new w (.cells (u8s (List.replicate 32 0)) 24))
  have hB1 := ((Below.refl w.heap.size w).alloc (Nat.le_refl _) (.cells (u8s (List.replicate 32 0)) 24)).trans (hb1.mono (by simp))
  have HW := Lib.hid (rwith_any l v g1 c1 g2 c2 w1 hM (HV.out.kept hB1) HN.out)
  have HR1 := Lib.hid (show w1.heap[w.heap.size]? = some (.cells (u8s (List.replicate 32 0)) 24 (0, 0)) from hR)
  have HB1 := Lib.hid hB1
  clear hR hB1 hb1 hM
  go_wp2_with fail
  refine HW.out.mono ?_
  rintro e w2 ⟨rfl, hb2⟩
  have HR2 := Lib.hid ((hb2.block _ (lt_of_block HR1.out)).trans HR1.out)
  have HB2 := Lib.hid (HB1.out.trans (hb2.mono HB1.out.size))
  clear hb2
  go_wp2_with (first
    | (with_reducible refine wpList_store_row (o := ⟨none, .store _ (.tmp 2) _, _, _, _, _⟩) rfl 24 _ _ rfl w.heap.size (u8s (hashS l)) rfl rfl 24 (u8s (List.replicate 32 0)) HR2.out SH.out SE.out (u8s_one _) ?_))
  refine bodyPost_ret (v := .agg (u8s (hashS l))) (results_cell_row Tryd.results14 _ _ w.heap.size 24 (u8s (hashS l)) (0, 0) _ rfl (setRow_heap _ w.heap.size _ _ _ _ HR2.out) Tryd.underlying24 rfl SH.out) rfl ⟨rfl, ?_⟩
  exact below_setRow HB2.out (Nat.le_refl _) _
end Go.Proofs.YtpmeiadnikenmaaDoor
