/-
  Codes under a key: a key as a block.
-/
import Derived.Test.YtpmeiadnikenmaaDoorTwo
import Derived.Test.YtpmeiadnikenmaaDoorOne
namespace Go.Proofs.YtpmeiadnikenmaaDoor
open Go.RowKit

/-- A key, or its hash if it is long. -/
def keyS (l : List Int) : List Int := if 64 < l.length then hashS l else l
/-- A key as a block. -/
def keyB (l : List Int) : List Int := keyS l ++ List.replicate (64 - (keyS l).length) 0
theorem keyS_length (l : List Int) : (keyS l).length ≤ 64 := by
  unfold keyS
  split
  · rw [hashS_length]; omega
  · omega
theorem keyB_length (l : List Int) : (keyB l).length = 64 := by
  have := keyS_length l
  simp [keyB]; omega
theorem keyS_byt (l : List Int) (h : Byt l) : Byt (keyS l) := by
  unfold keyS
  split
  · exact hashS_byt l
  · exact h
theorem byt_app {a b : List Int} (h1 : Byt a) (h2 : Byt b) : Byt (a ++ b) := fun z hz => (List.mem_append.1 hz).elim (h1 z) (h2 z)
theorem byt_zeros (n : Nat) : Byt (List.replicate n 0) := fun z hz => by obtain ⟨_, rfl⟩ := List.mem_replicate.1 hz; omega
theorem keyB_byt (l : List Int) (h : Byt l) : Byt (keyB l) := byt_app (keyS_byt l h) (byt_zeros _)
theorem splice_front (k : List Int) (n : Nat) : splice (u8s (List.replicate n 0)).toList 0 (u8s k).toList = (u8s (k ++ List.replicate (n - k.length) 0)).toList := by
  unfold splice u8s
  simp
theorem slice_all32 (g : Nat) (W : World) : (Instr.sliceAt 24 (.pointer (some ⟨g, 0, none⟩)) none none none).run Tryd.prog W = .ok (.slice (some ⟨g, 0, none⟩) 32 32) W := by
  obtain ⟨i0, hi, _⟩ := Option.map_eq_some_iff.1 one_u8
  simp [Instr.sliceAt, run_underlying Tryd.underlying24, Instr.sureAddr, Instr.sliceBounds, sizeOf, typeInfo, hi, Addr.add_mid]
/-- What a copy of bytes takes. -/
theorem BS.source {w : World} {a : Option Addr} {n c : Nat} {l : List Int} (h : BS w (.slice a n c) l) : 0 < (u8s l).toList.length → ∃ ad, a = some ad ∧ ∀ j v, (u8s l).toList[j]? = some v → w.cell? (ad.add j) = some v := by
  intro hp
  rw [Array.length_toList, u8s_size] at hp
  obtain ⟨a', cap', he, hy, hn, hc⟩ := h
  injection he with e1 e2 e3
  subst e1
  rcases hc with hc | ⟨b, off, rfl, hc⟩
  · subst hc; simp at hp
  · refine ⟨⟨b, off, none⟩, rfl, fun j v hv => ?_⟩
    have hj : j < l.length := by
      have := (List.getElem?_eq_some_iff.1 hv).1
      rwa [Array.length_toList, u8s_size] at this
    rw [Array.getElem?_toList, u8s_at l j hj] at hv
    rw [Addr.add_mid, hc j hj]; exact hv
theorem u8s_one' (l : List Int) : ∀ v ∈ (u8s l).toList, v.oneCell' = true := fun v hv => (Array.all_eq_true_iff_forall_mem.1 (u8s_one l)) v (by simpa using hv)

set_option maxRecDepth 100000 in
set_option maxHeartbeats 1600000 in
theorem blockOf_any (l : List Int) (v : Value) (w : World) (hK : KT w) (hv : BS w v l) (hr : Room v) (hn : l.length ≤ 10000000) :
    Calls Tryd.prog 54 #[v] w fun e w' => e = .returned (.agg (u8s (keyB l))) ∧ Below w.heap.size w w' := by
  have HV := Lib.hid (And.intro hv hr)
  obtain ⟨a, cap, rfl, _, _, _⟩ := hv
  have HSUM := Lib.hid (fun (W : World) (hb : Below w.heap.size w W) => shasum_any l (.slice a l.length cap) W (hK.below hb hK.pos) (HV.out.1.kept hb) hr hn)
  have HKL := Lib.hid (keyS_length l)
  have nI : (l.length : Int) ≤ 10000000 := by omega
  have HNL := Lib.hid hn
  have sa := slice_all32
  have sb := slice_all64
  clear hr hK hn
  go_enter Tryd.func54, Tryd.ntmps54
  go_upto_if 7 with (fail)
  have h1 : ((w.alloc (.cells (u8s (List.replicate 64 0)) 58)).alloc (.cells (u8s (List.replicate 64 0)) 58)).heap[w.heap.size]? = some (.cells (u8s (List.replicate 64 0)) 58 (0, 0)) := heap_alloc2_old w _ _
  have h2 : ((w.alloc (.cells (u8s (List.replicate 64 0)) 58)).alloc (.cells (u8s (List.replicate 64 0)) 58)).heap[w.heap.size + 1]? = some (.cells (u8s (List.replicate 64 0)) 58 (0, 0)) := heap_alloc2_new w _ _
  have hb1 : Below w.heap.size w ((w.alloc (.cells (u8s (List.replicate 64 0)) 58)).alloc (.cells (u8s (List.replicate 64 0)) 58)) := ((Below.refl w.heap.size w).alloc (Nat.le_refl _) _).alloc (by simp) _
  have hz1 : ((w.alloc (.cells (u8s (List.replicate 64 0)) 58)).alloc (.cells (u8s (List.replicate 64 0)) 58)).heap.size = w.heap.size + 2 := by simp
  obtain ⟨W1, hW1⟩ : ∃ W1, W1 = ((w.alloc (.cells (u8s (List.replicate 64 0)) 58)).alloc (.cells (u8s (List.replicate 64 0)) 58)) := ⟨_, rfl⟩
  rw [← hW1] at h1 h2 hb1 hz1
  have HW1 := Lib.hid h1
  have HW2 := Lib.hid h2
  have HB1 := Lib.hid hb1
  have HZ1 := Lib.hid hz1
  refine (show ∀ W2 : World, W2 = W1 → _ from ?_) _ hW1.symm
  intro W2 e2
  subst e2
  clear hW1 h1 h2 hb1 hz1
  go_cut [0] (fun v0 w1 => BS w1 v0 (keyS l) ∧ Room v0 ∧ Below w.heap.size w w1 ∧ w1.heap[w.heap.size]? = some (.cells (u8s (List.replicate 64 0)) 58 (0, 0)) ∧ w1.heap[w.heap.size + 1]? = some (.cells (u8s (List.replicate 64 0)) 58 (0, 0)))
  case first =>
    by_cases h64 : 64 < l.length
    · have hI : (64 : Int) < (l.length : Int) := by omega
      have HE := Lib.hid (show keyS l = hashS l from if_pos h64)
      clear h64
      go_wp2_with fail
      refine (HSUM.out _ HB1.out).mono ?_
      rintro e w2 ⟨rfl, hb2⟩
      have SH := Lib.hid (size_h32 (hashS l) (hashS_length l))
      have SE := Lib.hid (show (u8s (List.replicate 32 0)).size = (u8s (hashS l)).size by rw [u8s_size, u8s_size, hashS_length]; rfl)
      have HB2 := Lib.hid hb2
      clear hb2
      go_wp2_with (first
        | (with_reducible refine wpList_store_row (o := ⟨none, .store _ (.tmp 4) _, _, _, _, _⟩) rfl 24 _ _ rfl w2.heap.size (u8s (hashS l)) rfl rfl 24 _ (heap_alloc_new w2 _) SH.out ?c1 (u8s_one _) ?_))
      case c1 => exact SE.out
      generalize hW3 : World.setRow _ w2.heap.size _ = W3
      obtain ⟨r3, z3, b3⟩ := fresh_row w2 (u8s (List.replicate 32 0)) (u8s (hashS l)) 24 W3 hW3.symm
      clear hW3
      have hbs := BS.of_arr (show ArrB W3 w2.heap.size 24 (hashS l) from r3) (hashS_byt l)
      rw [hashS_length] at hbs
      have HBS := Lib.hid hbs
      have B13 := Lib.hid (HB2.out.trans (b3.mono HB2.out.size))
      clear r3 z3 b3 hbs
      go_meet
      have z := HZ1.out
      refine ⟨by rw [HE.out]; exact HBS.out, room_of _ _ _ (by omega) (by omega), HB1.out.trans (B13.out.mono HB1.out.size), (B13.out.block _ (by omega)).trans HW1.out, (B13.out.block _ (by omega)).trans HW2.out⟩
    · have hI : (l.length : Int) ≤ 64 := by omega
      have HE := Lib.hid (show keyS l = l from if_neg h64)
      clear h64
      go_wp2_with fail
      go_meet
      exact ⟨by rw [HE.out]; exact HV.out.1.kept HB1.out, HV.out.2, HB1.out, HW1.out, HW2.out⟩
  case rest =>
    obtain ⟨hB, hR, hbel, hz2, hz3⟩ := hcut
    rename_i v0 w5
    obtain ⟨a0, cap0, hv0, _, _, _⟩ := id hB
    subst hv0
    have HSRC := Lib.hid hB.source
    have HBEL := Lib.hid hbel
    have HZ2 := Lib.hid hz2
    have HZ3 := Lib.hid hz3
    have hlc : (keyS l).length ≤ cap0 := (hR _ _ _ rfl).1
    have hkl := HKL.out
    have S64 := Lib.hid (size_b64 (keyB l) (keyB_length l))
    have HNE := Lib.hid (show w.heap.size ≠ w.heap.size + 1 by omega)
    clear hB hR hbel hz2 hz3
    generalize hk : keyS l = k at *
    go_wp2_with (first
      | (with_reducible refine wpList_copy_splice (o := ⟨some 13, _, _, _, _, _⟩) rfl (.tmp 11) (.tmp 12) 22 22 rfl 5 Tryd.underlying22 one_u8 (some ⟨w.heap.size + 1, 0, none⟩) a0 64 64 k.length cap0 rfl rfl (w.heap.size + 1) 0 (u8s (List.replicate 64 0)).toList 58 HZ3.out (u8s k).toList ?c1 ?c2 ?c3 (u8s_one' _) (w.heap.size + 1) wc (Below.refl _ _) (Nat.le_refl _) ?_))
    case c1 => rw [Array.length_toList, u8s_size]; exact (Nat.min_eq_left HKL.out).symm
    case c2 =>
      intro hp
      obtain ⟨ad, h1, h2⟩ := HSRC.out (by simpa using hp)
      exact ⟨ad, h1, fun j v hv => h2 j v (by rw [Array.getElem?_toList]; exact hv)⟩
    case c3 => rw [Array.length_toList, Array.length_toList, u8s_size, u8s_size, List.length_replicate]; have := HKL.out; omega
    intro w6 hrow hbel6
    have hrow : w6.heap[w.heap.size + 1]? = some (.cells (splice (u8s (List.replicate 64 0)).toList 0 (u8s k).toList).toArray 58 (0, 0)) := hrow.out
    rw [splice_front, Array.toArray_toList] at hrow
    have hkb : keyB l = k ++ List.replicate (64 - k.length) 0 := by unfold keyB; rw [hk]
    rw [← hkb] at hrow
    have HROW := Lib.hid (show w6.heap[w.heap.size + 1]? = some (.cells (u8s (keyB l)) 58 (0, 0)) from hrow)
    have HB6 := Lib.hid (HBEL.out.trans (hbel6.mono (Nat.le_succ _)))
    have HR6 := Lib.hid (show w6.heap[w.heap.size]? = some (.cells (u8s (List.replicate 64 0)) 58 (0, 0)) from (hbel6.block _ (Nat.lt_succ_self _)).trans HZ2.out)
    clear hrow hbel6 hkb
    go_wp2_with (first
      | (with_reducible refine wpList_load_row (o := ⟨some 14, _, _, _, _, _⟩) rfl 58 _ rfl (w.heap.size + 1) rfl 58 (u8s (keyB l)) (0, 0) _ HROW.out Tryd.underlying58 rfl S64.out ?_)
      | (with_reducible refine wpList_store_row (o := ⟨none, .store _ (.tmp 2) _, _, _, _, _⟩) rfl 58 _ _ rfl w.heap.size (u8s (keyB l)) rfl rfl 58 (u8s (List.replicate 64 0)) HR6.out S64.out ?c5 (u8s_one _) ?_))
    case c5 => rw [u8s_size, u8s_size, keyB_length, List.length_replicate]
    refine bodyPost_ret (v := .agg (u8s (keyB l))) (results_cell_row Tryd.results54 _ _ w.heap.size 58 (u8s (keyB l)) (0, 0) _ rfl (setRow_heap _ w.heap.size _ _ _ _ HR6.out) Tryd.underlying58 rfl S64.out) rfl ⟨rfl, ?_⟩
    exact below_setRow HB6.out (Nat.le_refl _) _
end Go.Proofs.YtpmeiadnikenmaaDoor
