/-
  Codes under a key: a message's code, whether a code fits, a key's key.
-/
import Derived.Test.YtpmeiadnikenmaaDoorCode
import Derived.Lib.ConvBytes
import Derived.Laws.AppendOwn
namespace Go.Proofs.YtpmeiadnikenmaaDoor
open Go.RowKit

set_option maxRecDepth 100000 in
set_option maxHeartbeats 1600000 in
theorem mac_any (k m : List Int) (v u : Value) (w : World) (hK : KT w) (hv : BS w v k) (hr : Room v) (hu : BS w u m) (hs : Room u) (hn : k.length ≤ 9000000) (hm : m.length ≤ 9000000) :
    Calls Tryd.prog 25 #[v, u] w fun e w' => e = .returned (.agg (u8s (macS k m))) ∧ Below w.heap.size w w' := by
  have HC := Lib.hid (fun W (hb : Below w.heap.size w W) => coder_any k v W (hK.below hb hK.pos) (hv.kept hb) hr (by omega))
  have HK := Lib.hid hK
  have HU := Lib.hid (And.intro hu hs)
  have HN := Lib.hid hm
  obtain ⟨au, cu, rfl, _, _, _⟩ := id hu
  clear hv hr hu hs hn hm hK
  go_enter Tryd.func25, Tryd.ntmps25
  go_wp2_with fail
  refine (HC.out _ ((Below.refl _ _).alloc (Nat.le_refl _) _)).mono ?_
  rintro e w1 ⟨⟨f, B, D, F, rfl, hC⟩, hb1⟩
  obtain rfl := hC.val
  have hb01 := ((Below.refl w.heap.size w).alloc (Nat.le_refl _) (.cells (u8s (List.replicate 32 0)) 24)).trans (hb1.mono (by simp))
  have HR1 := Lib.hid ((hb1.block w.heap.size (by simp)).trans (heap_alloc_new w _))
  have HZ1 := Lib.hid (show w.heap.size < w1.heap.size by have := hb1.size; simp at this; omega)
  have hbd := (Below.refl w1.heap.size w1).alloc (Nat.le_refl _) (.cells #[.slice au m.length cu] 22)
  have hP : Parts (w1.alloc (.cells #[.slice au m.length cu] 22)) w1.heap.size (fun _ => .slice au m.length cu) [m] := by
    refine ⟨fun i hi => ?_, fun i hi => ?_, fun i hi => HU.out.2⟩
    · obtain rfl : i = 0 := by simpa using hi
      exact cell_of_row _ _ 0 _ _ _ (heap_alloc_new w1 _)
    · obtain rfl : i = 0 := by simpa using hi
      exact (HU.out.1.kept hb01).kept hbd
  have hmac := coder2_any k [m] w1.heap.size 1 (fun _ => .slice au m.length cu) _ B D F _ ((HK.out.below hb01 HK.out.pos).below hbd (by have := HZ1.out; omega)) (hC.kept hbd) hP (by simpa using HN.out) (by simp)
  rw [show [m].flatten = m by simp] at hmac
  have HM := Lib.hid hmac
  have HBD := Lib.hid (hb01.trans (hbd.mono hb01.size))
  have HW := Lib.hid hbd
  clear hC hb1 hb01 hbd hP hmac
  go_wp2_with fail
  refine HM.out.mono ?_
  rintro e w2 ⟨rfl, hb2⟩
  have HR2 := Lib.hid (show w2.heap[w.heap.size]? = some (.cells (u8s (List.replicate 32 0)) 24 (0, 0)) from (hb2.block _ (by simp; have := HZ1.out; omega)).trans ((HW.out.block _ HZ1.out).trans HR1.out))
  have HB2 := Lib.hid (HBD.out.trans (hb2.mono HBD.out.size))
  have SH := Lib.hid (size_h32 (macS k m) (macS_length _ _))
  have SE := Lib.hid (show (u8s (List.replicate 32 0)).size = (u8s (macS k m)).size by rw [u8s_size, u8s_size, macS_length]; rfl)
  clear hb2
  go_wp2_with (first
    | (with_reducible refine wpList_store_row (o := ⟨none, .store _ (.tmp 4) _, _, _, _, _⟩) rfl 24 _ _ rfl w.heap.size (u8s (macS k m)) rfl rfl 24 (u8s (List.replicate 32 0)) HR2.out SH.out SE.out (u8s_one _) ?_))
  refine bodyPost_ret (v := .agg (u8s (macS k m))) (results_cell_row Tryd.results25 _ _ w.heap.size 24 (u8s (macS k m)) (0, 0) _ rfl (setRow_heap _ w.heap.size _ _ _ _ HR2.out) Tryd.underlying24 rfl SH.out) rfl ⟨rfl, ?_⟩
  exact below_setRow HB2.out (Nat.le_refl _) _

theorem u8s_inj {a b : List Int} (h : u8s a = u8s b) : a = b := by
  unfold u8s at h
  have h2 := congrArg Array.toList h
  simp only at h2
  refine List.map_inj_right (fun x y e => ?_) |>.1 h2
  injection e
theorem eq_hash (x y : List Int) (hx : x.length = 32) (hy : y.length = 32) (bx : Byt x) (by' : Byt y) (w : World) : (Op.equalIn 10000 24 (.agg (u8s x)) (.agg (u8s y))).run Tryd.prog w = .ok (decide (x = y)) w := by
  obtain ⟨i0, hi, hs⟩ := Option.map_eq_some_iff.1 one_u8
  have key : ∀ l : List Int, Byt l → u8s l = ((l.map fun n => UInt8.ofNat n.toNat).map Extern.Stop.cell).toArray := by
    intro l hl
    unfold u8s
    rw [List.map_map]
    congr 1
    apply List.map_congr_left
    intro z hz
    have := hl z hz
    simp only [Function.comp, Extern.Stop.cell]
    congr 1
    simp
    omega
  rw [key x bx, key y by', run_equalIn_bytes w 9998 24 5 32 Tryd.underlying24 Tryd.underlying5 (fun w => by simp [sizeOf, typeInfo, hi, hs]) _ _ (by simpa using hx) (by simpa using hy)]
  by_cases h : x = y
  · subst h; simp
  · have hne : ¬ (x.map fun n => UInt8.ofNat n.toNat) = y.map fun n => UInt8.ofNat n.toNat := by
      intro e
      apply h
      have h2 : u8s x = u8s y := by rw [key x bx, key y by', e]
      exact u8s_inj h2
    simp [h, hne]

set_option maxRecDepth 100000 in
set_option maxHeartbeats 1600000 in
theorem fits_any (k m x : List Int) (v u : Value) (w : World) (hK : KT w) (hv : BS w v k) (hr : Room v) (hu : BS w u m) (hs : Room u) (hn : k.length ≤ 9000000) (hm : m.length ≤ 9000000) (hx : x.length = 32) (hy : Byt x) :
    Calls Tryd.prog 26 #[v, u, .agg (u8s x)] w fun e w' => e = .returned (.bool (decide (macS k m = x))) ∧ Below w.heap.size w w' := by
  have HM := Lib.hid (fun W (hb : Below w.heap.size w W) => mac_any k m v u W (hK.below hb hK.pos) (hv.kept hb) hr (hu.kept hb) hs hn hm)
  have hq := eq_hash (macS k m) x (macS_length _ _) hx (macS_byt _ _) hy
  have hiX : (Tryd.prog.info? 24).map (·.size) = some (u8s x).toList.length := by rw [info_h32, Array.length_toList, u8s_size, hx]
  clear hv hr hu hs hn hm hK hx hy
  go_enter Tryd.func26, Tryd.ntmps26
  go_wp2_with fail
  have hX : ArrB (w.alloc (.cells (u8s x) 24)) w.heap.size 24 x := heap_alloc_new w _
  have hB := (Below.refl w.heap.size w).alloc (Nat.le_refl _) (.cells (u8s x) 24)
  have hL : w.heap.size < (w.alloc (.cells (u8s x) 24)).heap.size := by simp
  generalize w.alloc (.cells (u8s x) 24) = W1 at *
  have HX := Lib.hid hX
  have HB1 := Lib.hid hB
  have HXL := Lib.hid hL
  have hu := Tryd.underlying24
  clear hX hB hL
  refine wp_region_noPanic ?_
  refine wp_region_held_drew (S := fun w' => w'.rangeAt w.heap.size 0 (u8s x).toList) (by kernel_rfl) HX.out.range (fun hHeld => ?_)
  refine wpAnyH_take (i := 0) (oi := ⟨some 7, _, _, _, _, _⟩) (v := ?_) rfl (by kernel_rfl) (by decide +kernel) (by decide +kernel) (fun _ _ _ h => h) (Or.inl ⟨by rfl, ?_⟩) (by assumption) ?_
  rotate_left 1
  · (intro w' hSw; go_simp; try with_reducible rfl)
  try simp only [Act.put, List.setIfInBounds_toArray, List.set_cons_zero, List.set_cons_succ]
  refine wpAnyH_take (i := 1) (oi := ⟨some 8, _, _, _, _, _⟩) (v := ?_) rfl (by kernel_rfl) (by decide +kernel) (by decide +kernel) (fun _ _ _ h => h) (Or.inl ⟨by rfl, ?_⟩) (by assumption) ?_
  rotate_left 1
  · (intro w' hSw; go_simp; try with_reducible rfl)
  try simp only [Act.put, List.setIfInBounds_toArray, List.set_cons_zero, List.set_cons_succ]
  refine wpAnyH_take (i := 3) (oi := ⟨some 10, _, _, _, _, _⟩) rfl (by kernel_rfl) (by decide +kernel) (by decide +kernel) (fun _ _ _ h => h) (yieldsIf_load_mid (by rfl) _ _ rfl (w.heap.size) 0 rfl (u8s x).toList _ (fun w' h => h) hu rfl hiX) (by assumption) ?_
  try simp only [Act.put, List.setIfInBounds_toArray, List.set_cons_zero, List.set_cons_succ, Array.toArray_toList]
  refine wpAnyH_ready (rs := [2]) (by decide +kernel) (by simp) ?_
  refine AllReadyH.cons rfl (fun K hK => ?_) AllReadyH.nil
  go_simp
  go_at_call 25
  refine (HM.out _ (HB1.out.drew)).mono ?_
  rintro e w2 ⟨rfl, hb2⟩
  have HB2 := Lib.hid (HB1.out.drew.trans (hb2.mono HB1.out.size))
  have HX2 := Lib.hid (HX.out.below (show Below W1.heap.size W1 w2 from (Below.refl W1.heap.size W1).drew.trans hb2) HXL.out)
  clear hb2
  go_wp2_with fail
  refine hK.out _ _ (HX2.out.range) (fun hHeld => ?_)
  clear hK K
  try simp only [Act.put, List.setIfInBounds_toArray, List.set_cons_zero, List.set_cons_succ]
  refine wpAnyH_take (i := 4) (oi := ⟨some 11, _, _, _, _, _⟩) (v := ?_) rfl (by kernel_rfl) (by decide +kernel) (by decide +kernel) (fun _ _ _ h => h) (Or.inl ⟨by rfl, ?_⟩) (by assumption) ?_
  rotate_left 1
  · (intro w' hSw; go_simp; try with_reducible rfl)
  try simp only [Act.put, List.setIfInBounds_toArray, List.set_cons_zero, List.set_cons_succ]
  refine wpAnyH_take (i := 5) (oi := ⟨some 6, _, _, _, _, _⟩) (v := ?_) rfl (by kernel_rfl) (by decide +kernel) (by decide +kernel) (fun _ _ _ h => h) (Or.inl ⟨by rfl, ?_⟩) (by assumption) ?_
  rotate_left 1
  · (intro w' hSw; go_simp; try with_reducible rfl)
  try simp only [Act.put, List.setIfInBounds_toArray, List.set_cons_zero, List.set_cons_succ]
  refine wpAnyH_done (by decide +kernel) ?_ _
  refine NoPanic.normal ?_
  go_wp2_with fail
  go_ret
  exact ⟨rfl, HB2.out⟩

/-- A text's bytes. -/
def txt (s : ByteArray) : List Int := s.data.toList.map fun b => (b.toNat : Int)
theorem txt_length (s : ByteArray) : (txt s).length = s.size := by rw [txt, List.length_map]; rfl
theorem txt_byt (s : ByteArray) : Byt (txt s) := by
  intro z hz
  simp only [txt, List.mem_map] at hz
  obtain ⟨b, _, rfl⟩ := hz
  have := b.toNat_lt
  omega
theorem bytes_below (w : World) (s : ByteArray) : Below w.heap.size w (Lib.bytesWorld w 5 s) := by
  have h : ∀ (W : World) (a : Addr) (n : Nat), (W.freeze a n).os = W.os ∧ (W.freeze a n).tape = W.tape ∧ (W.freeze a n).output = W.output := by
    intro W a n
    unfold World.freeze
    split <;> exact ⟨rfl, rfl, rfl⟩
  exact ⟨(h _ _ _).1, (h _ _ _).2.1, (h _ _ _).2.2, by rw [Lib.bytesWorld_size]; omega, fun k hk => Lib.bytesWorld_at_old w _ s k hk⟩
theorem bytes_bs (w : World) (s : ByteArray) : BS (Lib.bytesWorld w 5 s) (.slice (some ⟨w.heap.size, 0, none⟩) s.size (grownCap w s.size 0 5)) (txt s) := by
  refine ⟨some ⟨w.heap.size, 0, none⟩, grownCap w s.size 0 5, by rw [txt_length], txt_byt s, nofun, .inr ⟨w.heap.size, 0, rfl, fun i hi => ?_⟩⟩
  rw [txt_length] at hi
  rw [Nat.zero_add, Lib.bytesWorld_cell w 5 s i hi]
  have h2 : i < s.data.toList.length := hi
  simp only [txt, List.getD_eq_getElem?_getD, List.getElem?_map, List.getElem?_eq_getElem h2, Option.map_some, Option.getD_some]
theorem bytes_room (w : World) (a : Option Addr) (n : Nat) (h : n ≤ 1000000000) : Room (.slice a n (grownCap w n 0 5)) :=
  room_of _ _ _ (grownCap_ge w n 0 _) (by have := grownCap_le_maxLen w n 0 5 (by unfold maxLen; omega); unfold maxLen at this; exact this)
theorem conv_txt (s : ByteArray) (W : World) : (convert 9 22 (.string s)).run Tryd.prog W = .ok (.slice (some ⟨W.heap.size, 0, none⟩) s.size (grownCap W s.size 0 5)) (Lib.bytesWorld W 5 s) :=
  Lib.run_convert_string_bytes W _ _ _ s Tryd.underlying9 Tryd.underlying22 Tryd.underlying5

set_option maxRecDepth 100000 in
set_option maxHeartbeats 1600000 in
theorem derive_any (k : List Int) (v : Value) (s : ByteArray) (w : World) (hK : KT w) (hv : BS w v k) (hr : Room v) (hn : k.length ≤ 9000000) (hs : s.size ≤ 9000000) :
    Calls Tryd.prog 27 #[v, .string s] w fun e w' => e = .returned (.agg (u8s (macS k (txt s)))) ∧ Below w.heap.size w w' := by
  have HM := Lib.hid (fun W (hb : Below w.heap.size w W) => mac_any k (txt s) v _ _ (hK.below (hb.trans ((bytes_below W s).mono hb.size)) hK.pos) (hv.kept (hb.trans ((bytes_below W s).mono hb.size))) hr (bytes_bs W s) (bytes_room W _ _ (by omega)) hn (by rw [txt_length]; exact hs))
  have hcv := conv_txt s
  clear hv hr hs hn hK
  go_enter Tryd.func27, Tryd.ntmps27
  go_upto_region 1 with (fail)
  have hB1 := (Below.refl w.heap.size w).alloc (Nat.le_refl _) (.cells (u8s (List.replicate 32 0)) 24)
  have hR1 := heap_alloc_new w (.cells (u8s (List.replicate 32 0)) 24)
  have hZ1 : w.heap.size < (w.alloc (.cells (u8s (List.replicate 32 0)) 24)).heap.size := by simp
  refine (show ∀ W1 : World, W1 = w.alloc (.cells (u8s (List.replicate 32 0)) 24) → _ from ?_) _ rfl
  intro W1 hW1
  rw [← hW1] at hB1 hR1 hZ1
  have HB1 := Lib.hid hB1
  have HR1 := Lib.hid hR1
  have HZ1 := Lib.hid hZ1
  clear hW1 hR1 hZ1 hB1
  go_wp2_with fail
  refine (HM.out _ HB1.out).mono ?_
  rintro e w2 ⟨rfl, hb2⟩
  have hy := bytes_below W1 s
  have hzy := Lib.bytesWorld_size W1 5 s
  have HB2 := Lib.hid ((HB1.out.trans (hy.mono HB1.out.size)).trans (hb2.mono (by have := HZ1.out; omega)))
  have HR2 := Lib.hid (show w2.heap[w.heap.size]? = some (.cells (u8s (List.replicate 32 0)) 24 (0, 0)) from (hb2.block _ (by have := HZ1.out; omega)).trans ((hy.block _ HZ1.out).trans HR1.out))
  have SH := Lib.hid (size_h32 (macS k (txt s)) (macS_length _ _))
  have SE := Lib.hid (show (u8s (List.replicate 32 0)).size = (u8s (macS k (txt s))).size by rw [u8s_size, u8s_size, macS_length]; rfl)
  clear hy hzy hb2
  go_wp2_with (first
    | (with_reducible refine wpList_store_row (o := ⟨none, .store _ (.tmp 4) _, _, _, _, _⟩) rfl 24 _ _ rfl w.heap.size (u8s (macS k (txt s))) rfl rfl 24 (u8s (List.replicate 32 0)) HR2.out SH.out SE.out (u8s_one _) ?_))
  refine bodyPost_ret (v := .agg (u8s (macS k (txt s)))) (results_cell_row Tryd.results27 _ _ w.heap.size 24 (u8s (macS k (txt s))) (0, 0) _ rfl (setRow_heap _ w.heap.size _ _ _ _ HR2.out) Tryd.underlying24 rfl SH.out) rfl ⟨rfl, ?_⟩
  exact below_setRow HB2.out (Nat.le_refl _) _
end Go.Proofs.YtpmeiadnikenmaaDoor
