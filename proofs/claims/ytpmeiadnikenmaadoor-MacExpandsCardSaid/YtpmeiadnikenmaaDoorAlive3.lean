/-
  The document's example of layer 3: alive returns true and leaves what was there as it was.
-/
import Derived.Test.YtpmeiadnikenmaaDoorMac
import Derived.Test.YtpmeiadnikenmaaDoorAlive2
namespace Go.Proofs.YtpmeiadnikenmaaDoor
open Go.RowKit

def jefe : List Int := [74, 101, 102, 101]
def want : List Int := [119, 104, 97, 116, 32, 100, 111, 32, 121, 97, 32, 119, 97, 110, 116, 32, 102, 111, 114, 32, 110, 111, 116, 104, 105, 110, 103, 63]
def jefeHex : List Int := [53, 98, 100, 99, 99, 49, 52, 54, 98, 102, 54, 48, 55, 53, 52, 101, 54, 97, 48, 52, 50, 52, 50, 54, 48, 56, 57, 53, 55, 53, 99, 55, 53, 97, 48, 48, 51, 102, 48, 56, 57, 100, 50, 55, 51, 57, 56, 51, 57, 100, 101, 99, 53, 56, 98, 57, 54, 52, 101, 99, 51, 56, 52, 51]
set_option maxRecDepth 100000 in
theorem jefe_hex : hexI (macS jefe want) = jefeHex := by decide +kernel
theorem jefe_str : strOfNums jefeHex = ⟨#[53, 98, 100, 99, 99, 49, 52, 54, 98, 102, 54, 48, 55, 53, 52, 101, 54, 97, 48, 52, 50, 52, 50, 54, 48, 56, 57, 53, 55, 53, 99, 55, 53, 97, 48, 48, 51, 102, 48, 56, 57, 100, 50, 55, 51, 57, 56, 51, 57, 100, 101, 99, 53, 56, 98, 57, 54, 52, 101, 99, 51, 56, 52, 51]⟩ := by rfl

/-- Two constant texts as bytes, one behind the other. -/
theorem two_texts (w : World) (A B : Array Value) (ra rb : Nat × Nat) : ∀ W, W = (w.alloc (.cells A 5 ra)).alloc (.cells B 5 rb) →
    W.heap[w.heap.size]? = some (.cells A 5 ra) ∧ W.heap[w.heap.size + 1]? = some (.cells B 5 rb) ∧ W.heap.size = w.heap.size + 2 ∧ Below w.heap.size w W := by
  rintro W rfl
  exact ⟨heap_alloc2_old w _ _, heap_alloc2_new w _ _, by simp, ((Below.refl w.heap.size w).alloc (Nat.le_refl _) _).alloc (by simp) _⟩
theorem bs_const {W : World} {g : Nat} {l : List Int} {r : Nat × Nat} (h : W.heap[g]? = some (.cells (u8s l) 5 r)) (hl : Byt l) (n : Nat) (hn : l.length = n) : BS W (.slice (some ⟨g, 0, none⟩) n n) l := by
  subst hn
  exact ⟨_, _, rfl, hl, nofun, .inr ⟨g, 0, rfl, fun i hi => by rw [Nat.zero_add]; exact (cell_of_row W g i _ _ _ h).trans (u8s_at l i hi)⟩⟩
theorem jefe_byt : Byt jefe := by unfold jefe Byt; decide
theorem want_byt : Byt want := by unfold want Byt; decide
theorem conv_const (W : World) (C : Array Value) (n c : Nat) : (convert 22 22 (.slice (some ⟨W.heap.size, 0, none⟩) n c)).run Tryd.prog (W.alloc (.cells C 5)) = .ok (.slice (some ⟨W.heap.size, 0, none⟩) n c) (W.alloc (.cells C 5 (C.size, C.size + 1))) :=
  Lib.run_convert_bytes_const (P := Tryd.prog) W 22 5 C n c Tryd.underlying22 Tryd.underlying5
theorem conv_const2 (W : World) (A : Obj) (C : Array Value) (n c : Nat) : (convert 22 22 (.slice (some ⟨W.heap.size + 1, 0, none⟩) n c)).run Tryd.prog ((W.alloc A).alloc (.cells C 5)) = .ok (.slice (some ⟨W.heap.size + 1, 0, none⟩) n c) ((W.alloc A).alloc (.cells C 5 (C.size, C.size + 1))) := by
  have := conv_const (W.alloc A) C n c
  rwa [World.size_alloc] at this

set_option maxRecDepth 100000 in
set_option maxHeartbeats 1600000 in
theorem alive3_any (w : World) (hK : KT w) : Calls Tryd.prog 23 #[] w fun e w' => e = .returned (.bool true) ∧ Below w.heap.size w w' := by
  have HK := Lib.hid hK
  have HH := Lib.hid (fun w => hex_any (macS jefe want) w (macS_length _ _) (macS_byt _ _))
  rw [jefe_hex, jefe_str] at HH
  have kc1 := fun C n c => conv_const w C n c
  have kc2 := fun A C n c => conv_const2 w A C n c
  clear hK
  go_enter Tryd.func23, Tryd.ntmps23
  go_wp2_with fail
  obtain ⟨t1, t2, tz, tb⟩ := two_texts w (u8s jefe) (u8s want) (4, 5) (28, 29) _ rfl
  refine (mac_any jefe want _ _ _ (HK.out.below tb HK.out.pos) (bs_const t1 jefe_byt 4 rfl) (room_of _ _ _ (by omega) (by omega)) (bs_const t2 want_byt 28 rfl) (room_of _ _ _ (by omega) (by omega)) (by decide) (by decide)).mono ?_
  rintro e w2 ⟨rfl, hb2⟩
  have HB2 := Lib.hid (tb.trans (hb2.mono tb.size))
  have HK2 := Lib.hid (HK.out.below HB2.out HK.out.pos)
  have SH := Lib.hid (size_h32 (macS jefe want) (macS_length _ _))
  have SE := Lib.hid (show (u8s (List.replicate 32 0)).size = (u8s (macS jefe want)).size by rw [u8s_size, u8s_size, macS_length]; rfl)
  have ML := macS_length jefe want
  have MB := macS_byt jefe want
  have hfit := fun (v u : Value) (W : World) (hK : KT W) (h1 : BS W v jefe) (h2 : Room v) (h3 : BS W u want) (h4 : Room u) => fits_any jefe want (macS jefe want) v u W hK h1 h2 h3 h4 (by decide) (by decide) ML MB
  simp only [decide_true] at hfit
  have HF := Lib.hid hfit
  clear t1 t2 tz tb hb2 kc1 kc2 hfit ML MB
  generalize hM : macS jefe want = M at *
  clear hM
  go_upto_region 2 with (first
    | (with_reducible refine wpList_store_row (o := ⟨none, .store _ (.tmp 1) _, _, _, _, _⟩) rfl 24 _ _ rfl w2.heap.size (u8s M) rfl rfl 24 _ (heap_alloc_new w2 _) SH.out ?c1 (u8s_one _) ?_))
  case c1 => exact SE.out
  generalize hW3 : World.setRow _ w2.heap.size _ = W3
  obtain ⟨r3, z3, b3⟩ := fresh_row w2 (u8s (List.replicate 32 0)) (u8s M) 24 W3 hW3.symm
  clear hW3
  have HR3 := Lib.hid r3
  have HB3 := Lib.hid (HB2.out.trans (b3.mono HB2.out.size))
  have HK3 := Lib.hid (HK.out.below HB3.out HK.out.pos)
  have HL3 := Lib.hid (lt_of_block r3)
  clear r3 z3 b3
  generalize w2.heap.size = C at *
  go_wp2_with (first
    | (with_reducible refine wpList_load_row (o := ⟨some 7, _, _, _, _, _⟩) rfl 24 _ rfl C rfl 24 (u8s M) (0, 0) _ HR3.out Tryd.underlying24 rfl SH.out ?_))
  refine (HH.out _).mono ?_
  rintro e w4 ⟨rfl, hb4⟩
  have HB4 := Lib.hid (HB3.out.trans (hb4.mono HB3.out.size))
  have HK4 := Lib.hid (HK.out.below HB4.out HK.out.pos)
  have HR4 := Lib.hid (show w4.heap[C]? = some (.cells (u8s M) 24 (0, 0)) from (hb4.block _ HL3.out).trans HR3.out)
  have HL4 := Lib.hid (lt_of_block HR4.out)
  have kc1 := fun C n c => conv_const w4 C n c
  have kc2 := fun A C n c => conv_const2 w4 A C n c
  obtain ⟨t1, t2, tz, tb⟩ := two_texts w4 (u8s jefe) (u8s want) (4, 5) (28, 29) _ rfl
  have HR5 := Lib.hid (fun (A B : Obj) => show ((w4.alloc A).alloc B).heap[C]? = some (.cells (u8s M) 24 (0, 0)) from (Below.heap_alloc _ _ _ (by have := HL4.out; simp; omega)).trans ((Below.heap_alloc _ _ _ HL4.out).trans HR4.out))
  have HT := Lib.hid (And.intro t1 (And.intro t2 tb))
  clear hb4 t1 t2 tz tb
  go_wp2_with (first
    | (with_reducible refine wpList_load_guarded (o := ⟨some 15, _, _, _, _, _⟩) (by kernel_rfl) 24 _ rfl C rfl 24 (u8s M) (0, 0) _ (HR5.out _ _) Tryd.underlying24 rfl SH.out ?_))
  refine (HF.out _ _ _ (HK4.out.below HT.out.2.2 HK4.out.pos) (bs_const HT.out.1 jefe_byt 4 rfl) (room_of _ _ _ (by omega) (by omega)) (bs_const HT.out.2.1 want_byt 28 rfl) (room_of _ _ _ (by omega) (by omega))).mono ?_
  rintro e w6 ⟨rfl, hb6⟩
  have HB6 := Lib.hid ((HB4.out.trans (HT.out.2.2.mono HB4.out.size)).trans (hb6.mono (Nat.le_trans HB4.out.size HT.out.2.2.size)))
  clear hb6
  go_wp2_with fail
  go_ret
  exact ⟨rfl, HB6.out⟩
end Go.Proofs.YtpmeiadnikenmaaDoor
