/-
  The document's example of layer 2: alive returns true and leaves what was there as it was.
-/
import Derived.Test.YtpmeiadnikenmaaDoorSum
import Derived.Test.YtpmeiadnikenmaaDoorHex
import Derived.Lib.SlBytesConst
namespace Go.Proofs.YtpmeiadnikenmaaDoor
open Go.RowKit

set_option maxHeartbeats 800000 in
theorem sum_nil (w : World) : Calls Tryd.prog 20 #[.pointer none] w fun e w' => e = .returned (.tuple #[.agg (u8s (List.replicate 32 0)), .int .i64 1]) ∧ Below w.heap.size w w' := by
  have SH := Lib.hid (size_h32 (List.replicate 32 0) (by simp))
  go_enter Tryd.func20, Tryd.ntmps20
  go_wp2_with (first
    | (with_reducible refine wpList_store_row (o := ⟨none, .store _ (.tmp 2) _, _, _, _, _⟩) rfl 24 _ _ rfl w.heap.size (u8s (List.replicate 32 0)) rfl ?c2 24 _ (heap_alloc_new w _) SH.out ?c1 (u8s_one _) ?_))
  case c1 => rfl
  case c2 => rfl
  refine bodyPost_ret (v := .tuple #[.agg (u8s (List.replicate 32 0)), .int .i64 1]) (results_row_tmp Tryd.results20 _ _ w.heap.size 24 (u8s (List.replicate 32 0)) (0, 0) _ rfl (setRow_heap _ w.heap.size _ _ _ _ (heap_alloc_new w _)) Tryd.underlying24 rfl SH.out) rfl ⟨rfl, ?_⟩
  exact ((Below.refl w.heap.size w).alloc (Nat.le_refl _) _).trans ⟨rfl, rfl, rfl, by simp, fun k hk => setRow_other _ _ k _ (by omega)⟩

def abcHex : List Int := [98, 97, 55, 56, 49, 54, 98, 102, 56, 102, 48, 49, 99, 102, 101, 97, 52, 49, 52, 49, 52, 48, 100, 101, 53, 100, 97, 101, 50, 50, 50, 51, 98, 48, 48, 51, 54, 49, 97, 51, 57, 54, 49, 55, 55, 97, 57, 99, 98, 52, 49, 48, 102, 102, 54, 49, 102, 50, 48, 48, 49, 53, 97, 100]
set_option maxRecDepth 100000 in
theorem abc_hex : hexI (hashS [97, 98, 99]) = abcHex := by decide +kernel
theorem abc_str : strOfNums abcHex = ⟨#[98, 97, 55, 56, 49, 54, 98, 102, 56, 102, 48, 49, 99, 102, 101, 97, 52, 49, 52, 49, 52, 48, 100, 101, 53, 100, 97, 101, 50, 50, 50, 51, 98, 48, 48, 51, 54, 49, 97, 51, 57, 54, 49, 55, 55, 97, 57, 99, 98, 52, 49, 48, 102, 102, 54, 49, 102, 50, 48, 48, 49, 53, 97, 100]⟩ := by rfl

set_option maxRecDepth 100000 in
set_option maxHeartbeats 800000 in
theorem alive2_any (w : World) (hK : KT w) : Calls Tryd.prog 12 #[] w fun e w' => e = .returned (.bool true) ∧ Below w.heap.size w w' := by
  have HK := Lib.hid hK
  have HN := Lib.hid sum_nil
  have HH := Lib.hid (fun w => hex_any (hashS [97, 98, 99]) w (hashS_length _) (hashS_byt _))
  rw [abc_hex, abc_str] at HH
  clear hK
  go_enter Tryd.func12, Tryd.ntmps12
  go_wp2_with fail
  refine (HN.out _).mono ?_
  rintro e w1 ⟨rfl, hb1⟩
  have kc : ∀ (A : Obj) (cs C : Array Value) (n c : Nat), (convert 22 22 (.slice (some ⟨w1.heap.size + 1, 0, none⟩) n c)).run Tryd.prog (((w1.alloc A).setRow w1.heap.size cs).alloc (.cells C 5)) = .ok (.slice (some ⟨w1.heap.size + 1, 0, none⟩) n c) (((w1.alloc A).setRow w1.heap.size cs).alloc (.cells C 5 (C.size, C.size + 1))) := by
    intro A cs C n c
    have := Lib.run_convert_bytes_const (P := Tryd.prog) ((w1.alloc A).setRow w1.heap.size cs) 22 5 C n c Tryd.underlying22 Tryd.underlying5
    rwa [size_setRow, World.size_alloc] at this
  have HB1 := Lib.hid hb1
  have SH := Lib.hid (size_h32 (List.replicate 32 0) (by simp))
  clear hb1
  go_wp2_with (first
    | (with_reducible refine wpList_store_row (o := ⟨none, .store _ (.tmp 2) _, _, _, _, _⟩) rfl 24 _ _ rfl w1.heap.size (u8s (List.replicate 32 0)) rfl rfl 24 _ (heap_alloc_new w1 _) SH.out ?c1 (u8s_one _) ?_))
  case c1 => rfl
  generalize hW2 : World.alloc (World.setRow _ _ _) _ = W2
  have hb2 : Below w1.heap.size w1 W2 := by
    rw [← hW2]
    exact (below_setRow ((Below.refl w1.heap.size w1).alloc (Nat.le_refl _) _) (Nat.le_refl _) _).alloc (by simp) _
  have hbs : BS W2 (.slice (some ⟨w1.heap.size + 1, 0, none⟩) 3 3) [97, 98, 99] := by
    rw [← hW2]
    refine ⟨_, _, rfl, by intro z hz; simp at hz; omega, nofun, .inr ⟨_, 0, rfl, fun i hi => ?_⟩⟩
    have e := heap_alloc_new (World.setRow (w1.alloc (.cells (u8s (List.replicate 32 0)) 24)) w1.heap.size (u8s (List.replicate 32 0))) (.cells #[.int .u8 97, .int .u8 98, .int .u8 99] 5 (3, 3 + 1))
    rw [size_setRow, World.size_alloc] at e
    refine (cell_of_row _ _ _ _ _ _ e).trans ?_
    have hi3 : i = 0 ∨ i = 1 ∨ i = 2 := by simp at hi; omega
    rcases hi3 with rfl | rfl | rfl <;> rfl
  clear hW2 kc
  have hbel := HB1.out.trans (hb2.mono HB1.out.size)
  have hsum := shasum_any [97, 98, 99] _ W2 (HK.out.below hbel HK.out.pos) hbs (by intro a n c h; injection h with h1 h2 h3; subst h2; subst h3; omega) (by decide)
  have HB2 := Lib.hid hbel
  clear hb2 hbs hbel
  refine hsum.mono ?_
  rintro e w3 ⟨rfl, hb3⟩
  have HB3 := Lib.hid (HB2.out.trans (hb3.mono HB2.out.size))
  clear hb3 hsum
  go_wp2_with fail
  refine (HH.out _).mono ?_
  rintro e w4 ⟨rfl, hb4⟩
  have HB4 := Lib.hid (HB3.out.trans (hb4.mono HB3.out.size))
  clear hb4
  go_wp2_with fail
  go_ret
  exact ⟨rfl, HB4.out⟩
end Go.Proofs.YtpmeiadnikenmaaDoor
