import Derived.Test.YtgckapolpifbkaaGreatDoorWo
import Derived.Test.YtgckapolpifbkaaGreatDoorRz
namespace Go.Proofs.YtgckapolpifbkaaGreatDoor
open Lib (hid)
set_option maxRecDepth 4000
set_option linter.unusedVariables false
open Go.ChangeShapes Go.WideShapes Go.ChangeAt Go.RowKit
def rpRow (n MS b Mb : Nat) : Array Value := #[.int .i64 (n : Int),.pointer (some ⟨MS,0,none⟩),.int .u64 (b : Int),.map (some Mb)]
structure R13 (w : World) (R MS G Mb n c : Nat) (F : Nat → Bool) (b : Nat) (B : Nat → Blk) : Prop where
 cell : w.heap[R]? = some (.cells (rpRow n MS b Mb) 52 (0,0))
 sp : RW11 w MS G n F
 mp : BM w Mb c B
section
variable {w w' : World} {R MS G Mb n c b : Nat} {F : Nat → Bool} {B : Nat → Blk}
theorem R13.lt (h : R13 w R MS G Mb n c F b B) : R < w.heap.size := lt_of_block h.cell
theorem R13.touch {l : List Nat} (h : R13 w R MS G Mb n c F b B) (t : Touch l w w') (h1 : R ∉ l) (h2 : MS ∉ l) (h3 : G ∉ l) (h4 : Mb ∉ l) : R13 w' R MS G Mb n c F b B :=
 ⟨(t.block R h.lt h1).trans h.cell,h.sp.touch t h2 h3,h.mp.move (t.block Mb h.mp.lt h4)⟩
theorem R13.below (h : R13 w R MS G Mb n c F b B) (q : Below w.heap.size w w') : R13 w' R MS G Mb n c F b B := h.touch (l := []) (Touch.of_below q) (by simp) (by simp) (by simp) (by simp)
theorem R13.parts (h : R13 w R MS G Mb n c F b B) : w.cell? ⟨R,0,none⟩ = some (.int .i64 (n : Int)) ∧ w.cell? ⟨R,1,none⟩ = some (.pointer (some ⟨MS,0,none⟩)) ∧ w.cell? ⟨R,2,none⟩ = some (.int .u64 (b : Int)) ∧ w.cell? ⟨R,3,none⟩ = some (.map (some Mb)) :=
 ⟨cell_of_row _ _ _ _ _ _ h.cell,cell_of_row _ _ _ _ _ _ h.cell,cell_of_row _ _ _ _ _ _ h.cell,cell_of_row _ _ _ _ _ _ h.cell⟩
theorem R13.free (h : R13 w R MS G Mb n c F b B) (k : Nat) : w.frozen? ⟨R,k,none⟩ = false := frozen_of_row _ _ _ _ _ h.cell
theorem R13.apart (h : R13 w R MS G Mb n c F b B) : R ≠ MS ∧ R ≠ G ∧ R ≠ Mb ∧ MS ≠ G ∧ MS ≠ Mb ∧ G ≠ Mb := by
 have hm : ∃ es cl,w.heap[Mb]? = some (.map es cl) := by
  obtain ⟨D,⟨es,clock,hb,_⟩,_⟩ := h.mp.map
  exact ⟨es,clock,hb⟩
 obtain ⟨es,cl,hm⟩ := hm
 have h1 := h.cell
 have h2 := h.sp.cell
 have h3 := h.sp.row
 refine ⟨fun e => ?_,fun e => ?_,fun e => ?_,h.sp.ne,fun e => ?_,fun e => ?_⟩
 ·rw [e,h2] at h1
  injection h1 with h1
  injection h1 with _ h1
  exact absurd h1 (by decide)
 ·rw [e,h3] at h1
  injection h1 with h1
  injection h1 with _ h1
  exact absurd h1 (by decide)
 ·rw [e,hm] at h1
  injection h1 with h1
  injection h1
 ·rw [e,hm] at h2
  injection h2 with h2
  injection h2
 ·rw [e,hm] at h3
  injection h3 with h3
  injection h3
end
theorem build_rp (n MS Mb : Nat) (W : World) : (Instr.build 52 #[(0,.int .i64 (n : Int)),(1,.pointer (some ⟨MS,0,none⟩)),(3,.map (some Mb))]).run Tryz.prog W = .ok (.agg (rpRow n MS 0 Mb)) W := by kernel_rfl
set_option maxRecDepth 100000 in
set_option maxHeartbeats 3200000 in
theorem rnew13 (n : Nat) (w : World) (h0 : 16 ≤ n) (h1 : n ≤ 4096) :
 Calls Tryz.prog 12 #[.int .i64 (n : Int)] w fun e w' => ∃ R MS G Mb,e = .returned (.pointer (some ⟨R,0,none⟩)) ∧ R13 w' R MS G Mb n 0 (allF n) 0 (fun _ => zeroBlk) ∧ (w.heap.size ≤ R ∧ w.heap.size ≤ MS ∧ w.heap.size ≤ G ∧ w.heap.size ≤ Mb) ∧ Below w.heap.size w w' := by
 have HN := hid (rnew11_ok n w h0 h1)
 have hmm : ∀ W : World,(Instr.makeMap 50 none).run Tryz.prog W = .ok (.map (some W.heap.size)) (W.alloc (.map #[] 0)) := fun W => run_makeMap _ W
 have HBD := hid build_rp
 clear h0 h1
 go_enter Tryz.func12,Tryz.ntmps12
 go_wp2_with fail
 refine HN.out.mono ?_
 rintro e w1 ⟨rfl,hr,hb⟩
 have HR1 := hid hr
 have HB1 := hid hb
 have HMS := hid (show w.heap.size ≤ w.heap.size + 1 by omega)
 clear HN hr hb
 generalize w.heap.size + 1 = MS at *
 go_wp2_with (first
  | (with_reducible refine wpList_build_run (o := ⟨some 13,_,_,_,_,_⟩) rfl 52 _ rfl #[(0,.int .i64 (n : Int)),(1,.pointer (some ⟨MS,0,none⟩)),(3,.map (some w1.heap.size))] (by simp [Act.eval]) (.agg (rpRow n MS 0 w1.heap.size)) (HBD.out n MS w1.heap.size _) ?_))
 have hb2 := (Below.refl w1.heap.size w1).alloc (Nat.le_refl _) (.map #[] 0)
 have hsz : (w1.alloc (.map #[] 0)).heap.size = w1.heap.size + 1 := by simp
 have hb3 := (Below.refl (w1.alloc (.map #[] 0)).heap.size (w1.alloc (.map #[] 0))).alloc (Nat.le_refl _) (.cells (rpRow n MS 0 w1.heap.size) 52)
 have hc := heap_alloc_new (w1.alloc (.map #[] 0)) (.cells (rpRow n MS 0 w1.heap.size) 52)
 rw [hsz] at hc
 have h1 := HB1.out.size
 go_ret
 exact ⟨_,MS,w.heap.size,w1.heap.size,rfl,⟨hc,(HR1.out.below hb2).below hb3,(bm_made w1).below hb3⟩,⟨by omega,HMS.out,Nat.le_refl _,h1⟩,HB1.out.trans ((hb2.mono h1).trans (hb3.mono (by omega)))⟩
section
variable {w : World} {R MS G Mb n c b : Nat} {F : Nat → Bool} {B : Nat → Blk}
set_option maxHeartbeats 1000000 in
theorem rw13_zero (h : R13 w R MS G Mb n c F b B) (e : ENode) (hb : b = 0) :
 Calls Tryz.prog 20 #[.pointer (some ⟨R,0,none⟩),.agg (nrow e).toArray] w fun z w' => z = .returned (.tuple #[.int .u32 0,.int .i64 2]) ∧ Below w.heap.size w w' := by
 subst hb
 have hb1 := (Below.refl w.heap.size w).alloc (Nat.le_refl _) (.cells (nrow e).toArray 38)
 have HB1 := hid hb1
 obtain ⟨_,_,c2,_⟩ := (h.below hb1).parts
 clear h hb1
 generalize hw1 : w.alloc (.cells (nrow e).toArray 38) = w1 at *
 go_enter Tryz.func20,Tryz.ntmps20
 go_upto_region 1 with fail
 try rw [hw1]
 clear hw1
 go_wp2_with fail
 go_ret2
 exact ⟨rfl,HB1.out⟩
set_option maxHeartbeats 1000000 in
theorem rw13_bad (h : R13 w R MS G Mb n c F b B) (e : ENode) (hb : b ≠ 0) (hn : NR w e.2.1 e.2.2.1 e.2.2.2 e.1) (hnb : NB e.1) (hf : Few9 e.1) (hc : checkN e.1 ≠ 0) :
 Calls Tryz.prog 20 #[.pointer (some ⟨R,0,none⟩),.agg (nrow e).toArray] w fun z w' => z = .returned (.tuple #[.int .u32 0,.int .i64 (checkN e.1)]) ∧ Below w.heap.size w w' := by
 have hb1 := (Below.refl w.heap.size w).alloc (Nat.le_refl _) (.cells (nrow e).toArray 38)
 have HA := hid (heap_alloc_new w (.cells (nrow e).toArray 38))
 have HB1 := hid hb1
 obtain ⟨_,_,c2,_⟩ := (h.below hb1).parts
 have HCK := hid (rcheck9_any e.2.1 e.2.2.1 e.2.2.2 e.1 _ (hn.below hb1) hnb hf)
 have SE := hid (show (Tryz.prog.info? 38).map (·.size) = some (nrow e).toArray.size from size_node e.1.lf e.2.1 e.2.2.1 e.2.2.2)
 have bI : (b : Int) ≠ 0 := by omega
 have bI2 : ((b : Int) == 0) = false := by simpa using bI
 have cI : (checkN e.1 != 0) = true := by simpa using hc
 clear h hb1 hn hnb hf hc hb
 generalize hw1 : w.alloc (.cells (nrow e).toArray 38) = w1 at *
 go_enter Tryz.func20,Tryz.ntmps20
 go_upto_region 1 with fail
 try rw [hw1]
 clear hw1
 go_wp2_with (first
  | (with_reducible refine wpList_load_row (o := ⟨some 12,_,_,_,_,_⟩) rfl 38 _ rfl w.heap.size rfl 38 (nrow e).toArray (0,0) _ HA.out Tryz.underlying38 rfl SE.out ?_))
 refine HCK.out.mono ?_
 rintro z w2 ⟨rfl,hb2⟩
 have HB2 := hid (HB1.out.trans (hb2.mono HB1.out.size))
 clear HCK hb2
 go_wp2_with fail
 go_ret2
 exact ⟨rfl,HB2.out⟩
set_option maxHeartbeats 1000000 in
theorem rw13_take (h : R13 w R MS G Mb n c F b B) (e : ENode) (hb : b ≠ 0) (hn : NR w e.2.1 e.2.2.1 e.2.2.2 e.1) (hnb : NB e.1) (hf : Few9 e.1) (hc : checkN e.1 = 0) (x y : Int) {A : World → Prop}
 (ht : ∀ W,Below w.heap.size w W → Calls Tryz.prog 48 #[.pointer (some ⟨MS,0,none⟩)] W fun z w' => z = .returned (.tuple #[.int .u32 x,.int .i64 y]) ∧ A w') :
 Calls Tryz.prog 20 #[.pointer (some ⟨R,0,none⟩),.agg (nrow e).toArray] w fun z w' => z = .returned (.tuple #[.int .u32 x,.int .i64 y]) ∧ A w' := by
 have hb1 := (Below.refl w.heap.size w).alloc (Nat.le_refl _) (.cells (nrow e).toArray 38)
 have HA := hid (heap_alloc_new w (.cells (nrow e).toArray 38))
 have HB1 := hid hb1
 have HR := hid (h.below hb1)
 obtain ⟨_,_,c2,_⟩ := (h.below hb1).parts
 have HCK := hid (show Calls Tryz.prog 47 #[.agg (nrow e).toArray] (w.alloc (.cells (nrow e).toArray 38)) fun z w' => z = .returned (.int .i64 0) ∧ Below (w.alloc (.cells (nrow e).toArray 38)).heap.size (w.alloc (.cells (nrow e).toArray 38)) w' from by
  have q := rcheck9_any e.2.1 e.2.2.1 e.2.2.2 e.1 _ (hn.below hb1) hnb hf
  rw [hc] at q
  exact q)
 have SE := hid (show (Tryz.prog.info? 38).map (·.size) = some (nrow e).toArray.size from size_node e.1.lf e.2.1 e.2.2.1 e.2.2.2)
 have HT := hid ht
 have bI : (b : Int) ≠ 0 := by omega
 have bI2 : ((b : Int) == 0) = false := by simpa using bI
 clear h hb1 hn hnb hf hc hb ht
 generalize hw1 : w.alloc (.cells (nrow e).toArray 38) = w1 at *
 go_enter Tryz.func20,Tryz.ntmps20
 go_upto_region 1 with fail
 try rw [hw1]
 clear hw1
 go_wp2_with (first
  | (with_reducible refine wpList_load_row (o := ⟨some 12,_,_,_,_,_⟩) rfl 38 _ rfl w.heap.size rfl 38 (nrow e).toArray (0,0) _ HA.out Tryz.underlying38 rfl SE.out ?_))
 refine HCK.out.mono ?_
 rintro z w2 ⟨rfl,hb2⟩
 have HB2 := hid (HB1.out.trans (hb2.mono HB1.out.size))
 obtain ⟨_,c1',_,_⟩ := (HR.out.below hb2).parts
 clear HCK hb2 c2
 go_wp2_with fail
 refine (HT.out _ HB2.out).mono ?_
 rintro z w3 ⟨rfl,hA⟩
 clear HT
 go_wp2_with fail
 go_ret2
 exact ⟨rfl,hA⟩
theorem rw13_full (h : R13 w R MS G Mb n c F b B) (e : ENode) (hb : b ≠ 0) (hn : NR w e.2.1 e.2.2.1 e.2.2.2 e.1) (hnb : NB e.1) (hf : Few9 e.1) (hc : checkN e.1 = 0) (hF : ∀ a,F a = false) :
 Calls Tryz.prog 20 #[.pointer (some ⟨R,0,none⟩),.agg (nrow e).toArray] w fun z w' => z = .returned (.tuple #[.int .u32 0,.int .i64 6]) ∧ Below w.heap.size w w' :=
 rw13_take h e hb hn hnb hf hc 0 6 fun W hW => (rtake11_full MS G n F W (h.sp.below hW) hF).mono fun z w' ⟨hz,hw⟩ => by subst hw; exact ⟨hz,hW⟩
theorem rw13_ok (h : R13 w R MS G Mb n c F b B) (e : ENode) (hb : b ≠ 0) (hn : NR w e.2.1 e.2.2.1 e.2.2.2 e.1) (hnb : NB e.1) (hf : Few9 e.1) (hc : checkN e.1 = 0) (a : Nat) (ha : F a = true) (hr : 2 ≤ a ∧ a < n) (hlow : ∀ x,x < a → F x = false) :
 Calls Tryz.prog 20 #[.pointer (some ⟨R,0,none⟩),.agg (nrow e).toArray] w fun z w' => z = .returned (.tuple #[.int .u32 (a : Int),.int .i64 0]) ∧ R13 w' R MS G Mb n c (updF F a false) b B ∧ Touch [G] w w' :=
 rw13_take h e hb hn hnb hf hc (a : Int) 0 fun W hW => (rtake11_ok MS G n a F W (h.sp.below hW) ha hr hlow).mono fun z w' ⟨hz,hs,ht⟩ => by
  have h2 := h.below hW
  have hne := h2.apart
  refine ⟨hz,⟨(ht.block R h2.lt (by simpa using hne.2.1)).trans h2.cell,hs,h2.mp.move (ht.block Mb h2.mp.lt (by simpa using Ne.symm hne.2.2.2.2.2))⟩,(Touch.of_below hW).trans ht⟩
end
end Go.Proofs.YtgckapolpifbkaaGreatDoor
