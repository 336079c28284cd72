import Derived.Test.YtgckapolpifbkaaGreatDoorLaid
import Derived.Test.YtgckapolpifbkaaGreatDoorMac0
import Derived.Test.YtgckapolpifbkaaGreatDoorPt0
import Derived.Test.YtgckapolpifbkaaGreatDoorBy
import Derived.Deep.MidRow
namespace Go.Proofs.YtgckapolpifbkaaGreatDoor
open Lib (hid)
set_option maxRecDepth 4000
set_option linter.unusedVariables false
open Go.ChangeShapes Go.WideShapes Go.ChangeAt Go.RowKit
def sealS (k : List (BitVec 8)) (a c : Nat) (l : List (BitVec 8)) : List (BitVec 8) := sumB l (strL (keysL k) (beY 8 a ++ beY 4 c) 0 512)
theorem sealS_length (k : List (BitVec 8)) (a c : Nat) (l : List (BitVec 8)) (hl : l.length = 512) : (sealS k a c l).length = 512 := sumB_length _ _ _ hl (by rw [strL_length])
theorem sealS_twice (k : List (BitVec 8)) (a c : Nat) (l : List (BitVec 8)) (hl : l.length = 512) : sealS k a c (sealS k a c l) = l := sumB_twice _ _ (by rw [strL_length,hl])
def ptrOf12 (a c : Nat) (l : List Int) : PtrV := if h : c < 4294967296 ∧ a < 18446744073709551616 then ⟨(c : Int),(a : Int),hashS l,by omega,by omega,⟨hashS_length l,hashS_byt l⟩⟩ else zeroPtr
theorem ptrOf12_parts (a c : Nat) (l : List Int) (hc : c < 4294967296) (ha : a < 18446744073709551616) : (ptrOf12 a c l).ad = (c : Int) ∧ (ptrOf12 a c l).bi = (a : Int) ∧ (ptrOf12 a c l).su = hashS l := by
 unfold ptrOf12
 rw [dif_pos ⟨hc,ha⟩]
 exact ⟨rfl,rfl,rfl⟩
theorem fill_two (k m Z : List Value) (hk : k.length = 32) (hm : m.length = 32) (hz : Z.length = 64) :
 Instr.fill (#[(0,32),(32,32)][·]?) Z.toArray [(0,.agg k.toArray),(1,.agg m.toArray)] = some (k ++ m).toArray := by
 rw [fill_cons _ _ (k ++ Z.drop 32).toArray k.toArray (.agg k.toArray) 0 0 32 _ rfl rfl (by simp [hk]) (by simp [hk,hz]) (fun i => by
  simp only [List.getElem?_toArray,List.size_toArray,hk,Nat.sub_zero]
  by_cases h : i < 32
  ·rw [if_pos (by omega),List.getElem?_append_left (by omega)]
  ·rw [if_neg (by omega),List.getElem?_append_right (by omega),List.getElem?_drop,hk,show 32 + (i - 32) = i by omega])]
 rw [fill_cons _ _ (k ++ m).toArray m.toArray (.agg m.toArray) 1 32 32 _ rfl rfl (by simp [hm]) (by simp [hk,hz,hm]) (fun i => by
  simp only [List.getElem?_toArray,List.size_toArray,hm]
  by_cases h : i < 32
  ·rw [if_neg (by omega),List.getElem?_append_left (by omega),List.getElem?_append_left (by omega)]
  ·rw [List.getElem?_append_right (by omega),hk]
   by_cases h2 : i < 64
   ·rw [if_pos (by omega)]
   ·rw [if_neg (by omega),List.getElem?_eq_none (by omega),List.getElem?_eq_none (by simp [hk,hz]; omega)])]
 rfl
theorem u8s_app (k m : List Int) : u8s (k ++ m) = (k.map (Value.int .u8) ++ m.map (Value.int .u8)).toArray := by unfold u8s; rw [List.map_append]
def KeyB (w : World) (b t : Nat) (k m : List (BitVec 8)) : Prop := ArrY w b t (k ++ m)
theorem KeyB.enc {w : World} {b t : Nat} {k m : List (BitVec 8)} (h : KeyB w b t k m) (hk : k.length = 32) : w.rangeAt b 0 (yvs k).toList := by
 have := ArrY.range h 0 32
 rwa [List.drop_zero,← hk,List.take_left] at this
theorem KeyB.below {w w' : World} {b t B : Nat} {k m : List (BitVec 8)} (h : KeyB w b t k m) (hb : Below B w w') (hg : b < B) : KeyB w' b t k m := ArrY.below h hb hg
theorem size_keys (l : List (BitVec 8)) (h : l.length = 64) : (Tryz.prog.info? 30).map (·.size) = some (yvs l).size := by rw [show (Tryz.prog.info? 30).map (·.size) = some 64 by kernel_rfl,yvs_size,h]
theorem info_keyL (l : List (BitVec 8)) (h : l.length = 32) : (Tryz.prog.info? 27).map (·.size) = some (yvs l).toList.length := by rw [Array.length_toList]; exact size_key l h
theorem toY_length (l : List Int) : (toY l).length = l.length := by simp [toY]
set_option maxRecDepth 100000 in
set_option maxHeartbeats 3200000 in
theorem crypted_any (k m : List (BitVec 8)) (a c : Nat) (l : List (BitVec 8)) (ad : Option Addr) (cap : Nat) (w : World) (hk : k.length = 32) (hl : l.length = 512) (hB : BS w (.slice ad 512 cap) (l.map yv)) (hc : c < 4294967296) :
 Calls Tryz.prog 90 #[.agg (yvs (k ++ m)),.int .u64 (a : Int),.int .u32 (c : Int),.slice ad 512 cap] w fun e w' => ∃ g,w.heap.size ≤ g ∧ e = .returned (.slice (some ⟨g,0,none⟩) 512 512) ∧ ArrY w' g 5 (sealS k a c l) ∧ Below w.heap.size w w' := by
 have hb1 := (Below.refl w.heap.size w).alloc (Nat.le_refl _) (.cells (yvs (k ++ m)) 30)
 have hA1 := heap_alloc_new w (.cells (yvs (k ++ m)) 30)
 have HN := hid (fun W => made_any a c W hc)
 have HIK := hid (info_keyL k hk)
 have HC := hid (fun (W : World) (hb : Below w.heap.size w W) => crypt_ok k (beY 8 a ++ beY 4 c) l ad 512 cap W (hB.kept hb) hl (by decide) hk (by simp [beY_length]))
 obtain ⟨S,hS⟩ : ∃ y,sumB l (strL (keysL k) (beY 8 a ++ beY 4 c) 0 512) = y := ⟨_,rfl⟩
 have hS2 : sealS k a c l = S := hS
 rw [hS] at HC
 rw [hS2]
 generalize beY 8 a ++ beY 4 c = NL at *
 generalize hw1 : w.alloc (.cells (yvs (k ++ m)) 30) = w1 at *
 have HSV := hid (show ∀ W,Below w1.heap.size w1 W → W.rangeAt w.heap.size 0 (yvs k).toList from fun W hW => KeyB.enc (KeyB.below (show KeyB w1 w.heap.size 30 k m from hA1) hW (lt_of_block hA1)) hk)
 have HB1 := hid hb1
 clear hb1 hA1 hS hS2 hk hl hB hc
 generalize yvs (k ++ m) = KM at *
 go_enter Tryz.func90,Tryz.ntmps90
 go_upto_region 1 with fail
 try rw [hw1]
 clear hw1
 try simp only [Act.put]
 refine wp_region_noPanic ?_
 refine wp_region_held_drew (S := fun W => W.rangeAt w.heap.size 0 (yvs k).toList) (by kernel_rfl) (HSV.out _ (Below.refl _ w1).drew) (fun hHeld => ?_)
 refine wpAnyH_take (i := 0) (oi := ⟨some 12,_,_,_,_,_⟩) (v := ?_) rfl (by kernel_rfl) (by decide +kernel) (by decide +kernel) (fun _ _ _ h => h) (Or.inl ⟨by rfl, ?_⟩) (by assumption) ?_
 rotate_left 1
 ·(intro w' hSw; go_simp; try with_reducible rfl)
 try simp only [Act.put,List.setIfInBounds_toArray,List.set_cons_zero,List.set_cons_succ]
 refine wpAnyH_take (i := 1) (oi := ⟨some 13,_,_,_,_,_⟩) rfl (by kernel_rfl) (by decide +kernel) (by decide +kernel) (fun _ _ _ h => h) (yieldsIf_load_mid (by rfl) _ _ rfl (w.heap.size) (0) rfl (yvs k).toList _ (fun w' h => h) Tryz.underlying27 rfl HIK.out) (by assumption) ?_
 try simp only [Act.put,List.setIfInBounds_toArray,List.set_cons_zero,List.set_cons_succ,Array.toArray_toList]
 refine wpAnyH_take (i := 2) (oi := ⟨some 14,_,_,_,_,_⟩) (v := ?_) rfl (by kernel_rfl) (by decide +kernel) (by decide +kernel) (fun _ _ _ h => h) (Or.inl ⟨by rfl, ?_⟩) (by assumption) ?_
 rotate_left 1
 ·(intro w' hSw; go_simp; try with_reducible rfl)
 try simp only [Act.put,List.setIfInBounds_toArray,List.set_cons_zero,List.set_cons_succ]
 refine wpAnyH_take (i := 3) (oi := ⟨some 15,_,_,_,_,_⟩) (v := ?_) rfl (by kernel_rfl) (by decide +kernel) (by decide +kernel) (fun _ _ _ h => h) (Or.inl ⟨by rfl, ?_⟩) (by assumption) ?_
 rotate_left 1
 ·(intro w' hSw; go_simp; try with_reducible rfl)
 try simp only [Act.put,List.setIfInBounds_toArray,List.set_cons_zero,List.set_cons_succ]
 refine wpAnyH_take (i := 5) (oi := ⟨some 17,_,_,_,_,_⟩) (v := ?_) rfl (by kernel_rfl) (by decide +kernel) (by decide +kernel) (fun _ _ _ h => h) (Or.inl ⟨by rfl, ?_⟩) (by assumption) ?_
 rotate_left 1
 ·(intro w' hSw; go_simp; try with_reducible rfl)
 try simp only [Act.put,List.setIfInBounds_toArray,List.set_cons_zero,List.set_cons_succ]
 clear hHeld
 refine wpAnyH_ready (rs := [4]) (by decide +kernel) (by simp) ?_
 refine AllReadyH.cons rfl (fun K hK => ?_) AllReadyH.nil
 go_simp
 go_at_call 116
 refine (HN.out _).mono ?_
 rintro e w2 ⟨rfl,hb⟩
 have HB2 := hid ((Below.refl w1.heap.size w1).drew.trans (hb.mono (Below.refl w1.heap.size w1).drew.size))
 clear hb
 go_wp2_with fail
 refine hK.out _ _ (HSV.out _ HB2.out) (fun hHeld => ?_)
 clear hK K
 try simp only [Act.put,List.setIfInBounds_toArray,List.set_cons_zero,List.set_cons_succ]
 clear hHeld
 refine wpAnyH_ready (rs := [6]) (by decide +kernel) (by simp) ?_
 refine AllReadyH.cons rfl (fun K hK => ?_) AllReadyH.nil
 go_simp
 go_at_call 115
 refine (HC.out _ (HB1.out.trans (HB2.out.mono HB1.out.size))).mono ?_
 rintro e w3 ⟨rfl,hA3,hb⟩
 have HB3 := hid (HB2.out.trans (hb.mono HB2.out.size))
 have HG := hid (show w.heap.size ≤ w2.heap.size + 1 + 1 + 1 + 1 by have := HB1.out.size; have := HB2.out.size; omega)
 generalize w2.heap.size + 1 + 1 + 1 + 1 = G3 at *
 have HA3 := hid hA3
 clear hb hA3
 go_wp2_with fail
 refine hK.out _ _ (HSV.out _ HB3.out) (fun hHeld => ?_)
 clear hK K
 try simp only [Act.put,List.setIfInBounds_toArray,List.set_cons_zero,List.set_cons_succ]
 refine wpAnyH_take (i := 7) (oi := ⟨some 11,_,_,_,_,_⟩) (v := ?_) rfl (by kernel_rfl) (by decide +kernel) (by decide +kernel) (fun _ _ _ h => h) (Or.inl ⟨by rfl, ?_⟩) (by assumption) ?_
 rotate_left 1
 ·(intro w' hSw; go_simp; try with_reducible rfl)
 try simp only [Act.put,List.setIfInBounds_toArray,List.set_cons_zero,List.set_cons_succ]
 refine wpAnyH_take (i := 8) (oi := ⟨some 19,_,_,_,_,_⟩) (v := ?_) rfl (by kernel_rfl) (by decide +kernel) (by decide +kernel) (fun _ _ _ h => h) (Or.inl ⟨by rfl, ?_⟩) (by assumption) ?_
 rotate_left 1
 ·(intro w' hSw; go_simp; try with_reducible rfl)
 try simp only [Act.put,List.setIfInBounds_toArray,List.set_cons_zero,List.set_cons_succ]
 refine wpAnyH_take (i := 9) (oi := ⟨some 20,_,_,_,_,_⟩) (v := ?_) rfl (by kernel_rfl) (by decide +kernel) (by decide +kernel) (fun _ _ _ h => h) (Or.inl ⟨by rfl, ?_⟩) (by assumption) ?_
 rotate_left 1
 ·(intro w' hSw; go_simp; try with_reducible rfl)
 try simp only [Act.put,List.setIfInBounds_toArray,List.set_cons_zero,List.set_cons_succ]
 refine wpAnyH_take (i := 10) (oi := ⟨some 9,_,_,_,_,_⟩) (v := ?_) rfl (by kernel_rfl) (by decide +kernel) (by decide +kernel) (fun _ _ _ h => h) (Or.inl ⟨by rfl, ?_⟩) (by assumption) ?_
 rotate_left 1
 ·(intro w' hSw; go_simp; try with_reducible rfl)
 try simp only [Act.put,List.setIfInBounds_toArray,List.set_cons_zero,List.set_cons_succ]
 refine wpAnyH_take (i := 11) (oi := ⟨some 10,_,_,_,_,_⟩) (v := ?_) rfl (by kernel_rfl) (by decide +kernel) (by decide +kernel) (fun _ _ _ h => h) (Or.inl ⟨by rfl, ?_⟩) (by assumption) ?_
 rotate_left 1
 ·(intro w' hSw; go_simp; try with_reducible rfl)
 try simp only [Act.put,List.setIfInBounds_toArray,List.set_cons_zero,List.set_cons_succ]
 clear hHeld
 refine wpAnyH_done (by decide +kernel) ?_ _
 refine NoPanic.normal ?_
 go_wp2_with fail
 go_ret
 exact ⟨G3,HG.out,rfl,HA3.out,HB1.out.trans (HB3.out.mono HB1.out.size)⟩
theorem pkeys_build (k m : List Int) (hk : k.length = 32) (hm : m.length = 32) (W : World) : (Instr.build 30 #[(0,.agg (u8s k)),(1,.agg (u8s m))]).run Tryz.prog W = .ok (.agg (u8s (k ++ m))) W := by
 refine run_build W 30 _ _ ?_
 rw [show ∀ parts : List (Nat × Value),Tryz.prog.built 30 parts = Instr.fill (#[(0,32),(32,32)][·]?) (u8s (List.replicate 64 0)) parts from fun _ => by kernel_rfl]
 rw [u8s_app]
 exact fill_two _ _ _ (by simp [hk]) (by simp [hm]) (by simp)
set_option maxRecDepth 100000 in
set_option maxHeartbeats 1600000 in
theorem pkeys_any (x : List Int) (v : Value) (w : World) (hv : BS w v x) (hr : Room v) (hK : KT w) (hn : x.length ≤ 140737488355328) :
 Calls Tryz.prog 38 #[v] w fun e w' => e = .returned (.agg (u8s (macS x [101,110,99] ++ macS x [109,97,99]))) ∧ Below w.heap.size w w' := by
 have hb1 := (Below.refl w.heap.size w).alloc (Nat.le_refl _) (.cells (u8s (List.replicate 64 0)) 30)
 have hA1 := heap_alloc_new w (.cells (u8s (List.replicate 64 0)) 30)
 have HD1 := hid (fun (W : World) (hb : Below w.heap.size w W) => show Calls Tryz.prog 65 #[v,.string ⟨#[101,110,99]⟩] W fun e w' => e = .returned (.agg (u8s (macS x [101,110,99]))) ∧ Below W.heap.size W w' from derive_any x v ⟨#[101,110,99]⟩ W (hK.below hb hK.pos) (hv.kept hb) hr hn (by decide))
 have HD2 := hid (fun (W : World) (hb : Below w.heap.size w W) => show Calls Tryz.prog 65 #[v,.string ⟨#[109,97,99]⟩] W fun e w' => e = .returned (.agg (u8s (macS x [109,97,99]))) ∧ Below W.heap.size W w' from derive_any x v ⟨#[109,97,99]⟩ W (hK.below hb hK.pos) (hv.kept hb) hr hn (by decide))
 have HBD := hid (pkeys_build (macS x [101,110,99]) (macS x [109,97,99]) (macS_length _ _) (macS_length _ _))
 have SE := hid (show (Tryz.prog.info? 30).map (·.size) = some (u8s (macS x [101,110,99] ++ macS x [109,97,99])).size by rw [show (Tryz.prog.info? 30).map (·.size) = some 64 by kernel_rfl,u8s_size,List.length_append,macS_length,macS_length])
 have SL := hid (show (u8s (List.replicate 64 0)).size = (u8s (macS x [101,110,99] ++ macS x [109,97,99])).size by rw [u8s_size,u8s_size,List.length_append,macS_length,macS_length,List.length_replicate])
 have SO := hid (u8s_one (macS x [101,110,99] ++ macS x [109,97,99]))
 have hz : ∀ W : World,(zeroValue 30).run Tryz.prog W = .ok (.agg (u8s (List.replicate 64 0))) W := fun W => by kernel_rfl
 generalize u8s (macS x [101,110,99] ++ macS x [109,97,99]) = KM at *
 generalize u8s (macS x [101,110,99]) = K1 at *
 generalize u8s (macS x [109,97,99]) = M1 at *
 generalize u8s (List.replicate 64 0) = ZK at *
 generalize hw1 : w.alloc (.cells ZK 30) = w1 at *
 have HB1 := hid hb1
 have HA1 := hid hA1
 clear hb1 hA1 hv hr hn
 go_enter Tryz.func38,Tryz.ntmps38
 go_upto_region 1 with fail
 try rw [hw1]
 clear hw1 hz
 go_wp2_with fail
 refine (HD1.out w1 HB1.out).mono ?_
 rintro e w2 ⟨rfl,hb2⟩
 have HB2 := hid (HB1.out.trans (hb2.mono HB1.out.size))
 have HA2 := hid ((hb2.block w.heap.size (lt_of_block HA1.out)).trans HA1.out)
 clear hb2 HD1
 go_wp2_with fail
 refine (HD2.out w2 HB2.out).mono ?_
 rintro e w3 ⟨rfl,hb3⟩
 have HB3 := hid (HB2.out.trans (hb3.mono HB2.out.size))
 have HA3 := hid ((hb3.block w.heap.size (lt_of_block HA2.out)).trans HA2.out)
 clear hb3 HD2 HA1 HA2 HB1 HB2
 go_wp2_with (first
  | (with_reducible refine wpList_build_run (o := ⟨some 7,_,_,_,_,_⟩) rfl 30 _ rfl #[(0,.agg K1),(1,.agg M1)] (by simp [Act.eval]) (.agg KM) (HBD.out _) ?_)
  | (with_reducible refine wpList_store_row (o := ⟨none,.store _ (.tmp 2) _,_,_,_,_⟩) rfl 30 _ _ rfl w.heap.size KM rfl rfl 30 ZK HA3.out SE.out SL.out SO.out ?_))
 exact bodyPost_ret (v := .agg KM) (results_cell_row Tryz.results38 _ _ w.heap.size 30 KM (0,0) _ rfl (setRow_heap _ w.heap.size _ KM _ _ HA3.out) Tryz.underlying30 rfl SE.out) rfl ⟨rfl,ybelow_row HB3.out (Nat.le_refl _) _⟩
def fitsB (P : PtrV) (l : List Int) : Bool := decide (l.length = 512) && decide (hashS l = P.su)
theorem size_hash (l : List Int) (h : l.length = 32) : (Tryz.prog.info? 28).map (·.size) = some (l.map (Value.int .u8)).length := by
 rw [show (Tryz.prog.info? 28).map (·.size) = some 32 by kernel_rfl,List.length_map,h]
theorem eq_sums (l : List Int) (P : PtrV) (W : World) : (Op.equalIn 10000 28 (.agg (u8s (hashS l))) (.agg (P.su.map (Value.int .u8)).toArray)).run Tryz.prog W = .ok (decide (hashS l = P.su)) W :=
 eq_hash _ _ (hashS_length l) P.s0.1 (hashS_byt l) P.s0.2 W
set_option maxRecDepth 100000 in
set_option maxHeartbeats 1600000 in
theorem pfits_any (P : PtrV) (l : List Int) (ad : Option Addr) (n cap : Nat) (w : World) (hK : KT w) (hB : BS w (.slice ad n cap) l) (hl : l.length = n) (hc : n ≤ cap) (hc63 : cap ≤ 9223372036854775807) :
 Calls Tryz.prog 89 #[.agg (ptrRow P).toArray,.slice ad n cap] w fun e w' => e = .returned (.bool (fitsB P l)) ∧ Below w.heap.size w w' := by
 have hb1 := (Below.refl w.heap.size w).alloc (Nat.le_refl _) (.cells (ptrRow P).toArray 43)
 have hA1 := heap_alloc_new w (.cells (ptrRow P).toArray 43)
 have HRG := hid (by_range (ptr_at hA1).2.2)
 have SH := hid (size_hash P.su P.s0.1)
 unfold fitsB
 rw [hl]
 by_cases h : n = 512
 ·have HSM := hid (fun p : BelowBy (w.alloc (.cells (ptrRow P).toArray 43)) => shasum_any l (.slice ad n cap) p.now (hK.below (hb1.trans (p.bel.mono hb1.size)) hK.pos) (hB.kept (hb1.trans (p.bel.mono hb1.size))) (room_of _ _ _ hc hc63) (by rw [hl,h]; decide))
  have heq := eq_sums l P
  rw [decide_eq_true h,Bool.true_and]
  subst h
  have HB1 := hid hb1
  clear hb1 hA1 hl hc hc63 hB
  generalize (P.su.map (Value.int .u8)) = SU at *
  generalize u8s (hashS l) = HU at *
  generalize decide (hashS l = P.su) = D at *
  generalize (ptrRow P).toArray = PR at *
  generalize hw1 : w.alloc (.cells PR 43) = w1 at *
  go_enter Tryz.func89,Tryz.ntmps89
  go_upto_region 1 with fail
  try rw [hw1]
  clear hw1
  refine wp_region_below (by kernel_rfl) (by kernel_rfl) ?_
  repeat (first
   | (with_reducible refine quiet_load_row (o := ⟨some 12,_,_,_,_,_⟩) (by kernel_rfl) 28 _ rfl w.heap.size 2 rfl SU _ HRG.out Tryz.underlying28 rfl SH.out ?_
      simp only [Act.put,List.setIfInBounds_toArray,List.set_cons_zero,List.set_cons_succ])
   | (go_big_quiet_step (first
       | (go_at_call 25; exact calls_below (HSM.out _)))))
  refine wpQuiet_nil ?_
  intro _ hw'
  obtain ⟨p,hw''⟩ := hw'
  subst hw''
  go_wp2_with fail
  go_ret
  exact ⟨by simp,HB1.out.trans (p.bel.mono HB1.out.size)⟩
 ·rw [decide_eq_false h,Bool.false_and]
  have hzi : ((n : Int) == 512) = false := by simp; omega
  have HB1 := hid hb1
  clear hb1 hA1 hl hc hc63 hB h HRG
  generalize (ptrRow P).toArray = PR at *
  generalize hw1 : w.alloc (.cells PR 43) = w1 at *
  go_enter Tryz.func89,Tryz.ntmps89
  go_upto_region 1 with fail
  try rw [hw1]
  clear hw1
  refine wp_region_below (by kernel_rfl) (by kernel_rfl) ?_
  repeat (go_big_quiet_step (fail))
  refine wpQuiet_nil ?_
  intro _ hw'
  obtain ⟨p,hw''⟩ := hw'
  subst hw''
  go_wp2_with fail
  go_ret
  exact ⟨by simp,HB1.out.trans (p.bel.mono HB1.out.size)⟩
theorem results_three {P : Program} {fn : Func} {p q r : Tmp} {ty : TypeId} (h : fn.results = #[.tmp p,.cell q ty,.tmp r]) (tmps : Array Value) (w : World) (g : Nat) (t : TypeId) (cs : Array Value) (fr : Nat × Nat) (d : TypeDesc)
 (hq : tmps.getD q undef = .pointer (some ⟨g,0,none⟩)) (hg : w.heap[g]? = some (.cells cs t fr))
 (hu : P.underlying ty = some d) (hd : (match d with | .struct _ | .array _ _ => true | _ => false) = true) (hi : (P.info? ty).map (·.size) = some cs.size) (u v : Value) (hp : tmps.getD p undef = u) (hr : tmps.getD r undef = v) :
 (results fn tmps).run P w = .ok (.tuple #[u,.agg cs,v]) w := by
 have hq' : tmps[q]?.getD undef = .pointer (some ⟨g,0,none⟩) := by simpa using hq
 have hp' : tmps[p]?.getD undef = u := by simpa using hp
 have hr' : tmps[r]?.getD undef = v := by simpa using hr
 simp [results,h,hp',hq',hr',asAddr,run_loadVar_row w g t ty cs fr d hg hu hd hi]
theorem build_ptrOf (a c : Nat) (l : List Int) (hc : c < 4294967296) (ha : a < 18446744073709551616) (W : World) : (Instr.build 43 #[(0,.int .u32 (c : Int)),(1,.int .u64 (a : Int)),(2,.agg (u8s (hashS l)))]).run Tryz.prog W = .ok (.agg (ptrRow (ptrOf12 a c l)).toArray) W := by
 have h := build_ptr (ptrOf12 a c l) W
 obtain ⟨h1,h2,h3⟩ := ptrOf12_parts a c l hc ha
 rw [h1,h2,h3] at h
 exact h
def mayS (n a c : Nat) : Prop := n = 512 ∧ a ≠ 0 ∧ 2 ≤ c ∧ c < 4096
instance (n a c : Nat) : Decidable (mayS n a c) := by unfold mayS; infer_instance
def SealOf (w : World) (S : List (BitVec 8)) (P : PtrV) (e : Ending) (w' : World) : Prop := ∃ g,w.heap.size ≤ g ∧ e = .returned (.tuple #[.slice (some ⟨g,0,none⟩) 512 512,.agg (ptrRow P).toArray,.int .i64 0]) ∧ ArrY w' g 5 S ∧ Below w.heap.size w w'
set_option maxRecDepth 100000 in
set_option maxHeartbeats 3200000 in
theorem pseal_ok (k m : List (BitVec 8)) (a c : Nat) (l : List (BitVec 8)) (ad : Option Addr) (cap : Nat) (w : World) (hK : KT w) (hk : k.length = 32) (hm : m.length = 32) (hl : l.length = 512) (hB : BS w (.slice ad 512 cap) (l.map yv)) (ha : a < 18446744073709551616) (ha0 : a ≠ 0) (hc2 : 2 ≤ c) (hc : c < 4096) :
 Calls Tryz.prog 104 #[.agg (yvs (k ++ m)),.int .u64 (a : Int),.int .u32 (c : Int),.slice ad 512 cap] w (SealOf w (sealS k a c l) (ptrOf12 a c ((sealS k a c l).map yv))) := by
 have HSL := hid (sealS_length k a c l hl)
 have HC := hid (fun (W : World) (hb : Below w.heap.size w W) => crypted_any k m a c l ad cap W hk hl (hB.kept hb) (by omega))
 have HSM := hid (fun (W : World) (hb : Below w.heap.size w W) (g : Nat) (hg : ArrY W g 5 (sealS k a c l)) => shasum_any ((sealS k a c l).map yv) (.slice (some ⟨g,0,none⟩) 512 512) W (hK.below hb hK.pos) (BS.of_arr0 hg (sealS_length k a c l hl)) (room_of _ _ _ (Nat.le_refl _) (by decide)) (by rw [List.length_map,sealS_length k a c l hl]; decide))
 have HBD := hid (build_ptrOf a c ((sealS k a c l).map yv) (by omega) ha)
 have aI : (1 : Int) ≤ (a : Int) := by omega
 have a0 : ((a : Int) == 0) = false := by simp; omega
 have c2 : (2 : Int) ≤ (c : Int) := by omega
 have c4 : (c : Int) < 4096 := by omega
 obtain ⟨hA0,hP0,hsz,hb0⟩ := ytwo w (.cells (yvs (k ++ m)) 30) (.cells (ptrRow zeroPtr).toArray 43)
 have SZ := hid (size_ptrA (ptrOf12 a c ((sealS k a c l).map yv)))
 have SE := hid (show (ptrRow zeroPtr).toArray.size = (ptrRow (ptrOf12 a c ((sealS k a c l).map yv))).toArray.size by simp [ptrRow_length])
 have SO := hid (ptrRow_one (ptrOf12 a c ((sealS k a c l).map yv)))
 have hz := zero_ptr
 have KA := hid hA0
 have SK := hid (size_keys (k ++ m) (by rw [List.length_append,hk,hm]))
 generalize hw1 : (w.alloc (.cells (yvs (k ++ m)) 30)).alloc (.cells (ptrRow zeroPtr).toArray 43) = w1 at *
 have HSZ := hid hsz
 have HB1 := hid hb0
 have HP1 := hid hP0
 clear hsz hb0 hA0 hP0 hk hm hl hB ha ha0 hc2 hc hK
 generalize sealS k a c l = S at *
 generalize hPR : (ptrRow (ptrOf12 a c (S.map yv))).toArray = PR at *
 have HPR := hid hPR
 generalize (ptrRow zeroPtr).toArray = PZ at *
 generalize u8s (hashS (S.map yv)) = HU at *
 clear hPR
 generalize yvs (k ++ m) = KM at *
 go_enter Tryz.func104,Tryz.ntmps104
 go_upto_region 1 with fail
 try rw [hw1]
 clear hw1 hz
 go_wp2_with (first
  | (with_reducible refine wpList_load_row (o := ⟨some 28,_,_,_,_,_⟩) rfl 30 _ rfl w.heap.size rfl 30 KM (0,0) _ KA.out Tryz.underlying30 rfl SK.out ?_))
 refine (HC.out w1 HB1.out).mono ?_
 rintro e w3 ⟨g,hg,rfl,hA3,hb3⟩
 have HB3 := hid (HB1.out.trans (hb3.mono HB1.out.size))
 have HP3 := hid ((hb3.block (w.heap.size + 1) (by rw [HSZ.out]; omega)).trans HP1.out)
 have HA3 := hid hA3
 have HG := hid (show w.heap.size + 2 ≤ g by rw [← HSZ.out]; exact hg)
 have HS3 := hid (HSM.out w3 HB3.out g hA3)
 clear hb3 hA3 hg KA SK HP1 HB1 HSZ HC HSM
 go_wp2_with fail
 refine HS3.out.mono ?_
 rintro e w4 ⟨rfl,hb4⟩
 have HB4 := hid (HB3.out.trans (hb4.mono HB3.out.size))
 have HP4 := hid ((hb4.block (w.heap.size + 1) (lt_of_block HP3.out)).trans HP3.out)
 have HA4 := hid (HA3.out.below hb4 (lt_of_block HA3.out))
 clear hb4 HB3 HP3 HA3 HS3
 go_wp2_with (first
  | (with_reducible refine wpList_build_run (o := ⟨some 38,_,_,_,_,_⟩) rfl 43 _ rfl #[(0,.int .u32 (c : Int)),(1,.int .u64 (a : Int)),(2,.agg HU)] (by simp [Act.eval]) (.agg PR) (HBD.out _) ?_)
  | (with_reducible refine wpList_store_row (o := ⟨none,.store _ (.tmp 9) _,_,_,_,_⟩) rfl 43 _ _ rfl (w.heap.size + 1) PR rfl rfl 43 PZ HP4.out SZ.out SE.out SO.out ?_))
 exact bodyPost_ret (v := .tuple #[.slice (some ⟨g,0,none⟩) 512 512,.agg PR,.int .i64 0]) (results_three Tryz.results104 _ _ (w.heap.size + 1) 43 PR (0,0) _ rfl (setRow_heap _ (w.heap.size + 1) _ PR _ _ HP4.out) Tryz.underlying43 rfl SZ.out _ _ rfl rfl) rfl
  ⟨g,by have := HG.out; omega,by rw [HPR.out],(setRow_other _ _ _ _ (by have := HG.out; omega)).trans HA4.out,ybelow_row HB4.out (by omega) _⟩
def Bts (w : World) (a : Option Addr) (n c : Nat) (l : List (BitVec 8)) : Prop := BS w (.slice a n c) (l.map yv) ∧ l.length = n ∧ n ≤ c ∧ c ≤ 9223372036854775807
theorem Bts.below {w w' : World} {a : Option Addr} {n c : Nat} {l : List (BitVec 8)} (h : Bts w a n c l) (hb : Below w.heap.size w w') : Bts w' a n c l := ⟨h.1.kept hb,h.2⟩
theorem Bts.nil (w : World) : Bts w none 0 0 [] := ⟨bs_nil w,rfl,Nat.le_refl _,by decide⟩
theorem Bts.arr {w : World} {g t n : Nat} {l : List (BitVec 8)} (h : ArrY w g t l) (hn : l.length = n) (hs : n ≤ 9223372036854775807) : Bts w (some ⟨g,0,none⟩) n n l := ⟨BS.of_arr0 h hn,hn,Nat.le_refl _,hs⟩
def openA (k : List (BitVec 8)) (P : PtrV) (l : List (BitVec 8)) : List (BitVec 8) × Int :=
 if l.length ≠ 512 then ([],2) else if fitsB P (l.map yv) = true then (sealS k P.bi.toNat P.ad.toNat l,0) else ([],5)
theorem fits_len (P : PtrV) (l : List (BitVec 8)) (h : l.length = 512) : fitsB P (l.map yv) = decide (hashS (l.map yv) = P.su) := by
 unfold fitsB
 rw [List.length_map,h]
 simp
set_option maxRecDepth 100000 in
set_option maxHeartbeats 3200000 in
theorem popen12_any (k m : List (BitVec 8)) (P : PtrV) (l : List (BitVec 8)) (ad : Option Addr) (n cap : Nat) (w : World) (hK : KT w) (hk : k.length = 32) (hm : m.length = 32) (hB : Bts w ad n cap l) :
 Calls Tryz.prog 60 #[.agg (yvs (k ++ m)),.agg (ptrRow P).toArray,.slice ad n cap] w fun e w' => ∃ x y z,e = .returned (.tuple #[.slice x y z,.int .i64 (openA k P l).2]) ∧ Bts w' x y z (openA k P l).1 ∧ Below w.heap.size w w' := by
 obtain ⟨b1,b2,b3,b4⟩ := hB
 obtain ⟨a,ha⟩ : ∃ a : Nat,P.bi = (a : Int) := ⟨P.bi.toNat,by have := P.b0; omega⟩
 obtain ⟨c,hc⟩ : ∃ c : Nat,P.ad = (c : Int) := ⟨P.ad.toNat,by have := P.a0; omega⟩
 have ha2 : a < 18446744073709551616 := by have := P.b0; omega
 have hc2 : c < 4294967296 := by have := P.a0; omega
 have hat : P.bi.toNat = a := by omega
 have hct : P.ad.toNat = c := by omega
 have HF := hid (fun (W : World) (hb : Below w.heap.size w W) => pfits_any P (l.map yv) ad n cap W (hK.below hb hK.pos) (b1.kept hb) (by rw [List.length_map]; exact b2) b3 b4)
 obtain ⟨hA0,hP0,hsz,hb0⟩ := ytwo w (.cells (yvs (k ++ m)) 30) (.cells (ptrRow P).toArray 43)
 have hcells := ptr_at hP0
 rw [ha,hc] at hcells
 have SZ := hid (size_ptrA P)
 have HSZ := hid hsz
 have SK := hid (size_keys (k ++ m) (by rw [List.length_append,hk,hm]))
 by_cases h : n = 512
 ·have hl : l.length = 512 := by omega
  rw [show openA k P l = (if fitsB P (l.map yv) = true then (sealS k a c l,0) else ([],5)) by unfold openA; rw [if_neg (by omega),hat,hct]]
  subst h
  have HC := hid (fun (W : World) (hb : Below w.heap.size w W) => crypted_any k m a c l ad cap W hk hl (b1.kept hb) hc2)
  have HSL := hid (sealS_length k a c l hl)
  have HCE := hid hcells
  have HP0 := hid hP0
  have HA0 := hid hA0
  have HB1 := hid hb0
  clear hat hct ha hc ha2 hc2 hA0 hP0 hsz hb0 hcells b1 b2 b3 b4 hl hk hm hK
  generalize sealS k a c l = S at *
  generalize fitsB P (l.map yv) = D at *
  generalize (ptrRow P).toArray = PR at *
  generalize yvs (k ++ m) = KM at *
  generalize hw1 : (w.alloc (.cells (KM) 30)).alloc (.cells PR 43) = w1 at *
  go_enter Tryz.func60,Tryz.ntmps60
  go_upto_region 1 with fail
  try rw [hw1]
  clear hw1
  go_wp2_with (first
   | (with_reducible refine wpList_load_row (o := ⟨some 11,_,_,_,_,_⟩) rfl 43 _ rfl (w.heap.size + 1) rfl 43 PR (0,0) _ HP0.out Tryz.underlying43 rfl SZ.out ?_))
  refine (HF.out w1 HB1.out).mono ?_
  rintro e w2 ⟨rfl,hb2⟩
  have HB2 := hid (HB1.out.trans (hb2.mono HB1.out.size))
  have HA2 := hid ((hb2.block (w.heap.size) (lt_of_block HA0.out)).trans HA0.out)
  have HC0 := hid ((hb2.cell (p := ⟨w.heap.size + 1,0,none⟩) (block_lt_of_cell HCE.out.1)).trans HCE.out.1)
  have HC1 := hid ((hb2.cell (p := ⟨w.heap.size + 1,1,none⟩) (block_lt_of_cell HCE.out.2.1)).trans HCE.out.2.1)
  clear hb2 HF HP0 HA0 HCE
  cases D with
  | false =>
    go_wp2_with fail
    go_ret2
    exact ⟨none,0,0,rfl,Bts.nil _,HB2.out⟩
  | true =>
    have hc0 := HC0.out
    have hc1 := HC1.out
    go_wp2_with (first
     | (with_reducible refine wpList_load_row (o := ⟨some 15,_,_,_,_,_⟩) rfl 30 _ rfl w.heap.size rfl 30 KM (0,0) _ HA2.out Tryz.underlying30 rfl SK.out ?_))
    refine (HC.out w2 HB2.out).mono ?_
    rintro e w3 ⟨g,hg,rfl,hA3,hb3⟩
    have HB3 := hid (HB2.out.trans (hb3.mono HB2.out.size))
    have HA3 := hid hA3
    clear hb3 hA3 hg HC hc0 hc1
    go_wp2_with fail
    go_ret2
    exact ⟨_,_,_,rfl,Bts.arr HA3.out HSL.out (by decide),HB3.out⟩
 ·have h1 : ((n : Int) != 512) = true := by simp; omega
  rw [show openA k P l = ([],2) by unfold openA; rw [if_pos (by omega)]]
  have HB1 := hid hb0
  clear hat hct ha hc ha2 hc2 hA0 hP0 hsz hb0 hcells b1 b2 b3 b4 hk hm HF h
  generalize (ptrRow P).toArray = PR at *
  generalize yvs (k ++ m) = KM at *
  generalize hw1 : (w.alloc (.cells (KM) 30)).alloc (.cells PR 43) = w1 at *
  go_enter Tryz.func60,Tryz.ntmps60
  go_upto_region 1 with fail
  try rw [hw1]
  clear hw1
  go_wp2_with fail
  go_ret2
  exact ⟨none,0,0,rfl,Bts.nil _,HB1.out⟩
end Go.Proofs.YtgckapolpifbkaaGreatDoor
