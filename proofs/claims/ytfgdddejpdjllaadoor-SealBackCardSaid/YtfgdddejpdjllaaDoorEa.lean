/-
  Blocks sealed: the plain functions; Derive of both; what is enciphered; whether bytes fit.
-/
import Derived.Test.YtfgdddejpdjllaaDoorLaid
import Derived.Test.YtfgdddejpdjllaaDoorMac0
import Derived.Test.YtfgdddejpdjllaaDoorRMac
import Derived.Test.YtfgdddejpdjllaaDoorCRef3
import Derived.Test.YtfgdddejpdjllaaDoorPv
import Derived.Test.YtfgdddejpdjllaaDoorBy
import Derived.Deep.MidRow
namespace Go.Proofs.YtfgdddejpdjllaaDoor
set_option maxRecDepth 4000
set_option linter.unusedVariables false
open Go.ChangeShapes Go.WideShapes Go.ChangeAt Go.RowKit

def sealS (k : List (BitVec 8)) (a c : Nat) (l : List (BitVec 8)) : List (BitVec 8) := sumB l (strL (keysL k) (beY 8 a ++ beY 4 c) 0 512)
theorem sealS_length (k : List (BitVec 8)) (a c : Nat) (l : List (BitVec 8)) (hl : l.length = 512) : (sealS k a c l).length = 512 := sumB_length _ _ _ hl (by rw [strL_length])
theorem sealS_twice (k : List (BitVec 8)) (a c : Nat) (l : List (BitVec 8)) (hl : l.length = 512) : sealS k a c (sealS k a c l) = l := sumB_twice _ _ (by rw [strL_length, hl])
/-- A pointer by its birth, its address, and the bytes that it sums. -/
def ptrOf (a c : Nat) (l : List Int) : PtrV := if h : c < 4294967296 ∧ a < 18446744073709551616 then ⟨(c : Int), (a : Int), hashS l, by omega, by omega, ⟨hashS_length l, hashS_byt l⟩⟩ else zeroPtr
theorem ptrOf_parts (a c : Nat) (l : List Int) (hc : c < 4294967296) (ha : a < 18446744073709551616) : (ptrOf a c l).ad = (c : Int) ∧ (ptrOf a c l).bi = (a : Int) ∧ (ptrOf a c l).su = hashS l := by
  unfold ptrOf
  rw [dif_pos ⟨hc, ha⟩]
  exact ⟨rfl, rfl, rfl⟩
theorem fill_two (k m Z : List Value) (hk : k.length = 32) (hm : m.length = 32) (hz : Z.length = 64) :
    Instr.fill (#[(0, 32), (32, 32)][·]?) Z.toArray [(0, .agg k.toArray), (1, .agg m.toArray)] = some (k ++ m).toArray := by
  rw [fill_cons _ _ (k ++ Z.drop 32).toArray k.toArray (.agg k.toArray) 0 0 32 _ rfl rfl (by simp [hk]) (by simp [hk, hz]) (fun i => by
    simp only [List.getElem?_toArray, List.size_toArray, hk, Nat.sub_zero]
    by_cases h : i < 32
    · rw [if_pos (by omega), List.getElem?_append_left (by omega)]
    · rw [if_neg (by omega), List.getElem?_append_right (by omega), List.getElem?_drop, hk, show 32 + (i - 32) = i by omega])]
  rw [fill_cons _ _ (k ++ m).toArray m.toArray (.agg m.toArray) 1 32 32 _ rfl rfl (by simp [hm]) (by simp [hk, hz, hm]) (fun i => by
    simp only [List.getElem?_toArray, List.size_toArray, hm]
    by_cases h : i < 32
    · rw [if_neg (by omega), List.getElem?_append_left (by omega), List.getElem?_append_left (by omega)]
    · rw [List.getElem?_append_right (by omega), hk]
      by_cases h2 : i < 64
      · rw [if_pos (by omega)]
      · rw [if_neg (by omega), List.getElem?_eq_none (by omega), List.getElem?_eq_none (by simp [hk, hz]; omega)])]
  rfl
theorem u8s_app (k m : List Int) : u8s (k ++ m) = (k.map (Value.int .u8) ++ m.map (Value.int .u8)).toArray := by unfold u8s; rw [List.map_append]
/-- A block of keys: the one that enciphers, the other one behind it. -/
def KeyB (w : World) (b t : Nat) (k m : List (BitVec 8)) : Prop := ArrY w b t (k ++ m)
theorem KeyB.enc {w : World} {b t : Nat} {k m : List (BitVec 8)} (h : KeyB w b t k m) (hk : k.length = 32) : w.rangeAt b 0 (yvs k).toList := by
  have := ArrY.range h 0 32
  rwa [List.drop_zero, ← hk, List.take_left] at this
theorem KeyB.mac {w : World} {b t : Nat} {k m : List (BitVec 8)} (h : KeyB w b t k m) (hk : k.length = 32) (hm : m.length = 32) : w.rangeAt b 32 (yvs m).toList := by
  have := ArrY.range h 32 32
  rw [← hk, List.drop_left, hk, ← hm, List.take_length, hm] at this
  exact this
theorem KeyB.below {w w' : World} {b t B : Nat} {k m : List (BitVec 8)} (h : KeyB w b t k m) (hb : Below B w w') (hg : b < B) : KeyB w' b t k m := ArrY.below h hb hg
theorem size_keys (l : List (BitVec 8)) (h : l.length = 64) : (Tryd.prog.info? 28).map (·.size) = some (yvs l).size := by rw [show (Tryd.prog.info? 28).map (·.size) = some 64 by kernel_rfl, yvs_size, h]
theorem info_keyL (l : List (BitVec 8)) (h : l.length = 32) : (Tryd.prog.info? 25).map (·.size) = some (yvs l).toList.length := by rw [Array.length_toList]; exact size_key l h
theorem yvs_toY (l : List Int) (h : Byt l) : yvs (toY l) = u8s l := by
  unfold yvs
  have := toY_yv l h
  rw [show (toY l).map (fun b => Value.int .u8 (yv b)) = ((toY l).map yv).map (Value.int .u8) by rw [List.map_map]; rfl, this]
  rfl
theorem toY_length (l : List Int) : (toY l).length = l.length := by simp [toY]

set_option maxRecDepth 100000 in
set_option maxHeartbeats 3200000 in
theorem crypted_any (k m : List (BitVec 8)) (a c : Nat) (l : List (BitVec 8)) (ad : Option Addr) (cap : Nat) (w : World) (hk : k.length = 32) (hl : l.length = 512) (hB : BS w (.slice ad 512 cap) (l.map yv)) (hc : c < 4294967296) :
    Calls Tryd.prog 30 #[.agg (yvs (k ++ m)), .int .u64 (a : Int), .int .u32 (c : Int), .slice ad 512 cap] w fun e w' => ∃ g, w.heap.size ≤ g ∧ e = .returned (.slice (some ⟨g, 0, none⟩) 512 512) ∧ ArrY w' g 5 (sealS k a c l) ∧ Below w.heap.size w w' := by
  have hb1 := (Below.refl w.heap.size w).alloc (Nat.le_refl _) (.cells (yvs (k ++ m)) 28)
  have hA1 := heap_alloc_new w (.cells (yvs (k ++ m)) 28)
  have HN := Lib.hid (fun W => made_any a c W hc)
  have HIK := Lib.hid (info_keyL k hk)
  have HC := Lib.hid (fun (W : World) (hb : Below w.heap.size w W) => crypt_ok k (beY 8 a ++ beY 4 c) l ad 512 cap W (hB.kept hb) hl (by decide) hk (by simp [beY_length]))
  obtain ⟨S, hS⟩ : ∃ y, sumB l (strL (keysL k) (beY 8 a ++ beY 4 c) 0 512) = y := ⟨_, rfl⟩
  have hS2 : sealS k a c l = S := hS
  rw [hS] at HC
  rw [hS2]
  generalize beY 8 a ++ beY 4 c = NL at *
  generalize hw1 : w.alloc (.cells (yvs (k ++ m)) 28) = w1 at *
  have HSV := Lib.hid (show ∀ W, Below w1.heap.size w1 W → W.rangeAt w.heap.size 0 (yvs k).toList from fun W hW => KeyB.enc (KeyB.below (show KeyB w1 w.heap.size 28 k m from hA1) hW (lt_of_block hA1)) hk)
  have HB1 := Lib.hid hb1
  clear hb1 hA1 hS hS2 hk hl hB hc
  generalize yvs (k ++ m) = KM at *
  go_enter Tryd.func30, Tryd.ntmps30
  go_upto_region 1 with fail
  try rw [hw1]
  clear hw1
  try simp only [Act.put]
  refine wp_region_noPanic ?_
  refine wp_region_held_drew (S := fun W => W.rangeAt w.heap.size 0 (yvs k).toList) (by kernel_rfl) (HSV.out _ (Below.refl _ w1).drew) (fun hHeld => ?_)
  refine wpAnyH_take (i := 0) (oi := ⟨some 12, _, _, _, _, _⟩) (v := ?_) rfl (by kernel_rfl) (by decide +kernel) (by decide +kernel) (fun _ _ _ h => h) (Or.inl ⟨by rfl, ?_⟩) (by assumption) ?_
  rotate_left 1
  · (intro w' hSw; go_simp; try with_reducible rfl)
  try simp only [Act.put, List.setIfInBounds_toArray, List.set_cons_zero, List.set_cons_succ]
  refine wpAnyH_take (i := 1) (oi := ⟨some 13, _, _, _, _, _⟩) rfl (by kernel_rfl) (by decide +kernel) (by decide +kernel) (fun _ _ _ h => h) (yieldsIf_load_mid (by rfl) _ _ rfl (w.heap.size) (0) rfl (yvs k).toList _ (fun w' h => h) Tryd.underlying25 rfl HIK.out) (by assumption) ?_
  try simp only [Act.put, List.setIfInBounds_toArray, List.set_cons_zero, List.set_cons_succ, Array.toArray_toList]
  refine wpAnyH_take (i := 2) (oi := ⟨some 14, _, _, _, _, _⟩) (v := ?_) rfl (by kernel_rfl) (by decide +kernel) (by decide +kernel) (fun _ _ _ h => h) (Or.inl ⟨by rfl, ?_⟩) (by assumption) ?_
  rotate_left 1
  · (intro w' hSw; go_simp; try with_reducible rfl)
  try simp only [Act.put, List.setIfInBounds_toArray, List.set_cons_zero, List.set_cons_succ]
  refine wpAnyH_take (i := 3) (oi := ⟨some 15, _, _, _, _, _⟩) (v := ?_) rfl (by kernel_rfl) (by decide +kernel) (by decide +kernel) (fun _ _ _ h => h) (Or.inl ⟨by rfl, ?_⟩) (by assumption) ?_
  rotate_left 1
  · (intro w' hSw; go_simp; try with_reducible rfl)
  try simp only [Act.put, List.setIfInBounds_toArray, List.set_cons_zero, List.set_cons_succ]
  refine wpAnyH_take (i := 5) (oi := ⟨some 17, _, _, _, _, _⟩) (v := ?_) rfl (by kernel_rfl) (by decide +kernel) (by decide +kernel) (fun _ _ _ h => h) (Or.inl ⟨by rfl, ?_⟩) (by assumption) ?_
  rotate_left 1
  · (intro w' hSw; go_simp; try with_reducible rfl)
  try simp only [Act.put, List.setIfInBounds_toArray, List.set_cons_zero, List.set_cons_succ]
  clear hHeld
  refine wpAnyH_ready (rs := [4]) (by decide +kernel) (by simp) ?_
  refine AllReadyH.cons rfl (fun K hK => ?_) AllReadyH.nil
  go_simp
  go_at_call 24
  refine (HN.out _).mono ?_
  rintro e w2 ⟨rfl, hb⟩
  have HB2 := Lib.hid ((Below.refl w1.heap.size w1).drew.trans (hb.mono (Below.refl w1.heap.size w1).drew.size))
  clear hb
  go_wp2_with fail
  refine hK.out _ _ (HSV.out _ HB2.out) (fun hHeld => ?_)
  clear hK K
  try simp only [Act.put, List.setIfInBounds_toArray, List.set_cons_zero, List.set_cons_succ]
  clear hHeld
  refine wpAnyH_ready (rs := [6]) (by decide +kernel) (by simp) ?_
  refine AllReadyH.cons rfl (fun K hK => ?_) AllReadyH.nil
  go_simp
  go_at_call 47
  refine (HC.out _ (HB1.out.trans (HB2.out.mono HB1.out.size))).mono ?_
  rintro e w3 ⟨rfl, hA3, hb⟩
  have HB3 := Lib.hid (HB2.out.trans (hb.mono HB2.out.size))
  have HG := Lib.hid (show w.heap.size ≤ w2.heap.size + 1 + 1 + 1 + 1 by have := HB1.out.size; have := HB2.out.size; omega)
  generalize w2.heap.size + 1 + 1 + 1 + 1 = G3 at *
  have HA3 := Lib.hid hA3
  clear hb hA3
  go_wp2_with fail
  refine hK.out _ _ (HSV.out _ HB3.out) (fun hHeld => ?_)
  clear hK K
  try simp only [Act.put, List.setIfInBounds_toArray, List.set_cons_zero, List.set_cons_succ]
  refine wpAnyH_take (i := 7) (oi := ⟨some 11, _, _, _, _, _⟩) (v := ?_) rfl (by kernel_rfl) (by decide +kernel) (by decide +kernel) (fun _ _ _ h => h) (Or.inl ⟨by rfl, ?_⟩) (by assumption) ?_
  rotate_left 1
  · (intro w' hSw; go_simp; try with_reducible rfl)
  try simp only [Act.put, List.setIfInBounds_toArray, List.set_cons_zero, List.set_cons_succ]
  refine wpAnyH_take (i := 8) (oi := ⟨some 19, _, _, _, _, _⟩) (v := ?_) rfl (by kernel_rfl) (by decide +kernel) (by decide +kernel) (fun _ _ _ h => h) (Or.inl ⟨by rfl, ?_⟩) (by assumption) ?_
  rotate_left 1
  · (intro w' hSw; go_simp; try with_reducible rfl)
  try simp only [Act.put, List.setIfInBounds_toArray, List.set_cons_zero, List.set_cons_succ]
  refine wpAnyH_take (i := 9) (oi := ⟨some 20, _, _, _, _, _⟩) (v := ?_) rfl (by kernel_rfl) (by decide +kernel) (by decide +kernel) (fun _ _ _ h => h) (Or.inl ⟨by rfl, ?_⟩) (by assumption) ?_
  rotate_left 1
  · (intro w' hSw; go_simp; try with_reducible rfl)
  try simp only [Act.put, List.setIfInBounds_toArray, List.set_cons_zero, List.set_cons_succ]
  refine wpAnyH_take (i := 10) (oi := ⟨some 9, _, _, _, _, _⟩) (v := ?_) rfl (by kernel_rfl) (by decide +kernel) (by decide +kernel) (fun _ _ _ h => h) (Or.inl ⟨by rfl, ?_⟩) (by assumption) ?_
  rotate_left 1
  · (intro w' hSw; go_simp; try with_reducible rfl)
  try simp only [Act.put, List.setIfInBounds_toArray, List.set_cons_zero, List.set_cons_succ]
  refine wpAnyH_take (i := 11) (oi := ⟨some 10, _, _, _, _, _⟩) (v := ?_) rfl (by kernel_rfl) (by decide +kernel) (by decide +kernel) (fun _ _ _ h => h) (Or.inl ⟨by rfl, ?_⟩) (by assumption) ?_
  rotate_left 1
  · (intro w' hSw; go_simp; try with_reducible rfl)
  try simp only [Act.put, List.setIfInBounds_toArray, List.set_cons_zero, List.set_cons_succ]
  clear hHeld
  refine wpAnyH_done (by decide +kernel) ?_ _
  refine NoPanic.normal ?_
  go_wp2_with fail
  go_ret
  exact ⟨G3, HG.out, rfl, HA3.out, HB1.out.trans (HB3.out.mono HB1.out.size)⟩

theorem pkeys_build (k m : List Int) (hk : k.length = 32) (hm : m.length = 32) (W : World) : (Instr.build 28 #[(0, .agg (u8s k)), (1, .agg (u8s m))]).run Tryd.prog W = .ok (.agg (u8s (k ++ m))) W := by
  refine run_build W 28 _ _ ?_
  rw [show ∀ parts : List (Nat × Value), Tryd.prog.built 28 parts = Instr.fill (#[(0, 32), (32, 32)][·]?) (u8s (List.replicate 64 0)) parts from fun _ => by kernel_rfl]
  rw [u8s_app]
  exact fill_two _ _ _ (by simp [hk]) (by simp [hm]) (by simp)
set_option maxRecDepth 100000 in
set_option maxHeartbeats 1600000 in
theorem pkeys_any (x : List Int) (v : Value) (w : World) (hv : BS w v x) (hr : Room v) (hK : KT w) (hn : x.length ≤ 140737488355328) :
    Calls Tryd.prog 11 #[v] w fun e w' => e = .returned (.agg (u8s (macS x [101, 110, 99] ++ macS x [109, 97, 99]))) ∧ Below w.heap.size w w' := by
  have hb1 := (Below.refl w.heap.size w).alloc (Nat.le_refl _) (.cells (u8s (List.replicate 64 0)) 28)
  have hA1 := heap_alloc_new w (.cells (u8s (List.replicate 64 0)) 28)
  have HD1 := Lib.hid (fun (W : World) (hb : Below w.heap.size w W) => show Calls Tryd.prog 26 #[v, .string ⟨#[101, 110, 99]⟩] W fun e w' => e = .returned (.agg (u8s (macS x [101, 110, 99]))) ∧ Below W.heap.size W w' from derive_any x v ⟨#[101, 110, 99]⟩ W (hK.below hb hK.pos) (hv.kept hb) hr hn (by decide))
  have HD2 := Lib.hid (fun (W : World) (hb : Below w.heap.size w W) => show Calls Tryd.prog 26 #[v, .string ⟨#[109, 97, 99]⟩] W fun e w' => e = .returned (.agg (u8s (macS x [109, 97, 99]))) ∧ Below W.heap.size W w' from derive_any x v ⟨#[109, 97, 99]⟩ W (hK.below hb hK.pos) (hv.kept hb) hr hn (by decide))
  have HBD := Lib.hid (pkeys_build (macS x [101, 110, 99]) (macS x [109, 97, 99]) (macS_length _ _) (macS_length _ _))
  have SE := Lib.hid (show (Tryd.prog.info? 28).map (·.size) = some (u8s (macS x [101, 110, 99] ++ macS x [109, 97, 99])).size by rw [show (Tryd.prog.info? 28).map (·.size) = some 64 by kernel_rfl, u8s_size, List.length_append, macS_length, macS_length])
  have SL := Lib.hid (show (u8s (List.replicate 64 0)).size = (u8s (macS x [101, 110, 99] ++ macS x [109, 97, 99])).size by rw [u8s_size, u8s_size, List.length_append, macS_length, macS_length, List.length_replicate])
  have SO := Lib.hid (u8s_one (macS x [101, 110, 99] ++ macS x [109, 97, 99]))
  have hz : ∀ W : World, (zeroValue 28).run Tryd.prog W = .ok (.agg (u8s (List.replicate 64 0))) W := fun W => by kernel_rfl
  generalize u8s (macS x [101, 110, 99] ++ macS x [109, 97, 99]) = KM at *
  generalize u8s (macS x [101, 110, 99]) = K1 at *
  generalize u8s (macS x [109, 97, 99]) = M1 at *
  generalize u8s (List.replicate 64 0) = ZK at *
  generalize hw1 : w.alloc (.cells ZK 28) = w1 at *
  have HB1 := Lib.hid hb1
  have HA1 := Lib.hid hA1
  clear hb1 hA1 hv hr hn
  go_enter Tryd.func11, Tryd.ntmps11
  go_upto_region 1 with fail
  try rw [hw1]
  clear hw1 hz
  go_wp2_with fail
  refine (HD1.out w1 HB1.out).mono ?_
  rintro e w2 ⟨rfl, hb2⟩
  have HB2 := Lib.hid (HB1.out.trans (hb2.mono HB1.out.size))
  have HA2 := Lib.hid ((hb2.block w.heap.size (lt_of_block HA1.out)).trans HA1.out)
  clear hb2 HD1
  go_wp2_with fail
  refine (HD2.out w2 HB2.out).mono ?_
  rintro e w3 ⟨rfl, hb3⟩
  have HB3 := Lib.hid (HB2.out.trans (hb3.mono HB2.out.size))
  have HA3 := Lib.hid ((hb3.block w.heap.size (lt_of_block HA2.out)).trans HA2.out)
  clear hb3 HD2 HA1 HA2 HB1 HB2
  go_wp2_with (first
    | (with_reducible refine wpList_build_run (o := ⟨some 7, _, _, _, _, _⟩) rfl 28 _ rfl #[(0, .agg K1), (1, .agg M1)] (by simp [Act.eval]) (.agg KM) (HBD.out _) ?_)
    | (with_reducible refine wpList_store_row (o := ⟨none, .store _ (.tmp 2) _, _, _, _, _⟩) rfl 28 _ _ rfl w.heap.size KM rfl rfl 28 ZK HA3.out SE.out SL.out SO.out ?_))
  exact bodyPost_ret (v := .agg KM) (results_cell_row Tryd.results11 _ _ w.heap.size 28 KM (0, 0) _ rfl (setRow_heap _ w.heap.size _ KM _ _ HA3.out) Tryd.underlying28 rfl SE.out) rfl ⟨rfl, ybelow_row HB3.out (Nat.le_refl _) _⟩
theorem rkeys_build (k m : List Int) (hk : k.length = 32) (hm : m.length = 32) (W : World) : (Instr.build 31 #[(0, .agg (u8s k)), (1, .agg (u8s m))]).run Tryd.prog W = .ok (.agg (u8s (k ++ m))) W := by
  refine run_build W 31 _ _ ?_
  rw [show ∀ parts : List (Nat × Value), Tryd.prog.built 31 parts = Instr.fill (#[(0, 32), (32, 32)][·]?) (u8s (List.replicate 64 0)) parts from fun _ => by kernel_rfl]
  rw [u8s_app]
  exact fill_two _ _ _ (by simp [hk]) (by simp [hm]) (by simp)
set_option maxRecDepth 100000 in
set_option maxHeartbeats 1600000 in
theorem rkeys_any (x : List Int) (v : Value) (w : World) (hv : BS w v x) (hr : Room v) (hn : x.length ≤ 900000) :
    Calls Tryd.prog 12 #[v] w fun e w' => e = .returned (.agg (u8s (macS x [101, 110, 99] ++ macS x [109, 97, 99]))) ∧ Below w.heap.size w w' := by
  have hb1 := (Below.refl w.heap.size w).alloc (Nat.le_refl _) (.cells (u8s (List.replicate 64 0)) 31)
  have hA1 := heap_alloc_new w (.cells (u8s (List.replicate 64 0)) 31)
  have HD1 := Lib.hid (fun (W : World) (hb : Below w.heap.size w W) => show Calls Tryd.prog 27 #[v, .string ⟨#[101, 110, 99]⟩] W fun e w' => e = .returned (.agg (u8s (macS x [101, 110, 99]))) ∧ Below W.heap.size W w' from rderive_any x v ⟨#[101, 110, 99]⟩ W (hv.kept hb) hr hn (by decide))
  have HD2 := Lib.hid (fun (W : World) (hb : Below w.heap.size w W) => show Calls Tryd.prog 27 #[v, .string ⟨#[109, 97, 99]⟩] W fun e w' => e = .returned (.agg (u8s (macS x [109, 97, 99]))) ∧ Below W.heap.size W w' from rderive_any x v ⟨#[109, 97, 99]⟩ W (hv.kept hb) hr hn (by decide))
  have HBD := Lib.hid (rkeys_build (macS x [101, 110, 99]) (macS x [109, 97, 99]) (macS_length _ _) (macS_length _ _))
  have SE := Lib.hid (show (Tryd.prog.info? 31).map (·.size) = some (u8s (macS x [101, 110, 99] ++ macS x [109, 97, 99])).size by rw [show (Tryd.prog.info? 31).map (·.size) = some 64 by kernel_rfl, u8s_size, List.length_append, macS_length, macS_length])
  have SL := Lib.hid (show (u8s (List.replicate 64 0)).size = (u8s (macS x [101, 110, 99] ++ macS x [109, 97, 99])).size by rw [u8s_size, u8s_size, List.length_append, macS_length, macS_length, List.length_replicate])
  have SO := Lib.hid (u8s_one (macS x [101, 110, 99] ++ macS x [109, 97, 99]))
  have hz : ∀ W : World, (zeroValue 31).run Tryd.prog W = .ok (.agg (u8s (List.replicate 64 0))) W := fun W => by kernel_rfl
  generalize u8s (macS x [101, 110, 99] ++ macS x [109, 97, 99]) = KM at *
  generalize u8s (macS x [101, 110, 99]) = K1 at *
  generalize u8s (macS x [109, 97, 99]) = M1 at *
  generalize u8s (List.replicate 64 0) = ZK at *
  generalize hw1 : w.alloc (.cells ZK 31) = w1 at *
  have HB1 := Lib.hid hb1
  have HA1 := Lib.hid hA1
  clear hb1 hA1 hv hr hn
  go_enter Tryd.func12, Tryd.ntmps12
  go_upto_region 1 with fail
  try rw [hw1]
  clear hw1 hz
  go_wp2_with fail
  refine (HD1.out w1 HB1.out).mono ?_
  rintro e w2 ⟨rfl, hb2⟩
  have HB2 := Lib.hid (HB1.out.trans (hb2.mono HB1.out.size))
  have HA2 := Lib.hid ((hb2.block w.heap.size (lt_of_block HA1.out)).trans HA1.out)
  clear hb2 HD1
  go_wp2_with fail
  refine (HD2.out w2 HB2.out).mono ?_
  rintro e w3 ⟨rfl, hb3⟩
  have HB3 := Lib.hid (HB2.out.trans (hb3.mono HB2.out.size))
  have HA3 := Lib.hid ((hb3.block w.heap.size (lt_of_block HA2.out)).trans HA2.out)
  clear hb3 HD2 HA1 HA2 HB1 HB2
  go_wp2_with (first
    | (with_reducible refine wpList_build_run (o := ⟨some 7, _, _, _, _, _⟩) rfl 31 _ rfl #[(0, .agg K1), (1, .agg M1)] (by simp [Act.eval]) (.agg KM) (HBD.out _) ?_)
    | (with_reducible refine wpList_store_row (o := ⟨none, .store _ (.tmp 2) _, _, _, _, _⟩) rfl 31 _ _ rfl w.heap.size KM rfl rfl 31 ZK HA3.out SE.out SL.out SO.out ?_))
  exact bodyPost_ret (v := .agg KM) (results_cell_row Tryd.results12 _ _ w.heap.size 31 KM (0, 0) _ rfl (setRow_heap _ w.heap.size _ KM _ _ HA3.out) Tryd.underlying31 rfl SE.out) rfl ⟨rfl, ybelow_row HB3.out (Nat.le_refl _) _⟩
end Go.Proofs.YtfgdddejpdjllaaDoor
