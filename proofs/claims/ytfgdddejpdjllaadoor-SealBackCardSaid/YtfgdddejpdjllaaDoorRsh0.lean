/-
  With: The reference's hash: of bytes, with the numbers made.
  With2: The reference's hash: the bytes and what stands behind them, block by block.
  RHex: The reference's text of a hash.
  RSum: The reference's hash of bytes at once.
  RKey: The reference's codes: a key as 64 bytes, each byte turned.
-/
import Derived.Test.YtfgdddejpdjllaaDoorBlock
import Derived.Test.YtfgdddejpdjllaaDoorZeros
import Derived.Deep.DeepCutAuto
import Derived.Test.YtfgdddejpdjllaaDoorSha1
import Derived.Test.YtfgdddejpdjllaaDoorTwo0
import Derived.Test.YtfgdddejpdjllaaDoorMac0
namespace Go.Proofs.YtfgdddejpdjllaaDoor
set_option maxRecDepth 4000
open Go.RowKit

set_option maxRecDepth 100000 in
theorem hashH_eq : hashH = H0.map BitVec.toNat := by decide +kernel
set_option maxRecDepth 100000 in
theorem hashK_eq : hashK = KS.map BitVec.toNat := by decide +kernel
theorem u32s_wvs (xs : List (BitVec 32)) : u32s (xs.map BitVec.toNat) = (wvs xs).toList := by
  unfold u32s wvs
  rw [List.map_map]
  rfl
/-- What Made leaves, as the numbers that hashes are made with. -/
structure Mad (w : World) (g1 c1 g2 c2 : Nat) : Prop where
  h : ∀ i, i < 8 → w.cell? ⟨g1, i, none⟩ = some (.int .u32 (wv (H0.getD i 0)))
  k : ∀ i, i < 64 → w.cell? ⟨g2, i, none⟩ = some (.int .u32 (wv (KS.getD i 0)))
  c1 : 8 ≤ c1
  c2 : 64 ≤ c2
theorem Mad.lt {w : World} {g1 c1 g2 c2 : Nat} (m : Mad w g1 c1 g2 c2) : g1 < w.heap.size ∧ g2 < w.heap.size := ⟨block_lt_of_cell (m.h 0 (by decide)), block_lt_of_cell (m.k 0 (by decide))⟩
theorem Mad.kept {w w' : World} {g1 c1 g2 c2 : Nat} (m : Mad w g1 c1 g2 c2) (hb : Below w.heap.size w w') : Mad w' g1 c1 g2 c2 :=
  ⟨fun i hi => (hb.cell (p := ⟨g1, i, none⟩) m.lt.1).trans (m.h i hi), fun i hi => (hb.cell (p := ⟨g2, i, none⟩) m.lt.2).trans (m.k i hi), m.c1, m.c2⟩
theorem made2_any (w : World) : Calls Tryd.prog 51 #[] w fun e w' => (∃ g1 c1 g2 c2, e = .returned (.agg #[.slice (some ⟨g1, 0, none⟩) 8 c1, .slice (some ⟨g2, 0, none⟩) 64 c2]) ∧ Mad w' g1 c1 g2 c2) ∧ Below w.heap.size w w' := by
  refine (rmade_any w).mono ?_
  rintro e w' ⟨v1, v2, rfl, h1, h2, hb⟩
  obtain ⟨a1, c1, rfl, hs1⟩ := own_shape h1
  obtain ⟨g1, rfl, k1⟩ := hs1.resolve_left (by omega)
  obtain ⟨a2, c2, rfl, hs2⟩ := own_shape h2
  obtain ⟨g2, rfl, k2⟩ := hs2.resolve_left (by omega)
  rw [hashH_eq, u32s_wvs] at k1
  rw [hashK_eq, u32s_wvs] at k2
  have r1 : 8 ≤ c1 := by
    rcases h1.2 with ⟨h, _⟩ | ⟨g, cap, cur, h, _, _, hn, _⟩
    · cases h
    · injection h with _ _ h; subst h; exact hn
  have r2 : 64 ≤ c2 := by
    rcases h2.2 with ⟨h, _⟩ | ⟨g, cap, cur, h, _, _, hn, _⟩
    · cases h
    · injection h with _ _ h; subst h; exact hn
  exact ⟨⟨g1, c1, g2, c2, rfl, ⟨fun i hi => (k1 i hi).trans (by rw [Array.getElem?_toList]; exact wvs_at H0 i hi), fun i hi => (k2 i hi).trans (by rw [Array.getElem?_toList]; exact wvs_at KS i (by rw [KS_length]; exact hi)), r1, r2⟩⟩, hb⟩

set_option maxHeartbeats 400000 in
theorem rbytes_any (x : Int) (n : Nat) (w : World) (h2 : n ≤ 8) (h0 : 0 ≤ x) (h1 : x < 18446744073709551616) (h3 : x / 256 ^ n = 0) :
    Calls Tryd.prog 49 #[.int .u64 x, .int .i64 n] w fun e w' => e = .returned (.slice (some ⟨w.heap.size, 0, none⟩) n n) ∧ w'.ownsRow w.heap.size 5 1 (.slice (some ⟨w.heap.size, 0, none⟩) n n) n ((putI x n).map (.int .u8)) ∧ Below w.heap.size w w' := by
  have HP := Lib.hid (rput_loop x n w h2 h0 h1)
  have H3 := Lib.hid h3
  clear h0 h1 h2 h3
  go_enter Tryd.func49, Tryd.ntmps49
  go_wp2_with fail
  refine HP.out.mono ?_
  rintro e w' ⟨hb, h | h⟩
  · obtain ⟨_, rfl, ho⟩ := h
    have HO := Lib.hid ho
    clear ho
    go_wp2_with fail
    go_ret
    exact ⟨rfl, HO.out, hb⟩
  · exact absurd H3.out h.1

theorem size_u32x8 (x : List (BitVec 32)) (h : x.length = 8) : (Tryd.prog.info? 81).map (·.size) = some (wvs x).size := by rw [show (Tryd.prog.info? 81).map (·.size) = some 8 by kernel_rfl, wvs_size, h]
theorem slice_u32x8 (g : Nat) (W : World) : (Instr.sliceAt 81 (.pointer (some ⟨g, 0, none⟩)) none none none).run Tryd.prog W = .ok (.slice (some ⟨g, 0, none⟩) 8 8) W := by
  obtain ⟨i0, hi, _⟩ := Option.map_eq_some_iff.1 one_u32
  simp [Instr.sliceAt, run_underlying Tryd.underlying81, Instr.sureAddr, Instr.sliceBounds, sizeOf, typeInfo, hi, Addr.add_mid]
/-- From byte 4 i of a hash on. -/
theorem slice_h32 (g i : Nat) (hi : i < 8) (W : World) : (Instr.sliceAt 26 (.pointer (some ⟨g, 0, none⟩)) (some (.int .i64 (4 * (i : Int)))) none none).run Tryd.prog W = .ok (.slice (some ⟨g, 4 * i, none⟩) (32 - 4 * i) (32 - 4 * i)) W := by
  obtain ⟨i0, hi0, hs⟩ := Option.map_eq_some_iff.1 one_u8
  have hb : (Instr.sliceBound (.int .i64 (4 * (i : Int))) 32 .sliceB).run Tryd.prog W = .ok (4 * i) W := by
    have := bound_ok (4 * i) 32 .sliceB (by omega) W
    rwa [Int.natCast_mul] at this
  have hne : ¬ (32 = 4 * i) := by omega
  simp [Instr.sliceAt, run_underlying Tryd.underlying26, Instr.sureAddr, Instr.sliceBounds, sizeOf, typeInfo, hi0, hs, hb, hne, Addr.add_mid]
theorem hashP_four (x : List (BitVec 32)) (i : Nat) (h : i < 8) : splice (u8s (hashP x (4 * i))).toList (4 * i) (u8s (putI (wv (x.getD i 0)) 4)).toList = (u8s (hashP x (4 * (i + 1)))).toList := by
  have key : (hashP x (4 * i)).take (4 * i) ++ putI (wv (x.getD i 0)) 4 ++ (hashP x (4 * i)).drop (4 * i + 4) = hashP x (4 * (i + 1)) := by
    apply List.ext_getElem
    · simp [hashP_length, putI_length]; omega
    · intro j h1 h2
      rw [hashP_length] at h2
      by_cases hj : j < 4 * i
      · rw [List.getElem_append_left (by simp [hashP_length, putI_length]; omega), List.getElem_append_left (by simp [hashP_length]; omega), List.getElem_take]
        simp only [hashP, List.getElem_map, List.getElem_range]
        rw [if_pos hj, if_pos (by omega)]
      · by_cases hj2 : j < 4 * i + 4
        · rw [List.getElem_append_left (by simp [hashP_length, putI_length]; omega), List.getElem_append_right (by simp [hashP_length]; omega)]
          simp only [putI, hashP, List.getElem_map, List.getElem_range, List.length_take, List.length_map, List.length_range]
          rw [if_pos (by omega), show min (4 * i) 32 = 4 * i by omega, show j / 4 = i by omega, show 4 - 1 - (j - 4 * i) = 3 - j % 4 by omega]
        · rw [List.getElem_append_right (by simp [hashP_length, putI_length]; omega), List.getElem_drop]
          simp only [hashP, List.getElem_map, List.getElem_range, List.length_append, List.length_take, List.length_map, List.length_range, putI_length]
          rw [if_neg (by omega), if_neg (by omega)]
  unfold splice
  rw [← key]
  simp [u8s, List.map_take, List.map_drop, putI_length]
end Go.Proofs.YtfgdddejpdjllaaDoor
namespace Go.Proofs.YtfgdddejpdjllaaDoor
set_option maxRecDepth 4000
open Go.RowKit

theorem slice_own (g n c p q : Nat) (h1 : p ≤ q) (h2 : q ≤ n) (h3 : n ≤ c) (h4 : p < c) (W' : World) :
    (Instr.slice 22 (.slice (some ⟨g, 0, none⟩) n c) (some (.int .i64 (p : Int))) (some (.int .i64 (q : Int))) none).run Tryd.prog W' = .ok (.slice (some ⟨g, p, none⟩) (q - p) (c - p)) W' := by
  obtain ⟨i0, hi0, hs⟩ := Option.map_eq_some_iff.1 one_u8
  have b1 := bound_ok q c .sliceAcap (by omega) W'
  have b2 := bound_ok p q .sliceB h1 W'
  have hne : ¬ (c = p) := by omega
  simp [Instr.slice, run_underlying Tryd.underlying22, Instr.sliceBounds, sizeOf, typeInfo, hi0, hs, b1, b2, hne, Addr.add_mid]
theorem index_x8 (x : List (BitVec 32)) (hx : x.length = 8) (k : Nat) (h : k < 8) (w : World) : (Instr.index 81 (.agg (wvs x)) (.int .i64 (k : Int))).run Tryd.prog w = .ok (.int .u32 (wv (x.getD k 0))) w := by
  obtain ⟨i0, hi, hs⟩ := Option.map_eq_some_iff.1 one_u32
  exact index_agg _ _ _ _ k _ i0 _ Tryd.underlying81 Tryd.underlying35 rfl hi hs h (by rw [wvs_at x k (by omega)]) w
theorem Mad.keptB {w w' : World} {B g1 c1 g2 c2 : Nat} (m : Mad w g1 c1 g2 c2) (hb : Below B w w') (h1 : g1 < B) (h2 : g2 < B) : Mad w' g1 c1 g2 c2 :=
  ⟨fun i hi => (hb.cell (p := ⟨g1, i, none⟩) h1).trans (m.h i hi), fun i hi => (hb.cell (p := ⟨g2, i, none⟩) h2).trans (m.k i hi), m.c1, m.c2⟩
theorem wvs_one' (xs : List (BitVec 32)) : ∀ v ∈ (wvs xs).toList, v.oneCell' = true := fun v hv => (Array.all_eq_true_iff_forall_mem.1 (wvs_one xs)) v (by simpa using hv)

set_option maxRecDepth 100000 in
set_option maxHeartbeats 6400000 in
theorem rwith_any (l : List Int) (v : Value) (g1 c1 g2 c2 : Nat) (w : World) (hM : Mad w g1 c1 g2 c2) (hv : BS w v l) (hn : l.length ≤ 1000000) :
    Calls Tryd.prog 50 #[.agg #[.slice (some ⟨g1, 0, none⟩) 8 c1, .slice (some ⟨g2, 0, none⟩) 64 c2], v] w fun e w' => e = .returned (.agg (u8s (hashS l))) ∧ Below w.heap.size w w' := by
  obtain ⟨a0, cap0, rfl, hy, _, _⟩ := id hv
  have HV := Lib.hid hv
  have HY := Lib.hid hy
  have HM := Lib.hid hM
  have HN := Lib.hid hn
  have hnI : (l.length : Int) ≤ 1000000 := by omega
  clear hv hy hM hn
  go_enter Tryd.func50, Tryd.ntmps50
  go_upto_region 1 with (fail)
  have h1 := heap_alloc2_old w (.cells #[.slice (some ⟨g1, 0, none⟩) 8 c1, .slice (some ⟨g2, 0, none⟩) 64 c2] 104) (.cells (u8s (List.replicate 32 0)) 26)
  have h2 := heap_alloc2_new w (.cells #[.slice (some ⟨g1, 0, none⟩) 8 c1, .slice (some ⟨g2, 0, none⟩) 64 c2] 104) (.cells (u8s (List.replicate 32 0)) 26)
  have hb : Below w.heap.size w ((w.alloc (.cells #[.slice (some ⟨g1, 0, none⟩) 8 c1, .slice (some ⟨g2, 0, none⟩) 64 c2] 104)).alloc (.cells (u8s (List.replicate 32 0)) 26)) := ((Below.refl w.heap.size w).alloc (Nat.le_refl _) _).alloc (by simp) _
  have hz : ((w.alloc (.cells #[.slice (some ⟨g1, 0, none⟩) 8 c1, .slice (some ⟨g2, 0, none⟩) 64 c2] 104)).alloc (.cells (u8s (List.replicate 32 0)) 26)).heap.size = w.heap.size + 2 := by simp
  refine (show ∀ W1 : World, W1 = ((w.alloc (.cells #[.slice (some ⟨g1, 0, none⟩) 8 c1, .slice (some ⟨g2, 0, none⟩) 64 c2] 104)).alloc (.cells (u8s (List.replicate 32 0)) 26)) → _ from ?_) _ rfl
  intro W1 eW
  rw [← eW] at h1 h2 hb hz
  have HC1 := Lib.hid h1
  have HR1 := Lib.hid h2
  have HB1 := Lib.hid hb
  have HZ1 := Lib.hid hz
  have HM1 := Lib.hid (HM.out.kept hb)
  have HV1 := Lib.hid (HV.out.kept hb)
  clear eW h1 h2 hb hz
  have HNE := Lib.hid (own_empty W1)
  have HB2 := Lib.hid ((Below.refl W1.heap.size W1).alloc (Nat.le_refl _) (.cells #[] 5))
  have HL2 := Lib.hid (HV1.out.kept HB2.out)
  have HY128 := Lib.hid (show Byt [128] by intro z hz; simp at hz; omega)
  have HY0 := Lib.hid (show Byt [0] by intro z hz; simp at hz; omega)
  go_wp2_with (first
    | (at_builtin; (with_reducible refine wpList_append_BS (o := ⟨some 13, _, _, _, _, _⟩) rfl _ _ rfl W1.heap.size (.slice (some ⟨W1.heap.size, 0, none⟩) 0 0) 0 [] rfl HNE.out (.slice a0 l.length cap0) l rfl HL2.out (by have := HN.out; omega) (by simp) ?_); intro v3 w3 ho3 hg3; (rw [Nat.zero_add, List.nil_append] at ho3); obtain ⟨a3, c3, rfl, _⟩ := own_shape ho3; have HB3 := Lib.hid (HB2.out.grown hg3 (by simp) (fun k hk => by have h : W1.heap.size = k := Option.some.inj hk; omega)); have HB4 := Lib.hid ((Below.refl w3.heap.size w3).alloc (Nat.le_refl _) (.cells #[Value.int .u8 128] 5)); have HO4 := Lib.hid (own_below ho3 HB4.out); have HL4 := Lib.hid (show BS (w3.alloc (.cells #[Value.int .u8 128] 5)) (.slice (some ⟨w3.heap.size, 0, none⟩) 1 1) [128] from bs_const (heap_alloc_new w3 (.cells (u8s [128]) 5)) HY128.out 1 rfl); clear ho3 hg3)
    | (at_builtin; (with_reducible refine wpList_append_BS (o := ⟨some 15, _, _, _, _, _⟩) rfl _ _ rfl W1.heap.size (.slice a3 l.length c3) l.length (l.map (.int .u8)) rfl HO4.out (.slice (some ⟨w3.heap.size, 0, none⟩) 1 1) [128] rfl HL4.out (by have := HN.out; simp; omega) (Nat.le_trans HB3.out.size HB4.out.size) ?_); intro v5 w5 ho5 hg5; (rw [← List.map_append] at ho5); obtain ⟨a5, c5, rfl, _⟩ := own_shape ho5; have HO5 := Lib.hid (show w5.ownsRow W1.heap.size 5 1 (.slice a5 (l.length + 1) c5) (l.length + 1) ((l ++ [128]).map (.int .u8)) from ho5); have HB5 := Lib.hid ((HB3.out.trans (HB4.out.mono HB3.out.size)).grown hg5 (Nat.le_trans HB3.out.size HB4.out.size) (fun k hk => (HO4.out.lt k hk).1)); clear ho5 hg5))
  obtain ⟨P, hP⟩ : ∃ P, P = padZ l.length := ⟨_, rfl⟩
  have HP := Lib.hid hP
  clear hP
  go_loopw [5] (fun v5 wr => ∃ (z m : Nat) (a c : _) , z ≤ P ∧ m = l.length + 1 + z ∧ v5 = .slice a m c ∧ wr.ownsRow W1.heap.size 5 1 (.slice a m c) m ((l ++ (128 :: List.replicate z 0)).map (.int .u8)) ∧ Below W1.heap.size W1 wr) (fun v _ => l.length + 200 - lenV v)
  case atStart => exact ⟨0, l.length + 1, a5, c5, by omega, rfl, rfl, HO5.out, HB5.out⟩
  case round =>
    obtain ⟨z, m, a, c, hzP, hm, rfl, ho, hbe⟩ := hrel
    have HO := Lib.hid ho
    have HBE := Lib.hid hbe
    have HMM := Lib.hid hm
    have hPb : P ≤ 63 := by rw [HP.out]; unfold padZ; omega
    have hmI : (m : Int) ≤ 1000100 := by omega
    have hm0 : (0 : Int) ≤ (m : Int) := by omega
    obtain ⟨r, hr, hr2⟩ : ∃ r : Nat, (m : Int) % 64 = (r : Int) ∧ m % 64 = r := ⟨m % 64, by omega, rfl⟩
    have hrt : (m : Int).tmod 64 = (r : Int) := by rw [Int.tmod_eq_emod_of_nonneg hm0]; exact hr
    by_cases hlt : z < P
    · have hne : r ≠ 56 := by
        have h := HP.out
        unfold padZ at h
        omega
      have hrB : ((r : Int) == 56) = false := by simp; omega
      have hrC : ((r : Int) != 56) = true := by simp; omega
      have HB6 := Lib.hid ((Below.refl wr.heap.size wr).alloc (Nat.le_refl _) (.cells #[Value.int .u8 0] 5))
      have HO6 := Lib.hid (own_below ho HB6.out)
      have HL6 := Lib.hid (show BS (wr.alloc (.cells #[Value.int .u8 0] 5)) (.slice (some ⟨wr.heap.size, 0, none⟩) 1 1) [0] from bs_const (heap_alloc_new wr (.cells (u8s [0]) 5)) HY0.out 1 rfl)
      have HLT := Lib.hid hlt
      have HPB := Lib.hid hPb
      clear hne hr2 ho hbe hm hlt hzP hPb
      go_wp2_with (first
        | (at_builtin; (with_reducible refine wpList_append_BS (o := ⟨some 22, _, _, _, _, _⟩) rfl _ _ rfl W1.heap.size (.slice a m c) m ((l ++ (128 :: List.replicate z 0)).map (.int .u8)) rfl HO6.out (.slice (some ⟨wr.heap.size, 0, none⟩) 1 1) [0] rfl HL6.out (by simp; omega) (Nat.le_trans HBE.out.size HB6.out.size) ?_); intro v7 w7 ho7 hg7; (rw [← List.map_append] at ho7); obtain ⟨a7, c7, rfl, _⟩ := own_shape ho7; have HO7 := Lib.hid (show w7.ownsRow W1.heap.size 5 1 (.slice a7 (m + 1) c7) (m + 1) ((l ++ (128 :: List.replicate z 0) ++ [0]).map (.int .u8)) from ho7); have HB7 := Lib.hid ((HBE.out.trans (HB6.out.mono HBE.out.size)).grown hg7 (Nat.le_trans HBE.out.size HB6.out.size) (fun k hk => (HO6.out.lt k hk).1)); clear ho7 hg7))
      go_roundw
      case rel =>
        refine ⟨z + 1, m + 1, a7, c7, by have := HLT.out; omega, by rw [HMM.out]; omega, rfl, ?_, HB7.out⟩
        have e : l ++ (128 :: List.replicate (z + 1) 0) = l ++ (128 :: List.replicate z 0) ++ [0] := by rw [List.append_assoc, List.cons_append, ← List.replicate_succ']
        rw [e]
        exact HO7.out
      case measure => simp [lenV]; have := HMM.out; have := HLT.out; have := HPB.out; omega
    · have hzz : z = P := by omega
      subst hzz
      have he : r = 56 := by
        have h := HP.out
        unfold padZ at h
        omega
      have HMU := Lib.hid hm
      have HLM := Lib.hid (show m % 64 = 56 by omega)
      subst he
      have h8 : ((l.length : Int) * 8) < 18446744073709551616 := by omega
      have hl0 : (0 : Int) ≤ (l.length : Int) := by omega
      have HBY := Lib.hid (rbytes_any ((l.length : Int) * 8) 8 wr (by omega) (by omega) h8 (Int.ediv_eq_zero_of_lt (by omega) (by simpa using h8)))
      clear hr2 ho hbe hm hlt hzP hPb h8
      go_wp2_with fail
      refine HBY.out.mono ?_
      rintro e w8 ⟨rfl, ho8, hb8⟩
      have HB8 := Lib.hid (HBE.out.trans (hb8.mono HBE.out.size))
      have HO8 := Lib.hid (own_below HO.out hb8)
      have HL8 := Lib.hid (BS.of_owns ho8 (putI_length _ _) (putI_byt _ _))
      clear ho8 hb8
      go_upto_region 6 with (first
        | (at_builtin; (with_reducible refine wpList_append_BS (o := ⟨some 29, _, _, _, _, _⟩) rfl _ _ rfl W1.heap.size (.slice a m c) m ((l ++ (128 :: List.replicate z 0)).map (.int .u8)) rfl HO8.out (.slice (some ⟨wr.heap.size, 0, none⟩) 8 8) (putI ((l.length : Int) * 8) 8) rfl HL8.out (by rw [putI_length]; omega) HB8.out.size ?_); intro v9 w9 ho9 hg9; (rw [← List.map_append, putI_length] at ho9); obtain ⟨a9, c9, rfl, hsh9⟩ := own_shape ho9; have HO9 := Lib.hid ho9; have HSH9 := Lib.hid hsh9; have HB9 := Lib.hid (HB8.out.grown hg9 HB8.out.size (fun k hk => (HO8.out.lt k hk).1)); clear ho9 hg9 hsh9))
      obtain ⟨g9, rfl, _⟩ := HSH9.out.resolve_left (by omega)
      obtain ⟨N, hN⟩ : ∃ N, N = m + 8 := ⟨_, rfl⟩
      have hALL : l ++ (128 :: List.replicate z 0) ++ putI ((l.length : Int) * 8) 8 = l ++ pad l.length := by
        unfold pad
        rw [← HP.out, Int.mul_comm, List.append_assoc, List.cons_append]
      have ho := HO9.out
      rw [hALL] at ho
      have hAl : (l ++ pad l.length).length = N := by
        have := ho.1
        rw [List.length_map, Nat.mul_one] at this
        rw [this, hN]
      rw [← hN] at ho ⊢
      have HSUM := Lib.hid (show hashS l = hashOf (stOf (l ++ pad l.length) (N / 64)) by unfold hashS; rw [hAl])
      have HN64 := Lib.hid (show N % 64 = 0 by rw [← hAl, List.length_append]; exact pad_whole l.length)
      have hAy : Byt (l ++ pad l.length) := byt_app HY.out (pad_byt _)
      generalize l ++ pad l.length = A at *
      have HO10 := Lib.hid ho
      have HA := Lib.hid (And.intro hAl hAy)
      have hrm := (room_of_own ho _ _ _ rfl).1
      have HCAP := Lib.hid hrm
      have HG9 := Lib.hid (HO9.out.lt g9 rfl).2
      have NI : (N : Int) ≤ 1000300 := by omega
      have N0 : (0 : Int) ≤ (N : Int) := by omega
      have HC9 := Lib.hid ((HB9.out.block w.heap.size (by have := HZ1.out; omega)).trans HC1.out)
      have HR9 := Lib.hid ((HB9.out.block (w.heap.size + 1) (by have := HZ1.out; omega)).trans HR1.out)
      have HM9 := Lib.hid (HM1.out.kept HB9.out)
      have HGL := Lib.hid HM9.out.lt
      have HBW9 := Lib.hid (HB1.out.trans (HB9.out.mono HB1.out.size))
      have HZ9 := Lib.hid (show w.heap.size + 1 < w9.heap.size by have := HZ1.out; have := HB9.out.size; omega)
      clear hALL ho hAl hAy hrm hN HO9 HSH9 HO8 HL8 HB8 HBE HO HMM HBY HMU HLM HO5 HB5 HO4 HB4 HB3 HL4 HNE HB2 HL2 hmI hm0 hr hrt
      have hS10 := heap_alloc_new w9 (.cells (wvs (zeros 8)) 81)
      have hb10 := (Below.refl w9.heap.size w9).alloc (Nat.le_refl _) (.cells (wvs (zeros 8)) 81)
      refine (show ∀ W10 : World, W10 = w9.alloc (.cells (wvs (zeros 8)) 81) → _ from ?_) _ rfl
      intro W10 eW
      rw [← eW] at hS10 hb10
      have hz10 : W10.heap.size = w9.heap.size + 1 := by rw [eW]; simp
      have HZ10 := Lib.hid hz10
      have HS10 := Lib.hid (show W10.drew.heap[w9.heap.size]? = some (.cells (wvs (zeros 8)).toList.toArray 81 (0, 0)) by rw [Array.toArray_toList]; exact hS10)
      have HM10 := Lib.hid (HM9.out.kept hb10)
      have HB10 := Lib.hid hb10
      have HG10 := Lib.hid (show g9 < w9.heap.size from HG9.out)
      have hC10 := (hb10.block w.heap.size (by have := HZ9.out; omega)).trans HC9.out
      have d0 := cell_of_row W10 _ 0 _ _ _ hC10
      have d1 := cell_of_row W10 _ 1 _ _ _ hC10
      have HD := Lib.hid (And.intro d0 d1)
      have HOW := Lib.hid (own_below HO10.out hb10)
      have HR10 := Lib.hid ((hb10.block (w.heap.size + 1) HZ9.out).trans HR9.out)
      have HSL := Lib.hid (show w.heap.size + 1 < w9.heap.size from HZ9.out)
      clear eW hS10 hb10 hz10 hC10
      generalize w9.heap.size = S at *
      have hCN : ∀ v : Array Value, (W10.drew.setRow S v).cell? ⟨w.heap.size, 0, none⟩ = some (.slice (some ⟨g1, 0, none⟩) 8 c1) := fun v => (cell_setRow_other _ _ _ ⟨w.heap.size, 0, none⟩ (show w.heap.size ≠ S by have := HSL.out; omega)).trans HD.out.1
      have HCN := Lib.hid hCN
      have HL8 := Lib.hid (show (wvs H0).toList.length = Nat.min 8 8 by rfl)
      have HF8 := Lib.hid (show 0 + (wvs H0).toList.length ≤ (wvs (zeros 8)).toList.length by decide)
      have HSRC := Lib.hid (show ∀ j v, (wvs H0).toList[j]? = some v → W10.drew.cell? ((⟨g1, 0, none⟩ : Addr).add j) = some v by
        intro j v hv
        have hj : j < 8 := by
          have := (List.getElem?_eq_some_iff.1 hv).1
          rwa [Array.length_toList, wvs_size] at this
        rw [Array.getElem?_toList, wvs_at H0 j hj] at hv
        rw [Addr.add_mid, Nat.zero_add]
        exact (HM10.out.h j hj).trans hv)
      have su := slice_u32x8
      clear hCN
      go_wp2_with fail
      refine wp_region_noPanic ?_
      refine wp_region_held_drew (S := fun w' => w'.cell? ⟨w.heap.size, 0, none⟩ = some (.slice (some ⟨g1, 0, none⟩) 8 c1)) (by kernel_rfl) d0 (fun hHeld => ?_)
      refine wpAnyH_take (i := 0) (oi := ⟨some 30, _, _, _, _, _⟩) (v := ?_) rfl (by kernel_rfl) (by decide +kernel) (by decide +kernel) (fun _ _ _ h => h) (Or.inl ⟨by rfl, ?_⟩) (by assumption) ?_
      rotate_left 1
      · (intro w' hSw; go_simp; try with_reducible rfl)
      try simp only [Act.put, List.setIfInBounds_toArray, List.set_cons_zero, List.set_cons_succ]
      refine wpAnyH_take (i := 1) (oi := ⟨some 31, _, _, _, _, _⟩) (v := ?_) rfl (by kernel_rfl) (by decide +kernel) (by decide +kernel) (fun _ _ _ h => h) (Or.inl ⟨by rfl, ?_⟩) (by assumption) ?_
      rotate_left 1
      · (intro w' hSw; go_simp; try with_reducible rfl)
      try simp only [Act.put, List.setIfInBounds_toArray, List.set_cons_zero, List.set_cons_succ]
      refine wpAnyH_take (i := 2) (oi := ⟨some 32, _, _, _, _, _⟩) (v := ?_) rfl (by kernel_rfl) (by decide +kernel) (by decide +kernel) (fun _ _ _ h => h) (Or.inl ⟨by rfl, ?_⟩) (by assumption) ?_
      rotate_left 1
      · (intro w' hSw; go_simp; try with_reducible rfl)
      try simp only [Act.put, List.setIfInBounds_toArray, List.set_cons_zero, List.set_cons_succ]
      refine wpAnyH_ready (rs := [3]) (by decide +kernel) (by simp) ?_
      refine AllReadyH.cons rfl (fun K hK => ?_) AllReadyH.nil
      refine step_copy_row (o := ⟨some 33, _, _, _, _, _⟩) rfl (.tmp 30) (.tmp 32) 102 102 (by rfl) 35 Tryd.underlying102 one_u32 S 0 8 8 ⟨g1, 0, none⟩ 8 c1 (by rfl) (by rfl) (wvs (zeros 8)).toList 81 HS10.out (wvs H0).toList HL8.out HSRC.out HF8.out (wvs_one' _) ?_
      refine hK.out _ _ (HCN.out _) (fun hHeld => ?_)
      clear hK K
      try simp only [Act.put, List.setIfInBounds_toArray, List.set_cons_zero, List.set_cons_succ]
      refine wpAnyH_done (by decide +kernel) ?_ _
      refine NoPanic.normal ?_
      generalize hW11 : World.setRow _ S _ = W11
      have r11 : ArrW W11 S 81 H0 := by
        rw [← hW11]
        exact setRow_heap _ S _ _ _ (0, 0) HS10.out
      have b11 : Below S W10 W11 := by
        rw [← hW11]
        exact (Below.refl S W10).drew.trans ⟨rfl, rfl, rfl, by simp, fun k hk => setRow_other _ _ k _ (by omega)⟩
      clear hW11
      have HA11 := Lib.hid r11
      have HB11 := Lib.hid b11
      clear r11 b11 su d0 d1
      have hgi : goInt (((wvs H0).toList.length : Nat) : Int) = Value.int .i64 8 := rfl
      rw [hgi]
      clear hgi
      go_wp2_with fail
      have HBC := Lib.hid (HB10.out.trans (HB11.out.mono (Nat.le_refl _)))
      go_loopw [7] (fun v7 wr2 => ∃ (k p : Nat), p = 64 * k ∧ p ≤ N ∧ v7 = .int .i64 (p : Nat) ∧ ArrW wr2 S 81 (stOf A k) ∧ Below S W11 wr2) (fun v _ => N - (intOf v).toNat)
      case atStart => exact ⟨0, 0, rfl, by omega, rfl, HA11.out, Below.refl _ _⟩
      case round =>
        rename World => wq
        obtain ⟨k, p, hp, hpN, rfl, hA, hbe⟩ := hrel
        by_cases hlt : p < N
        · have hq : p + 64 ≤ N := by have := HN64.out; omega
          obtain ⟨q, hqq⟩ : ∃ q, q = p + 64 := ⟨_, rfl⟩
          have pI : (p : Int) < (N : Int) := by omega
          have p0 : (0 : Int) ≤ (p : Int) := by omega
          have q1 : (p : Int) + 64 = (q : Int) := by omega
          have q2 : IntKind.i64.wrap ((p : Int) + 64) = (q : Int) := by rw [q1]; exact IntWalk.i64_in _ (by omega)
          have q3 : IntKind.i64.wrap (q : Int) = (q : Int) := IntWalk.i64_in _ (by omega)
          have HPQ := Lib.hid (And.intro hp (And.intro hqq hq))
          have hx8 := stOf_length A k
          have hB := (HB11.out.trans hbe)
          have e1 := (hB.cell (p := ⟨w.heap.size, 1, none⟩) (by have := HSL.out; simp; omega)).trans HD.out.2
          have hsl := slice_own g9 N c9 p q (by omega) (by omega) HCAP.out (by have := HCAP.out; omega)
          rw [show q - p = 64 by omega] at hsl
          have HX := Lib.hid (show wq.heap[S]? = some (.cells (wvs (stOf A k)) 81 (0, 0)) from hA)
          have hcB : ∀ i, i < 64 → wq.cell? ⟨g9, p + i, none⟩ = some (.int .u8 ((((A.drop (64 * k)).take 64)[i]?).getD 0)) := by
            intro i hi
            have h1 := HOW.out.cellAt (p + i) (by omega)
            have h2 := (hB.cell (p := ⟨g9, p + i, none⟩) HG10.out).trans h1
            rw [List.getElem?_map, List.getElem?_eq_getElem (by rw [HA.out.1]; omega), Option.map_some] at h2
            rw [h2, List.getElem?_take, if_pos hi, List.getElem?_drop, ← hp, List.getElem?_eq_getElem (by rw [HA.out.1]; omega), Option.getD_some]
          have hMq := HM10.out.keptB hB HGL.out.1 HGL.out.2
          have hBLK := rblock_any (stOf A k) ((A.drop (64 * k)).take 64) KS g9 p (c9 - p) g2 c2 wq.drew hx8 (by rw [List.length_take, List.length_drop, HA.out.1]; omega) (fun z hz => HA.out.2 z (List.mem_of_mem_drop (List.mem_of_mem_take hz))) KS_length hcB hMq.k (Nat.lt_trans HG10.out (lt_of_block HX.out)) hMq.lt.2 (by have := HCAP.out; omega)
          have hst : blockS KS (stOf A k) ((A.drop (64 * k)).take 64) = stOf A (k + 1) := rfl
          rw [hst] at hBLK
          have HBLK := Lib.hid hBLK
          have SX := Lib.hid (size_u32x8 (stOf A k) hx8)
          have hx9 := stOf_length A (k + 1)
          have SY := Lib.hid (size_u32x8 (stOf A (k + 1)) hx9)
          have SE := Lib.hid (show (wvs (stOf A k)).size = (wvs (stOf A (k + 1))).size by rw [wvs_size, wvs_size, hx8, hx9])
          have HBE := Lib.hid hbe
          have HE1 := Lib.hid e1
          have HCS := Lib.hid (show w.heap.size ≠ S by have := HSL.out; omega)
          clear hst hBLK hx8 hx9 hcB hMq hB hbe hA hp hq hqq hlt hpN
          generalize hYe : stOf A (k + 1) = Y at *
          have HYE := Lib.hid hYe
          clear hYe
          generalize stOf A k = X at *
          go_wp2_with fail
          refine wp_region_noPanic ?_
          refine wp_region_held_drew (S := fun w' => w'.cell? ⟨w.heap.size, 1, none⟩ = some (.slice (some ⟨g2, 0, none⟩) 64 c2)) (by kernel_rfl) HE1.out (fun hHeld => ?_)
          refine wpAnyH_take (i := 1) (oi := ⟨some 41, _, _, _, _, _⟩) (v := ?_) rfl (by kernel_rfl) (by decide +kernel) (by decide +kernel) (fun _ _ _ h => h) (Or.inl ⟨by rfl, ?_⟩) (by assumption) ?_
          rotate_left 1
          · (intro w' hSw; go_simp; try with_reducible rfl)
          try simp only [Act.put, List.setIfInBounds_toArray, List.set_cons_zero, List.set_cons_succ]
          refine wpAnyH_take (i := 2) (oi := ⟨some 42, _, _, _, _, _⟩) (v := ?_) rfl (by kernel_rfl) (by decide +kernel) (by decide +kernel) (fun _ _ _ h => h) (Or.inl ⟨by rfl, ?_⟩) (by assumption) ?_
          rotate_left 1
          · (intro w' hSw; go_simp; try with_reducible rfl)
          try simp only [Act.put, List.setIfInBounds_toArray, List.set_cons_zero, List.set_cons_succ]
          refine wpAnyH_take (i := 3) (oi := ⟨some 43, _, _, _, _, _⟩) (v := ?_) rfl (by kernel_rfl) (by decide +kernel) (by decide +kernel) (fun _ _ _ h => h) (Or.inl ⟨by rfl, ?_⟩) (by assumption) ?_
          rotate_left 1
          · (intro w' hSw; go_simp; try with_reducible rfl)
          try simp only [Act.put, List.setIfInBounds_toArray, List.set_cons_zero, List.set_cons_succ]
          refine wpAnyH_take (i := 4) (oi := ⟨some 44, _, _, _, _, _⟩) (v := ?_) rfl (by kernel_rfl) (by decide +kernel) (by decide +kernel) (fun _ _ _ h => h) (Or.inl ⟨by rfl, ?_⟩) (by assumption) ?_
          rotate_left 1
          · (intro w' hSw; go_simp; try with_reducible rfl)
          try simp only [Act.put, List.setIfInBounds_toArray, List.set_cons_zero, List.set_cons_succ]
          refine wpAnyH_take (i := 5) (oi := ⟨some 45, _, _, _, _, _⟩) (v := ?_) rfl (by kernel_rfl) (by decide +kernel) (by decide +kernel) (fun _ _ _ h => h) (Or.inl ⟨by rfl, ?_⟩) (by assumption) ?_
          rotate_left 1
          · (intro w' hSw; go_simp; try with_reducible rfl)
          try simp only [Act.put, List.setIfInBounds_toArray, List.set_cons_zero, List.set_cons_succ]
          refine wpAnyH_take (i := 6) (oi := ⟨some 46, _, _, _, _, _⟩) (v := ?_) rfl (by kernel_rfl) (by decide +kernel) (by decide +kernel) (fun _ _ _ h => h) (Or.inl ⟨by rfl, ?_⟩) (by assumption) ?_
          rotate_left 1
          · (intro w' hSw; go_simp; try with_reducible rfl)
          try simp only [Act.put, List.setIfInBounds_toArray, List.set_cons_zero, List.set_cons_succ]
          refine wpAnyH_take (i := 7) (oi := ⟨some 47, _, _, _, _, _⟩) (v := ?_) rfl (by kernel_rfl) (by decide +kernel) (by decide +kernel) (fun _ _ _ h => h) (Or.inl ⟨by rfl, ?_⟩) (by assumption) ?_
          rotate_left 1
          · (intro w' hSw; go_simp; try with_reducible rfl)
          try simp only [Act.put, List.setIfInBounds_toArray, List.set_cons_zero, List.set_cons_succ]
          refine wpAnyH_ready (rs := [0]) (by decide +kernel) (by simp) ?_
          refine AllReadyH.cons rfl (fun K hK => ?_) AllReadyH.nil
          rw [if_pos (by kernel_rfl)]
          refine wp_load_row (o := ⟨some 40, _, _, _, _, _⟩) 81 (.tmp 6) rfl S rfl 81 (wvs X) (0, 0) _ HX.out Tryd.underlying81 rfl SX.out ?_
          refine hK.out _ _ HE1.out (fun hHeld => ?_)
          clear hK K
          try simp only [Act.put, List.setIfInBounds_toArray, List.set_cons_zero, List.set_cons_succ]
          refine wpAnyH_ready (rs := [8]) (by decide +kernel) (by simp) ?_
          refine AllReadyH.cons rfl (fun K hK => ?_) AllReadyH.nil
          go_simp
          go_at_call 65
          refine HBLK.out.mono ?_
          rintro e w21 ⟨rfl, hb21⟩
          have Q21 := Lib.hid ((Below.refl wq.heap.size wq).drew.trans hb21)
          have HS21 := Lib.hid ((Q21.out.block S (lt_of_block HX.out)).trans HX.out)
          have HE21 := Lib.hid ((Q21.out.cell (p := ⟨w.heap.size, 1, none⟩) (block_lt_of_cell HE1.out)).trans HE1.out)
          clear hb21
          go_wp2_with fail
          refine hK.out _ _ (HE21.out) (fun hHeld => ?_)
          clear hK K
          try simp only [Act.put, List.setIfInBounds_toArray, List.set_cons_zero, List.set_cons_succ]
          refine wpAnyH_ready (rs := [9]) (by decide +kernel) (by simp) ?_
          refine AllReadyH.cons rfl (fun K hK => ?_) AllReadyH.nil
          rw [if_pos (by kernel_rfl)]
          refine wp_store_row (o := ⟨none, _, _, _, _, _⟩) 81 (.tmp 6) (.tmp 48) rfl S (wvs Y) rfl rfl 81 (wvs X) HS21.out SY.out SE.out (wvs_one _) ?_
          refine hK.out _ _ ((cell_setRow_other _ _ _ ⟨w.heap.size, 1, none⟩ HCS.out).trans HE21.out) (fun hHeld => ?_)
          clear hK K
          try simp only [Act.put]
          refine wpAnyH_done (by decide +kernel) ?_ _
          refine NoPanic.normal ?_
          clear hsl q2 q3
          go_wp2_with fail
          go_roundw
          case rel => exact ⟨k + 1, q, by have h1 := HPQ.out.1; have h2 := HPQ.out.2.1; omega, by have h1 := HPQ.out.2; omega, by first | rfl | go_num, by rw [HYE.out]; exact setRow_heap _ S _ _ _ _ HS21.out, (HBE.out.trans (Q21.out.mono (Nat.le_of_lt (lt_of_block HX.out)))).trans ⟨rfl, rfl, rfl, by simp, fun k hk => setRow_other _ _ k _ (by omega)⟩⟩
          case measure => simp [intOf]; have := HPQ.out.2; omega
        · have hkN : N / 64 = k := by have := HN64.out; omega
          have hpe : (N : Int) ≤ (p : Int) := by omega
          have hx8 := stOf_length A k
          have hfin : hashS l = hashOf (stOf A k) := by rw [HSUM.out, hkN]
          have HFIN := Lib.hid hfin
          have hBq := HB11.out.trans hbe
          have HRq := Lib.hid ((hBq.block (w.heap.size + 1) HSL.out).trans HR10.out)
          have HX := Lib.hid (show wq.heap[S]? = some (.cells (wvs (stOf A k)) 81 (0, 0)) from hA)
          have SX := Lib.hid (size_u32x8 (stOf A k) hx8)
          have HBQ := Lib.hid (HBW9.out.trans ((HB10.out.trans (HB11.out.trans hbe)).mono (by have := HSL.out; omega)))
          have HXL := Lib.hid hx8
          have HSq := Lib.hid (lt_of_block HX.out)
          have HIX := Lib.hid (index_x8 (stOf A k) hx8)
          clear hkN hx8 hfin hBq hbe hA hp hlt hpN
          generalize stOf A k = X at *
          go_wp2_with (first
            | (with_reducible refine wpList_load_row (o := ⟨some 49, _, _, _, _, _⟩) rfl 81 _ rfl S rfl 81 (wvs X) (0, 0) _ ((Below.heap_alloc wq _ S HSq.out).trans HX.out) Tryd.underlying81 rfl SX.out ?_))
          have hO := heap_alloc_new wq (.cells (u8s (List.replicate 32 0)) 26)
          have hbO := (Below.refl wq.heap.size wq).alloc (Nat.le_refl _) (.cells (u8s (List.replicate 32 0)) 26)
          refine (show ∀ W13 : World, W13 = wq.alloc (.cells (u8s (List.replicate 32 0)) 26) → _ from ?_) _ rfl
          intro W13 eW
          rw [← eW] at hO hbO
          have HO13 := Lib.hid (show ArrB W13 wq.heap.size 26 (List.replicate 32 0) from hO)
          have HB13 := Lib.hid hbO
          have HR13 := Lib.hid ((hbO.block (w.heap.size + 1) (by have := HSL.out; have := HSq.out; omega)).trans HRq.out)
          have HBW := Lib.hid (HBQ.out.trans (hbO.mono HBQ.out.size))
          have HRO := Lib.hid (show w.heap.size + 1 < wq.heap.size by have := HSL.out; have := HSq.out; omega)
          clear eW hO hbO
          generalize wq.heap.size = O at *
          go_loopw [50] (fun v50 wx => ∃ i : Nat, i ≤ 8 ∧ v50 = .int .i64 (i : Nat) ∧ ArrB wx O 26 (hashP X (4 * i)) ∧ Below O W13 wx) (fun v _ => 8 - (intOf v).toNat)
          case atStart => exact ⟨0, by omega, rfl, by rw [hashP_zero]; exact HO13.out, Below.refl _ _⟩
          case round =>
            rename World => wx
            obtain ⟨i, hi, rfl, hA, hbe⟩ := hrel
            by_cases hlt : i < 8
            · have iI : (i : Int) < 8 := by omega
              have i0' : (0 : Int) ≤ (i : Int) := by omega
              have hix := HIX.out i hlt
              have hsl := slice_h32 O i hlt
              have hw1 : IntKind.i64.wrap (4 * (i : Int)) = 4 * (i : Int) := IntWalk.i64_in _ (by omega)
              have HH4 := Lib.hid (hashP_four X i hlt)
              have x0 := wv_pos (X.getD i 0)
              have x1 := wv_lt (X.getD i 0)
              generalize X.getD i 0 = x at *
              have hw2 : IntKind.u64.wrap (wv x) = wv x := by rw [IntKind.wrap_u64]; omega
              have HBY := Lib.hid (show Calls Tryd.prog 49 #[.int .u64 (wv x), .int .i64 4] wx.drew _ from rbytes_any (wv x) 4 wx.drew (by omega) x0 (by omega) (Int.ediv_eq_zero_of_lt x0 (by simpa using x1)))
              have HAX := Lib.hid hA
              have HBX := Lib.hid hbe
              have HLT := Lib.hid hlt
              have HL4 := Lib.hid (show (u8s (putI (wv x) 4)).toList.length = Nat.min 4 (32 - 4 * i) by rw [Array.length_toList, u8s_size, putI_length]; exact (Nat.min_eq_left (by omega)).symm)
              have HF4 := Lib.hid (show 4 * i + (u8s (putI (wv x) 4)).toList.length ≤ (u8s (hashP X (4 * i))).toList.length by rw [Array.length_toList, Array.length_toList, u8s_size, u8s_size, putI_length, hashP_length]; omega)
              clear hA hbe hlt hi
              go_wp2_with fail
              refine wp_region_noPanic ?_
              refine wp_region_held_drew (S := fun _ => True) (by kernel_rfl) trivial (fun hHeld => ?_)
              refine wpAnyH_take (i := 0) (oi := ⟨some 54, _, _, _, _, _⟩) (v := ?_) rfl (by kernel_rfl) (by decide +kernel) (by decide +kernel) (fun _ _ _ h => h) (Or.inl ⟨by rfl, ?_⟩) (by assumption) ?_
              rotate_left 1
              · (intro w' hSw; go_simp; try with_reducible rfl)
              try simp only [Act.put, List.setIfInBounds_toArray, List.set_cons_zero, List.set_cons_succ]
              refine wpAnyH_take (i := 1) (oi := ⟨some 55, _, _, _, _, _⟩) (v := ?_) rfl (by kernel_rfl) (by decide +kernel) (by decide +kernel) (fun _ _ _ h => h) (Or.inl ⟨by rfl, ?_⟩) (by assumption) ?_
              rotate_left 1
              · (intro w' hSw; go_simp; try with_reducible rfl)
              try simp only [Act.put, List.setIfInBounds_toArray, List.set_cons_zero, List.set_cons_succ]
              refine wpAnyH_take (i := 2) (oi := ⟨some 56, _, _, _, _, _⟩) (v := ?_) rfl (by kernel_rfl) (by decide +kernel) (by decide +kernel) (fun _ _ _ h => h) (Or.inl ⟨by rfl, ?_⟩) (by assumption) ?_
              rotate_left 1
              · (intro w' hSw; go_simp; try with_reducible rfl)
              try simp only [Act.put, List.setIfInBounds_toArray, List.set_cons_zero, List.set_cons_succ]
              refine wpAnyH_take (i := 3) (oi := ⟨some 57, _, _, _, _, _⟩) (v := ?_) rfl (by kernel_rfl) (by decide +kernel) (by decide +kernel) (fun _ _ _ h => h) (Or.inl ⟨by rfl, ?_⟩) (by assumption) ?_
              rotate_left 1
              · (intro w' hSw; go_simp; try with_reducible rfl)
              try simp only [Act.put, List.setIfInBounds_toArray, List.set_cons_zero, List.set_cons_succ]
              refine wpAnyH_take (i := 4) (oi := ⟨some 58, _, _, _, _, _⟩) (v := ?_) rfl (by kernel_rfl) (by decide +kernel) (by decide +kernel) (fun _ _ _ h => h) (Or.inl ⟨by rfl, ?_⟩) (by assumption) ?_
              rotate_left 1
              · (intro w' hSw; go_simp; try with_reducible rfl)
              try simp only [Act.put, List.setIfInBounds_toArray, List.set_cons_zero, List.set_cons_succ]
              refine wpAnyH_ready (rs := [5]) (by decide +kernel) (by simp) ?_
              refine AllReadyH.cons rfl (fun K hK => ?_) AllReadyH.nil
              go_simp
              go_at_call 49
              refine HBY.out.mono ?_
              rintro e w31 ⟨rfl, ho31, hb31⟩
              have Q31 := Lib.hid ((Below.refl wx.heap.size wx).drew.trans hb31)
              have HS31 := Lib.hid (BS.of_owns ho31 (putI_length _ _) (putI_byt _ _))
              have HA31 := Lib.hid (show w31.heap[O]? = some (.cells (u8s (hashP X (4 * i))).toList.toArray 26 (0, 0)) by rw [Array.toArray_toList]; exact (Q31.out.block O HAX.out.lt).trans HAX.out)
              have HSR := Lib.hid (show ∀ j v, (u8s (putI (wv x) 4)).toList[j]? = some v → w31.cell? ((⟨wx.drew.heap.size, 0, none⟩ : Addr).add j) = some v from by
                obtain ⟨ad, had, hh⟩ := HS31.out.source (by rw [Array.length_toList, u8s_size, putI_length]; omega)
                obtain rfl := Option.some.inj had
                exact hh)
              clear ho31 hb31
              go_wp2_with fail
              refine hK.out _ _ (trivial) (fun hHeld => ?_)
              clear hK K
              try simp only [Act.put, List.setIfInBounds_toArray, List.set_cons_zero, List.set_cons_succ]
              refine wpAnyH_ready (rs := [6]) (by decide +kernel) (by simp) ?_
              refine AllReadyH.cons rfl (fun K hK => ?_) AllReadyH.nil
              refine step_copy_row (o := ⟨some 60, _, _, _, _, _⟩) rfl (.tmp 56) (.tmp 59) 22 22 (by rfl) 5 Tryd.underlying22 one_u8 O (4 * i) (32 - 4 * i) (32 - 4 * i) ⟨wx.drew.heap.size, 0, none⟩ 4 4 (by rfl) (by rfl) (u8s (hashP X (4 * i))).toList 26 HA31.out (u8s (putI (wv x) 4)).toList HL4.out HSR.out HF4.out (u8s_one' _) ?_
              refine hK.out _ _ trivial (fun hHeld => ?_)
              clear hK K
              try simp only [Act.put, List.setIfInBounds_toArray, List.set_cons_zero, List.set_cons_succ]
              refine wpAnyH_done (by decide +kernel) ?_ _
              refine NoPanic.normal ?_
              rw [HH4.out, Array.toArray_toList]
              clear hsl hw1 hw2
              go_wp2_with fail
              go_roundw
              case rel => exact ⟨i + 1, by have := HLT.out; omega, by go_num, setRow_heap _ O _ _ _ (0, 0) HA31.out, (HBX.out.trans (Q31.out.mono (Nat.le_of_lt HAX.out.lt))).trans ⟨rfl, rfl, rfl, by simp, fun k hk => setRow_other _ _ k _ (by omega)⟩⟩
              case measure => simp [intOf]; omega
            · obtain rfl : i = 8 := by omega
              rw [show 4 * 8 = 32 from rfl, hashP_full, ← HFIN.out] at hA
              have HA32 := Lib.hid (show wx.heap[O]? = some (.cells (u8s (hashS l)) 26 (0, 0)) from hA)
              have HR32 := Lib.hid (show wx.heap[w.heap.size + 1]? = some (.cells (u8s (List.replicate 32 0)) 26 (0, 0)) from (hbe.block _ HRO.out).trans HR13.out)
              have SH := Lib.hid (size_h32 (hashS l) (hashS_length l))
              have SE := Lib.hid (show (u8s (List.replicate 32 0)).size = (u8s (hashS l)).size by rw [u8s_size, u8s_size, hashS_length]; rfl)
              have HBX := Lib.hid (HBW.out.trans (hbe.mono (by have := HRO.out; omega)))
              clear hA hbe hi hlt
              go_wp2_with (first
                | (with_reducible refine wpList_load_row (o := ⟨some 62, _, _, _, _, _⟩) rfl 26 _ rfl O rfl 26 (u8s (hashS l)) (0, 0) _ HA32.out Tryd.underlying26 rfl SH.out ?_)
                | (with_reducible refine wpList_store_row (o := ⟨none, .store _ (.tmp 4) _, _, _, _, _⟩) rfl 26 _ _ rfl (w.heap.size + 1) (u8s (hashS l)) rfl rfl 26 (u8s (List.replicate 32 0)) HR32.out SH.out SE.out (u8s_one _) ?_))
              refine bodyPost_ret (v := .agg (u8s (hashS l))) (results_cell_row Tryd.results50 _ _ (w.heap.size + 1) 26 (u8s (hashS l)) (0, 0) _ rfl (setRow_heap _ (w.heap.size + 1) _ _ _ _ HR32.out) Tryd.underlying26 rfl SH.out) rfl ⟨rfl, ?_⟩
              exact below_setRow HBX.out (Nat.le_succ _) _
end Go.Proofs.YtfgdddejpdjllaaDoor
namespace Go.Proofs.YtfgdddejpdjllaaDoor
set_option maxRecDepth 4000
open Go.RowKit

theorem str_app (l m : List Int) : strOfNums l ++ strOfNums m = strOfNums (l ++ m) := by
  apply ByteArray.ext
  rw [ByteArray.data_append]
  simp [strOfNums]
theorem str_nil : strOfNums [] = ⟨#[]⟩ := rfl
theorem dig_part (d : Int) (h0 : 0 ≤ d) (h1 : d < 16) (w : World) : (Instr.slice 9 (.string ⟨#[48, 49, 50, 51, 52, 53, 54, 55, 56, 57, 97, 98, 99, 100, 101, 102]⟩) (some (.int .u8 d)) (some (.int .u8 (d + 1))) none).run Tryd.prog w = .ok (.string (strOfNums [digI d])) w := by
  have : d = 0 ∨ d = 1 ∨ d = 2 ∨ d = 3 ∨ d = 4 ∨ d = 5 ∨ d = 6 ∨ d = 7 ∨ d = 8 ∨ d = 9 ∨ d = 10 ∨ d = 11 ∨ d = 12 ∨ d = 13 ∨ d = 14 ∨ d = 15 := by omega
  rcases this with rfl | rfl | rfl | rfl | rfl | rfl | rfl | rfl | rfl | rfl | rfl | rfl | rfl | rfl | rfl | rfl <;> (clear h0 h1; rfl)
theorem hexI_next (x : List Int) (k : Nat) (h : k < 32) : (hexI x).take (2 * (k + 1)) = (hexI x).take (2 * k) ++ [digI (x.getD k 0 / 16), digI (x.getD k 0 % 16)] := by
  have h1 : 2 * k < (hexI x).length := by rw [hexI_length]; omega
  have h2 : 2 * k + 1 < (hexI x).length := by rw [hexI_length]; omega
  rw [show 2 * (k + 1) = 2 * k + 1 + 1 by omega, List.take_succ_eq_append_getElem h2, List.take_succ_eq_append_getElem h1, List.append_assoc]
  congr 1
  simp only [hexI, List.getElem_map, List.getElem_range, hexAt, List.cons_append, List.nil_append]
  rw [if_pos (by omega), if_neg (by omega), show 2 * k / 2 = k by omega, show (2 * k + 1) / 2 = k by omega]

end Go.Proofs.YtfgdddejpdjllaaDoor
namespace Go.Proofs.YtfgdddejpdjllaaDoor
set_option maxRecDepth 4000
open Go.RowKit
set_option maxRecDepth 100000 in
set_option maxHeartbeats 800000 in
theorem rsum_any (l : List Int) (v : Value) (w : World) (hv : BS w v l) (hn : l.length ≤ 1000000) :
    Calls Tryd.prog 33 #[v] w fun e w' => e = .returned (.agg (u8s (hashS l))) ∧ Below w.heap.size w w' := by
  have HV := Lib.hid hv
  have HN := Lib.hid hn
  have SH := Lib.hid (size_h32 (hashS l) (hashS_length l))
  have SE := Lib.hid (show (u8s (List.replicate 32 0)).size = (u8s (hashS l)).size by rw [u8s_size, u8s_size, hashS_length]; rfl)
  clear hv hn
  go_enter Tryd.func33, Tryd.ntmps33
  go_wp2_with fail
  refine (made2_any _).mono ?_
  rintro e w1 ⟨⟨g1, c1, g2, c2, rfl, hM⟩, hb1⟩
  have hR := (hb1.block w.heap.size (by simp)).trans (heap_alloc_new w (.cells (u8s (List.replicate 32 0)) 26))
  have hB1 := ((Below.refl w.heap.size w).alloc (Nat.le_refl _) (.cells (u8s (List.replicate 32 0)) 26)).trans (hb1.mono (by simp))
  have HW := Lib.hid (rwith_any l v g1 c1 g2 c2 w1 hM (HV.out.kept hB1) HN.out)
  have HR1 := Lib.hid (show w1.heap[w.heap.size]? = some (.cells (u8s (List.replicate 32 0)) 26 (0, 0)) from hR)
  have HB1 := Lib.hid hB1
  clear hR hB1 hb1 hM
  go_wp2_with fail
  refine HW.out.mono ?_
  rintro e w2 ⟨rfl, hb2⟩
  have HR2 := Lib.hid ((hb2.block _ (lt_of_block HR1.out)).trans HR1.out)
  have HB2 := Lib.hid (HB1.out.trans (hb2.mono HB1.out.size))
  clear hb2
  go_wp2_with (first
    | (with_reducible refine wpList_store_row (o := ⟨none, .store _ (.tmp 2) _, _, _, _, _⟩) rfl 26 _ _ rfl w.heap.size (u8s (hashS l)) rfl rfl 26 (u8s (List.replicate 32 0)) HR2.out SH.out SE.out (u8s_one _) ?_))
  refine bodyPost_ret (v := .agg (u8s (hashS l))) (results_cell_row Tryd.results33 _ _ w.heap.size 26 (u8s (hashS l)) (0, 0) _ rfl (setRow_heap _ w.heap.size _ _ _ _ HR2.out) Tryd.underlying26 rfl SH.out) rfl ⟨rfl, ?_⟩
  exact below_setRow HB2.out (Nat.le_refl _) _
end Go.Proofs.YtfgdddejpdjllaaDoor
namespace Go.Proofs.YtfgdddejpdjllaaDoor
set_option maxRecDepth 4000
open Go.RowKit

/-- Bytes turned up to one, then noughts. -/
def padQ (b : List Int) (p : Int) (n : Nat) : List Int := (List.range b.length).map fun j => if j < n then xb (b.getD j 0) p else 0
theorem padQ_length (b : List Int) (p : Int) (n : Nat) : (padQ b p n).length = b.length := by simp [padQ]
theorem padQ_zero (b : List Int) (p : Int) : padQ b p 0 = List.replicate b.length 0 := by
  rw [List.eq_replicate_iff]
  refine ⟨by simp [padQ], fun z hz => ?_⟩
  simp only [padQ, List.mem_map] at hz
  obtain ⟨j, _, rfl⟩ := hz
  simp
theorem padQ_full (b : List Int) (p : Int) : padQ b p b.length = padS b p := by
  apply List.ext_getElem (by simp [padQ, padS])
  intro j h1 h2
  have : j < b.length := by simpa [padS] using h2
  simp [padQ, padS, this]
theorem padQ_set (b : List Int) (p : Int) (n : Nat) : (padQ b p n).set n (xb (b.getD n 0) p) = padQ b p (n + 1) := by
  apply List.ext_getElem (by simp [padQ])
  intro j h1 h2
  rw [List.getElem_set]
  simp only [padQ, List.getElem_map, List.getElem_range]
  by_cases hj : n = j
  · subst hj; simp
  · rw [if_neg hj]
    by_cases hl : j < n
    · rw [if_pos hl, if_pos (by omega)]
    · rw [if_neg hl, if_neg (by omega)]
theorem make_64 (w : World) : (Instr.makeSlice 22 (.int .i64 64) (.int .i64 64)).run Tryd.prog w = .ok (.slice (some ⟨w.heap.size, 0, none⟩) 64 64) (w.alloc (.cells (u8s (List.replicate 64 0)) 5)) :=
  make_u8 64 64 (Nat.le_refl _) (by omega) w

set_option maxRecDepth 100000 in
set_option maxHeartbeats 1600000 in
theorem rturned_any (kb : List Int) (p : Int) (g c : Nat) (w : World) (hk : kb.length = 64) (hc : ∀ i, i < 64 → w.cell? ⟨g, i, none⟩ = some (.int .u8 (kb.getD i 0))) :
    Calls Tryd.prog 81 #[.slice (some ⟨g, 0, none⟩) 64 c, .int .u8 p] w fun e w' => e = .returned (.slice (some ⟨w.heap.size, 0, none⟩) 64 64) ∧ w'.ownsRow w.heap.size 5 1 (.slice (some ⟨w.heap.size, 0, none⟩) 64 64) 64 ((padS kb p).map (.int .u8)) ∧ Below w.heap.size w w' := by
  have HC := Lib.hid hc
  have HKL := Lib.hid hk
  have hmk := make_64
  clear hc hk
  go_enter Tryd.func81, Tryd.ntmps81
  go_wp2_with fail
  have hO := heap_alloc_new w (.cells (u8s (List.replicate 64 0)) 5)
  have hb := (Below.refl w.heap.size w).alloc (Nat.le_refl _) (.cells (u8s (List.replicate 64 0)) 5)
  refine (show ∀ W1 : World, W1 = w.alloc (.cells (u8s (List.replicate 64 0)) 5) → _ from ?_) _ rfl
  intro W1 eW
  rw [← eW] at hO hb
  have HO := Lib.hid (show ArrB W1 w.heap.size 5 (List.replicate 64 0) from hO)
  have HB := Lib.hid hb
  clear eW hO hb hmk
  go_loopw [12] (fun v12 wr => ∃ i : Nat, i ≤ 64 ∧ v12 = .int .i64 (i : Nat) ∧ ArrB wr w.heap.size 5 (padQ kb p i) ∧ Below w.heap.size w wr) (fun v _ => 64 - (intOf v).toNat)
  case atStart => exact ⟨0, by omega, rfl, by rw [padQ_zero, HKL.out]; exact HO.out, HB.out⟩
  case round =>
    obtain ⟨i, hi, rfl, hA, hbe⟩ := hrel
    by_cases h64 : i < 64
    · have hiI : (i : Int) < 64 := by omega
      have hi0 : (0 : Int) ≤ (i : Int) := by omega
      have hk64 := HKL.out
      have c1 := (hbe.cell (p := ⟨g, i, none⟩) (block_lt_of_cell (HC.out i h64))).trans (HC.out i h64)
      have c2 := hA.cell (k := i) (by rw [padQ_length, hk64]; exact h64)
      have f2 := hA.free i
      have hset := padQ_set kb p i
      unfold xb at hset
      have HSET := Lib.hid hset
      have HA := Lib.hid hA
      generalize kb.getD i 0 = q at *
      clear hset hA hk64
      go_wp2_with fail
      go_roundw
      case rel => exact ⟨i + 1, by omega, by go_num, by rw [← HSET.out]; exact HA.out.set i _, hbe.setCell (p := ⟨w.heap.size, i, none⟩) (Nat.le_refl _) _⟩
      case measure => simp [intOf]; omega
    · obtain rfl : i = 64 := by omega
      have hfull := padQ_full kb p
      rw [HKL.out] at hfull
      rw [hfull] at hA
      have hl : (padS kb p).length = 64 := by rw [padS_length, HKL.out]
      have hown := own_of_arr (m := 64) hA hl (Nat.le_refl _) (by unfold maxLen; omega)
      rw [List.take_of_length_le (by rw [hl]; exact Nat.le_refl _)] at hown
      have HOW := Lib.hid hown
      have HBE := Lib.hid hbe
      clear hA hbe hfull hl hown
      go_wp2_with fail
      go_ret
      exact ⟨rfl, HOW.out, HBE.out⟩

set_option maxRecDepth 100000 in
set_option maxHeartbeats 3200000 in
theorem rpadded_any (l : List Int) (v : Value) (g1 c1 g2 c2 : Nat) (w : World) (hM : Mad w g1 c1 g2 c2) (hv : BS w v l) (hr : Room v) (hn : l.length ≤ 1000000) :
    Calls Tryd.prog 80 #[.agg #[.slice (some ⟨g1, 0, none⟩) 8 c1, .slice (some ⟨g2, 0, none⟩) 64 c2], v] w fun e w' => (∃ g, e = .returned (.slice (some ⟨g, 0, none⟩) 64 64) ∧ w'.heap[g]? = some (.cells (u8s (keyB l)) 5 (0, 0))) ∧ Below w.heap.size w w' := by
  have HV := Lib.hid (And.intro hv hr)
  have HM := Lib.hid hM
  obtain ⟨a, cap, rfl, _, _, _⟩ := hv
  have HKL := Lib.hid (keyS_length l)
  have nI : (l.length : Int) ≤ 1000000 := by omega
  have HNL := Lib.hid hn
  have sa := slice_all32
  have hmk := make_64
  have SC := Lib.hid (show (Tryd.prog.info? 104).map (·.size) = some (#[Value.slice (some ⟨g1, 0, none⟩) 8 c1, .slice (some ⟨g2, 0, none⟩) 64 c2] : Array Value).size by kernel_rfl)
  clear hr hn hM
  go_enter Tryd.func80, Tryd.ntmps80
  go_upto_if 9 with (fail)
  have h1 := heap_alloc_new w (.cells #[.slice (some ⟨g1, 0, none⟩) 8 c1, .slice (some ⟨g2, 0, none⟩) 64 c2] 104)
  have hb1 := (Below.refl w.heap.size w).alloc (Nat.le_refl _) (.cells #[.slice (some ⟨g1, 0, none⟩) 8 c1, .slice (some ⟨g2, 0, none⟩) 64 c2] 104)
  refine (show ∀ W1 : World, W1 = w.alloc (.cells #[.slice (some ⟨g1, 0, none⟩) 8 c1, .slice (some ⟨g2, 0, none⟩) 64 c2] 104) → _ from ?_) _ rfl
  intro W1 eW
  rw [← eW] at h1 hb1
  have HC1 := Lib.hid h1
  have HB1 := Lib.hid hb1
  have HM1 := Lib.hid (HM.out.kept hb1)
  have HV1 := Lib.hid (HV.out.1.kept hb1)
  clear eW h1 hb1
  go_cut [1] (fun v1 w1 => BS w1 v1 (keyS l) ∧ Room v1 ∧ Below w.heap.size w w1)
  case first =>
    by_cases h64 : 64 < l.length
    · have hI : (64 : Int) < (l.length : Int) := by omega
      have HE := Lib.hid (show keyS l = hashS l from if_pos h64)
      have HW := Lib.hid (rwith_any l _ g1 c1 g2 c2 W1 HM1.out HV1.out HNL.out)
      clear h64
      go_wp2_with (first
        | (with_reducible refine wpList_load_row (o := ⟨some 10, _, _, _, _, _⟩) rfl 104 _ rfl w.heap.size rfl 104 #[.slice (some ⟨g1, 0, none⟩) 8 c1, .slice (some ⟨g2, 0, none⟩) 64 c2] (0, 0) _ HC1.out Tryd.underlying104 rfl SC.out ?_))
      refine HW.out.mono ?_
      rintro e w2 ⟨rfl, hb2⟩
      have SH := Lib.hid (size_h32 (hashS l) (hashS_length l))
      have SE := Lib.hid (show (u8s (List.replicate 32 0)).size = (u8s (hashS l)).size by rw [u8s_size, u8s_size, hashS_length]; rfl)
      have HB2 := Lib.hid (HB1.out.trans (hb2.mono HB1.out.size))
      clear hb2
      go_wp2_with (first
        | (with_reducible refine wpList_store_row (o := ⟨none, .store _ (.tmp 5) _, _, _, _, _⟩) rfl 26 _ _ rfl w2.heap.size (u8s (hashS l)) rfl rfl 26 _ (heap_alloc_new w2 _) SH.out ?c1 (u8s_one _) ?_))
      case c1 => exact SE.out
      generalize hW3 : World.setRow _ w2.heap.size _ = W3
      obtain ⟨r3, z3, b3⟩ := fresh_row w2 (u8s (List.replicate 32 0)) (u8s (hashS l)) 26 W3 hW3.symm
      clear hW3
      have hbs := BS.of_arr2 (show ArrB W3 w2.heap.size 26 (hashS l) from r3) (hashS_byt l)
      rw [hashS_length] at hbs
      have HBS := Lib.hid hbs
      have B13 := Lib.hid (HB2.out.trans (b3.mono HB2.out.size))
      clear r3 z3 b3 hbs
      go_meet
      refine ⟨by rw [HE.out]; exact HBS.out, room_of _ _ _ (by omega) (by omega), B13.out⟩
    · have hI : (l.length : Int) ≤ 64 := by omega
      have HE := Lib.hid (show keyS l = l from if_neg h64)
      clear h64
      go_wp2_with fail
      go_meet
      exact ⟨by rw [HE.out]; exact HV1.out, HV.out.2, HB1.out⟩
  case rest =>
    obtain ⟨hB, hR, hbel⟩ := hcut
    rename_i v0 w5
    obtain ⟨a0, cap0, hv0, _, _, _⟩ := id hB
    subst hv0
    have HSRC := Lib.hid hB.source
    have HBEL := Lib.hid hbel
    have hlc : (keyS l).length ≤ cap0 := (hR _ _ _ rfl).1
    have hkl := HKL.out
    have hb9 := (Below.refl wc.heap.size wc).alloc (Nat.le_refl _) (.cells (u8s (List.replicate 64 0)) 5)
    have HS9 := Lib.hid ((hB.kept hb9).source)
    have HB9 := Lib.hid hb9
    have HZ9 := Lib.hid (heap_alloc_new wc (.cells (u8s (List.replicate 64 0)) 5))
    have HBW := Lib.hid (hbel.trans (hb9.mono hbel.size))
    clear hB hR hbel hb9
    generalize hk : keyS l = k at *
    have HKE := Lib.hid hk
    clear hk
    go_upto_region 5 with (fail)
    refine (show ∀ W9 : World, W9 = wc.alloc (.cells (u8s (List.replicate 64 0)) 5) → _ from ?_) _ rfl
    intro W9 eW
    rw [← eW] at HS9 HB9 HZ9 HBW
    clear eW
    go_wp2_with (first
      | (with_reducible refine wpList_copy_splice (o := ⟨some 17, _, _, _, _, _⟩) rfl (.tmp 15) (.tmp 16) 22 22 rfl 5 Tryd.underlying22 one_u8 (some ⟨wc.heap.size, 0, none⟩) a0 64 64 k.length cap0 rfl rfl wc.heap.size 0 (u8s (List.replicate 64 0)).toList 5 HZ9.out (u8s k).toList ?c1 ?c2 ?c3 (u8s_one' _) wc.heap.size wc HB9.out (Nat.le_refl _) ?_))
    case c1 => rw [Array.length_toList, u8s_size]; exact (Nat.min_eq_left HKL.out).symm
    case c2 =>
      intro hp
      obtain ⟨ad, h1, h2⟩ := HS9.out (by simpa using hp)
      exact ⟨ad, h1, fun j v hv => h2 j v (by rw [Array.getElem?_toList]; exact hv)⟩
    case c3 => rw [Array.length_toList, Array.length_toList, u8s_size, u8s_size, List.length_replicate]; have := HKL.out; omega
    intro w6 hrow hbel6
    have hrow : w6.heap[wc.heap.size]? = some (.cells (splice (u8s (List.replicate 64 0)).toList 0 (u8s k).toList).toArray 5 (0, 0)) := hrow.out
    rw [splice_front, Array.toArray_toList] at hrow
    have hkb : keyB l = k ++ List.replicate (64 - k.length) 0 := by unfold keyB; rw [HKE.out]
    rw [← hkb] at hrow
    have HROW := Lib.hid hrow
    have HB6 := Lib.hid (HBEL.out.trans (hbel6.mono HBEL.out.size))
    clear hrow hbel6 hkb
    go_wp2_with fail
    go_ret
    exact ⟨⟨_, rfl, HROW.out⟩, HB6.out⟩
end Go.Proofs.YtfgdddejpdjllaaDoor
