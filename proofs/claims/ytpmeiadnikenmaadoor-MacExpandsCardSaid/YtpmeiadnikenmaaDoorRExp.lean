/-
  The reference's many bytes of one.
-/
import Derived.Test.YtpmeiadnikenmaaDoorRMac
import Derived.Lib.AppendStr
import Derived.Deep.DeepCutAuto
namespace Go.Proofs.YtpmeiadnikenmaaDoor
open Go.RowKit

theorem strCells_txt' (s : ByteArray) : Lib.strCells s = (txt s).map (Value.int .u8) := by
  unfold txt Lib.strCells
  simp
theorem arr_own_ne {w : World} {base n : Nat} {v : Value} {xs : List Value} {X T : Nat} {cs : List Int} (h : w.ownsRow base 5 1 v n xs) (hX : ArrB w X T cs) (hT : T ≠ 5) : v.ownBlock ≠ some X := by
  intro e
  rcases h.2 with ⟨rfl, _⟩ | ⟨g, cap, cur, rfl, _, hg, _⟩
  · cases e
  · obtain rfl : g = X := Option.some.inj e
    rw [hX] at hg
    injection hg with hg
    injection hg with _ ht _
    exact hT ht
theorem arr_grown {w w' : World} {X T : Nat} {cs : List Int} {row : Option Nat} (h : ArrB w X T cs) (hg : w.grownBy w' row) (hne : row ≠ some X) : ArrB w' X T cs :=
  (hg.block X (lt_of_block h) (fun e => hne e.symm)).trans h
theorem run_append_last (w : World) (base n : Nat) (v vx : Value) (xs : List Value) (l : List Int) (hown : w.ownsRow base 5 1 v n xs) (hB : BS w vx l) (h63 : n + l.length ≤ 140737488355328) (hbase : base ≤ w.heap.size) (hl : l = [] → vx = .slice none 0 0) (h2 : l = [] ∨ 2 ≤ l.length) :
    ∃ v' w', (Builtin.append_ #[22, 22] 22 #[v, vx]).run Tryd.prog w = .ok v' w' ∧ w'.ownsRow base 5 1 v' (n + l.length) (xs ++ l.map (Value.int .u8)) ∧ w.grownBy w' v.ownBlock ∧ ∀ X j, ArrB w X 5 [j] → v.ownBlock ≠ some X → v'.ownBlock ≠ some X := by
  rcases h2 with rfl | h2
  · obtain ⟨i0, hi, hz0, hz1, hz2⟩ := info_parts info_u8
    rw [hl rfl]
    exact ⟨v, w, run_append_owned_none (P := Tryd.prog) (w := w) base _ _ _ i0 1 Tryd.underlying22 hi v n xs hown, by simpa using hown, ⟨rfl, rfl, rfl, Nat.le_refl _, fun _ _ _ => rfl⟩, fun X j _ h => h⟩
  · obtain ⟨v', w', h1, ho, hg⟩ := run_append_BS w base n v vx xs l hown hB h63 hbase
    refine ⟨v', w', h1, ho, hg, fun X j hX hne e => ?_⟩
    have hX' := arr_grown hX hg hne
    rcases ho.2 with ⟨rfl, h0⟩ | ⟨g, cap, cur, rfl, _, hgg, hn, _, hs, _⟩
    · cases e
    · obtain rfl : g = X := Option.some.inj e
      rw [hX'] at hgg
      injection hgg with hgg
      injection hgg with hc
      rw [← hc, u8s_size] at hs
      simp at hs
      omega
theorem own_apart {w w' wr : World} {b1 b2 n1 n2 : Nat} {v1 v2 : Value} {xs1 xs2 : List Value} (h1 : w.ownsRow b1 5 1 v1 n1 xs1) (h2 : wr.ownsRow b2 5 1 v2 n2 xs2) (hg : w.grownBy w' v2.ownBlock) (hle : wr.heap.size ≤ b1) : w'.ownsRow b1 5 1 v1 n1 xs1 := by
  by_cases hn : v1.ownBlock = none
  · exact h1.kept hg (.inl hn)
  · refine h1.kept hg (.inr fun e => ?_)
    obtain ⟨q, hq⟩ := Option.ne_none_iff_exists'.1 hn
    have := (h1.lt q hq).1
    have := (h2.lt q (e.symm.trans hq)).2
    omega

theorem rexp_bad (v : Value) (s : ByteArray) (n : Int) (w : World) (h : n < 0 ∨ 8160 < n) :
    Calls Tryd.prog 30 #[v, .string s, .int .i64 n] w fun e w' => e = .returned (.tuple #[.slice none 0 0, .int .i64 2]) ∧ w' = w := by
  go_enter Tryd.func30, Tryd.ntmps30
  rcases h with h | h
  · go_wp2_with fail
    go_ret2
    exact ⟨rfl, rfl⟩
  · have h0 : ¬ n < 0 := by omega
    go_wp2_with fail
    go_ret2
    exact ⟨rfl, rfl⟩

set_option maxRecDepth 100000 in
set_option maxHeartbeats 6400000 in
theorem rexp_ok (key : List Int) (v : Value) (s : ByteArray) (n : Nat) (w : World) (hv : BS w v key) (hr : Room v) (hn : key.length ≤ 8000) (hs : s.size ≤ 8000) (h : n ≤ 8160) :
    Calls Tryd.prog 30 #[v, .string s, .int .i64 (n : Int)] w fun e w' => (∃ v', e = .returned (.tuple #[v', .int .i64 0]) ∧ BS w' v' (expS key (txt s) n)) ∧ Below w.heap.size w w' := by
  have HV := Lib.hid (And.intro hv hr)
  have HN := Lib.hid (And.intro hn (And.intro hs h))
  have nI : (n : Int) ≤ 8160 := by omega
  have n0 : (0 : Int) ≤ (n : Int) := by omega
  have n1 : ¬ (n : Int) < 0 := by omega
  clear hv hr hn hs h
  go_enter Tryd.func30, Tryd.ntmps30
  go_wp2_with fail
  refine (made_any _).mono ?_
  rintro e w1 ⟨⟨g1, c1, g2, c2, rfl, hM⟩, hb1⟩
  have SC := Lib.hid (show (Tryd.prog.info? 32).map (·.size) = some (#[Value.slice (some ⟨g1, 0, none⟩) 8 c1, .slice (some ⟨g2, 0, none⟩) 64 c2] : Array Value).size by kernel_rfl)
  have HM1 := Lib.hid hM
  have HB1 := Lib.hid hb1
  clear hM hb1
  go_upto_region 4 with (first
    | (with_reducible refine wpList_store_row (o := ⟨none, .store _ (.tmp 8) _, _, _, _, _⟩) rfl 32 _ _ rfl w1.heap.size #[Value.slice (some ⟨g1, 0, none⟩) 8 c1, .slice (some ⟨g2, 0, none⟩) 64 c2] rfl rfl 32 _ (heap_alloc_new w1 _) SC.out ?c1 ?c2 ?_))
  case c1 => rfl
  case c2 => simp [Value.oneCell']
  generalize hW2 : World.setRow _ w1.heap.size _ = W2
  obtain ⟨r2, z2, b2⟩ := fresh_row w1 #[.slice none 0 0, .slice none 0 0] #[Value.slice (some ⟨g1, 0, none⟩) 8 c1, .slice (some ⟨g2, 0, none⟩) 64 c2] 32 W2 hW2.symm
  clear hW2
  have HC2 := Lib.hid r2
  have HM2 := Lib.hid (HM1.out.kept b2)
  have HB2 := Lib.hid (HB1.out.trans (b2.mono HB1.out.size))
  clear r2 z2 b2 HM1 HB1
  generalize w1.heap.size = C at *
  have hiC : (Tryd.prog.info? 32).map (·.size) = some (#[Value.slice (some ⟨g1, 0, none⟩) 8 c1, .slice (some ⟨g2, 0, none⟩) 64 c2] : Array Value).toList.length := by kernel_rfl
  have huC := Tryd.underlying32
  go_wp2_with fail
  go_loopw [9, 10, 11] (fun v9 v10 v11 wr => ∃ (k : Nat) (a9 : Option Addr) (c9 : Nat) (a10 : Option Addr) (c10 : Nat), 32 * k < n + 32 ∧ v11 = .int .i64 ((k + 1 : Nat) : Int) ∧ v9 = .slice a9 (32 * k) c9 ∧ v10 = .slice a10 (blkS key (txt s) k).length c10 ∧ wr.ownsRow W2.heap.size 5 1 (.slice a9 (32 * k) c9) (32 * k) ((expAll key (txt s) k).map (Value.int .u8)) ∧ BS wr (.slice a10 (blkS key (txt s) k).length c10) (blkS key (txt s) k) ∧ (k = 0 → Value.slice a10 (blkS key (txt s) k).length c10 = .slice none 0 0) ∧ Below W2.heap.size W2 wr) (fun _ _ v _ => 300 - (intOf v).toNat)
  case atStart => exact ⟨0, none, 0, none, 0, by omega, rfl, rfl, rfl, World.ownsRow_nil _ _ _ _, ⟨none, 0, rfl, blkS_byt _ _ 0, fun _ => rfl, .inl rfl⟩, fun _ => rfl, Below.refl _ _⟩
  case round =>
    obtain ⟨k, a9, c9, a10, c10, hk, rfl, rfl, rfl, ho9, hb10, hz10, hbe⟩ := hrel
    by_cases hlt : 32 * k < n
    · obtain ⟨p, hp⟩ : ∃ p, p = 32 * k := ⟨_, rfl⟩
      obtain ⟨j, hj⟩ : ∃ j, j = k + 1 := ⟨_, rfl⟩
      have hE : blkS key (txt s) (k + 1) = macS key (blkS key (txt s) k ++ (txt s ++ [((k : Int)) + 1])) := rfl
      have hF : expAll key (txt s) (k + 1) = expAll key (txt s) k ++ blkS key (txt s) (k + 1) := rfl
      have hjI : ((k : Int)) + 1 = (j : Int) := by omega
      rw [hjI] at hE
      rw [← hj] at hE hF
      rw [← hp] at ho9
      rw [← hp, ← hj]
      have pn : (p : Int) < (n : Int) := by omega
      have j0 : (0 : Int) ≤ (j : Int) := by omega
      have j1 : (j : Int) ≤ 255 := by omega
      have hw8 : IntKind.u8.wrap (j : Int) = (j : Int) := by
        unfold IntKind.wrap
        simp [IntKind.signed, IntKind.bits]
        omega
      have hw64 : IntKind.i64.wrap ((j : Int) + 1) = (j : Int) + 1 := IntWalk.i64_in _ (by omega)
      have HKJ := Lib.hid (And.intro hp (And.intro hj hlt))
      have hlN : (blkS key (txt s) j).length = 32 := by rw [hj]; exact blkS_length _ _ _
      have hyN := blkS_byt key (txt s) j
      have hlk := blkS_le key (txt s) k
      have hyk := blkS_byt key (txt s) k
      have hle : blkS key (txt s) k = [] ∨ 2 ≤ (blkS key (txt s) k).length := by
        cases k with
        | zero => exact .inl rfl
        | succ k => exact .inr (by rw [blkS_length]; omega)
      have hzl : blkS key (txt s) k = [] → Value.slice a10 (blkS key (txt s) k).length c10 = .slice none 0 0 := fun e => hz10 (by
        cases k with
        | zero => rfl
        | succ k => have := blkS_length key (txt s) k; rw [e] at this; simp at this)
      have HBL := Lib.hid (And.intro hzl hle)
      have HEB := Lib.hid hE
      have HFB := Lib.hid hF
      clear hE hF hz10 hzl hle hjI hp hlt hk
      generalize hNN : blkS key (txt s) j = N at *
      have HNN := Lib.hid hNN
      clear hNN
      generalize hBK : blkS key (txt s) k = bk at *
      have HNB := Lib.hid (And.intro hlN hyN)
      have HKB := Lib.hid (And.intro hlk hyk)
      have HL10 := Lib.hid hb10
      have HO9 := Lib.hid ho9
      have HBE := Lib.hid hbe
      have HJJ := Lib.hid hj
      have HMW := Lib.hid (HM2.out.kept hbe)
      have HVW := Lib.hid (HV.out.1.kept (HB2.out.trans (hbe.mono HB2.out.size)))
      have HCW := Lib.hid (show wr.heap[C]? = some (.cells #[Value.slice (some ⟨g1, 0, none⟩) 8 c1, .slice (some ⟨g2, 0, none⟩) 64 c2] 32 (0, 0)) from (hbe.block C (lt_of_block HC2.out)).trans HC2.out)
      have HGC := Lib.hid (show ∀ W : World, Below wr.heap.size wr W → W.rangeAt C 0 (#[Value.slice (some ⟨g1, 0, none⟩) 8 c1, .slice (some ⟨g2, 0, none⟩) 64 c2] : Array Value).toList from fun W hb j v hv => by
        rw [Nat.zero_add, cell_of_row _ _ _ _ _ _ ((hb.block C (lt_of_block HCW.out)).trans HCW.out), ← Array.getElem?_toList]
        exact hv)
      have HBJ := Lib.hid (show Byt [(j : Int)] by intro z hz; simp at hz; omega)
      obtain ⟨i0, hi, hz0, hz1, hz2⟩ := info_parts info_u8
      have HI := Lib.hid (And.intro hi (And.intro hz0 (And.intro hz1 hz2)))
      have HTL := Lib.hid (txt_length s)
      have HYA := Lib.hid (show Byt (bk ++ (txt s ++ [(j : Int)])) from byt_app hyk (byt_app (txt_byt s) HBJ.out))
      have HLA := Lib.hid (show (bk ++ (txt s ++ [(j : Int)])).length = bk.length + s.size + [(j : Int)].length by simp [HTL.out]; omega)
      have SH := Lib.hid (size_h32 N hlN)
      have SE := Lib.hid (show (u8s (List.replicate 32 0)).size = (u8s N).size by rw [u8s_size, u8s_size, hlN]; rfl)
      clear hlN hyN hlk hyk hb10 ho9 hbe hj hi hz0 hz1 hz2 hBK
      go_upto_region 8 with (fail)
      go_cut [12] (fun v12 wc => ∃ X, v12 = .pointer (some ⟨X, 0, none⟩) ∧ ArrB wc X 24 N ∧ Below wr.heap.size wr wc)
      case first =>
        rename_i J0 K0 hJ0 hK0
        have HBD := Lib.hid (Below.refl wr.heap.size wr).drew
        refine wp_region_noPanic ?_
        refine wp_region_held_drew (S := fun w' => w'.rangeAt C 0 (#[Value.slice (some ⟨g1, 0, none⟩) 8 c1, .slice (some ⟨g2, 0, none⟩) 64 c2] : Array Value).toList) (by kernel_rfl) (HGC.out _ HBD.out) (fun hHeld => ?_)
        refine wpAnyH_take (i := 0) (oi := ⟨some 26, _, _, _, _, _⟩) rfl (by kernel_rfl) (by decide +kernel) (by decide +kernel) (fun _ _ _ h => h) (yieldsIf_load_mid (by rfl) _ _ rfl C 0 rfl (#[Value.slice (some ⟨g1, 0, none⟩) 8 c1, .slice (some ⟨g2, 0, none⟩) 64 c2] : Array Value).toList _ (fun w' h => h) huC rfl hiC) (by assumption) ?_
        try simp only [Act.put, List.setIfInBounds_toArray, List.set_cons_zero, List.set_cons_succ]
        refine wpAnyH_take (i := 1) (oi := ⟨some 27, _, _, _, _, _⟩) (v := ?_) rfl (by kernel_rfl) (by decide +kernel) (by decide +kernel) (fun _ _ _ h => h) (Or.inl ⟨by rfl, ?_⟩) (by assumption) ?_
        rotate_left 1
        · (intro w' hSw; go_simp; try with_reducible rfl)
        try simp only [Act.put, List.setIfInBounds_toArray, List.set_cons_zero, List.set_cons_succ]
        refine wpAnyH_take (i := 3) (oi := ⟨some 29, _, _, _, _, _⟩) (v := ?_) rfl (by kernel_rfl) (by decide +kernel) (by decide +kernel) (fun _ _ _ h => h) (Or.inl ⟨by rfl, ?_⟩) (by assumption) ?_
        rotate_left 1
        · (intro w' hSw; go_simp; try with_reducible rfl)
        try simp only [Act.put, List.setIfInBounds_toArray, List.set_cons_zero, List.set_cons_succ]
        refine wpAnyH_take (i := 5) (oi := ⟨some 31, _, _, _, _, _⟩) (v := ?_) rfl (by kernel_rfl) (by decide +kernel) (by decide +kernel) (fun _ _ _ h => h) (Or.inl ⟨by rfl, ?_⟩) (by assumption) ?_
        rotate_left 1
        · (intro w' hSw; go_simp; try with_reducible rfl)
        try simp only [Act.put, List.setIfInBounds_toArray, List.set_cons_zero, List.set_cons_succ]
        refine wpAnyH_take (i := 7) (oi := ⟨some 33, _, _, _, _, _⟩) (v := ?_) rfl (by kernel_rfl) (by decide +kernel) (by decide +kernel) (fun _ _ _ h => h) (Or.inl ⟨by rfl, ?_⟩) (by assumption) ?_
        rotate_left 1
        · (intro w' hSw; go_simp; try with_reducible rfl)
        try simp only [Act.put, List.setIfInBounds_toArray, List.set_cons_zero, List.set_cons_succ]
        refine wpAnyH_take (i := 8) (oi := ⟨some 34, _, _, _, _, _⟩) (v := ?_) rfl (by kernel_rfl) (by decide +kernel) (by decide +kernel) (fun _ _ _ h => h) (Or.inl ⟨by rfl, ?_⟩) (by assumption) ?_
        rotate_left 1
        · (intro w' hSw; go_simp; try with_reducible rfl)
        try simp only [Act.put, List.setIfInBounds_toArray, List.set_cons_zero, List.set_cons_succ]
        refine wpAnyH_ready (rs := [2, 9, 12]) (by decide +kernel) (by simp) ?_
        refine AllReadyH.cons rfl (fun K hK => ?_) (AllReadyH.cons rfl (fun K hK => ?_) (AllReadyH.cons rfl (fun K hK => ?_) AllReadyH.nil))
        · go_simp
          have hal1 := HBD.out.alloc HBD.out.size (.cells #[] 5)
          have hnw1 := heap_alloc_new wr.drew (.cells #[] 5)
          have hst1 := (Below.refl wr.drew.heap.size wr.drew).alloc (Nat.le_refl _) (.cells #[] 5)
          have hon1 := own_mono (own_empty wr.drew) HBD.out.size
          refine hK.out _ (World.alloc wr.drew (.cells #[] 5)) (HGC.out _ hal1) (fun hHeld => ?_)
          clear hK K
          try simp only [Act.put, List.setIfInBounds_toArray, List.set_cons_zero, List.set_cons_succ]
          refine (show ∀ wb1 : World, wb1 = World.alloc wr.drew (.cells #[] 5) → _ from ?_) _ rfl
          intro wb1 ew1
          rw [← ew1] at hal1 hnw1 hst1 hon1
          have HB1 := Lib.hid hal1
          have HO1 := Lib.hid hon1
          clear ew1 hal1 hnw1 hst1 hon1
          refine wpAnyH_ready (rs := [4, 9, 12]) (by decide +kernel) (by simp) ?_
          refine AllReadyH.cons rfl (fun K hK => ?_) (AllReadyH.cons rfl (fun K hK => ?_) (AllReadyH.cons rfl (fun K hK => ?_) AllReadyH.nil))
          · obtain ⟨v2, wa2, hr2, ho2, hg2, hq2⟩ := run_append_last wb1 wr.heap.size 0 (.slice (some ⟨wr.drew.heap.size, 0, none⟩) 0 0) (.slice a10 bk.length c10) [] bk HO1.out (HL10.out.kept HB1.out) (by have := HKB.out.1; omega) HB1.out.size HBL.out.1 HBL.out.2
            rw [Nat.zero_add, List.nil_append] at ho2
            obtain ⟨aa2, cc2, rfl, _⟩ := own_shape ho2
            have HB2 := Lib.hid (HB1.out.grown hg2 HB1.out.size (fun k hk => (HO1.out.lt k hk).1))
            have HO2 := Lib.hid ho2
            rw [if_pos (by kernel_rfl)]
            refine wp_append_run (o := ⟨some 30, _, _, _, _, _⟩) (.tmp 28) (.tmp 29) 22 22 rfl _ _ _ _ rfl rfl hr2 ?_
            clear hr2 ho2 hg2 hq2
            refine hK.out _ _ (HGC.out _ HB2.out) (fun hHeld => ?_)
            clear hK K
            try simp only [Act.put, List.setIfInBounds_toArray, List.set_cons_zero, List.set_cons_succ]
            refine wpAnyH_ready (rs := [6, 9, 12]) (by decide +kernel) (by simp) ?_
            refine AllReadyH.cons rfl (fun K hK => ?_) (AllReadyH.cons rfl (fun K hK => ?_) (AllReadyH.cons rfl (fun K hK => ?_) AllReadyH.nil))
            · obtain ⟨v3, wa3, hr3, ho3, hg3, _⟩ := Lib.run_append_own_string (P := Tryd.prog) wa2 wr.heap.size 22 9 22 5 i0 Tryd.underlying22 Tryd.underlying9 HI.out.1 HI.out.2.1 HI.out.2.2.1 HI.out.2.2.2 (.slice aa2 bk.length cc2) bk.length (bk.map (.int .u8)) HO2.out s (by unfold maxLen; have := HKB.out.1; have := HN.out.2.1; omega) (by have := HKB.out.1; have := HN.out.2.1; omega) HB2.out.size
              rw [strCells_txt', ← List.map_append] at ho3
              obtain ⟨aa3, cc3, rfl, _⟩ := own_shape ho3
              have HB3 := Lib.hid (HB2.out.grown hg3 HB2.out.size (fun k hk => (HO2.out.lt k hk).1))
              have HO3 := Lib.hid ho3
              rw [if_pos (by kernel_rfl)]
              refine wp_append_run (o := ⟨some 32, _, _, _, _, _⟩) (.tmp 30) (.tmp 31) 22 9 rfl _ _ _ _ rfl rfl hr3 ?_
              clear hr3 ho3 hg3
              refine hK.out _ _ (HGC.out _ HB3.out) (fun hHeld => ?_)
              clear hK K
              try simp only [Act.put, List.setIfInBounds_toArray, List.set_cons_zero, List.set_cons_succ]
              refine wpAnyH_ready (rs := [9, 12]) (by decide +kernel) (by simp) ?_
              refine AllReadyH.cons rfl (fun K hK => ?_) (AllReadyH.cons rfl (fun K hK => ?_) AllReadyH.nil)
              · go_simp
                have hal4 := HB3.out.alloc HB3.out.size (.cells (u8s [(j : Int)]) 5)
                have hnw4 := heap_alloc_new wa3 (.cells (u8s [(j : Int)]) 5)
                have hst4 := (Below.refl wa3.heap.size wa3).alloc (Nat.le_refl _) (.cells (u8s [(j : Int)]) 5)
                refine hK.out _ (World.alloc wa3 (.cells (u8s [(j : Int)]) 5)) (HGC.out _ hal4) (fun hHeld => ?_)
                clear hK K
                try simp only [Act.put, List.setIfInBounds_toArray, List.set_cons_zero, List.set_cons_succ]
                refine (show ∀ wb4 : World, wb4 = World.alloc wa3 (.cells (u8s [(j : Int)]) 5) → _ from ?_) _ rfl
                intro wb4 ew4
                rw [← ew4] at hal4 hnw4 hst4
                have HB4 := Lib.hid hal4
                have HY4 := Lib.hid (show ArrB wb4 wa3.heap.size 5 [(j : Int)] from hnw4)
                have HO4 := Lib.hid (own_below HO3.out hst4)
                have HQ4 := Lib.hid (show Value.ownBlock (.slice aa3 (bk.length + s.size) cc3) ≠ some wa3.heap.size from fun e => Nat.lt_irrefl _ (HO3.out.lt _ e).2)
                clear ew4 hal4 hnw4 hst4
                refine wpAnyH_ready (rs := [10, 12]) (by decide +kernel) (by simp) ?_
                refine AllReadyH.cons rfl (fun K hK => ?_) (AllReadyH.cons rfl (fun K hK => ?_) AllReadyH.nil)
                · obtain ⟨v5, wa5, hr5, ho5, hg5⟩ := run_append_BS wb4 wr.heap.size (bk.length + s.size) (.slice aa3 (bk.length + s.size) cc3) (.slice (some ⟨wa3.heap.size, 0, none⟩) 1 1) ((bk ++ txt s).map (.int .u8)) [(j : Int)] HO4.out (bs_const HY4.out HBJ.out 1 rfl) (by have := HKB.out.1; have := HN.out.2.1; simp; omega) HB4.out.size
                  rw [← List.map_append, List.append_assoc] at ho5
                  obtain ⟨aa5, cc5, rfl, _⟩ := own_shape ho5
                  have HB5 := Lib.hid (HB4.out.grown hg5 HB4.out.size (fun k hk => (HO4.out.lt k hk).1))
                  have HS5 := Lib.hid (BS.of_own ho5 HLA.out HYA.out)
                  rw [if_pos (by kernel_rfl)]
                  refine wp_append_run (o := ⟨some 36, _, _, _, _, _⟩) (.tmp 32) (.tmp 35) 22 22 rfl _ _ _ _ rfl rfl hr5 ?_
                  clear hr5 ho5 hg5
                  refine hK.out _ _ (HGC.out _ HB5.out) (fun hHeld => ?_)
                  clear hK K
                  try simp only [Act.put, List.setIfInBounds_toArray, List.set_cons_zero, List.set_cons_succ]
                  refine wpAnyH_ready (rs := [11, 12]) (by decide +kernel) (by simp) ?_
                  refine AllReadyH.cons rfl (fun K hK => ?_) (AllReadyH.cons rfl (fun K hK => ?_) AllReadyH.nil)
                  · go_simp
                    go_at_call 39
                    have hw6 := rmacwith_any key (bk ++ (txt s ++ [(j : Int)])) v _ g1 c1 g2 c2 wa5 (HMW.out.kept HB5.out) (HVW.out.kept HB5.out) HV.out.2 HS5.out (by have := HN.out.1; omega) (by rw [HLA.out]; have := HKB.out.1; have := HN.out.2.1; simp; omega)
                    rw [← HEB.out] at hw6
                    refine hw6.mono ?_
                    rintro e ww6 ⟨rfl, hb6⟩
                    have HB6 := Lib.hid (HB5.out.trans (hb6.mono HB5.out.size))
                    clear hb6 hw6
                    go_wp2_with fail
                    refine hK.out _ _ (HGC.out _ HB6.out) (fun hHeld => ?_)
                    clear hK K
                    try simp only [Act.put, List.setIfInBounds_toArray, List.set_cons_zero, List.set_cons_succ]
                    refine wpAnyH_ready (rs := [12]) (by decide +kernel) (by simp) ?_
                    refine AllReadyH.cons rfl (fun K hK => ?_) AllReadyH.nil
                    go_simp
                    have hal7 := HB6.out.alloc HB6.out.size (.cells (u8s (List.replicate 32 0)) 24)
                    have hnw7 := heap_alloc_new ww6 (.cells (u8s (List.replicate 32 0)) 24)
                    have hst7 := (Below.refl ww6.heap.size ww6).alloc (Nat.le_refl _) (.cells (u8s (List.replicate 32 0)) 24)
                    refine hK.out _ (World.alloc ww6 (.cells (u8s (List.replicate 32 0)) 24)) (HGC.out _ hal7) (fun hHeld => ?_)
                    clear hK K
                    try simp only [Act.put, List.setIfInBounds_toArray, List.set_cons_zero, List.set_cons_succ]
                    refine (show ∀ wb7 : World, wb7 = World.alloc ww6 (.cells (u8s (List.replicate 32 0)) 24) → _ from ?_) _ rfl
                    intro wb7 ew7
                    rw [← ew7] at hal7 hnw7 hst7
                    have HB7 := Lib.hid hal7
                    have HX7 := Lib.hid (show ArrB wb7 ww6.heap.size 24 (List.replicate 32 0) from hnw7)
                    clear ew7 hal7 hnw7 hst7
                    refine wpAnyH_ready (rs := [13]) (by decide +kernel) (by simp) ?_
                    refine AllReadyH.cons rfl (fun K hK => ?_) AllReadyH.nil
                    rw [if_pos (by kernel_rfl)]
                    refine wp_store_row (o := ⟨none, _, _, _, _, _⟩) 24 (.tmp 12) (.tmp 37) rfl (ww6.heap.size) (u8s N) rfl rfl 24 (u8s (List.replicate 32 0)) HX7.out SH.out SE.out (u8s_one _) ?_
                    have hbl := below_setRow HB7.out (show wr.heap.size ≤ ww6.heap.size from HB6.out.size) (u8s N)
                    refine hK.out _ _ (HGC.out _ hbl) (fun hHeld => ?_)
                    clear hK K
                    try simp only [Act.put]
                    refine wpAnyH_done (by decide +kernel) ?_ _
                    refine NoPanic.normal ?_
                    show K0 _ _
                    refine hK0 _ _ (Met.intro (hJ0 _ _ ?_))
                    repeat apply Exists.intro
                    exact ⟨⟨_, rfl, setRow_heap _ _ _ _ _ (0, 0) HX7.out, hbl⟩, rfl⟩
                  · go_simp
                    have hal8 := HB5.out.alloc HB5.out.size (.cells (u8s (List.replicate 32 0)) 24)
                    have hnw8 := heap_alloc_new wa5 (.cells (u8s (List.replicate 32 0)) 24)
                    have hst8 := (Below.refl wa5.heap.size wa5).alloc (Nat.le_refl _) (.cells (u8s (List.replicate 32 0)) 24)
                    refine hK.out _ (World.alloc wa5 (.cells (u8s (List.replicate 32 0)) 24)) (HGC.out _ hal8) (fun hHeld => ?_)
                    clear hK K
                    try simp only [Act.put, List.setIfInBounds_toArray, List.set_cons_zero, List.set_cons_succ]
                    refine (show ∀ wb8 : World, wb8 = World.alloc wa5 (.cells (u8s (List.replicate 32 0)) 24) → _ from ?_) _ rfl
                    intro wb8 ew8
                    rw [← ew8] at hal8 hnw8 hst8
                    have HB8 := Lib.hid hal8
                    have HX8 := Lib.hid (show ArrB wb8 wa5.heap.size 24 (List.replicate 32 0) from hnw8)
                    have HS8 := Lib.hid (HS5.out.kept hst8)
                    clear ew8 hal8 hnw8 hst8
                    refine wpAnyH_ready (rs := [11]) (by decide +kernel) (by simp) ?_
                    refine AllReadyH.cons rfl (fun K hK => ?_) AllReadyH.nil
                    go_simp
                    go_at_call 39
                    have hw9 := rmacwith_any key (bk ++ (txt s ++ [(j : Int)])) v _ g1 c1 g2 c2 wb8 (HMW.out.kept HB8.out) (HVW.out.kept HB8.out) HV.out.2 HS8.out (by have := HN.out.1; omega) (by rw [HLA.out]; have := HKB.out.1; have := HN.out.2.1; simp; omega)
                    rw [← HEB.out] at hw9
                    refine hw9.mono ?_
                    rintro e ww9 ⟨rfl, hb9⟩
                    have HB9 := Lib.hid (HB8.out.trans (hb9.mono HB8.out.size))
                    have HX9 := Lib.hid (HX8.out.below hb9 HX8.out.lt)
                    clear hb9 hw9
                    go_wp2_with fail
                    refine hK.out _ _ (HGC.out _ HB9.out) (fun hHeld => ?_)
                    clear hK K
                    try simp only [Act.put, List.setIfInBounds_toArray, List.set_cons_zero, List.set_cons_succ]
                    refine wpAnyH_ready (rs := [13]) (by decide +kernel) (by simp) ?_
                    refine AllReadyH.cons rfl (fun K hK => ?_) AllReadyH.nil
                    rw [if_pos (by kernel_rfl)]
                    refine wp_store_row (o := ⟨none, _, _, _, _, _⟩) 24 (.tmp 12) (.tmp 37) rfl (wa5.heap.size) (u8s N) rfl rfl 24 (u8s (List.replicate 32 0)) HX9.out SH.out SE.out (u8s_one _) ?_
                    have hbl := below_setRow HB9.out (show wr.heap.size ≤ wa5.heap.size from HB5.out.size) (u8s N)
                    refine hK.out _ _ (HGC.out _ hbl) (fun hHeld => ?_)
                    clear hK K
                    try simp only [Act.put]
                    refine wpAnyH_done (by decide +kernel) ?_ _
                    refine NoPanic.normal ?_
                    show K0 _ _
                    refine hK0 _ _ (Met.intro (hJ0 _ _ ?_))
                    repeat apply Exists.intro
                    exact ⟨⟨_, rfl, setRow_heap _ _ _ _ _ (0, 0) HX9.out, hbl⟩, rfl⟩
                · go_simp
                  have hal10 := HB4.out.alloc HB4.out.size (.cells (u8s (List.replicate 32 0)) 24)
                  have hnw10 := heap_alloc_new wb4 (.cells (u8s (List.replicate 32 0)) 24)
                  have hst10 := (Below.refl wb4.heap.size wb4).alloc (Nat.le_refl _) (.cells (u8s (List.replicate 32 0)) 24)
                  refine hK.out _ (World.alloc wb4 (.cells (u8s (List.replicate 32 0)) 24)) (HGC.out _ hal10) (fun hHeld => ?_)
                  clear hK K
                  try simp only [Act.put, List.setIfInBounds_toArray, List.set_cons_zero, List.set_cons_succ]
                  refine (show ∀ wb10 : World, wb10 = World.alloc wb4 (.cells (u8s (List.replicate 32 0)) 24) → _ from ?_) _ rfl
                  intro wb10 ew10
                  rw [← ew10] at hal10 hnw10 hst10
                  have HB10 := Lib.hid hal10
                  have HX10 := Lib.hid (show ArrB wb10 wb4.heap.size 24 (List.replicate 32 0) from hnw10)
                  have HY10 := Lib.hid (HY4.out.below hst10 HY4.out.lt)
                  have HO10 := Lib.hid (own_below HO4.out hst10)
                  clear ew10 hal10 hnw10 hst10
                  refine wpAnyH_ready (rs := [10]) (by decide +kernel) (by simp) ?_
                  refine AllReadyH.cons rfl (fun K hK => ?_) AllReadyH.nil
                  obtain ⟨v11, wa11, hr11, ho11, hg11⟩ := run_append_BS wb10 wr.heap.size (bk.length + s.size) (.slice aa3 (bk.length + s.size) cc3) (.slice (some ⟨wa3.heap.size, 0, none⟩) 1 1) ((bk ++ txt s).map (.int .u8)) [(j : Int)] HO10.out (bs_const HY10.out HBJ.out 1 rfl) (by have := HKB.out.1; have := HN.out.2.1; simp; omega) HB10.out.size
                  rw [← List.map_append, List.append_assoc] at ho11
                  obtain ⟨aa11, cc11, rfl, _⟩ := own_shape ho11
                  have HB11 := Lib.hid (HB10.out.grown hg11 HB10.out.size (fun k hk => (HO10.out.lt k hk).1))
                  have HS11 := Lib.hid (BS.of_own ho11 HLA.out HYA.out)
                  have HX11 := Lib.hid (arr_grown HX10.out hg11 (arr_own_ne HO10.out HX10.out (by decide)))
                  rw [if_pos (by kernel_rfl)]
                  refine wp_append_run (o := ⟨some 36, _, _, _, _, _⟩) (.tmp 32) (.tmp 35) 22 22 rfl _ _ _ _ rfl rfl hr11 ?_
                  clear hr11 ho11 hg11
                  refine hK.out _ _ (HGC.out _ HB11.out) (fun hHeld => ?_)
                  clear hK K
                  try simp only [Act.put, List.setIfInBounds_toArray, List.set_cons_zero, List.set_cons_succ]
                  refine wpAnyH_ready (rs := [11]) (by decide +kernel) (by simp) ?_
                  refine AllReadyH.cons rfl (fun K hK => ?_) AllReadyH.nil
                  go_simp
                  go_at_call 39
                  have hw12 := rmacwith_any key (bk ++ (txt s ++ [(j : Int)])) v _ g1 c1 g2 c2 wa11 (HMW.out.kept HB11.out) (HVW.out.kept HB11.out) HV.out.2 HS11.out (by have := HN.out.1; omega) (by rw [HLA.out]; have := HKB.out.1; have := HN.out.2.1; simp; omega)
                  rw [← HEB.out] at hw12
                  refine hw12.mono ?_
                  rintro e ww12 ⟨rfl, hb12⟩
                  have HB12 := Lib.hid (HB11.out.trans (hb12.mono HB11.out.size))
                  have HX12 := Lib.hid (HX11.out.below hb12 HX11.out.lt)
                  clear hb12 hw12
                  go_wp2_with fail
                  refine hK.out _ _ (HGC.out _ HB12.out) (fun hHeld => ?_)
                  clear hK K
                  try simp only [Act.put, List.setIfInBounds_toArray, List.set_cons_zero, List.set_cons_succ]
                  refine wpAnyH_ready (rs := [13]) (by decide +kernel) (by simp) ?_
                  refine AllReadyH.cons rfl (fun K hK => ?_) AllReadyH.nil
                  rw [if_pos (by kernel_rfl)]
                  refine wp_store_row (o := ⟨none, _, _, _, _, _⟩) 24 (.tmp 12) (.tmp 37) rfl (wb4.heap.size) (u8s N) rfl rfl 24 (u8s (List.replicate 32 0)) HX12.out SH.out SE.out (u8s_one _) ?_
                  have hbl := below_setRow HB12.out (show wr.heap.size ≤ wb4.heap.size from HB4.out.size) (u8s N)
                  refine hK.out _ _ (HGC.out _ hbl) (fun hHeld => ?_)
                  clear hK K
                  try simp only [Act.put]
                  refine wpAnyH_done (by decide +kernel) ?_ _
                  refine NoPanic.normal ?_
                  show K0 _ _
                  refine hK0 _ _ (Met.intro (hJ0 _ _ ?_))
                  repeat apply Exists.intro
                  exact ⟨⟨_, rfl, setRow_heap _ _ _ _ _ (0, 0) HX12.out, hbl⟩, rfl⟩
              · go_simp
                have hal13 := HB3.out.alloc HB3.out.size (.cells (u8s (List.replicate 32 0)) 24)
                have hnw13 := heap_alloc_new wa3 (.cells (u8s (List.replicate 32 0)) 24)
                have hst13 := (Below.refl wa3.heap.size wa3).alloc (Nat.le_refl _) (.cells (u8s (List.replicate 32 0)) 24)
                refine hK.out _ (World.alloc wa3 (.cells (u8s (List.replicate 32 0)) 24)) (HGC.out _ hal13) (fun hHeld => ?_)
                clear hK K
                try simp only [Act.put, List.setIfInBounds_toArray, List.set_cons_zero, List.set_cons_succ]
                refine (show ∀ wb13 : World, wb13 = World.alloc wa3 (.cells (u8s (List.replicate 32 0)) 24) → _ from ?_) _ rfl
                intro wb13 ew13
                rw [← ew13] at hal13 hnw13 hst13
                have HB13 := Lib.hid hal13
                have HX13 := Lib.hid (show ArrB wb13 wa3.heap.size 24 (List.replicate 32 0) from hnw13)
                have HO13 := Lib.hid (own_below HO3.out hst13)
                clear ew13 hal13 hnw13 hst13
                refine wpAnyH_ready (rs := [9]) (by decide +kernel) (by simp) ?_
                refine AllReadyH.cons rfl (fun K hK => ?_) AllReadyH.nil
                go_simp
                have hal14 := HB13.out.alloc HB13.out.size (.cells (u8s [(j : Int)]) 5)
                have hnw14 := heap_alloc_new wb13 (.cells (u8s [(j : Int)]) 5)
                have hst14 := (Below.refl wb13.heap.size wb13).alloc (Nat.le_refl _) (.cells (u8s [(j : Int)]) 5)
                refine hK.out _ (World.alloc wb13 (.cells (u8s [(j : Int)]) 5)) (HGC.out _ hal14) (fun hHeld => ?_)
                clear hK K
                try simp only [Act.put, List.setIfInBounds_toArray, List.set_cons_zero, List.set_cons_succ]
                refine (show ∀ wb14 : World, wb14 = World.alloc wb13 (.cells (u8s [(j : Int)]) 5) → _ from ?_) _ rfl
                intro wb14 ew14
                rw [← ew14] at hal14 hnw14 hst14
                have HB14 := Lib.hid hal14
                have HY14 := Lib.hid (show ArrB wb14 wb13.heap.size 5 [(j : Int)] from hnw14)
                have HX14 := Lib.hid (HX13.out.below hst14 HX13.out.lt)
                have HO14 := Lib.hid (own_below HO13.out hst14)
                have HQ14 := Lib.hid (show Value.ownBlock (.slice aa3 (bk.length + s.size) cc3) ≠ some wb13.heap.size from fun e => Nat.lt_irrefl _ (HO13.out.lt _ e).2)
                clear ew14 hal14 hnw14 hst14
                refine wpAnyH_ready (rs := [10]) (by decide +kernel) (by simp) ?_
                refine AllReadyH.cons rfl (fun K hK => ?_) AllReadyH.nil
                obtain ⟨v15, wa15, hr15, ho15, hg15⟩ := run_append_BS wb14 wr.heap.size (bk.length + s.size) (.slice aa3 (bk.length + s.size) cc3) (.slice (some ⟨wb13.heap.size, 0, none⟩) 1 1) ((bk ++ txt s).map (.int .u8)) [(j : Int)] HO14.out (bs_const HY14.out HBJ.out 1 rfl) (by have := HKB.out.1; have := HN.out.2.1; simp; omega) HB14.out.size
                rw [← List.map_append, List.append_assoc] at ho15
                obtain ⟨aa15, cc15, rfl, _⟩ := own_shape ho15
                have HB15 := Lib.hid (HB14.out.grown hg15 HB14.out.size (fun k hk => (HO14.out.lt k hk).1))
                have HS15 := Lib.hid (BS.of_own ho15 HLA.out HYA.out)
                have HX15 := Lib.hid (arr_grown HX14.out hg15 (arr_own_ne HO14.out HX14.out (by decide)))
                rw [if_pos (by kernel_rfl)]
                refine wp_append_run (o := ⟨some 36, _, _, _, _, _⟩) (.tmp 32) (.tmp 35) 22 22 rfl _ _ _ _ rfl rfl hr15 ?_
                clear hr15 ho15 hg15
                refine hK.out _ _ (HGC.out _ HB15.out) (fun hHeld => ?_)
                clear hK K
                try simp only [Act.put, List.setIfInBounds_toArray, List.set_cons_zero, List.set_cons_succ]
                refine wpAnyH_ready (rs := [11]) (by decide +kernel) (by simp) ?_
                refine AllReadyH.cons rfl (fun K hK => ?_) AllReadyH.nil
                go_simp
                go_at_call 39
                have hw16 := rmacwith_any key (bk ++ (txt s ++ [(j : Int)])) v _ g1 c1 g2 c2 wa15 (HMW.out.kept HB15.out) (HVW.out.kept HB15.out) HV.out.2 HS15.out (by have := HN.out.1; omega) (by rw [HLA.out]; have := HKB.out.1; have := HN.out.2.1; simp; omega)
                rw [← HEB.out] at hw16
                refine hw16.mono ?_
                rintro e ww16 ⟨rfl, hb16⟩
                have HB16 := Lib.hid (HB15.out.trans (hb16.mono HB15.out.size))
                have HX16 := Lib.hid (HX15.out.below hb16 HX15.out.lt)
                clear hb16 hw16
                go_wp2_with fail
                refine hK.out _ _ (HGC.out _ HB16.out) (fun hHeld => ?_)
                clear hK K
                try simp only [Act.put, List.setIfInBounds_toArray, List.set_cons_zero, List.set_cons_succ]
                refine wpAnyH_ready (rs := [13]) (by decide +kernel) (by simp) ?_
                refine AllReadyH.cons rfl (fun K hK => ?_) AllReadyH.nil
                rw [if_pos (by kernel_rfl)]
                refine wp_store_row (o := ⟨none, _, _, _, _, _⟩) 24 (.tmp 12) (.tmp 37) rfl (wa3.heap.size) (u8s N) rfl rfl 24 (u8s (List.replicate 32 0)) HX16.out SH.out SE.out (u8s_one _) ?_
                have hbl := below_setRow HB16.out (show wr.heap.size ≤ wa3.heap.size from HB3.out.size) (u8s N)
                refine hK.out _ _ (HGC.out _ hbl) (fun hHeld => ?_)
                clear hK K
                try simp only [Act.put]
                refine wpAnyH_done (by decide +kernel) ?_ _
                refine NoPanic.normal ?_
                show K0 _ _
                refine hK0 _ _ (Met.intro (hJ0 _ _ ?_))
                repeat apply Exists.intro
                exact ⟨⟨_, rfl, setRow_heap _ _ _ _ _ (0, 0) HX16.out, hbl⟩, rfl⟩
            · go_simp
              have hal17 := HB2.out.alloc HB2.out.size (.cells (u8s [(j : Int)]) 5)
              have hnw17 := heap_alloc_new wa2 (.cells (u8s [(j : Int)]) 5)
              have hst17 := (Below.refl wa2.heap.size wa2).alloc (Nat.le_refl _) (.cells (u8s [(j : Int)]) 5)
              refine hK.out _ (World.alloc wa2 (.cells (u8s [(j : Int)]) 5)) (HGC.out _ hal17) (fun hHeld => ?_)
              clear hK K
              try simp only [Act.put, List.setIfInBounds_toArray, List.set_cons_zero, List.set_cons_succ]
              refine (show ∀ wb17 : World, wb17 = World.alloc wa2 (.cells (u8s [(j : Int)]) 5) → _ from ?_) _ rfl
              intro wb17 ew17
              rw [← ew17] at hal17 hnw17 hst17
              have HB17 := Lib.hid hal17
              have HY17 := Lib.hid (show ArrB wb17 wa2.heap.size 5 [(j : Int)] from hnw17)
              have HO17 := Lib.hid (own_below HO2.out hst17)
              have HQ17 := Lib.hid (show Value.ownBlock (.slice aa2 bk.length cc2) ≠ some wa2.heap.size from fun e => Nat.lt_irrefl _ (HO2.out.lt _ e).2)
              clear ew17 hal17 hnw17 hst17
              refine wpAnyH_ready (rs := [6, 12]) (by decide +kernel) (by simp) ?_
              refine AllReadyH.cons rfl (fun K hK => ?_) (AllReadyH.cons rfl (fun K hK => ?_) AllReadyH.nil)
              · obtain ⟨v18, wa18, hr18, ho18, hg18, _⟩ := Lib.run_append_own_string (P := Tryd.prog) wb17 wr.heap.size 22 9 22 5 i0 Tryd.underlying22 Tryd.underlying9 HI.out.1 HI.out.2.1 HI.out.2.2.1 HI.out.2.2.2 (.slice aa2 bk.length cc2) bk.length (bk.map (.int .u8)) HO17.out s (by unfold maxLen; have := HKB.out.1; have := HN.out.2.1; omega) (by have := HKB.out.1; have := HN.out.2.1; omega) HB17.out.size
                rw [strCells_txt', ← List.map_append] at ho18
                obtain ⟨aa18, cc18, rfl, _⟩ := own_shape ho18
                have HB18 := Lib.hid (HB17.out.grown hg18 HB17.out.size (fun k hk => (HO17.out.lt k hk).1))
                have HO18 := Lib.hid ho18
                have HY18 := Lib.hid (arr_grown HY17.out hg18 HQ17.out)
                rw [if_pos (by kernel_rfl)]
                refine wp_append_run (o := ⟨some 32, _, _, _, _, _⟩) (.tmp 30) (.tmp 31) 22 9 rfl _ _ _ _ rfl rfl hr18 ?_
                clear hr18 ho18 hg18
                refine hK.out _ _ (HGC.out _ HB18.out) (fun hHeld => ?_)
                clear hK K
                try simp only [Act.put, List.setIfInBounds_toArray, List.set_cons_zero, List.set_cons_succ]
                refine wpAnyH_ready (rs := [10, 12]) (by decide +kernel) (by simp) ?_
                refine AllReadyH.cons rfl (fun K hK => ?_) (AllReadyH.cons rfl (fun K hK => ?_) AllReadyH.nil)
                · obtain ⟨v19, wa19, hr19, ho19, hg19⟩ := run_append_BS wa18 wr.heap.size (bk.length + s.size) (.slice aa18 (bk.length + s.size) cc18) (.slice (some ⟨wa2.heap.size, 0, none⟩) 1 1) ((bk ++ txt s).map (.int .u8)) [(j : Int)] HO18.out (bs_const HY18.out HBJ.out 1 rfl) (by have := HKB.out.1; have := HN.out.2.1; simp; omega) HB18.out.size
                  rw [← List.map_append, List.append_assoc] at ho19
                  obtain ⟨aa19, cc19, rfl, _⟩ := own_shape ho19
                  have HB19 := Lib.hid (HB18.out.grown hg19 HB18.out.size (fun k hk => (HO18.out.lt k hk).1))
                  have HS19 := Lib.hid (BS.of_own ho19 HLA.out HYA.out)
                  rw [if_pos (by kernel_rfl)]
                  refine wp_append_run (o := ⟨some 36, _, _, _, _, _⟩) (.tmp 32) (.tmp 35) 22 22 rfl _ _ _ _ rfl rfl hr19 ?_
                  clear hr19 ho19 hg19
                  refine hK.out _ _ (HGC.out _ HB19.out) (fun hHeld => ?_)
                  clear hK K
                  try simp only [Act.put, List.setIfInBounds_toArray, List.set_cons_zero, List.set_cons_succ]
                  refine wpAnyH_ready (rs := [11, 12]) (by decide +kernel) (by simp) ?_
                  refine AllReadyH.cons rfl (fun K hK => ?_) (AllReadyH.cons rfl (fun K hK => ?_) AllReadyH.nil)
                  · go_simp
                    go_at_call 39
                    have hw20 := rmacwith_any key (bk ++ (txt s ++ [(j : Int)])) v _ g1 c1 g2 c2 wa19 (HMW.out.kept HB19.out) (HVW.out.kept HB19.out) HV.out.2 HS19.out (by have := HN.out.1; omega) (by rw [HLA.out]; have := HKB.out.1; have := HN.out.2.1; simp; omega)
                    rw [← HEB.out] at hw20
                    refine hw20.mono ?_
                    rintro e ww20 ⟨rfl, hb20⟩
                    have HB20 := Lib.hid (HB19.out.trans (hb20.mono HB19.out.size))
                    clear hb20 hw20
                    go_wp2_with fail
                    refine hK.out _ _ (HGC.out _ HB20.out) (fun hHeld => ?_)
                    clear hK K
                    try simp only [Act.put, List.setIfInBounds_toArray, List.set_cons_zero, List.set_cons_succ]
                    refine wpAnyH_ready (rs := [12]) (by decide +kernel) (by simp) ?_
                    refine AllReadyH.cons rfl (fun K hK => ?_) AllReadyH.nil
                    go_simp
                    have hal21 := HB20.out.alloc HB20.out.size (.cells (u8s (List.replicate 32 0)) 24)
                    have hnw21 := heap_alloc_new ww20 (.cells (u8s (List.replicate 32 0)) 24)
                    have hst21 := (Below.refl ww20.heap.size ww20).alloc (Nat.le_refl _) (.cells (u8s (List.replicate 32 0)) 24)
                    refine hK.out _ (World.alloc ww20 (.cells (u8s (List.replicate 32 0)) 24)) (HGC.out _ hal21) (fun hHeld => ?_)
                    clear hK K
                    try simp only [Act.put, List.setIfInBounds_toArray, List.set_cons_zero, List.set_cons_succ]
                    refine (show ∀ wb21 : World, wb21 = World.alloc ww20 (.cells (u8s (List.replicate 32 0)) 24) → _ from ?_) _ rfl
                    intro wb21 ew21
                    rw [← ew21] at hal21 hnw21 hst21
                    have HB21 := Lib.hid hal21
                    have HX21 := Lib.hid (show ArrB wb21 ww20.heap.size 24 (List.replicate 32 0) from hnw21)
                    clear ew21 hal21 hnw21 hst21
                    refine wpAnyH_ready (rs := [13]) (by decide +kernel) (by simp) ?_
                    refine AllReadyH.cons rfl (fun K hK => ?_) AllReadyH.nil
                    rw [if_pos (by kernel_rfl)]
                    refine wp_store_row (o := ⟨none, _, _, _, _, _⟩) 24 (.tmp 12) (.tmp 37) rfl (ww20.heap.size) (u8s N) rfl rfl 24 (u8s (List.replicate 32 0)) HX21.out SH.out SE.out (u8s_one _) ?_
                    have hbl := below_setRow HB21.out (show wr.heap.size ≤ ww20.heap.size from HB20.out.size) (u8s N)
                    refine hK.out _ _ (HGC.out _ hbl) (fun hHeld => ?_)
                    clear hK K
                    try simp only [Act.put]
                    refine wpAnyH_done (by decide +kernel) ?_ _
                    refine NoPanic.normal ?_
                    show K0 _ _
                    refine hK0 _ _ (Met.intro (hJ0 _ _ ?_))
                    repeat apply Exists.intro
                    exact ⟨⟨_, rfl, setRow_heap _ _ _ _ _ (0, 0) HX21.out, hbl⟩, rfl⟩
                  · go_simp
                    have hal22 := HB19.out.alloc HB19.out.size (.cells (u8s (List.replicate 32 0)) 24)
                    have hnw22 := heap_alloc_new wa19 (.cells (u8s (List.replicate 32 0)) 24)
                    have hst22 := (Below.refl wa19.heap.size wa19).alloc (Nat.le_refl _) (.cells (u8s (List.replicate 32 0)) 24)
                    refine hK.out _ (World.alloc wa19 (.cells (u8s (List.replicate 32 0)) 24)) (HGC.out _ hal22) (fun hHeld => ?_)
                    clear hK K
                    try simp only [Act.put, List.setIfInBounds_toArray, List.set_cons_zero, List.set_cons_succ]
                    refine (show ∀ wb22 : World, wb22 = World.alloc wa19 (.cells (u8s (List.replicate 32 0)) 24) → _ from ?_) _ rfl
                    intro wb22 ew22
                    rw [← ew22] at hal22 hnw22 hst22
                    have HB22 := Lib.hid hal22
                    have HX22 := Lib.hid (show ArrB wb22 wa19.heap.size 24 (List.replicate 32 0) from hnw22)
                    have HS22 := Lib.hid (HS19.out.kept hst22)
                    clear ew22 hal22 hnw22 hst22
                    refine wpAnyH_ready (rs := [11]) (by decide +kernel) (by simp) ?_
                    refine AllReadyH.cons rfl (fun K hK => ?_) AllReadyH.nil
                    go_simp
                    go_at_call 39
                    have hw23 := rmacwith_any key (bk ++ (txt s ++ [(j : Int)])) v _ g1 c1 g2 c2 wb22 (HMW.out.kept HB22.out) (HVW.out.kept HB22.out) HV.out.2 HS22.out (by have := HN.out.1; omega) (by rw [HLA.out]; have := HKB.out.1; have := HN.out.2.1; simp; omega)
                    rw [← HEB.out] at hw23
                    refine hw23.mono ?_
                    rintro e ww23 ⟨rfl, hb23⟩
                    have HB23 := Lib.hid (HB22.out.trans (hb23.mono HB22.out.size))
                    have HX23 := Lib.hid (HX22.out.below hb23 HX22.out.lt)
                    clear hb23 hw23
                    go_wp2_with fail
                    refine hK.out _ _ (HGC.out _ HB23.out) (fun hHeld => ?_)
                    clear hK K
                    try simp only [Act.put, List.setIfInBounds_toArray, List.set_cons_zero, List.set_cons_succ]
                    refine wpAnyH_ready (rs := [13]) (by decide +kernel) (by simp) ?_
                    refine AllReadyH.cons rfl (fun K hK => ?_) AllReadyH.nil
                    rw [if_pos (by kernel_rfl)]
                    refine wp_store_row (o := ⟨none, _, _, _, _, _⟩) 24 (.tmp 12) (.tmp 37) rfl (wa19.heap.size) (u8s N) rfl rfl 24 (u8s (List.replicate 32 0)) HX23.out SH.out SE.out (u8s_one _) ?_
                    have hbl := below_setRow HB23.out (show wr.heap.size ≤ wa19.heap.size from HB19.out.size) (u8s N)
                    refine hK.out _ _ (HGC.out _ hbl) (fun hHeld => ?_)
                    clear hK K
                    try simp only [Act.put]
                    refine wpAnyH_done (by decide +kernel) ?_ _
                    refine NoPanic.normal ?_
                    show K0 _ _
                    refine hK0 _ _ (Met.intro (hJ0 _ _ ?_))
                    repeat apply Exists.intro
                    exact ⟨⟨_, rfl, setRow_heap _ _ _ _ _ (0, 0) HX23.out, hbl⟩, rfl⟩
                · go_simp
                  have hal24 := HB18.out.alloc HB18.out.size (.cells (u8s (List.replicate 32 0)) 24)
                  have hnw24 := heap_alloc_new wa18 (.cells (u8s (List.replicate 32 0)) 24)
                  have hst24 := (Below.refl wa18.heap.size wa18).alloc (Nat.le_refl _) (.cells (u8s (List.replicate 32 0)) 24)
                  refine hK.out _ (World.alloc wa18 (.cells (u8s (List.replicate 32 0)) 24)) (HGC.out _ hal24) (fun hHeld => ?_)
                  clear hK K
                  try simp only [Act.put, List.setIfInBounds_toArray, List.set_cons_zero, List.set_cons_succ]
                  refine (show ∀ wb24 : World, wb24 = World.alloc wa18 (.cells (u8s (List.replicate 32 0)) 24) → _ from ?_) _ rfl
                  intro wb24 ew24
                  rw [← ew24] at hal24 hnw24 hst24
                  have HB24 := Lib.hid hal24
                  have HX24 := Lib.hid (show ArrB wb24 wa18.heap.size 24 (List.replicate 32 0) from hnw24)
                  have HY24 := Lib.hid (HY18.out.below hst24 HY18.out.lt)
                  have HO24 := Lib.hid (own_below HO18.out hst24)
                  clear ew24 hal24 hnw24 hst24
                  refine wpAnyH_ready (rs := [10]) (by decide +kernel) (by simp) ?_
                  refine AllReadyH.cons rfl (fun K hK => ?_) AllReadyH.nil
                  obtain ⟨v25, wa25, hr25, ho25, hg25⟩ := run_append_BS wb24 wr.heap.size (bk.length + s.size) (.slice aa18 (bk.length + s.size) cc18) (.slice (some ⟨wa2.heap.size, 0, none⟩) 1 1) ((bk ++ txt s).map (.int .u8)) [(j : Int)] HO24.out (bs_const HY24.out HBJ.out 1 rfl) (by have := HKB.out.1; have := HN.out.2.1; simp; omega) HB24.out.size
                  rw [← List.map_append, List.append_assoc] at ho25
                  obtain ⟨aa25, cc25, rfl, _⟩ := own_shape ho25
                  have HB25 := Lib.hid (HB24.out.grown hg25 HB24.out.size (fun k hk => (HO24.out.lt k hk).1))
                  have HS25 := Lib.hid (BS.of_own ho25 HLA.out HYA.out)
                  have HX25 := Lib.hid (arr_grown HX24.out hg25 (arr_own_ne HO24.out HX24.out (by decide)))
                  rw [if_pos (by kernel_rfl)]
                  refine wp_append_run (o := ⟨some 36, _, _, _, _, _⟩) (.tmp 32) (.tmp 35) 22 22 rfl _ _ _ _ rfl rfl hr25 ?_
                  clear hr25 ho25 hg25
                  refine hK.out _ _ (HGC.out _ HB25.out) (fun hHeld => ?_)
                  clear hK K
                  try simp only [Act.put, List.setIfInBounds_toArray, List.set_cons_zero, List.set_cons_succ]
                  refine wpAnyH_ready (rs := [11]) (by decide +kernel) (by simp) ?_
                  refine AllReadyH.cons rfl (fun K hK => ?_) AllReadyH.nil
                  go_simp
                  go_at_call 39
                  have hw26 := rmacwith_any key (bk ++ (txt s ++ [(j : Int)])) v _ g1 c1 g2 c2 wa25 (HMW.out.kept HB25.out) (HVW.out.kept HB25.out) HV.out.2 HS25.out (by have := HN.out.1; omega) (by rw [HLA.out]; have := HKB.out.1; have := HN.out.2.1; simp; omega)
                  rw [← HEB.out] at hw26
                  refine hw26.mono ?_
                  rintro e ww26 ⟨rfl, hb26⟩
                  have HB26 := Lib.hid (HB25.out.trans (hb26.mono HB25.out.size))
                  have HX26 := Lib.hid (HX25.out.below hb26 HX25.out.lt)
                  clear hb26 hw26
                  go_wp2_with fail
                  refine hK.out _ _ (HGC.out _ HB26.out) (fun hHeld => ?_)
                  clear hK K
                  try simp only [Act.put, List.setIfInBounds_toArray, List.set_cons_zero, List.set_cons_succ]
                  refine wpAnyH_ready (rs := [13]) (by decide +kernel) (by simp) ?_
                  refine AllReadyH.cons rfl (fun K hK => ?_) AllReadyH.nil
                  rw [if_pos (by kernel_rfl)]
                  refine wp_store_row (o := ⟨none, _, _, _, _, _⟩) 24 (.tmp 12) (.tmp 37) rfl (wa18.heap.size) (u8s N) rfl rfl 24 (u8s (List.replicate 32 0)) HX26.out SH.out SE.out (u8s_one _) ?_
                  have hbl := below_setRow HB26.out (show wr.heap.size ≤ wa18.heap.size from HB18.out.size) (u8s N)
                  refine hK.out _ _ (HGC.out _ hbl) (fun hHeld => ?_)
                  clear hK K
                  try simp only [Act.put]
                  refine wpAnyH_done (by decide +kernel) ?_ _
                  refine NoPanic.normal ?_
                  show K0 _ _
                  refine hK0 _ _ (Met.intro (hJ0 _ _ ?_))
                  repeat apply Exists.intro
                  exact ⟨⟨_, rfl, setRow_heap _ _ _ _ _ (0, 0) HX26.out, hbl⟩, rfl⟩
              · go_simp
                have hal27 := HB17.out.alloc HB17.out.size (.cells (u8s (List.replicate 32 0)) 24)
                have hnw27 := heap_alloc_new wb17 (.cells (u8s (List.replicate 32 0)) 24)
                have hst27 := (Below.refl wb17.heap.size wb17).alloc (Nat.le_refl _) (.cells (u8s (List.replicate 32 0)) 24)
                refine hK.out _ (World.alloc wb17 (.cells (u8s (List.replicate 32 0)) 24)) (HGC.out _ hal27) (fun hHeld => ?_)
                clear hK K
                try simp only [Act.put, List.setIfInBounds_toArray, List.set_cons_zero, List.set_cons_succ]
                refine (show ∀ wb27 : World, wb27 = World.alloc wb17 (.cells (u8s (List.replicate 32 0)) 24) → _ from ?_) _ rfl
                intro wb27 ew27
                rw [← ew27] at hal27 hnw27 hst27
                have HB27 := Lib.hid hal27
                have HX27 := Lib.hid (show ArrB wb27 wb17.heap.size 24 (List.replicate 32 0) from hnw27)
                have HY27 := Lib.hid (HY17.out.below hst27 HY17.out.lt)
                have HO27 := Lib.hid (own_below HO17.out hst27)
                clear ew27 hal27 hnw27 hst27
                refine wpAnyH_ready (rs := [6]) (by decide +kernel) (by simp) ?_
                refine AllReadyH.cons rfl (fun K hK => ?_) AllReadyH.nil
                obtain ⟨v28, wa28, hr28, ho28, hg28, _⟩ := Lib.run_append_own_string (P := Tryd.prog) wb27 wr.heap.size 22 9 22 5 i0 Tryd.underlying22 Tryd.underlying9 HI.out.1 HI.out.2.1 HI.out.2.2.1 HI.out.2.2.2 (.slice aa2 bk.length cc2) bk.length (bk.map (.int .u8)) HO27.out s (by unfold maxLen; have := HKB.out.1; have := HN.out.2.1; omega) (by have := HKB.out.1; have := HN.out.2.1; omega) HB27.out.size
                rw [strCells_txt', ← List.map_append] at ho28
                obtain ⟨aa28, cc28, rfl, _⟩ := own_shape ho28
                have HB28 := Lib.hid (HB27.out.grown hg28 HB27.out.size (fun k hk => (HO27.out.lt k hk).1))
                have HO28 := Lib.hid ho28
                have HX28 := Lib.hid (arr_grown HX27.out hg28 (arr_own_ne HO27.out HX27.out (by decide)))
                have HY28 := Lib.hid (arr_grown HY27.out hg28 HQ17.out)
                rw [if_pos (by kernel_rfl)]
                refine wp_append_run (o := ⟨some 32, _, _, _, _, _⟩) (.tmp 30) (.tmp 31) 22 9 rfl _ _ _ _ rfl rfl hr28 ?_
                clear hr28 ho28 hg28
                refine hK.out _ _ (HGC.out _ HB28.out) (fun hHeld => ?_)
                clear hK K
                try simp only [Act.put, List.setIfInBounds_toArray, List.set_cons_zero, List.set_cons_succ]
                refine wpAnyH_ready (rs := [10]) (by decide +kernel) (by simp) ?_
                refine AllReadyH.cons rfl (fun K hK => ?_) AllReadyH.nil
                obtain ⟨v29, wa29, hr29, ho29, hg29⟩ := run_append_BS wa28 wr.heap.size (bk.length + s.size) (.slice aa28 (bk.length + s.size) cc28) (.slice (some ⟨wa2.heap.size, 0, none⟩) 1 1) ((bk ++ txt s).map (.int .u8)) [(j : Int)] HO28.out (bs_const HY28.out HBJ.out 1 rfl) (by have := HKB.out.1; have := HN.out.2.1; simp; omega) HB28.out.size
                rw [← List.map_append, List.append_assoc] at ho29
                obtain ⟨aa29, cc29, rfl, _⟩ := own_shape ho29
                have HB29 := Lib.hid (HB28.out.grown hg29 HB28.out.size (fun k hk => (HO28.out.lt k hk).1))
                have HS29 := Lib.hid (BS.of_own ho29 HLA.out HYA.out)
                have HX29 := Lib.hid (arr_grown HX28.out hg29 (arr_own_ne HO28.out HX28.out (by decide)))
                rw [if_pos (by kernel_rfl)]
                refine wp_append_run (o := ⟨some 36, _, _, _, _, _⟩) (.tmp 32) (.tmp 35) 22 22 rfl _ _ _ _ rfl rfl hr29 ?_
                clear hr29 ho29 hg29
                refine hK.out _ _ (HGC.out _ HB29.out) (fun hHeld => ?_)
                clear hK K
                try simp only [Act.put, List.setIfInBounds_toArray, List.set_cons_zero, List.set_cons_succ]
                refine wpAnyH_ready (rs := [11]) (by decide +kernel) (by simp) ?_
                refine AllReadyH.cons rfl (fun K hK => ?_) AllReadyH.nil
                go_simp
                go_at_call 39
                have hw30 := rmacwith_any key (bk ++ (txt s ++ [(j : Int)])) v _ g1 c1 g2 c2 wa29 (HMW.out.kept HB29.out) (HVW.out.kept HB29.out) HV.out.2 HS29.out (by have := HN.out.1; omega) (by rw [HLA.out]; have := HKB.out.1; have := HN.out.2.1; simp; omega)
                rw [← HEB.out] at hw30
                refine hw30.mono ?_
                rintro e ww30 ⟨rfl, hb30⟩
                have HB30 := Lib.hid (HB29.out.trans (hb30.mono HB29.out.size))
                have HX30 := Lib.hid (HX29.out.below hb30 HX29.out.lt)
                clear hb30 hw30
                go_wp2_with fail
                refine hK.out _ _ (HGC.out _ HB30.out) (fun hHeld => ?_)
                clear hK K
                try simp only [Act.put, List.setIfInBounds_toArray, List.set_cons_zero, List.set_cons_succ]
                refine wpAnyH_ready (rs := [13]) (by decide +kernel) (by simp) ?_
                refine AllReadyH.cons rfl (fun K hK => ?_) AllReadyH.nil
                rw [if_pos (by kernel_rfl)]
                refine wp_store_row (o := ⟨none, _, _, _, _, _⟩) 24 (.tmp 12) (.tmp 37) rfl (wb17.heap.size) (u8s N) rfl rfl 24 (u8s (List.replicate 32 0)) HX30.out SH.out SE.out (u8s_one _) ?_
                have hbl := below_setRow HB30.out (show wr.heap.size ≤ wb17.heap.size from HB17.out.size) (u8s N)
                refine hK.out _ _ (HGC.out _ hbl) (fun hHeld => ?_)
                clear hK K
                try simp only [Act.put]
                refine wpAnyH_done (by decide +kernel) ?_ _
                refine NoPanic.normal ?_
                show K0 _ _
                refine hK0 _ _ (Met.intro (hJ0 _ _ ?_))
                repeat apply Exists.intro
                exact ⟨⟨_, rfl, setRow_heap _ _ _ _ _ (0, 0) HX30.out, hbl⟩, rfl⟩
            · go_simp
              have hal31 := HB2.out.alloc HB2.out.size (.cells (u8s (List.replicate 32 0)) 24)
              have hnw31 := heap_alloc_new wa2 (.cells (u8s (List.replicate 32 0)) 24)
              have hst31 := (Below.refl wa2.heap.size wa2).alloc (Nat.le_refl _) (.cells (u8s (List.replicate 32 0)) 24)
              refine hK.out _ (World.alloc wa2 (.cells (u8s (List.replicate 32 0)) 24)) (HGC.out _ hal31) (fun hHeld => ?_)
              clear hK K
              try simp only [Act.put, List.setIfInBounds_toArray, List.set_cons_zero, List.set_cons_succ]
              refine (show ∀ wb31 : World, wb31 = World.alloc wa2 (.cells (u8s (List.replicate 32 0)) 24) → _ from ?_) _ rfl
              intro wb31 ew31
              rw [← ew31] at hal31 hnw31 hst31
              have HB31 := Lib.hid hal31
              have HX31 := Lib.hid (show ArrB wb31 wa2.heap.size 24 (List.replicate 32 0) from hnw31)
              have HO31 := Lib.hid (own_below HO2.out hst31)
              clear ew31 hal31 hnw31 hst31
              refine wpAnyH_ready (rs := [6, 9]) (by decide +kernel) (by simp) ?_
              refine AllReadyH.cons rfl (fun K hK => ?_) (AllReadyH.cons rfl (fun K hK => ?_) AllReadyH.nil)
              · obtain ⟨v32, wa32, hr32, ho32, hg32, _⟩ := Lib.run_append_own_string (P := Tryd.prog) wb31 wr.heap.size 22 9 22 5 i0 Tryd.underlying22 Tryd.underlying9 HI.out.1 HI.out.2.1 HI.out.2.2.1 HI.out.2.2.2 (.slice aa2 bk.length cc2) bk.length (bk.map (.int .u8)) HO31.out s (by unfold maxLen; have := HKB.out.1; have := HN.out.2.1; omega) (by have := HKB.out.1; have := HN.out.2.1; omega) HB31.out.size
                rw [strCells_txt', ← List.map_append] at ho32
                obtain ⟨aa32, cc32, rfl, _⟩ := own_shape ho32
                have HB32 := Lib.hid (HB31.out.grown hg32 HB31.out.size (fun k hk => (HO31.out.lt k hk).1))
                have HO32 := Lib.hid ho32
                have HX32 := Lib.hid (arr_grown HX31.out hg32 (arr_own_ne HO31.out HX31.out (by decide)))
                rw [if_pos (by kernel_rfl)]
                refine wp_append_run (o := ⟨some 32, _, _, _, _, _⟩) (.tmp 30) (.tmp 31) 22 9 rfl _ _ _ _ rfl rfl hr32 ?_
                clear hr32 ho32 hg32
                refine hK.out _ _ (HGC.out _ HB32.out) (fun hHeld => ?_)
                clear hK K
                try simp only [Act.put, List.setIfInBounds_toArray, List.set_cons_zero, List.set_cons_succ]
                refine wpAnyH_ready (rs := [9]) (by decide +kernel) (by simp) ?_
                refine AllReadyH.cons rfl (fun K hK => ?_) AllReadyH.nil
                go_simp
                have hal33 := HB32.out.alloc HB32.out.size (.cells (u8s [(j : Int)]) 5)
                have hnw33 := heap_alloc_new wa32 (.cells (u8s [(j : Int)]) 5)
                have hst33 := (Below.refl wa32.heap.size wa32).alloc (Nat.le_refl _) (.cells (u8s [(j : Int)]) 5)
                refine hK.out _ (World.alloc wa32 (.cells (u8s [(j : Int)]) 5)) (HGC.out _ hal33) (fun hHeld => ?_)
                clear hK K
                try simp only [Act.put, List.setIfInBounds_toArray, List.set_cons_zero, List.set_cons_succ]
                refine (show ∀ wb33 : World, wb33 = World.alloc wa32 (.cells (u8s [(j : Int)]) 5) → _ from ?_) _ rfl
                intro wb33 ew33
                rw [← ew33] at hal33 hnw33 hst33
                have HB33 := Lib.hid hal33
                have HY33 := Lib.hid (show ArrB wb33 wa32.heap.size 5 [(j : Int)] from hnw33)
                have HX33 := Lib.hid (HX32.out.below hst33 HX32.out.lt)
                have HO33 := Lib.hid (own_below HO32.out hst33)
                have HQ33 := Lib.hid (show Value.ownBlock (.slice aa32 (bk.length + s.size) cc32) ≠ some wa32.heap.size from fun e => Nat.lt_irrefl _ (HO32.out.lt _ e).2)
                clear ew33 hal33 hnw33 hst33
                refine wpAnyH_ready (rs := [10]) (by decide +kernel) (by simp) ?_
                refine AllReadyH.cons rfl (fun K hK => ?_) AllReadyH.nil
                obtain ⟨v34, wa34, hr34, ho34, hg34⟩ := run_append_BS wb33 wr.heap.size (bk.length + s.size) (.slice aa32 (bk.length + s.size) cc32) (.slice (some ⟨wa32.heap.size, 0, none⟩) 1 1) ((bk ++ txt s).map (.int .u8)) [(j : Int)] HO33.out (bs_const HY33.out HBJ.out 1 rfl) (by have := HKB.out.1; have := HN.out.2.1; simp; omega) HB33.out.size
                rw [← List.map_append, List.append_assoc] at ho34
                obtain ⟨aa34, cc34, rfl, _⟩ := own_shape ho34
                have HB34 := Lib.hid (HB33.out.grown hg34 HB33.out.size (fun k hk => (HO33.out.lt k hk).1))
                have HS34 := Lib.hid (BS.of_own ho34 HLA.out HYA.out)
                have HX34 := Lib.hid (arr_grown HX33.out hg34 (arr_own_ne HO33.out HX33.out (by decide)))
                rw [if_pos (by kernel_rfl)]
                refine wp_append_run (o := ⟨some 36, _, _, _, _, _⟩) (.tmp 32) (.tmp 35) 22 22 rfl _ _ _ _ rfl rfl hr34 ?_
                clear hr34 ho34 hg34
                refine hK.out _ _ (HGC.out _ HB34.out) (fun hHeld => ?_)
                clear hK K
                try simp only [Act.put, List.setIfInBounds_toArray, List.set_cons_zero, List.set_cons_succ]
                refine wpAnyH_ready (rs := [11]) (by decide +kernel) (by simp) ?_
                refine AllReadyH.cons rfl (fun K hK => ?_) AllReadyH.nil
                go_simp
                go_at_call 39
                have hw35 := rmacwith_any key (bk ++ (txt s ++ [(j : Int)])) v _ g1 c1 g2 c2 wa34 (HMW.out.kept HB34.out) (HVW.out.kept HB34.out) HV.out.2 HS34.out (by have := HN.out.1; omega) (by rw [HLA.out]; have := HKB.out.1; have := HN.out.2.1; simp; omega)
                rw [← HEB.out] at hw35
                refine hw35.mono ?_
                rintro e ww35 ⟨rfl, hb35⟩
                have HB35 := Lib.hid (HB34.out.trans (hb35.mono HB34.out.size))
                have HX35 := Lib.hid (HX34.out.below hb35 HX34.out.lt)
                clear hb35 hw35
                go_wp2_with fail
                refine hK.out _ _ (HGC.out _ HB35.out) (fun hHeld => ?_)
                clear hK K
                try simp only [Act.put, List.setIfInBounds_toArray, List.set_cons_zero, List.set_cons_succ]
                refine wpAnyH_ready (rs := [13]) (by decide +kernel) (by simp) ?_
                refine AllReadyH.cons rfl (fun K hK => ?_) AllReadyH.nil
                rw [if_pos (by kernel_rfl)]
                refine wp_store_row (o := ⟨none, _, _, _, _, _⟩) 24 (.tmp 12) (.tmp 37) rfl (wa2.heap.size) (u8s N) rfl rfl 24 (u8s (List.replicate 32 0)) HX35.out SH.out SE.out (u8s_one _) ?_
                have hbl := below_setRow HB35.out (show wr.heap.size ≤ wa2.heap.size from HB2.out.size) (u8s N)
                refine hK.out _ _ (HGC.out _ hbl) (fun hHeld => ?_)
                clear hK K
                try simp only [Act.put]
                refine wpAnyH_done (by decide +kernel) ?_ _
                refine NoPanic.normal ?_
                show K0 _ _
                refine hK0 _ _ (Met.intro (hJ0 _ _ ?_))
                repeat apply Exists.intro
                exact ⟨⟨_, rfl, setRow_heap _ _ _ _ _ (0, 0) HX35.out, hbl⟩, rfl⟩
              · go_simp
                have hal36 := HB31.out.alloc HB31.out.size (.cells (u8s [(j : Int)]) 5)
                have hnw36 := heap_alloc_new wb31 (.cells (u8s [(j : Int)]) 5)
                have hst36 := (Below.refl wb31.heap.size wb31).alloc (Nat.le_refl _) (.cells (u8s [(j : Int)]) 5)
                refine hK.out _ (World.alloc wb31 (.cells (u8s [(j : Int)]) 5)) (HGC.out _ hal36) (fun hHeld => ?_)
                clear hK K
                try simp only [Act.put, List.setIfInBounds_toArray, List.set_cons_zero, List.set_cons_succ]
                refine (show ∀ wb36 : World, wb36 = World.alloc wb31 (.cells (u8s [(j : Int)]) 5) → _ from ?_) _ rfl
                intro wb36 ew36
                rw [← ew36] at hal36 hnw36 hst36
                have HB36 := Lib.hid hal36
                have HY36 := Lib.hid (show ArrB wb36 wb31.heap.size 5 [(j : Int)] from hnw36)
                have HX36 := Lib.hid (HX31.out.below hst36 HX31.out.lt)
                have HO36 := Lib.hid (own_below HO31.out hst36)
                have HQ36 := Lib.hid (show Value.ownBlock (.slice aa2 bk.length cc2) ≠ some wb31.heap.size from fun e => Nat.lt_irrefl _ (HO31.out.lt _ e).2)
                clear ew36 hal36 hnw36 hst36
                refine wpAnyH_ready (rs := [6]) (by decide +kernel) (by simp) ?_
                refine AllReadyH.cons rfl (fun K hK => ?_) AllReadyH.nil
                obtain ⟨v37, wa37, hr37, ho37, hg37, _⟩ := Lib.run_append_own_string (P := Tryd.prog) wb36 wr.heap.size 22 9 22 5 i0 Tryd.underlying22 Tryd.underlying9 HI.out.1 HI.out.2.1 HI.out.2.2.1 HI.out.2.2.2 (.slice aa2 bk.length cc2) bk.length (bk.map (.int .u8)) HO36.out s (by unfold maxLen; have := HKB.out.1; have := HN.out.2.1; omega) (by have := HKB.out.1; have := HN.out.2.1; omega) HB36.out.size
                rw [strCells_txt', ← List.map_append] at ho37
                obtain ⟨aa37, cc37, rfl, _⟩ := own_shape ho37
                have HB37 := Lib.hid (HB36.out.grown hg37 HB36.out.size (fun k hk => (HO36.out.lt k hk).1))
                have HO37 := Lib.hid ho37
                have HX37 := Lib.hid (arr_grown HX36.out hg37 (arr_own_ne HO36.out HX36.out (by decide)))
                have HY37 := Lib.hid (arr_grown HY36.out hg37 HQ36.out)
                rw [if_pos (by kernel_rfl)]
                refine wp_append_run (o := ⟨some 32, _, _, _, _, _⟩) (.tmp 30) (.tmp 31) 22 9 rfl _ _ _ _ rfl rfl hr37 ?_
                clear hr37 ho37 hg37
                refine hK.out _ _ (HGC.out _ HB37.out) (fun hHeld => ?_)
                clear hK K
                try simp only [Act.put, List.setIfInBounds_toArray, List.set_cons_zero, List.set_cons_succ]
                refine wpAnyH_ready (rs := [10]) (by decide +kernel) (by simp) ?_
                refine AllReadyH.cons rfl (fun K hK => ?_) AllReadyH.nil
                obtain ⟨v38, wa38, hr38, ho38, hg38⟩ := run_append_BS wa37 wr.heap.size (bk.length + s.size) (.slice aa37 (bk.length + s.size) cc37) (.slice (some ⟨wb31.heap.size, 0, none⟩) 1 1) ((bk ++ txt s).map (.int .u8)) [(j : Int)] HO37.out (bs_const HY37.out HBJ.out 1 rfl) (by have := HKB.out.1; have := HN.out.2.1; simp; omega) HB37.out.size
                rw [← List.map_append, List.append_assoc] at ho38
                obtain ⟨aa38, cc38, rfl, _⟩ := own_shape ho38
                have HB38 := Lib.hid (HB37.out.grown hg38 HB37.out.size (fun k hk => (HO37.out.lt k hk).1))
                have HS38 := Lib.hid (BS.of_own ho38 HLA.out HYA.out)
                have HX38 := Lib.hid (arr_grown HX37.out hg38 (arr_own_ne HO37.out HX37.out (by decide)))
                rw [if_pos (by kernel_rfl)]
                refine wp_append_run (o := ⟨some 36, _, _, _, _, _⟩) (.tmp 32) (.tmp 35) 22 22 rfl _ _ _ _ rfl rfl hr38 ?_
                clear hr38 ho38 hg38
                refine hK.out _ _ (HGC.out _ HB38.out) (fun hHeld => ?_)
                clear hK K
                try simp only [Act.put, List.setIfInBounds_toArray, List.set_cons_zero, List.set_cons_succ]
                refine wpAnyH_ready (rs := [11]) (by decide +kernel) (by simp) ?_
                refine AllReadyH.cons rfl (fun K hK => ?_) AllReadyH.nil
                go_simp
                go_at_call 39
                have hw39 := rmacwith_any key (bk ++ (txt s ++ [(j : Int)])) v _ g1 c1 g2 c2 wa38 (HMW.out.kept HB38.out) (HVW.out.kept HB38.out) HV.out.2 HS38.out (by have := HN.out.1; omega) (by rw [HLA.out]; have := HKB.out.1; have := HN.out.2.1; simp; omega)
                rw [← HEB.out] at hw39
                refine hw39.mono ?_
                rintro e ww39 ⟨rfl, hb39⟩
                have HB39 := Lib.hid (HB38.out.trans (hb39.mono HB38.out.size))
                have HX39 := Lib.hid (HX38.out.below hb39 HX38.out.lt)
                clear hb39 hw39
                go_wp2_with fail
                refine hK.out _ _ (HGC.out _ HB39.out) (fun hHeld => ?_)
                clear hK K
                try simp only [Act.put, List.setIfInBounds_toArray, List.set_cons_zero, List.set_cons_succ]
                refine wpAnyH_ready (rs := [13]) (by decide +kernel) (by simp) ?_
                refine AllReadyH.cons rfl (fun K hK => ?_) AllReadyH.nil
                rw [if_pos (by kernel_rfl)]
                refine wp_store_row (o := ⟨none, _, _, _, _, _⟩) 24 (.tmp 12) (.tmp 37) rfl (wa2.heap.size) (u8s N) rfl rfl 24 (u8s (List.replicate 32 0)) HX39.out SH.out SE.out (u8s_one _) ?_
                have hbl := below_setRow HB39.out (show wr.heap.size ≤ wa2.heap.size from HB2.out.size) (u8s N)
                refine hK.out _ _ (HGC.out _ hbl) (fun hHeld => ?_)
                clear hK K
                try simp only [Act.put]
                refine wpAnyH_done (by decide +kernel) ?_ _
                refine NoPanic.normal ?_
                show K0 _ _
                refine hK0 _ _ (Met.intro (hJ0 _ _ ?_))
                repeat apply Exists.intro
                exact ⟨⟨_, rfl, setRow_heap _ _ _ _ _ (0, 0) HX39.out, hbl⟩, rfl⟩
          · go_simp
            have hal40 := HB1.out.alloc HB1.out.size (.cells (u8s [(j : Int)]) 5)
            have hnw40 := heap_alloc_new wb1 (.cells (u8s [(j : Int)]) 5)
            have hst40 := (Below.refl wb1.heap.size wb1).alloc (Nat.le_refl _) (.cells (u8s [(j : Int)]) 5)
            refine hK.out _ (World.alloc wb1 (.cells (u8s [(j : Int)]) 5)) (HGC.out _ hal40) (fun hHeld => ?_)
            clear hK K
            try simp only [Act.put, List.setIfInBounds_toArray, List.set_cons_zero, List.set_cons_succ]
            refine (show ∀ wb40 : World, wb40 = World.alloc wb1 (.cells (u8s [(j : Int)]) 5) → _ from ?_) _ rfl
            intro wb40 ew40
            rw [← ew40] at hal40 hnw40 hst40
            have HB40 := Lib.hid hal40
            have HY40 := Lib.hid (show ArrB wb40 wb1.heap.size 5 [(j : Int)] from hnw40)
            have HO40 := Lib.hid (own_below HO1.out hst40)
            have HQ40 := Lib.hid (show Value.ownBlock (.slice (some ⟨wr.drew.heap.size, 0, none⟩) 0 0) ≠ some wb1.heap.size from fun e => Nat.lt_irrefl _ (HO1.out.lt _ e).2)
            clear ew40 hal40 hnw40 hst40
            refine wpAnyH_ready (rs := [4, 12]) (by decide +kernel) (by simp) ?_
            refine AllReadyH.cons rfl (fun K hK => ?_) (AllReadyH.cons rfl (fun K hK => ?_) AllReadyH.nil)
            · obtain ⟨v41, wa41, hr41, ho41, hg41, hq41⟩ := run_append_last wb40 wr.heap.size 0 (.slice (some ⟨wr.drew.heap.size, 0, none⟩) 0 0) (.slice a10 bk.length c10) [] bk HO40.out (HL10.out.kept HB40.out) (by have := HKB.out.1; omega) HB40.out.size HBL.out.1 HBL.out.2
              rw [Nat.zero_add, List.nil_append] at ho41
              obtain ⟨aa41, cc41, rfl, _⟩ := own_shape ho41
              have HB41 := Lib.hid (HB40.out.grown hg41 HB40.out.size (fun k hk => (HO40.out.lt k hk).1))
              have HO41 := Lib.hid ho41
              have HY41 := Lib.hid (arr_grown HY40.out hg41 HQ40.out)
              have HQ41 := Lib.hid (hq41 _ _ HY40.out HQ40.out)
              rw [if_pos (by kernel_rfl)]
              refine wp_append_run (o := ⟨some 30, _, _, _, _, _⟩) (.tmp 28) (.tmp 29) 22 22 rfl _ _ _ _ rfl rfl hr41 ?_
              clear hr41 ho41 hg41 hq41
              refine hK.out _ _ (HGC.out _ HB41.out) (fun hHeld => ?_)
              clear hK K
              try simp only [Act.put, List.setIfInBounds_toArray, List.set_cons_zero, List.set_cons_succ]
              refine wpAnyH_ready (rs := [6, 12]) (by decide +kernel) (by simp) ?_
              refine AllReadyH.cons rfl (fun K hK => ?_) (AllReadyH.cons rfl (fun K hK => ?_) AllReadyH.nil)
              · obtain ⟨v42, wa42, hr42, ho42, hg42, _⟩ := Lib.run_append_own_string (P := Tryd.prog) wa41 wr.heap.size 22 9 22 5 i0 Tryd.underlying22 Tryd.underlying9 HI.out.1 HI.out.2.1 HI.out.2.2.1 HI.out.2.2.2 (.slice aa41 bk.length cc41) bk.length (bk.map (.int .u8)) HO41.out s (by unfold maxLen; have := HKB.out.1; have := HN.out.2.1; omega) (by have := HKB.out.1; have := HN.out.2.1; omega) HB41.out.size
                rw [strCells_txt', ← List.map_append] at ho42
                obtain ⟨aa42, cc42, rfl, _⟩ := own_shape ho42
                have HB42 := Lib.hid (HB41.out.grown hg42 HB41.out.size (fun k hk => (HO41.out.lt k hk).1))
                have HO42 := Lib.hid ho42
                have HY42 := Lib.hid (arr_grown HY41.out hg42 HQ41.out)
                rw [if_pos (by kernel_rfl)]
                refine wp_append_run (o := ⟨some 32, _, _, _, _, _⟩) (.tmp 30) (.tmp 31) 22 9 rfl _ _ _ _ rfl rfl hr42 ?_
                clear hr42 ho42 hg42
                refine hK.out _ _ (HGC.out _ HB42.out) (fun hHeld => ?_)
                clear hK K
                try simp only [Act.put, List.setIfInBounds_toArray, List.set_cons_zero, List.set_cons_succ]
                refine wpAnyH_ready (rs := [10, 12]) (by decide +kernel) (by simp) ?_
                refine AllReadyH.cons rfl (fun K hK => ?_) (AllReadyH.cons rfl (fun K hK => ?_) AllReadyH.nil)
                · obtain ⟨v43, wa43, hr43, ho43, hg43⟩ := run_append_BS wa42 wr.heap.size (bk.length + s.size) (.slice aa42 (bk.length + s.size) cc42) (.slice (some ⟨wb1.heap.size, 0, none⟩) 1 1) ((bk ++ txt s).map (.int .u8)) [(j : Int)] HO42.out (bs_const HY42.out HBJ.out 1 rfl) (by have := HKB.out.1; have := HN.out.2.1; simp; omega) HB42.out.size
                  rw [← List.map_append, List.append_assoc] at ho43
                  obtain ⟨aa43, cc43, rfl, _⟩ := own_shape ho43
                  have HB43 := Lib.hid (HB42.out.grown hg43 HB42.out.size (fun k hk => (HO42.out.lt k hk).1))
                  have HS43 := Lib.hid (BS.of_own ho43 HLA.out HYA.out)
                  rw [if_pos (by kernel_rfl)]
                  refine wp_append_run (o := ⟨some 36, _, _, _, _, _⟩) (.tmp 32) (.tmp 35) 22 22 rfl _ _ _ _ rfl rfl hr43 ?_
                  clear hr43 ho43 hg43
                  refine hK.out _ _ (HGC.out _ HB43.out) (fun hHeld => ?_)
                  clear hK K
                  try simp only [Act.put, List.setIfInBounds_toArray, List.set_cons_zero, List.set_cons_succ]
                  refine wpAnyH_ready (rs := [11, 12]) (by decide +kernel) (by simp) ?_
                  refine AllReadyH.cons rfl (fun K hK => ?_) (AllReadyH.cons rfl (fun K hK => ?_) AllReadyH.nil)
                  · go_simp
                    go_at_call 39
                    have hw44 := rmacwith_any key (bk ++ (txt s ++ [(j : Int)])) v _ g1 c1 g2 c2 wa43 (HMW.out.kept HB43.out) (HVW.out.kept HB43.out) HV.out.2 HS43.out (by have := HN.out.1; omega) (by rw [HLA.out]; have := HKB.out.1; have := HN.out.2.1; simp; omega)
                    rw [← HEB.out] at hw44
                    refine hw44.mono ?_
                    rintro e ww44 ⟨rfl, hb44⟩
                    have HB44 := Lib.hid (HB43.out.trans (hb44.mono HB43.out.size))
                    clear hb44 hw44
                    go_wp2_with fail
                    refine hK.out _ _ (HGC.out _ HB44.out) (fun hHeld => ?_)
                    clear hK K
                    try simp only [Act.put, List.setIfInBounds_toArray, List.set_cons_zero, List.set_cons_succ]
                    refine wpAnyH_ready (rs := [12]) (by decide +kernel) (by simp) ?_
                    refine AllReadyH.cons rfl (fun K hK => ?_) AllReadyH.nil
                    go_simp
                    have hal45 := HB44.out.alloc HB44.out.size (.cells (u8s (List.replicate 32 0)) 24)
                    have hnw45 := heap_alloc_new ww44 (.cells (u8s (List.replicate 32 0)) 24)
                    have hst45 := (Below.refl ww44.heap.size ww44).alloc (Nat.le_refl _) (.cells (u8s (List.replicate 32 0)) 24)
                    refine hK.out _ (World.alloc ww44 (.cells (u8s (List.replicate 32 0)) 24)) (HGC.out _ hal45) (fun hHeld => ?_)
                    clear hK K
                    try simp only [Act.put, List.setIfInBounds_toArray, List.set_cons_zero, List.set_cons_succ]
                    refine (show ∀ wb45 : World, wb45 = World.alloc ww44 (.cells (u8s (List.replicate 32 0)) 24) → _ from ?_) _ rfl
                    intro wb45 ew45
                    rw [← ew45] at hal45 hnw45 hst45
                    have HB45 := Lib.hid hal45
                    have HX45 := Lib.hid (show ArrB wb45 ww44.heap.size 24 (List.replicate 32 0) from hnw45)
                    clear ew45 hal45 hnw45 hst45
                    refine wpAnyH_ready (rs := [13]) (by decide +kernel) (by simp) ?_
                    refine AllReadyH.cons rfl (fun K hK => ?_) AllReadyH.nil
                    rw [if_pos (by kernel_rfl)]
                    refine wp_store_row (o := ⟨none, _, _, _, _, _⟩) 24 (.tmp 12) (.tmp 37) rfl (ww44.heap.size) (u8s N) rfl rfl 24 (u8s (List.replicate 32 0)) HX45.out SH.out SE.out (u8s_one _) ?_
                    have hbl := below_setRow HB45.out (show wr.heap.size ≤ ww44.heap.size from HB44.out.size) (u8s N)
                    refine hK.out _ _ (HGC.out _ hbl) (fun hHeld => ?_)
                    clear hK K
                    try simp only [Act.put]
                    refine wpAnyH_done (by decide +kernel) ?_ _
                    refine NoPanic.normal ?_
                    show K0 _ _
                    refine hK0 _ _ (Met.intro (hJ0 _ _ ?_))
                    repeat apply Exists.intro
                    exact ⟨⟨_, rfl, setRow_heap _ _ _ _ _ (0, 0) HX45.out, hbl⟩, rfl⟩
                  · go_simp
                    have hal46 := HB43.out.alloc HB43.out.size (.cells (u8s (List.replicate 32 0)) 24)
                    have hnw46 := heap_alloc_new wa43 (.cells (u8s (List.replicate 32 0)) 24)
                    have hst46 := (Below.refl wa43.heap.size wa43).alloc (Nat.le_refl _) (.cells (u8s (List.replicate 32 0)) 24)
                    refine hK.out _ (World.alloc wa43 (.cells (u8s (List.replicate 32 0)) 24)) (HGC.out _ hal46) (fun hHeld => ?_)
                    clear hK K
                    try simp only [Act.put, List.setIfInBounds_toArray, List.set_cons_zero, List.set_cons_succ]
                    refine (show ∀ wb46 : World, wb46 = World.alloc wa43 (.cells (u8s (List.replicate 32 0)) 24) → _ from ?_) _ rfl
                    intro wb46 ew46
                    rw [← ew46] at hal46 hnw46 hst46
                    have HB46 := Lib.hid hal46
                    have HX46 := Lib.hid (show ArrB wb46 wa43.heap.size 24 (List.replicate 32 0) from hnw46)
                    have HS46 := Lib.hid (HS43.out.kept hst46)
                    clear ew46 hal46 hnw46 hst46
                    refine wpAnyH_ready (rs := [11]) (by decide +kernel) (by simp) ?_
                    refine AllReadyH.cons rfl (fun K hK => ?_) AllReadyH.nil
                    go_simp
                    go_at_call 39
                    have hw47 := rmacwith_any key (bk ++ (txt s ++ [(j : Int)])) v _ g1 c1 g2 c2 wb46 (HMW.out.kept HB46.out) (HVW.out.kept HB46.out) HV.out.2 HS46.out (by have := HN.out.1; omega) (by rw [HLA.out]; have := HKB.out.1; have := HN.out.2.1; simp; omega)
                    rw [← HEB.out] at hw47
                    refine hw47.mono ?_
                    rintro e ww47 ⟨rfl, hb47⟩
                    have HB47 := Lib.hid (HB46.out.trans (hb47.mono HB46.out.size))
                    have HX47 := Lib.hid (HX46.out.below hb47 HX46.out.lt)
                    clear hb47 hw47
                    go_wp2_with fail
                    refine hK.out _ _ (HGC.out _ HB47.out) (fun hHeld => ?_)
                    clear hK K
                    try simp only [Act.put, List.setIfInBounds_toArray, List.set_cons_zero, List.set_cons_succ]
                    refine wpAnyH_ready (rs := [13]) (by decide +kernel) (by simp) ?_
                    refine AllReadyH.cons rfl (fun K hK => ?_) AllReadyH.nil
                    rw [if_pos (by kernel_rfl)]
                    refine wp_store_row (o := ⟨none, _, _, _, _, _⟩) 24 (.tmp 12) (.tmp 37) rfl (wa43.heap.size) (u8s N) rfl rfl 24 (u8s (List.replicate 32 0)) HX47.out SH.out SE.out (u8s_one _) ?_
                    have hbl := below_setRow HB47.out (show wr.heap.size ≤ wa43.heap.size from HB43.out.size) (u8s N)
                    refine hK.out _ _ (HGC.out _ hbl) (fun hHeld => ?_)
                    clear hK K
                    try simp only [Act.put]
                    refine wpAnyH_done (by decide +kernel) ?_ _
                    refine NoPanic.normal ?_
                    show K0 _ _
                    refine hK0 _ _ (Met.intro (hJ0 _ _ ?_))
                    repeat apply Exists.intro
                    exact ⟨⟨_, rfl, setRow_heap _ _ _ _ _ (0, 0) HX47.out, hbl⟩, rfl⟩
                · go_simp
                  have hal48 := HB42.out.alloc HB42.out.size (.cells (u8s (List.replicate 32 0)) 24)
                  have hnw48 := heap_alloc_new wa42 (.cells (u8s (List.replicate 32 0)) 24)
                  have hst48 := (Below.refl wa42.heap.size wa42).alloc (Nat.le_refl _) (.cells (u8s (List.replicate 32 0)) 24)
                  refine hK.out _ (World.alloc wa42 (.cells (u8s (List.replicate 32 0)) 24)) (HGC.out _ hal48) (fun hHeld => ?_)
                  clear hK K
                  try simp only [Act.put, List.setIfInBounds_toArray, List.set_cons_zero, List.set_cons_succ]
                  refine (show ∀ wb48 : World, wb48 = World.alloc wa42 (.cells (u8s (List.replicate 32 0)) 24) → _ from ?_) _ rfl
                  intro wb48 ew48
                  rw [← ew48] at hal48 hnw48 hst48
                  have HB48 := Lib.hid hal48
                  have HX48 := Lib.hid (show ArrB wb48 wa42.heap.size 24 (List.replicate 32 0) from hnw48)
                  have HY48 := Lib.hid (HY42.out.below hst48 HY42.out.lt)
                  have HO48 := Lib.hid (own_below HO42.out hst48)
                  clear ew48 hal48 hnw48 hst48
                  refine wpAnyH_ready (rs := [10]) (by decide +kernel) (by simp) ?_
                  refine AllReadyH.cons rfl (fun K hK => ?_) AllReadyH.nil
                  obtain ⟨v49, wa49, hr49, ho49, hg49⟩ := run_append_BS wb48 wr.heap.size (bk.length + s.size) (.slice aa42 (bk.length + s.size) cc42) (.slice (some ⟨wb1.heap.size, 0, none⟩) 1 1) ((bk ++ txt s).map (.int .u8)) [(j : Int)] HO48.out (bs_const HY48.out HBJ.out 1 rfl) (by have := HKB.out.1; have := HN.out.2.1; simp; omega) HB48.out.size
                  rw [← List.map_append, List.append_assoc] at ho49
                  obtain ⟨aa49, cc49, rfl, _⟩ := own_shape ho49
                  have HB49 := Lib.hid (HB48.out.grown hg49 HB48.out.size (fun k hk => (HO48.out.lt k hk).1))
                  have HS49 := Lib.hid (BS.of_own ho49 HLA.out HYA.out)
                  have HX49 := Lib.hid (arr_grown HX48.out hg49 (arr_own_ne HO48.out HX48.out (by decide)))
                  rw [if_pos (by kernel_rfl)]
                  refine wp_append_run (o := ⟨some 36, _, _, _, _, _⟩) (.tmp 32) (.tmp 35) 22 22 rfl _ _ _ _ rfl rfl hr49 ?_
                  clear hr49 ho49 hg49
                  refine hK.out _ _ (HGC.out _ HB49.out) (fun hHeld => ?_)
                  clear hK K
                  try simp only [Act.put, List.setIfInBounds_toArray, List.set_cons_zero, List.set_cons_succ]
                  refine wpAnyH_ready (rs := [11]) (by decide +kernel) (by simp) ?_
                  refine AllReadyH.cons rfl (fun K hK => ?_) AllReadyH.nil
                  go_simp
                  go_at_call 39
                  have hw50 := rmacwith_any key (bk ++ (txt s ++ [(j : Int)])) v _ g1 c1 g2 c2 wa49 (HMW.out.kept HB49.out) (HVW.out.kept HB49.out) HV.out.2 HS49.out (by have := HN.out.1; omega) (by rw [HLA.out]; have := HKB.out.1; have := HN.out.2.1; simp; omega)
                  rw [← HEB.out] at hw50
                  refine hw50.mono ?_
                  rintro e ww50 ⟨rfl, hb50⟩
                  have HB50 := Lib.hid (HB49.out.trans (hb50.mono HB49.out.size))
                  have HX50 := Lib.hid (HX49.out.below hb50 HX49.out.lt)
                  clear hb50 hw50
                  go_wp2_with fail
                  refine hK.out _ _ (HGC.out _ HB50.out) (fun hHeld => ?_)
                  clear hK K
                  try simp only [Act.put, List.setIfInBounds_toArray, List.set_cons_zero, List.set_cons_succ]
                  refine wpAnyH_ready (rs := [13]) (by decide +kernel) (by simp) ?_
                  refine AllReadyH.cons rfl (fun K hK => ?_) AllReadyH.nil
                  rw [if_pos (by kernel_rfl)]
                  refine wp_store_row (o := ⟨none, _, _, _, _, _⟩) 24 (.tmp 12) (.tmp 37) rfl (wa42.heap.size) (u8s N) rfl rfl 24 (u8s (List.replicate 32 0)) HX50.out SH.out SE.out (u8s_one _) ?_
                  have hbl := below_setRow HB50.out (show wr.heap.size ≤ wa42.heap.size from HB42.out.size) (u8s N)
                  refine hK.out _ _ (HGC.out _ hbl) (fun hHeld => ?_)
                  clear hK K
                  try simp only [Act.put]
                  refine wpAnyH_done (by decide +kernel) ?_ _
                  refine NoPanic.normal ?_
                  show K0 _ _
                  refine hK0 _ _ (Met.intro (hJ0 _ _ ?_))
                  repeat apply Exists.intro
                  exact ⟨⟨_, rfl, setRow_heap _ _ _ _ _ (0, 0) HX50.out, hbl⟩, rfl⟩
              · go_simp
                have hal51 := HB41.out.alloc HB41.out.size (.cells (u8s (List.replicate 32 0)) 24)
                have hnw51 := heap_alloc_new wa41 (.cells (u8s (List.replicate 32 0)) 24)
                have hst51 := (Below.refl wa41.heap.size wa41).alloc (Nat.le_refl _) (.cells (u8s (List.replicate 32 0)) 24)
                refine hK.out _ (World.alloc wa41 (.cells (u8s (List.replicate 32 0)) 24)) (HGC.out _ hal51) (fun hHeld => ?_)
                clear hK K
                try simp only [Act.put, List.setIfInBounds_toArray, List.set_cons_zero, List.set_cons_succ]
                refine (show ∀ wb51 : World, wb51 = World.alloc wa41 (.cells (u8s (List.replicate 32 0)) 24) → _ from ?_) _ rfl
                intro wb51 ew51
                rw [← ew51] at hal51 hnw51 hst51
                have HB51 := Lib.hid hal51
                have HX51 := Lib.hid (show ArrB wb51 wa41.heap.size 24 (List.replicate 32 0) from hnw51)
                have HY51 := Lib.hid (HY41.out.below hst51 HY41.out.lt)
                have HO51 := Lib.hid (own_below HO41.out hst51)
                clear ew51 hal51 hnw51 hst51
                refine wpAnyH_ready (rs := [6]) (by decide +kernel) (by simp) ?_
                refine AllReadyH.cons rfl (fun K hK => ?_) AllReadyH.nil
                obtain ⟨v52, wa52, hr52, ho52, hg52, _⟩ := Lib.run_append_own_string (P := Tryd.prog) wb51 wr.heap.size 22 9 22 5 i0 Tryd.underlying22 Tryd.underlying9 HI.out.1 HI.out.2.1 HI.out.2.2.1 HI.out.2.2.2 (.slice aa41 bk.length cc41) bk.length (bk.map (.int .u8)) HO51.out s (by unfold maxLen; have := HKB.out.1; have := HN.out.2.1; omega) (by have := HKB.out.1; have := HN.out.2.1; omega) HB51.out.size
                rw [strCells_txt', ← List.map_append] at ho52
                obtain ⟨aa52, cc52, rfl, _⟩ := own_shape ho52
                have HB52 := Lib.hid (HB51.out.grown hg52 HB51.out.size (fun k hk => (HO51.out.lt k hk).1))
                have HO52 := Lib.hid ho52
                have HX52 := Lib.hid (arr_grown HX51.out hg52 (arr_own_ne HO51.out HX51.out (by decide)))
                have HY52 := Lib.hid (arr_grown HY51.out hg52 HQ41.out)
                rw [if_pos (by kernel_rfl)]
                refine wp_append_run (o := ⟨some 32, _, _, _, _, _⟩) (.tmp 30) (.tmp 31) 22 9 rfl _ _ _ _ rfl rfl hr52 ?_
                clear hr52 ho52 hg52
                refine hK.out _ _ (HGC.out _ HB52.out) (fun hHeld => ?_)
                clear hK K
                try simp only [Act.put, List.setIfInBounds_toArray, List.set_cons_zero, List.set_cons_succ]
                refine wpAnyH_ready (rs := [10]) (by decide +kernel) (by simp) ?_
                refine AllReadyH.cons rfl (fun K hK => ?_) AllReadyH.nil
                obtain ⟨v53, wa53, hr53, ho53, hg53⟩ := run_append_BS wa52 wr.heap.size (bk.length + s.size) (.slice aa52 (bk.length + s.size) cc52) (.slice (some ⟨wb1.heap.size, 0, none⟩) 1 1) ((bk ++ txt s).map (.int .u8)) [(j : Int)] HO52.out (bs_const HY52.out HBJ.out 1 rfl) (by have := HKB.out.1; have := HN.out.2.1; simp; omega) HB52.out.size
                rw [← List.map_append, List.append_assoc] at ho53
                obtain ⟨aa53, cc53, rfl, _⟩ := own_shape ho53
                have HB53 := Lib.hid (HB52.out.grown hg53 HB52.out.size (fun k hk => (HO52.out.lt k hk).1))
                have HS53 := Lib.hid (BS.of_own ho53 HLA.out HYA.out)
                have HX53 := Lib.hid (arr_grown HX52.out hg53 (arr_own_ne HO52.out HX52.out (by decide)))
                rw [if_pos (by kernel_rfl)]
                refine wp_append_run (o := ⟨some 36, _, _, _, _, _⟩) (.tmp 32) (.tmp 35) 22 22 rfl _ _ _ _ rfl rfl hr53 ?_
                clear hr53 ho53 hg53
                refine hK.out _ _ (HGC.out _ HB53.out) (fun hHeld => ?_)
                clear hK K
                try simp only [Act.put, List.setIfInBounds_toArray, List.set_cons_zero, List.set_cons_succ]
                refine wpAnyH_ready (rs := [11]) (by decide +kernel) (by simp) ?_
                refine AllReadyH.cons rfl (fun K hK => ?_) AllReadyH.nil
                go_simp
                go_at_call 39
                have hw54 := rmacwith_any key (bk ++ (txt s ++ [(j : Int)])) v _ g1 c1 g2 c2 wa53 (HMW.out.kept HB53.out) (HVW.out.kept HB53.out) HV.out.2 HS53.out (by have := HN.out.1; omega) (by rw [HLA.out]; have := HKB.out.1; have := HN.out.2.1; simp; omega)
                rw [← HEB.out] at hw54
                refine hw54.mono ?_
                rintro e ww54 ⟨rfl, hb54⟩
                have HB54 := Lib.hid (HB53.out.trans (hb54.mono HB53.out.size))
                have HX54 := Lib.hid (HX53.out.below hb54 HX53.out.lt)
                clear hb54 hw54
                go_wp2_with fail
                refine hK.out _ _ (HGC.out _ HB54.out) (fun hHeld => ?_)
                clear hK K
                try simp only [Act.put, List.setIfInBounds_toArray, List.set_cons_zero, List.set_cons_succ]
                refine wpAnyH_ready (rs := [13]) (by decide +kernel) (by simp) ?_
                refine AllReadyH.cons rfl (fun K hK => ?_) AllReadyH.nil
                rw [if_pos (by kernel_rfl)]
                refine wp_store_row (o := ⟨none, _, _, _, _, _⟩) 24 (.tmp 12) (.tmp 37) rfl (wa41.heap.size) (u8s N) rfl rfl 24 (u8s (List.replicate 32 0)) HX54.out SH.out SE.out (u8s_one _) ?_
                have hbl := below_setRow HB54.out (show wr.heap.size ≤ wa41.heap.size from HB41.out.size) (u8s N)
                refine hK.out _ _ (HGC.out _ hbl) (fun hHeld => ?_)
                clear hK K
                try simp only [Act.put]
                refine wpAnyH_done (by decide +kernel) ?_ _
                refine NoPanic.normal ?_
                show K0 _ _
                refine hK0 _ _ (Met.intro (hJ0 _ _ ?_))
                repeat apply Exists.intro
                exact ⟨⟨_, rfl, setRow_heap _ _ _ _ _ (0, 0) HX54.out, hbl⟩, rfl⟩
            · go_simp
              have hal55 := HB40.out.alloc HB40.out.size (.cells (u8s (List.replicate 32 0)) 24)
              have hnw55 := heap_alloc_new wb40 (.cells (u8s (List.replicate 32 0)) 24)
              have hst55 := (Below.refl wb40.heap.size wb40).alloc (Nat.le_refl _) (.cells (u8s (List.replicate 32 0)) 24)
              refine hK.out _ (World.alloc wb40 (.cells (u8s (List.replicate 32 0)) 24)) (HGC.out _ hal55) (fun hHeld => ?_)
              clear hK K
              try simp only [Act.put, List.setIfInBounds_toArray, List.set_cons_zero, List.set_cons_succ]
              refine (show ∀ wb55 : World, wb55 = World.alloc wb40 (.cells (u8s (List.replicate 32 0)) 24) → _ from ?_) _ rfl
              intro wb55 ew55
              rw [← ew55] at hal55 hnw55 hst55
              have HB55 := Lib.hid hal55
              have HX55 := Lib.hid (show ArrB wb55 wb40.heap.size 24 (List.replicate 32 0) from hnw55)
              have HY55 := Lib.hid (HY40.out.below hst55 HY40.out.lt)
              have HO55 := Lib.hid (own_below HO40.out hst55)
              clear ew55 hal55 hnw55 hst55
              refine wpAnyH_ready (rs := [4]) (by decide +kernel) (by simp) ?_
              refine AllReadyH.cons rfl (fun K hK => ?_) AllReadyH.nil
              obtain ⟨v56, wa56, hr56, ho56, hg56, hq56⟩ := run_append_last wb55 wr.heap.size 0 (.slice (some ⟨wr.drew.heap.size, 0, none⟩) 0 0) (.slice a10 bk.length c10) [] bk HO55.out (HL10.out.kept HB55.out) (by have := HKB.out.1; omega) HB55.out.size HBL.out.1 HBL.out.2
              rw [Nat.zero_add, List.nil_append] at ho56
              obtain ⟨aa56, cc56, rfl, _⟩ := own_shape ho56
              have HB56 := Lib.hid (HB55.out.grown hg56 HB55.out.size (fun k hk => (HO55.out.lt k hk).1))
              have HO56 := Lib.hid ho56
              have HX56 := Lib.hid (arr_grown HX55.out hg56 (arr_own_ne HO55.out HX55.out (by decide)))
              have HY56 := Lib.hid (arr_grown HY55.out hg56 HQ40.out)
              have HQ56 := Lib.hid (hq56 _ _ HY55.out HQ40.out)
              rw [if_pos (by kernel_rfl)]
              refine wp_append_run (o := ⟨some 30, _, _, _, _, _⟩) (.tmp 28) (.tmp 29) 22 22 rfl _ _ _ _ rfl rfl hr56 ?_
              clear hr56 ho56 hg56 hq56
              refine hK.out _ _ (HGC.out _ HB56.out) (fun hHeld => ?_)
              clear hK K
              try simp only [Act.put, List.setIfInBounds_toArray, List.set_cons_zero, List.set_cons_succ]
              refine wpAnyH_ready (rs := [6]) (by decide +kernel) (by simp) ?_
              refine AllReadyH.cons rfl (fun K hK => ?_) AllReadyH.nil
              obtain ⟨v57, wa57, hr57, ho57, hg57, _⟩ := Lib.run_append_own_string (P := Tryd.prog) wa56 wr.heap.size 22 9 22 5 i0 Tryd.underlying22 Tryd.underlying9 HI.out.1 HI.out.2.1 HI.out.2.2.1 HI.out.2.2.2 (.slice aa56 bk.length cc56) bk.length (bk.map (.int .u8)) HO56.out s (by unfold maxLen; have := HKB.out.1; have := HN.out.2.1; omega) (by have := HKB.out.1; have := HN.out.2.1; omega) HB56.out.size
              rw [strCells_txt', ← List.map_append] at ho57
              obtain ⟨aa57, cc57, rfl, _⟩ := own_shape ho57
              have HB57 := Lib.hid (HB56.out.grown hg57 HB56.out.size (fun k hk => (HO56.out.lt k hk).1))
              have HO57 := Lib.hid ho57
              have HX57 := Lib.hid (arr_grown HX56.out hg57 (arr_own_ne HO56.out HX56.out (by decide)))
              have HY57 := Lib.hid (arr_grown HY56.out hg57 HQ56.out)
              rw [if_pos (by kernel_rfl)]
              refine wp_append_run (o := ⟨some 32, _, _, _, _, _⟩) (.tmp 30) (.tmp 31) 22 9 rfl _ _ _ _ rfl rfl hr57 ?_
              clear hr57 ho57 hg57
              refine hK.out _ _ (HGC.out _ HB57.out) (fun hHeld => ?_)
              clear hK K
              try simp only [Act.put, List.setIfInBounds_toArray, List.set_cons_zero, List.set_cons_succ]
              refine wpAnyH_ready (rs := [10]) (by decide +kernel) (by simp) ?_
              refine AllReadyH.cons rfl (fun K hK => ?_) AllReadyH.nil
              obtain ⟨v58, wa58, hr58, ho58, hg58⟩ := run_append_BS wa57 wr.heap.size (bk.length + s.size) (.slice aa57 (bk.length + s.size) cc57) (.slice (some ⟨wb1.heap.size, 0, none⟩) 1 1) ((bk ++ txt s).map (.int .u8)) [(j : Int)] HO57.out (bs_const HY57.out HBJ.out 1 rfl) (by have := HKB.out.1; have := HN.out.2.1; simp; omega) HB57.out.size
              rw [← List.map_append, List.append_assoc] at ho58
              obtain ⟨aa58, cc58, rfl, _⟩ := own_shape ho58
              have HB58 := Lib.hid (HB57.out.grown hg58 HB57.out.size (fun k hk => (HO57.out.lt k hk).1))
              have HS58 := Lib.hid (BS.of_own ho58 HLA.out HYA.out)
              have HX58 := Lib.hid (arr_grown HX57.out hg58 (arr_own_ne HO57.out HX57.out (by decide)))
              rw [if_pos (by kernel_rfl)]
              refine wp_append_run (o := ⟨some 36, _, _, _, _, _⟩) (.tmp 32) (.tmp 35) 22 22 rfl _ _ _ _ rfl rfl hr58 ?_
              clear hr58 ho58 hg58
              refine hK.out _ _ (HGC.out _ HB58.out) (fun hHeld => ?_)
              clear hK K
              try simp only [Act.put, List.setIfInBounds_toArray, List.set_cons_zero, List.set_cons_succ]
              refine wpAnyH_ready (rs := [11]) (by decide +kernel) (by simp) ?_
              refine AllReadyH.cons rfl (fun K hK => ?_) AllReadyH.nil
              go_simp
              go_at_call 39
              have hw59 := rmacwith_any key (bk ++ (txt s ++ [(j : Int)])) v _ g1 c1 g2 c2 wa58 (HMW.out.kept HB58.out) (HVW.out.kept HB58.out) HV.out.2 HS58.out (by have := HN.out.1; omega) (by rw [HLA.out]; have := HKB.out.1; have := HN.out.2.1; simp; omega)
              rw [← HEB.out] at hw59
              refine hw59.mono ?_
              rintro e ww59 ⟨rfl, hb59⟩
              have HB59 := Lib.hid (HB58.out.trans (hb59.mono HB58.out.size))
              have HX59 := Lib.hid (HX58.out.below hb59 HX58.out.lt)
              clear hb59 hw59
              go_wp2_with fail
              refine hK.out _ _ (HGC.out _ HB59.out) (fun hHeld => ?_)
              clear hK K
              try simp only [Act.put, List.setIfInBounds_toArray, List.set_cons_zero, List.set_cons_succ]
              refine wpAnyH_ready (rs := [13]) (by decide +kernel) (by simp) ?_
              refine AllReadyH.cons rfl (fun K hK => ?_) AllReadyH.nil
              rw [if_pos (by kernel_rfl)]
              refine wp_store_row (o := ⟨none, _, _, _, _, _⟩) 24 (.tmp 12) (.tmp 37) rfl (wb40.heap.size) (u8s N) rfl rfl 24 (u8s (List.replicate 32 0)) HX59.out SH.out SE.out (u8s_one _) ?_
              have hbl := below_setRow HB59.out (show wr.heap.size ≤ wb40.heap.size from HB40.out.size) (u8s N)
              refine hK.out _ _ (HGC.out _ hbl) (fun hHeld => ?_)
              clear hK K
              try simp only [Act.put]
              refine wpAnyH_done (by decide +kernel) ?_ _
              refine NoPanic.normal ?_
              show K0 _ _
              refine hK0 _ _ (Met.intro (hJ0 _ _ ?_))
              repeat apply Exists.intro
              exact ⟨⟨_, rfl, setRow_heap _ _ _ _ _ (0, 0) HX59.out, hbl⟩, rfl⟩
          · go_simp
            have hal60 := HB1.out.alloc HB1.out.size (.cells (u8s (List.replicate 32 0)) 24)
            have hnw60 := heap_alloc_new wb1 (.cells (u8s (List.replicate 32 0)) 24)
            have hst60 := (Below.refl wb1.heap.size wb1).alloc (Nat.le_refl _) (.cells (u8s (List.replicate 32 0)) 24)
            refine hK.out _ (World.alloc wb1 (.cells (u8s (List.replicate 32 0)) 24)) (HGC.out _ hal60) (fun hHeld => ?_)
            clear hK K
            try simp only [Act.put, List.setIfInBounds_toArray, List.set_cons_zero, List.set_cons_succ]
            refine (show ∀ wb60 : World, wb60 = World.alloc wb1 (.cells (u8s (List.replicate 32 0)) 24) → _ from ?_) _ rfl
            intro wb60 ew60
            rw [← ew60] at hal60 hnw60 hst60
            have HB60 := Lib.hid hal60
            have HX60 := Lib.hid (show ArrB wb60 wb1.heap.size 24 (List.replicate 32 0) from hnw60)
            have HO60 := Lib.hid (own_below HO1.out hst60)
            clear ew60 hal60 hnw60 hst60
            refine wpAnyH_ready (rs := [4, 9]) (by decide +kernel) (by simp) ?_
            refine AllReadyH.cons rfl (fun K hK => ?_) (AllReadyH.cons rfl (fun K hK => ?_) AllReadyH.nil)
            · obtain ⟨v61, wa61, hr61, ho61, hg61, hq61⟩ := run_append_last wb60 wr.heap.size 0 (.slice (some ⟨wr.drew.heap.size, 0, none⟩) 0 0) (.slice a10 bk.length c10) [] bk HO60.out (HL10.out.kept HB60.out) (by have := HKB.out.1; omega) HB60.out.size HBL.out.1 HBL.out.2
              rw [Nat.zero_add, List.nil_append] at ho61
              obtain ⟨aa61, cc61, rfl, _⟩ := own_shape ho61
              have HB61 := Lib.hid (HB60.out.grown hg61 HB60.out.size (fun k hk => (HO60.out.lt k hk).1))
              have HO61 := Lib.hid ho61
              have HX61 := Lib.hid (arr_grown HX60.out hg61 (arr_own_ne HO60.out HX60.out (by decide)))
              rw [if_pos (by kernel_rfl)]
              refine wp_append_run (o := ⟨some 30, _, _, _, _, _⟩) (.tmp 28) (.tmp 29) 22 22 rfl _ _ _ _ rfl rfl hr61 ?_
              clear hr61 ho61 hg61 hq61
              refine hK.out _ _ (HGC.out _ HB61.out) (fun hHeld => ?_)
              clear hK K
              try simp only [Act.put, List.setIfInBounds_toArray, List.set_cons_zero, List.set_cons_succ]
              refine wpAnyH_ready (rs := [6, 9]) (by decide +kernel) (by simp) ?_
              refine AllReadyH.cons rfl (fun K hK => ?_) (AllReadyH.cons rfl (fun K hK => ?_) AllReadyH.nil)
              · obtain ⟨v62, wa62, hr62, ho62, hg62, _⟩ := Lib.run_append_own_string (P := Tryd.prog) wa61 wr.heap.size 22 9 22 5 i0 Tryd.underlying22 Tryd.underlying9 HI.out.1 HI.out.2.1 HI.out.2.2.1 HI.out.2.2.2 (.slice aa61 bk.length cc61) bk.length (bk.map (.int .u8)) HO61.out s (by unfold maxLen; have := HKB.out.1; have := HN.out.2.1; omega) (by have := HKB.out.1; have := HN.out.2.1; omega) HB61.out.size
                rw [strCells_txt', ← List.map_append] at ho62
                obtain ⟨aa62, cc62, rfl, _⟩ := own_shape ho62
                have HB62 := Lib.hid (HB61.out.grown hg62 HB61.out.size (fun k hk => (HO61.out.lt k hk).1))
                have HO62 := Lib.hid ho62
                have HX62 := Lib.hid (arr_grown HX61.out hg62 (arr_own_ne HO61.out HX61.out (by decide)))
                rw [if_pos (by kernel_rfl)]
                refine wp_append_run (o := ⟨some 32, _, _, _, _, _⟩) (.tmp 30) (.tmp 31) 22 9 rfl _ _ _ _ rfl rfl hr62 ?_
                clear hr62 ho62 hg62
                refine hK.out _ _ (HGC.out _ HB62.out) (fun hHeld => ?_)
                clear hK K
                try simp only [Act.put, List.setIfInBounds_toArray, List.set_cons_zero, List.set_cons_succ]
                refine wpAnyH_ready (rs := [9]) (by decide +kernel) (by simp) ?_
                refine AllReadyH.cons rfl (fun K hK => ?_) AllReadyH.nil
                go_simp
                have hal63 := HB62.out.alloc HB62.out.size (.cells (u8s [(j : Int)]) 5)
                have hnw63 := heap_alloc_new wa62 (.cells (u8s [(j : Int)]) 5)
                have hst63 := (Below.refl wa62.heap.size wa62).alloc (Nat.le_refl _) (.cells (u8s [(j : Int)]) 5)
                refine hK.out _ (World.alloc wa62 (.cells (u8s [(j : Int)]) 5)) (HGC.out _ hal63) (fun hHeld => ?_)
                clear hK K
                try simp only [Act.put, List.setIfInBounds_toArray, List.set_cons_zero, List.set_cons_succ]
                refine (show ∀ wb63 : World, wb63 = World.alloc wa62 (.cells (u8s [(j : Int)]) 5) → _ from ?_) _ rfl
                intro wb63 ew63
                rw [← ew63] at hal63 hnw63 hst63
                have HB63 := Lib.hid hal63
                have HY63 := Lib.hid (show ArrB wb63 wa62.heap.size 5 [(j : Int)] from hnw63)
                have HX63 := Lib.hid (HX62.out.below hst63 HX62.out.lt)
                have HO63 := Lib.hid (own_below HO62.out hst63)
                have HQ63 := Lib.hid (show Value.ownBlock (.slice aa62 (bk.length + s.size) cc62) ≠ some wa62.heap.size from fun e => Nat.lt_irrefl _ (HO62.out.lt _ e).2)
                clear ew63 hal63 hnw63 hst63
                refine wpAnyH_ready (rs := [10]) (by decide +kernel) (by simp) ?_
                refine AllReadyH.cons rfl (fun K hK => ?_) AllReadyH.nil
                obtain ⟨v64, wa64, hr64, ho64, hg64⟩ := run_append_BS wb63 wr.heap.size (bk.length + s.size) (.slice aa62 (bk.length + s.size) cc62) (.slice (some ⟨wa62.heap.size, 0, none⟩) 1 1) ((bk ++ txt s).map (.int .u8)) [(j : Int)] HO63.out (bs_const HY63.out HBJ.out 1 rfl) (by have := HKB.out.1; have := HN.out.2.1; simp; omega) HB63.out.size
                rw [← List.map_append, List.append_assoc] at ho64
                obtain ⟨aa64, cc64, rfl, _⟩ := own_shape ho64
                have HB64 := Lib.hid (HB63.out.grown hg64 HB63.out.size (fun k hk => (HO63.out.lt k hk).1))
                have HS64 := Lib.hid (BS.of_own ho64 HLA.out HYA.out)
                have HX64 := Lib.hid (arr_grown HX63.out hg64 (arr_own_ne HO63.out HX63.out (by decide)))
                rw [if_pos (by kernel_rfl)]
                refine wp_append_run (o := ⟨some 36, _, _, _, _, _⟩) (.tmp 32) (.tmp 35) 22 22 rfl _ _ _ _ rfl rfl hr64 ?_
                clear hr64 ho64 hg64
                refine hK.out _ _ (HGC.out _ HB64.out) (fun hHeld => ?_)
                clear hK K
                try simp only [Act.put, List.setIfInBounds_toArray, List.set_cons_zero, List.set_cons_succ]
                refine wpAnyH_ready (rs := [11]) (by decide +kernel) (by simp) ?_
                refine AllReadyH.cons rfl (fun K hK => ?_) AllReadyH.nil
                go_simp
                go_at_call 39
                have hw65 := rmacwith_any key (bk ++ (txt s ++ [(j : Int)])) v _ g1 c1 g2 c2 wa64 (HMW.out.kept HB64.out) (HVW.out.kept HB64.out) HV.out.2 HS64.out (by have := HN.out.1; omega) (by rw [HLA.out]; have := HKB.out.1; have := HN.out.2.1; simp; omega)
                rw [← HEB.out] at hw65
                refine hw65.mono ?_
                rintro e ww65 ⟨rfl, hb65⟩
                have HB65 := Lib.hid (HB64.out.trans (hb65.mono HB64.out.size))
                have HX65 := Lib.hid (HX64.out.below hb65 HX64.out.lt)
                clear hb65 hw65
                go_wp2_with fail
                refine hK.out _ _ (HGC.out _ HB65.out) (fun hHeld => ?_)
                clear hK K
                try simp only [Act.put, List.setIfInBounds_toArray, List.set_cons_zero, List.set_cons_succ]
                refine wpAnyH_ready (rs := [13]) (by decide +kernel) (by simp) ?_
                refine AllReadyH.cons rfl (fun K hK => ?_) AllReadyH.nil
                rw [if_pos (by kernel_rfl)]
                refine wp_store_row (o := ⟨none, _, _, _, _, _⟩) 24 (.tmp 12) (.tmp 37) rfl (wb1.heap.size) (u8s N) rfl rfl 24 (u8s (List.replicate 32 0)) HX65.out SH.out SE.out (u8s_one _) ?_
                have hbl := below_setRow HB65.out (show wr.heap.size ≤ wb1.heap.size from HB1.out.size) (u8s N)
                refine hK.out _ _ (HGC.out _ hbl) (fun hHeld => ?_)
                clear hK K
                try simp only [Act.put]
                refine wpAnyH_done (by decide +kernel) ?_ _
                refine NoPanic.normal ?_
                show K0 _ _
                refine hK0 _ _ (Met.intro (hJ0 _ _ ?_))
                repeat apply Exists.intro
                exact ⟨⟨_, rfl, setRow_heap _ _ _ _ _ (0, 0) HX65.out, hbl⟩, rfl⟩
              · go_simp
                have hal66 := HB61.out.alloc HB61.out.size (.cells (u8s [(j : Int)]) 5)
                have hnw66 := heap_alloc_new wa61 (.cells (u8s [(j : Int)]) 5)
                have hst66 := (Below.refl wa61.heap.size wa61).alloc (Nat.le_refl _) (.cells (u8s [(j : Int)]) 5)
                refine hK.out _ (World.alloc wa61 (.cells (u8s [(j : Int)]) 5)) (HGC.out _ hal66) (fun hHeld => ?_)
                clear hK K
                try simp only [Act.put, List.setIfInBounds_toArray, List.set_cons_zero, List.set_cons_succ]
                refine (show ∀ wb66 : World, wb66 = World.alloc wa61 (.cells (u8s [(j : Int)]) 5) → _ from ?_) _ rfl
                intro wb66 ew66
                rw [← ew66] at hal66 hnw66 hst66
                have HB66 := Lib.hid hal66
                have HY66 := Lib.hid (show ArrB wb66 wa61.heap.size 5 [(j : Int)] from hnw66)
                have HX66 := Lib.hid (HX61.out.below hst66 HX61.out.lt)
                have HO66 := Lib.hid (own_below HO61.out hst66)
                have HQ66 := Lib.hid (show Value.ownBlock (.slice aa61 bk.length cc61) ≠ some wa61.heap.size from fun e => Nat.lt_irrefl _ (HO61.out.lt _ e).2)
                clear ew66 hal66 hnw66 hst66
                refine wpAnyH_ready (rs := [6]) (by decide +kernel) (by simp) ?_
                refine AllReadyH.cons rfl (fun K hK => ?_) AllReadyH.nil
                obtain ⟨v67, wa67, hr67, ho67, hg67, _⟩ := Lib.run_append_own_string (P := Tryd.prog) wb66 wr.heap.size 22 9 22 5 i0 Tryd.underlying22 Tryd.underlying9 HI.out.1 HI.out.2.1 HI.out.2.2.1 HI.out.2.2.2 (.slice aa61 bk.length cc61) bk.length (bk.map (.int .u8)) HO66.out s (by unfold maxLen; have := HKB.out.1; have := HN.out.2.1; omega) (by have := HKB.out.1; have := HN.out.2.1; omega) HB66.out.size
                rw [strCells_txt', ← List.map_append] at ho67
                obtain ⟨aa67, cc67, rfl, _⟩ := own_shape ho67
                have HB67 := Lib.hid (HB66.out.grown hg67 HB66.out.size (fun k hk => (HO66.out.lt k hk).1))
                have HO67 := Lib.hid ho67
                have HX67 := Lib.hid (arr_grown HX66.out hg67 (arr_own_ne HO66.out HX66.out (by decide)))
                have HY67 := Lib.hid (arr_grown HY66.out hg67 HQ66.out)
                rw [if_pos (by kernel_rfl)]
                refine wp_append_run (o := ⟨some 32, _, _, _, _, _⟩) (.tmp 30) (.tmp 31) 22 9 rfl _ _ _ _ rfl rfl hr67 ?_
                clear hr67 ho67 hg67
                refine hK.out _ _ (HGC.out _ HB67.out) (fun hHeld => ?_)
                clear hK K
                try simp only [Act.put, List.setIfInBounds_toArray, List.set_cons_zero, List.set_cons_succ]
                refine wpAnyH_ready (rs := [10]) (by decide +kernel) (by simp) ?_
                refine AllReadyH.cons rfl (fun K hK => ?_) AllReadyH.nil
                obtain ⟨v68, wa68, hr68, ho68, hg68⟩ := run_append_BS wa67 wr.heap.size (bk.length + s.size) (.slice aa67 (bk.length + s.size) cc67) (.slice (some ⟨wa61.heap.size, 0, none⟩) 1 1) ((bk ++ txt s).map (.int .u8)) [(j : Int)] HO67.out (bs_const HY67.out HBJ.out 1 rfl) (by have := HKB.out.1; have := HN.out.2.1; simp; omega) HB67.out.size
                rw [← List.map_append, List.append_assoc] at ho68
                obtain ⟨aa68, cc68, rfl, _⟩ := own_shape ho68
                have HB68 := Lib.hid (HB67.out.grown hg68 HB67.out.size (fun k hk => (HO67.out.lt k hk).1))
                have HS68 := Lib.hid (BS.of_own ho68 HLA.out HYA.out)
                have HX68 := Lib.hid (arr_grown HX67.out hg68 (arr_own_ne HO67.out HX67.out (by decide)))
                rw [if_pos (by kernel_rfl)]
                refine wp_append_run (o := ⟨some 36, _, _, _, _, _⟩) (.tmp 32) (.tmp 35) 22 22 rfl _ _ _ _ rfl rfl hr68 ?_
                clear hr68 ho68 hg68
                refine hK.out _ _ (HGC.out _ HB68.out) (fun hHeld => ?_)
                clear hK K
                try simp only [Act.put, List.setIfInBounds_toArray, List.set_cons_zero, List.set_cons_succ]
                refine wpAnyH_ready (rs := [11]) (by decide +kernel) (by simp) ?_
                refine AllReadyH.cons rfl (fun K hK => ?_) AllReadyH.nil
                go_simp
                go_at_call 39
                have hw69 := rmacwith_any key (bk ++ (txt s ++ [(j : Int)])) v _ g1 c1 g2 c2 wa68 (HMW.out.kept HB68.out) (HVW.out.kept HB68.out) HV.out.2 HS68.out (by have := HN.out.1; omega) (by rw [HLA.out]; have := HKB.out.1; have := HN.out.2.1; simp; omega)
                rw [← HEB.out] at hw69
                refine hw69.mono ?_
                rintro e ww69 ⟨rfl, hb69⟩
                have HB69 := Lib.hid (HB68.out.trans (hb69.mono HB68.out.size))
                have HX69 := Lib.hid (HX68.out.below hb69 HX68.out.lt)
                clear hb69 hw69
                go_wp2_with fail
                refine hK.out _ _ (HGC.out _ HB69.out) (fun hHeld => ?_)
                clear hK K
                try simp only [Act.put, List.setIfInBounds_toArray, List.set_cons_zero, List.set_cons_succ]
                refine wpAnyH_ready (rs := [13]) (by decide +kernel) (by simp) ?_
                refine AllReadyH.cons rfl (fun K hK => ?_) AllReadyH.nil
                rw [if_pos (by kernel_rfl)]
                refine wp_store_row (o := ⟨none, _, _, _, _, _⟩) 24 (.tmp 12) (.tmp 37) rfl (wb1.heap.size) (u8s N) rfl rfl 24 (u8s (List.replicate 32 0)) HX69.out SH.out SE.out (u8s_one _) ?_
                have hbl := below_setRow HB69.out (show wr.heap.size ≤ wb1.heap.size from HB1.out.size) (u8s N)
                refine hK.out _ _ (HGC.out _ hbl) (fun hHeld => ?_)
                clear hK K
                try simp only [Act.put]
                refine wpAnyH_done (by decide +kernel) ?_ _
                refine NoPanic.normal ?_
                show K0 _ _
                refine hK0 _ _ (Met.intro (hJ0 _ _ ?_))
                repeat apply Exists.intro
                exact ⟨⟨_, rfl, setRow_heap _ _ _ _ _ (0, 0) HX69.out, hbl⟩, rfl⟩
            · go_simp
              have hal70 := HB60.out.alloc HB60.out.size (.cells (u8s [(j : Int)]) 5)
              have hnw70 := heap_alloc_new wb60 (.cells (u8s [(j : Int)]) 5)
              have hst70 := (Below.refl wb60.heap.size wb60).alloc (Nat.le_refl _) (.cells (u8s [(j : Int)]) 5)
              refine hK.out _ (World.alloc wb60 (.cells (u8s [(j : Int)]) 5)) (HGC.out _ hal70) (fun hHeld => ?_)
              clear hK K
              try simp only [Act.put, List.setIfInBounds_toArray, List.set_cons_zero, List.set_cons_succ]
              refine (show ∀ wb70 : World, wb70 = World.alloc wb60 (.cells (u8s [(j : Int)]) 5) → _ from ?_) _ rfl
              intro wb70 ew70
              rw [← ew70] at hal70 hnw70 hst70
              have HB70 := Lib.hid hal70
              have HY70 := Lib.hid (show ArrB wb70 wb60.heap.size 5 [(j : Int)] from hnw70)
              have HX70 := Lib.hid (HX60.out.below hst70 HX60.out.lt)
              have HO70 := Lib.hid (own_below HO60.out hst70)
              have HQ70 := Lib.hid (show Value.ownBlock (.slice (some ⟨wr.drew.heap.size, 0, none⟩) 0 0) ≠ some wb60.heap.size from fun e => Nat.lt_irrefl _ (HO60.out.lt _ e).2)
              clear ew70 hal70 hnw70 hst70
              refine wpAnyH_ready (rs := [4]) (by decide +kernel) (by simp) ?_
              refine AllReadyH.cons rfl (fun K hK => ?_) AllReadyH.nil
              obtain ⟨v71, wa71, hr71, ho71, hg71, hq71⟩ := run_append_last wb70 wr.heap.size 0 (.slice (some ⟨wr.drew.heap.size, 0, none⟩) 0 0) (.slice a10 bk.length c10) [] bk HO70.out (HL10.out.kept HB70.out) (by have := HKB.out.1; omega) HB70.out.size HBL.out.1 HBL.out.2
              rw [Nat.zero_add, List.nil_append] at ho71
              obtain ⟨aa71, cc71, rfl, _⟩ := own_shape ho71
              have HB71 := Lib.hid (HB70.out.grown hg71 HB70.out.size (fun k hk => (HO70.out.lt k hk).1))
              have HO71 := Lib.hid ho71
              have HX71 := Lib.hid (arr_grown HX70.out hg71 (arr_own_ne HO70.out HX70.out (by decide)))
              have HY71 := Lib.hid (arr_grown HY70.out hg71 HQ70.out)
              have HQ71 := Lib.hid (hq71 _ _ HY70.out HQ70.out)
              rw [if_pos (by kernel_rfl)]
              refine wp_append_run (o := ⟨some 30, _, _, _, _, _⟩) (.tmp 28) (.tmp 29) 22 22 rfl _ _ _ _ rfl rfl hr71 ?_
              clear hr71 ho71 hg71 hq71
              refine hK.out _ _ (HGC.out _ HB71.out) (fun hHeld => ?_)
              clear hK K
              try simp only [Act.put, List.setIfInBounds_toArray, List.set_cons_zero, List.set_cons_succ]
              refine wpAnyH_ready (rs := [6]) (by decide +kernel) (by simp) ?_
              refine AllReadyH.cons rfl (fun K hK => ?_) AllReadyH.nil
              obtain ⟨v72, wa72, hr72, ho72, hg72, _⟩ := Lib.run_append_own_string (P := Tryd.prog) wa71 wr.heap.size 22 9 22 5 i0 Tryd.underlying22 Tryd.underlying9 HI.out.1 HI.out.2.1 HI.out.2.2.1 HI.out.2.2.2 (.slice aa71 bk.length cc71) bk.length (bk.map (.int .u8)) HO71.out s (by unfold maxLen; have := HKB.out.1; have := HN.out.2.1; omega) (by have := HKB.out.1; have := HN.out.2.1; omega) HB71.out.size
              rw [strCells_txt', ← List.map_append] at ho72
              obtain ⟨aa72, cc72, rfl, _⟩ := own_shape ho72
              have HB72 := Lib.hid (HB71.out.grown hg72 HB71.out.size (fun k hk => (HO71.out.lt k hk).1))
              have HO72 := Lib.hid ho72
              have HX72 := Lib.hid (arr_grown HX71.out hg72 (arr_own_ne HO71.out HX71.out (by decide)))
              have HY72 := Lib.hid (arr_grown HY71.out hg72 HQ71.out)
              rw [if_pos (by kernel_rfl)]
              refine wp_append_run (o := ⟨some 32, _, _, _, _, _⟩) (.tmp 30) (.tmp 31) 22 9 rfl _ _ _ _ rfl rfl hr72 ?_
              clear hr72 ho72 hg72
              refine hK.out _ _ (HGC.out _ HB72.out) (fun hHeld => ?_)
              clear hK K
              try simp only [Act.put, List.setIfInBounds_toArray, List.set_cons_zero, List.set_cons_succ]
              refine wpAnyH_ready (rs := [10]) (by decide +kernel) (by simp) ?_
              refine AllReadyH.cons rfl (fun K hK => ?_) AllReadyH.nil
              obtain ⟨v73, wa73, hr73, ho73, hg73⟩ := run_append_BS wa72 wr.heap.size (bk.length + s.size) (.slice aa72 (bk.length + s.size) cc72) (.slice (some ⟨wb60.heap.size, 0, none⟩) 1 1) ((bk ++ txt s).map (.int .u8)) [(j : Int)] HO72.out (bs_const HY72.out HBJ.out 1 rfl) (by have := HKB.out.1; have := HN.out.2.1; simp; omega) HB72.out.size
              rw [← List.map_append, List.append_assoc] at ho73
              obtain ⟨aa73, cc73, rfl, _⟩ := own_shape ho73
              have HB73 := Lib.hid (HB72.out.grown hg73 HB72.out.size (fun k hk => (HO72.out.lt k hk).1))
              have HS73 := Lib.hid (BS.of_own ho73 HLA.out HYA.out)
              have HX73 := Lib.hid (arr_grown HX72.out hg73 (arr_own_ne HO72.out HX72.out (by decide)))
              rw [if_pos (by kernel_rfl)]
              refine wp_append_run (o := ⟨some 36, _, _, _, _, _⟩) (.tmp 32) (.tmp 35) 22 22 rfl _ _ _ _ rfl rfl hr73 ?_
              clear hr73 ho73 hg73
              refine hK.out _ _ (HGC.out _ HB73.out) (fun hHeld => ?_)
              clear hK K
              try simp only [Act.put, List.setIfInBounds_toArray, List.set_cons_zero, List.set_cons_succ]
              refine wpAnyH_ready (rs := [11]) (by decide +kernel) (by simp) ?_
              refine AllReadyH.cons rfl (fun K hK => ?_) AllReadyH.nil
              go_simp
              go_at_call 39
              have hw74 := rmacwith_any key (bk ++ (txt s ++ [(j : Int)])) v _ g1 c1 g2 c2 wa73 (HMW.out.kept HB73.out) (HVW.out.kept HB73.out) HV.out.2 HS73.out (by have := HN.out.1; omega) (by rw [HLA.out]; have := HKB.out.1; have := HN.out.2.1; simp; omega)
              rw [← HEB.out] at hw74
              refine hw74.mono ?_
              rintro e ww74 ⟨rfl, hb74⟩
              have HB74 := Lib.hid (HB73.out.trans (hb74.mono HB73.out.size))
              have HX74 := Lib.hid (HX73.out.below hb74 HX73.out.lt)
              clear hb74 hw74
              go_wp2_with fail
              refine hK.out _ _ (HGC.out _ HB74.out) (fun hHeld => ?_)
              clear hK K
              try simp only [Act.put, List.setIfInBounds_toArray, List.set_cons_zero, List.set_cons_succ]
              refine wpAnyH_ready (rs := [13]) (by decide +kernel) (by simp) ?_
              refine AllReadyH.cons rfl (fun K hK => ?_) AllReadyH.nil
              rw [if_pos (by kernel_rfl)]
              refine wp_store_row (o := ⟨none, _, _, _, _, _⟩) 24 (.tmp 12) (.tmp 37) rfl (wb1.heap.size) (u8s N) rfl rfl 24 (u8s (List.replicate 32 0)) HX74.out SH.out SE.out (u8s_one _) ?_
              have hbl := below_setRow HB74.out (show wr.heap.size ≤ wb1.heap.size from HB1.out.size) (u8s N)
              refine hK.out _ _ (HGC.out _ hbl) (fun hHeld => ?_)
              clear hK K
              try simp only [Act.put]
              refine wpAnyH_done (by decide +kernel) ?_ _
              refine NoPanic.normal ?_
              show K0 _ _
              refine hK0 _ _ (Met.intro (hJ0 _ _ ?_))
              repeat apply Exists.intro
              exact ⟨⟨_, rfl, setRow_heap _ _ _ _ _ (0, 0) HX74.out, hbl⟩, rfl⟩
        · go_simp
          have hal75 := HBD.out.alloc HBD.out.size (.cells (u8s [(j : Int)]) 5)
          have hnw75 := heap_alloc_new wr.drew (.cells (u8s [(j : Int)]) 5)
          have hst75 := (Below.refl wr.drew.heap.size wr.drew).alloc (Nat.le_refl _) (.cells (u8s [(j : Int)]) 5)
          refine hK.out _ (World.alloc wr.drew (.cells (u8s [(j : Int)]) 5)) (HGC.out _ hal75) (fun hHeld => ?_)
          clear hK K
          try simp only [Act.put, List.setIfInBounds_toArray, List.set_cons_zero, List.set_cons_succ]
          refine (show ∀ wb75 : World, wb75 = World.alloc wr.drew (.cells (u8s [(j : Int)]) 5) → _ from ?_) _ rfl
          intro wb75 ew75
          rw [← ew75] at hal75 hnw75 hst75
          have HB75 := Lib.hid hal75
          have HY75 := Lib.hid (show ArrB wb75 wr.drew.heap.size 5 [(j : Int)] from hnw75)
          clear ew75 hal75 hnw75 hst75
          refine wpAnyH_ready (rs := [2, 12]) (by decide +kernel) (by simp) ?_
          refine AllReadyH.cons rfl (fun K hK => ?_) (AllReadyH.cons rfl (fun K hK => ?_) AllReadyH.nil)
          · go_simp
            have hal76 := HB75.out.alloc HB75.out.size (.cells #[] 5)
            have hnw76 := heap_alloc_new wb75 (.cells #[] 5)
            have hst76 := (Below.refl wb75.heap.size wb75).alloc (Nat.le_refl _) (.cells #[] 5)
            have hon76 := own_mono (own_empty wb75) HB75.out.size
            refine hK.out _ (World.alloc wb75 (.cells #[] 5)) (HGC.out _ hal76) (fun hHeld => ?_)
            clear hK K
            try simp only [Act.put, List.setIfInBounds_toArray, List.set_cons_zero, List.set_cons_succ]
            refine (show ∀ wb76 : World, wb76 = World.alloc wb75 (.cells #[] 5) → _ from ?_) _ rfl
            intro wb76 ew76
            rw [← ew76] at hal76 hnw76 hst76 hon76
            have HB76 := Lib.hid hal76
            have HO76 := Lib.hid hon76
            have HY76 := Lib.hid (HY75.out.below hst76 HY75.out.lt)
            have HQ76 := Lib.hid (show (Value.slice (some ⟨wb75.heap.size, 0, none⟩) 0 0).ownBlock ≠ some wr.drew.heap.size from fun e => absurd (Option.some.inj e) (Nat.ne_of_gt HY75.out.lt))
            clear ew76 hal76 hnw76 hst76 hon76
            refine wpAnyH_ready (rs := [4, 12]) (by decide +kernel) (by simp) ?_
            refine AllReadyH.cons rfl (fun K hK => ?_) (AllReadyH.cons rfl (fun K hK => ?_) AllReadyH.nil)
            · obtain ⟨v77, wa77, hr77, ho77, hg77, hq77⟩ := run_append_last wb76 wr.heap.size 0 (.slice (some ⟨wb75.heap.size, 0, none⟩) 0 0) (.slice a10 bk.length c10) [] bk HO76.out (HL10.out.kept HB76.out) (by have := HKB.out.1; omega) HB76.out.size HBL.out.1 HBL.out.2
              rw [Nat.zero_add, List.nil_append] at ho77
              obtain ⟨aa77, cc77, rfl, _⟩ := own_shape ho77
              have HB77 := Lib.hid (HB76.out.grown hg77 HB76.out.size (fun k hk => (HO76.out.lt k hk).1))
              have HO77 := Lib.hid ho77
              have HY77 := Lib.hid (arr_grown HY76.out hg77 HQ76.out)
              have HQ77 := Lib.hid (hq77 _ _ HY76.out HQ76.out)
              rw [if_pos (by kernel_rfl)]
              refine wp_append_run (o := ⟨some 30, _, _, _, _, _⟩) (.tmp 28) (.tmp 29) 22 22 rfl _ _ _ _ rfl rfl hr77 ?_
              clear hr77 ho77 hg77 hq77
              refine hK.out _ _ (HGC.out _ HB77.out) (fun hHeld => ?_)
              clear hK K
              try simp only [Act.put, List.setIfInBounds_toArray, List.set_cons_zero, List.set_cons_succ]
              refine wpAnyH_ready (rs := [6, 12]) (by decide +kernel) (by simp) ?_
              refine AllReadyH.cons rfl (fun K hK => ?_) (AllReadyH.cons rfl (fun K hK => ?_) AllReadyH.nil)
              · obtain ⟨v78, wa78, hr78, ho78, hg78, _⟩ := Lib.run_append_own_string (P := Tryd.prog) wa77 wr.heap.size 22 9 22 5 i0 Tryd.underlying22 Tryd.underlying9 HI.out.1 HI.out.2.1 HI.out.2.2.1 HI.out.2.2.2 (.slice aa77 bk.length cc77) bk.length (bk.map (.int .u8)) HO77.out s (by unfold maxLen; have := HKB.out.1; have := HN.out.2.1; omega) (by have := HKB.out.1; have := HN.out.2.1; omega) HB77.out.size
                rw [strCells_txt', ← List.map_append] at ho78
                obtain ⟨aa78, cc78, rfl, _⟩ := own_shape ho78
                have HB78 := Lib.hid (HB77.out.grown hg78 HB77.out.size (fun k hk => (HO77.out.lt k hk).1))
                have HO78 := Lib.hid ho78
                have HY78 := Lib.hid (arr_grown HY77.out hg78 HQ77.out)
                rw [if_pos (by kernel_rfl)]
                refine wp_append_run (o := ⟨some 32, _, _, _, _, _⟩) (.tmp 30) (.tmp 31) 22 9 rfl _ _ _ _ rfl rfl hr78 ?_
                clear hr78 ho78 hg78
                refine hK.out _ _ (HGC.out _ HB78.out) (fun hHeld => ?_)
                clear hK K
                try simp only [Act.put, List.setIfInBounds_toArray, List.set_cons_zero, List.set_cons_succ]
                refine wpAnyH_ready (rs := [10, 12]) (by decide +kernel) (by simp) ?_
                refine AllReadyH.cons rfl (fun K hK => ?_) (AllReadyH.cons rfl (fun K hK => ?_) AllReadyH.nil)
                · obtain ⟨v79, wa79, hr79, ho79, hg79⟩ := run_append_BS wa78 wr.heap.size (bk.length + s.size) (.slice aa78 (bk.length + s.size) cc78) (.slice (some ⟨wr.drew.heap.size, 0, none⟩) 1 1) ((bk ++ txt s).map (.int .u8)) [(j : Int)] HO78.out (bs_const HY78.out HBJ.out 1 rfl) (by have := HKB.out.1; have := HN.out.2.1; simp; omega) HB78.out.size
                  rw [← List.map_append, List.append_assoc] at ho79
                  obtain ⟨aa79, cc79, rfl, _⟩ := own_shape ho79
                  have HB79 := Lib.hid (HB78.out.grown hg79 HB78.out.size (fun k hk => (HO78.out.lt k hk).1))
                  have HS79 := Lib.hid (BS.of_own ho79 HLA.out HYA.out)
                  rw [if_pos (by kernel_rfl)]
                  refine wp_append_run (o := ⟨some 36, _, _, _, _, _⟩) (.tmp 32) (.tmp 35) 22 22 rfl _ _ _ _ rfl rfl hr79 ?_
                  clear hr79 ho79 hg79
                  refine hK.out _ _ (HGC.out _ HB79.out) (fun hHeld => ?_)
                  clear hK K
                  try simp only [Act.put, List.setIfInBounds_toArray, List.set_cons_zero, List.set_cons_succ]
                  refine wpAnyH_ready (rs := [11, 12]) (by decide +kernel) (by simp) ?_
                  refine AllReadyH.cons rfl (fun K hK => ?_) (AllReadyH.cons rfl (fun K hK => ?_) AllReadyH.nil)
                  · go_simp
                    go_at_call 39
                    have hw80 := rmacwith_any key (bk ++ (txt s ++ [(j : Int)])) v _ g1 c1 g2 c2 wa79 (HMW.out.kept HB79.out) (HVW.out.kept HB79.out) HV.out.2 HS79.out (by have := HN.out.1; omega) (by rw [HLA.out]; have := HKB.out.1; have := HN.out.2.1; simp; omega)
                    rw [← HEB.out] at hw80
                    refine hw80.mono ?_
                    rintro e ww80 ⟨rfl, hb80⟩
                    have HB80 := Lib.hid (HB79.out.trans (hb80.mono HB79.out.size))
                    clear hb80 hw80
                    go_wp2_with fail
                    refine hK.out _ _ (HGC.out _ HB80.out) (fun hHeld => ?_)
                    clear hK K
                    try simp only [Act.put, List.setIfInBounds_toArray, List.set_cons_zero, List.set_cons_succ]
                    refine wpAnyH_ready (rs := [12]) (by decide +kernel) (by simp) ?_
                    refine AllReadyH.cons rfl (fun K hK => ?_) AllReadyH.nil
                    go_simp
                    have hal81 := HB80.out.alloc HB80.out.size (.cells (u8s (List.replicate 32 0)) 24)
                    have hnw81 := heap_alloc_new ww80 (.cells (u8s (List.replicate 32 0)) 24)
                    have hst81 := (Below.refl ww80.heap.size ww80).alloc (Nat.le_refl _) (.cells (u8s (List.replicate 32 0)) 24)
                    refine hK.out _ (World.alloc ww80 (.cells (u8s (List.replicate 32 0)) 24)) (HGC.out _ hal81) (fun hHeld => ?_)
                    clear hK K
                    try simp only [Act.put, List.setIfInBounds_toArray, List.set_cons_zero, List.set_cons_succ]
                    refine (show ∀ wb81 : World, wb81 = World.alloc ww80 (.cells (u8s (List.replicate 32 0)) 24) → _ from ?_) _ rfl
                    intro wb81 ew81
                    rw [← ew81] at hal81 hnw81 hst81
                    have HB81 := Lib.hid hal81
                    have HX81 := Lib.hid (show ArrB wb81 ww80.heap.size 24 (List.replicate 32 0) from hnw81)
                    clear ew81 hal81 hnw81 hst81
                    refine wpAnyH_ready (rs := [13]) (by decide +kernel) (by simp) ?_
                    refine AllReadyH.cons rfl (fun K hK => ?_) AllReadyH.nil
                    rw [if_pos (by kernel_rfl)]
                    refine wp_store_row (o := ⟨none, _, _, _, _, _⟩) 24 (.tmp 12) (.tmp 37) rfl (ww80.heap.size) (u8s N) rfl rfl 24 (u8s (List.replicate 32 0)) HX81.out SH.out SE.out (u8s_one _) ?_
                    have hbl := below_setRow HB81.out (show wr.heap.size ≤ ww80.heap.size from HB80.out.size) (u8s N)
                    refine hK.out _ _ (HGC.out _ hbl) (fun hHeld => ?_)
                    clear hK K
                    try simp only [Act.put]
                    refine wpAnyH_done (by decide +kernel) ?_ _
                    refine NoPanic.normal ?_
                    show K0 _ _
                    refine hK0 _ _ (Met.intro (hJ0 _ _ ?_))
                    repeat apply Exists.intro
                    exact ⟨⟨_, rfl, setRow_heap _ _ _ _ _ (0, 0) HX81.out, hbl⟩, rfl⟩
                  · go_simp
                    have hal82 := HB79.out.alloc HB79.out.size (.cells (u8s (List.replicate 32 0)) 24)
                    have hnw82 := heap_alloc_new wa79 (.cells (u8s (List.replicate 32 0)) 24)
                    have hst82 := (Below.refl wa79.heap.size wa79).alloc (Nat.le_refl _) (.cells (u8s (List.replicate 32 0)) 24)
                    refine hK.out _ (World.alloc wa79 (.cells (u8s (List.replicate 32 0)) 24)) (HGC.out _ hal82) (fun hHeld => ?_)
                    clear hK K
                    try simp only [Act.put, List.setIfInBounds_toArray, List.set_cons_zero, List.set_cons_succ]
                    refine (show ∀ wb82 : World, wb82 = World.alloc wa79 (.cells (u8s (List.replicate 32 0)) 24) → _ from ?_) _ rfl
                    intro wb82 ew82
                    rw [← ew82] at hal82 hnw82 hst82
                    have HB82 := Lib.hid hal82
                    have HX82 := Lib.hid (show ArrB wb82 wa79.heap.size 24 (List.replicate 32 0) from hnw82)
                    have HS82 := Lib.hid (HS79.out.kept hst82)
                    clear ew82 hal82 hnw82 hst82
                    refine wpAnyH_ready (rs := [11]) (by decide +kernel) (by simp) ?_
                    refine AllReadyH.cons rfl (fun K hK => ?_) AllReadyH.nil
                    go_simp
                    go_at_call 39
                    have hw83 := rmacwith_any key (bk ++ (txt s ++ [(j : Int)])) v _ g1 c1 g2 c2 wb82 (HMW.out.kept HB82.out) (HVW.out.kept HB82.out) HV.out.2 HS82.out (by have := HN.out.1; omega) (by rw [HLA.out]; have := HKB.out.1; have := HN.out.2.1; simp; omega)
                    rw [← HEB.out] at hw83
                    refine hw83.mono ?_
                    rintro e ww83 ⟨rfl, hb83⟩
                    have HB83 := Lib.hid (HB82.out.trans (hb83.mono HB82.out.size))
                    have HX83 := Lib.hid (HX82.out.below hb83 HX82.out.lt)
                    clear hb83 hw83
                    go_wp2_with fail
                    refine hK.out _ _ (HGC.out _ HB83.out) (fun hHeld => ?_)
                    clear hK K
                    try simp only [Act.put, List.setIfInBounds_toArray, List.set_cons_zero, List.set_cons_succ]
                    refine wpAnyH_ready (rs := [13]) (by decide +kernel) (by simp) ?_
                    refine AllReadyH.cons rfl (fun K hK => ?_) AllReadyH.nil
                    rw [if_pos (by kernel_rfl)]
                    refine wp_store_row (o := ⟨none, _, _, _, _, _⟩) 24 (.tmp 12) (.tmp 37) rfl (wa79.heap.size) (u8s N) rfl rfl 24 (u8s (List.replicate 32 0)) HX83.out SH.out SE.out (u8s_one _) ?_
                    have hbl := below_setRow HB83.out (show wr.heap.size ≤ wa79.heap.size from HB79.out.size) (u8s N)
                    refine hK.out _ _ (HGC.out _ hbl) (fun hHeld => ?_)
                    clear hK K
                    try simp only [Act.put]
                    refine wpAnyH_done (by decide +kernel) ?_ _
                    refine NoPanic.normal ?_
                    show K0 _ _
                    refine hK0 _ _ (Met.intro (hJ0 _ _ ?_))
                    repeat apply Exists.intro
                    exact ⟨⟨_, rfl, setRow_heap _ _ _ _ _ (0, 0) HX83.out, hbl⟩, rfl⟩
                · go_simp
                  have hal84 := HB78.out.alloc HB78.out.size (.cells (u8s (List.replicate 32 0)) 24)
                  have hnw84 := heap_alloc_new wa78 (.cells (u8s (List.replicate 32 0)) 24)
                  have hst84 := (Below.refl wa78.heap.size wa78).alloc (Nat.le_refl _) (.cells (u8s (List.replicate 32 0)) 24)
                  refine hK.out _ (World.alloc wa78 (.cells (u8s (List.replicate 32 0)) 24)) (HGC.out _ hal84) (fun hHeld => ?_)
                  clear hK K
                  try simp only [Act.put, List.setIfInBounds_toArray, List.set_cons_zero, List.set_cons_succ]
                  refine (show ∀ wb84 : World, wb84 = World.alloc wa78 (.cells (u8s (List.replicate 32 0)) 24) → _ from ?_) _ rfl
                  intro wb84 ew84
                  rw [← ew84] at hal84 hnw84 hst84
                  have HB84 := Lib.hid hal84
                  have HX84 := Lib.hid (show ArrB wb84 wa78.heap.size 24 (List.replicate 32 0) from hnw84)
                  have HY84 := Lib.hid (HY78.out.below hst84 HY78.out.lt)
                  have HO84 := Lib.hid (own_below HO78.out hst84)
                  clear ew84 hal84 hnw84 hst84
                  refine wpAnyH_ready (rs := [10]) (by decide +kernel) (by simp) ?_
                  refine AllReadyH.cons rfl (fun K hK => ?_) AllReadyH.nil
                  obtain ⟨v85, wa85, hr85, ho85, hg85⟩ := run_append_BS wb84 wr.heap.size (bk.length + s.size) (.slice aa78 (bk.length + s.size) cc78) (.slice (some ⟨wr.drew.heap.size, 0, none⟩) 1 1) ((bk ++ txt s).map (.int .u8)) [(j : Int)] HO84.out (bs_const HY84.out HBJ.out 1 rfl) (by have := HKB.out.1; have := HN.out.2.1; simp; omega) HB84.out.size
                  rw [← List.map_append, List.append_assoc] at ho85
                  obtain ⟨aa85, cc85, rfl, _⟩ := own_shape ho85
                  have HB85 := Lib.hid (HB84.out.grown hg85 HB84.out.size (fun k hk => (HO84.out.lt k hk).1))
                  have HS85 := Lib.hid (BS.of_own ho85 HLA.out HYA.out)
                  have HX85 := Lib.hid (arr_grown HX84.out hg85 (arr_own_ne HO84.out HX84.out (by decide)))
                  rw [if_pos (by kernel_rfl)]
                  refine wp_append_run (o := ⟨some 36, _, _, _, _, _⟩) (.tmp 32) (.tmp 35) 22 22 rfl _ _ _ _ rfl rfl hr85 ?_
                  clear hr85 ho85 hg85
                  refine hK.out _ _ (HGC.out _ HB85.out) (fun hHeld => ?_)
                  clear hK K
                  try simp only [Act.put, List.setIfInBounds_toArray, List.set_cons_zero, List.set_cons_succ]
                  refine wpAnyH_ready (rs := [11]) (by decide +kernel) (by simp) ?_
                  refine AllReadyH.cons rfl (fun K hK => ?_) AllReadyH.nil
                  go_simp
                  go_at_call 39
                  have hw86 := rmacwith_any key (bk ++ (txt s ++ [(j : Int)])) v _ g1 c1 g2 c2 wa85 (HMW.out.kept HB85.out) (HVW.out.kept HB85.out) HV.out.2 HS85.out (by have := HN.out.1; omega) (by rw [HLA.out]; have := HKB.out.1; have := HN.out.2.1; simp; omega)
                  rw [← HEB.out] at hw86
                  refine hw86.mono ?_
                  rintro e ww86 ⟨rfl, hb86⟩
                  have HB86 := Lib.hid (HB85.out.trans (hb86.mono HB85.out.size))
                  have HX86 := Lib.hid (HX85.out.below hb86 HX85.out.lt)
                  clear hb86 hw86
                  go_wp2_with fail
                  refine hK.out _ _ (HGC.out _ HB86.out) (fun hHeld => ?_)
                  clear hK K
                  try simp only [Act.put, List.setIfInBounds_toArray, List.set_cons_zero, List.set_cons_succ]
                  refine wpAnyH_ready (rs := [13]) (by decide +kernel) (by simp) ?_
                  refine AllReadyH.cons rfl (fun K hK => ?_) AllReadyH.nil
                  rw [if_pos (by kernel_rfl)]
                  refine wp_store_row (o := ⟨none, _, _, _, _, _⟩) 24 (.tmp 12) (.tmp 37) rfl (wa78.heap.size) (u8s N) rfl rfl 24 (u8s (List.replicate 32 0)) HX86.out SH.out SE.out (u8s_one _) ?_
                  have hbl := below_setRow HB86.out (show wr.heap.size ≤ wa78.heap.size from HB78.out.size) (u8s N)
                  refine hK.out _ _ (HGC.out _ hbl) (fun hHeld => ?_)
                  clear hK K
                  try simp only [Act.put]
                  refine wpAnyH_done (by decide +kernel) ?_ _
                  refine NoPanic.normal ?_
                  show K0 _ _
                  refine hK0 _ _ (Met.intro (hJ0 _ _ ?_))
                  repeat apply Exists.intro
                  exact ⟨⟨_, rfl, setRow_heap _ _ _ _ _ (0, 0) HX86.out, hbl⟩, rfl⟩
              · go_simp
                have hal87 := HB77.out.alloc HB77.out.size (.cells (u8s (List.replicate 32 0)) 24)
                have hnw87 := heap_alloc_new wa77 (.cells (u8s (List.replicate 32 0)) 24)
                have hst87 := (Below.refl wa77.heap.size wa77).alloc (Nat.le_refl _) (.cells (u8s (List.replicate 32 0)) 24)
                refine hK.out _ (World.alloc wa77 (.cells (u8s (List.replicate 32 0)) 24)) (HGC.out _ hal87) (fun hHeld => ?_)
                clear hK K
                try simp only [Act.put, List.setIfInBounds_toArray, List.set_cons_zero, List.set_cons_succ]
                refine (show ∀ wb87 : World, wb87 = World.alloc wa77 (.cells (u8s (List.replicate 32 0)) 24) → _ from ?_) _ rfl
                intro wb87 ew87
                rw [← ew87] at hal87 hnw87 hst87
                have HB87 := Lib.hid hal87
                have HX87 := Lib.hid (show ArrB wb87 wa77.heap.size 24 (List.replicate 32 0) from hnw87)
                have HY87 := Lib.hid (HY77.out.below hst87 HY77.out.lt)
                have HO87 := Lib.hid (own_below HO77.out hst87)
                clear ew87 hal87 hnw87 hst87
                refine wpAnyH_ready (rs := [6]) (by decide +kernel) (by simp) ?_
                refine AllReadyH.cons rfl (fun K hK => ?_) AllReadyH.nil
                obtain ⟨v88, wa88, hr88, ho88, hg88, _⟩ := Lib.run_append_own_string (P := Tryd.prog) wb87 wr.heap.size 22 9 22 5 i0 Tryd.underlying22 Tryd.underlying9 HI.out.1 HI.out.2.1 HI.out.2.2.1 HI.out.2.2.2 (.slice aa77 bk.length cc77) bk.length (bk.map (.int .u8)) HO87.out s (by unfold maxLen; have := HKB.out.1; have := HN.out.2.1; omega) (by have := HKB.out.1; have := HN.out.2.1; omega) HB87.out.size
                rw [strCells_txt', ← List.map_append] at ho88
                obtain ⟨aa88, cc88, rfl, _⟩ := own_shape ho88
                have HB88 := Lib.hid (HB87.out.grown hg88 HB87.out.size (fun k hk => (HO87.out.lt k hk).1))
                have HO88 := Lib.hid ho88
                have HX88 := Lib.hid (arr_grown HX87.out hg88 (arr_own_ne HO87.out HX87.out (by decide)))
                have HY88 := Lib.hid (arr_grown HY87.out hg88 HQ77.out)
                rw [if_pos (by kernel_rfl)]
                refine wp_append_run (o := ⟨some 32, _, _, _, _, _⟩) (.tmp 30) (.tmp 31) 22 9 rfl _ _ _ _ rfl rfl hr88 ?_
                clear hr88 ho88 hg88
                refine hK.out _ _ (HGC.out _ HB88.out) (fun hHeld => ?_)
                clear hK K
                try simp only [Act.put, List.setIfInBounds_toArray, List.set_cons_zero, List.set_cons_succ]
                refine wpAnyH_ready (rs := [10]) (by decide +kernel) (by simp) ?_
                refine AllReadyH.cons rfl (fun K hK => ?_) AllReadyH.nil
                obtain ⟨v89, wa89, hr89, ho89, hg89⟩ := run_append_BS wa88 wr.heap.size (bk.length + s.size) (.slice aa88 (bk.length + s.size) cc88) (.slice (some ⟨wr.drew.heap.size, 0, none⟩) 1 1) ((bk ++ txt s).map (.int .u8)) [(j : Int)] HO88.out (bs_const HY88.out HBJ.out 1 rfl) (by have := HKB.out.1; have := HN.out.2.1; simp; omega) HB88.out.size
                rw [← List.map_append, List.append_assoc] at ho89
                obtain ⟨aa89, cc89, rfl, _⟩ := own_shape ho89
                have HB89 := Lib.hid (HB88.out.grown hg89 HB88.out.size (fun k hk => (HO88.out.lt k hk).1))
                have HS89 := Lib.hid (BS.of_own ho89 HLA.out HYA.out)
                have HX89 := Lib.hid (arr_grown HX88.out hg89 (arr_own_ne HO88.out HX88.out (by decide)))
                rw [if_pos (by kernel_rfl)]
                refine wp_append_run (o := ⟨some 36, _, _, _, _, _⟩) (.tmp 32) (.tmp 35) 22 22 rfl _ _ _ _ rfl rfl hr89 ?_
                clear hr89 ho89 hg89
                refine hK.out _ _ (HGC.out _ HB89.out) (fun hHeld => ?_)
                clear hK K
                try simp only [Act.put, List.setIfInBounds_toArray, List.set_cons_zero, List.set_cons_succ]
                refine wpAnyH_ready (rs := [11]) (by decide +kernel) (by simp) ?_
                refine AllReadyH.cons rfl (fun K hK => ?_) AllReadyH.nil
                go_simp
                go_at_call 39
                have hw90 := rmacwith_any key (bk ++ (txt s ++ [(j : Int)])) v _ g1 c1 g2 c2 wa89 (HMW.out.kept HB89.out) (HVW.out.kept HB89.out) HV.out.2 HS89.out (by have := HN.out.1; omega) (by rw [HLA.out]; have := HKB.out.1; have := HN.out.2.1; simp; omega)
                rw [← HEB.out] at hw90
                refine hw90.mono ?_
                rintro e ww90 ⟨rfl, hb90⟩
                have HB90 := Lib.hid (HB89.out.trans (hb90.mono HB89.out.size))
                have HX90 := Lib.hid (HX89.out.below hb90 HX89.out.lt)
                clear hb90 hw90
                go_wp2_with fail
                refine hK.out _ _ (HGC.out _ HB90.out) (fun hHeld => ?_)
                clear hK K
                try simp only [Act.put, List.setIfInBounds_toArray, List.set_cons_zero, List.set_cons_succ]
                refine wpAnyH_ready (rs := [13]) (by decide +kernel) (by simp) ?_
                refine AllReadyH.cons rfl (fun K hK => ?_) AllReadyH.nil
                rw [if_pos (by kernel_rfl)]
                refine wp_store_row (o := ⟨none, _, _, _, _, _⟩) 24 (.tmp 12) (.tmp 37) rfl (wa77.heap.size) (u8s N) rfl rfl 24 (u8s (List.replicate 32 0)) HX90.out SH.out SE.out (u8s_one _) ?_
                have hbl := below_setRow HB90.out (show wr.heap.size ≤ wa77.heap.size from HB77.out.size) (u8s N)
                refine hK.out _ _ (HGC.out _ hbl) (fun hHeld => ?_)
                clear hK K
                try simp only [Act.put]
                refine wpAnyH_done (by decide +kernel) ?_ _
                refine NoPanic.normal ?_
                show K0 _ _
                refine hK0 _ _ (Met.intro (hJ0 _ _ ?_))
                repeat apply Exists.intro
                exact ⟨⟨_, rfl, setRow_heap _ _ _ _ _ (0, 0) HX90.out, hbl⟩, rfl⟩
            · go_simp
              have hal91 := HB76.out.alloc HB76.out.size (.cells (u8s (List.replicate 32 0)) 24)
              have hnw91 := heap_alloc_new wb76 (.cells (u8s (List.replicate 32 0)) 24)
              have hst91 := (Below.refl wb76.heap.size wb76).alloc (Nat.le_refl _) (.cells (u8s (List.replicate 32 0)) 24)
              refine hK.out _ (World.alloc wb76 (.cells (u8s (List.replicate 32 0)) 24)) (HGC.out _ hal91) (fun hHeld => ?_)
              clear hK K
              try simp only [Act.put, List.setIfInBounds_toArray, List.set_cons_zero, List.set_cons_succ]
              refine (show ∀ wb91 : World, wb91 = World.alloc wb76 (.cells (u8s (List.replicate 32 0)) 24) → _ from ?_) _ rfl
              intro wb91 ew91
              rw [← ew91] at hal91 hnw91 hst91
              have HB91 := Lib.hid hal91
              have HX91 := Lib.hid (show ArrB wb91 wb76.heap.size 24 (List.replicate 32 0) from hnw91)
              have HY91 := Lib.hid (HY76.out.below hst91 HY76.out.lt)
              have HO91 := Lib.hid (own_below HO76.out hst91)
              clear ew91 hal91 hnw91 hst91
              refine wpAnyH_ready (rs := [4]) (by decide +kernel) (by simp) ?_
              refine AllReadyH.cons rfl (fun K hK => ?_) AllReadyH.nil
              obtain ⟨v92, wa92, hr92, ho92, hg92, hq92⟩ := run_append_last wb91 wr.heap.size 0 (.slice (some ⟨wb75.heap.size, 0, none⟩) 0 0) (.slice a10 bk.length c10) [] bk HO91.out (HL10.out.kept HB91.out) (by have := HKB.out.1; omega) HB91.out.size HBL.out.1 HBL.out.2
              rw [Nat.zero_add, List.nil_append] at ho92
              obtain ⟨aa92, cc92, rfl, _⟩ := own_shape ho92
              have HB92 := Lib.hid (HB91.out.grown hg92 HB91.out.size (fun k hk => (HO91.out.lt k hk).1))
              have HO92 := Lib.hid ho92
              have HX92 := Lib.hid (arr_grown HX91.out hg92 (arr_own_ne HO91.out HX91.out (by decide)))
              have HY92 := Lib.hid (arr_grown HY91.out hg92 HQ76.out)
              have HQ92 := Lib.hid (hq92 _ _ HY91.out HQ76.out)
              rw [if_pos (by kernel_rfl)]
              refine wp_append_run (o := ⟨some 30, _, _, _, _, _⟩) (.tmp 28) (.tmp 29) 22 22 rfl _ _ _ _ rfl rfl hr92 ?_
              clear hr92 ho92 hg92 hq92
              refine hK.out _ _ (HGC.out _ HB92.out) (fun hHeld => ?_)
              clear hK K
              try simp only [Act.put, List.setIfInBounds_toArray, List.set_cons_zero, List.set_cons_succ]
              refine wpAnyH_ready (rs := [6]) (by decide +kernel) (by simp) ?_
              refine AllReadyH.cons rfl (fun K hK => ?_) AllReadyH.nil
              obtain ⟨v93, wa93, hr93, ho93, hg93, _⟩ := Lib.run_append_own_string (P := Tryd.prog) wa92 wr.heap.size 22 9 22 5 i0 Tryd.underlying22 Tryd.underlying9 HI.out.1 HI.out.2.1 HI.out.2.2.1 HI.out.2.2.2 (.slice aa92 bk.length cc92) bk.length (bk.map (.int .u8)) HO92.out s (by unfold maxLen; have := HKB.out.1; have := HN.out.2.1; omega) (by have := HKB.out.1; have := HN.out.2.1; omega) HB92.out.size
              rw [strCells_txt', ← List.map_append] at ho93
              obtain ⟨aa93, cc93, rfl, _⟩ := own_shape ho93
              have HB93 := Lib.hid (HB92.out.grown hg93 HB92.out.size (fun k hk => (HO92.out.lt k hk).1))
              have HO93 := Lib.hid ho93
              have HX93 := Lib.hid (arr_grown HX92.out hg93 (arr_own_ne HO92.out HX92.out (by decide)))
              have HY93 := Lib.hid (arr_grown HY92.out hg93 HQ92.out)
              rw [if_pos (by kernel_rfl)]
              refine wp_append_run (o := ⟨some 32, _, _, _, _, _⟩) (.tmp 30) (.tmp 31) 22 9 rfl _ _ _ _ rfl rfl hr93 ?_
              clear hr93 ho93 hg93
              refine hK.out _ _ (HGC.out _ HB93.out) (fun hHeld => ?_)
              clear hK K
              try simp only [Act.put, List.setIfInBounds_toArray, List.set_cons_zero, List.set_cons_succ]
              refine wpAnyH_ready (rs := [10]) (by decide +kernel) (by simp) ?_
              refine AllReadyH.cons rfl (fun K hK => ?_) AllReadyH.nil
              obtain ⟨v94, wa94, hr94, ho94, hg94⟩ := run_append_BS wa93 wr.heap.size (bk.length + s.size) (.slice aa93 (bk.length + s.size) cc93) (.slice (some ⟨wr.drew.heap.size, 0, none⟩) 1 1) ((bk ++ txt s).map (.int .u8)) [(j : Int)] HO93.out (bs_const HY93.out HBJ.out 1 rfl) (by have := HKB.out.1; have := HN.out.2.1; simp; omega) HB93.out.size
              rw [← List.map_append, List.append_assoc] at ho94
              obtain ⟨aa94, cc94, rfl, _⟩ := own_shape ho94
              have HB94 := Lib.hid (HB93.out.grown hg94 HB93.out.size (fun k hk => (HO93.out.lt k hk).1))
              have HS94 := Lib.hid (BS.of_own ho94 HLA.out HYA.out)
              have HX94 := Lib.hid (arr_grown HX93.out hg94 (arr_own_ne HO93.out HX93.out (by decide)))
              rw [if_pos (by kernel_rfl)]
              refine wp_append_run (o := ⟨some 36, _, _, _, _, _⟩) (.tmp 32) (.tmp 35) 22 22 rfl _ _ _ _ rfl rfl hr94 ?_
              clear hr94 ho94 hg94
              refine hK.out _ _ (HGC.out _ HB94.out) (fun hHeld => ?_)
              clear hK K
              try simp only [Act.put, List.setIfInBounds_toArray, List.set_cons_zero, List.set_cons_succ]
              refine wpAnyH_ready (rs := [11]) (by decide +kernel) (by simp) ?_
              refine AllReadyH.cons rfl (fun K hK => ?_) AllReadyH.nil
              go_simp
              go_at_call 39
              have hw95 := rmacwith_any key (bk ++ (txt s ++ [(j : Int)])) v _ g1 c1 g2 c2 wa94 (HMW.out.kept HB94.out) (HVW.out.kept HB94.out) HV.out.2 HS94.out (by have := HN.out.1; omega) (by rw [HLA.out]; have := HKB.out.1; have := HN.out.2.1; simp; omega)
              rw [← HEB.out] at hw95
              refine hw95.mono ?_
              rintro e ww95 ⟨rfl, hb95⟩
              have HB95 := Lib.hid (HB94.out.trans (hb95.mono HB94.out.size))
              have HX95 := Lib.hid (HX94.out.below hb95 HX94.out.lt)
              clear hb95 hw95
              go_wp2_with fail
              refine hK.out _ _ (HGC.out _ HB95.out) (fun hHeld => ?_)
              clear hK K
              try simp only [Act.put, List.setIfInBounds_toArray, List.set_cons_zero, List.set_cons_succ]
              refine wpAnyH_ready (rs := [13]) (by decide +kernel) (by simp) ?_
              refine AllReadyH.cons rfl (fun K hK => ?_) AllReadyH.nil
              rw [if_pos (by kernel_rfl)]
              refine wp_store_row (o := ⟨none, _, _, _, _, _⟩) 24 (.tmp 12) (.tmp 37) rfl (wb76.heap.size) (u8s N) rfl rfl 24 (u8s (List.replicate 32 0)) HX95.out SH.out SE.out (u8s_one _) ?_
              have hbl := below_setRow HB95.out (show wr.heap.size ≤ wb76.heap.size from HB76.out.size) (u8s N)
              refine hK.out _ _ (HGC.out _ hbl) (fun hHeld => ?_)
              clear hK K
              try simp only [Act.put]
              refine wpAnyH_done (by decide +kernel) ?_ _
              refine NoPanic.normal ?_
              show K0 _ _
              refine hK0 _ _ (Met.intro (hJ0 _ _ ?_))
              repeat apply Exists.intro
              exact ⟨⟨_, rfl, setRow_heap _ _ _ _ _ (0, 0) HX95.out, hbl⟩, rfl⟩
          · go_simp
            have hal96 := HB75.out.alloc HB75.out.size (.cells (u8s (List.replicate 32 0)) 24)
            have hnw96 := heap_alloc_new wb75 (.cells (u8s (List.replicate 32 0)) 24)
            have hst96 := (Below.refl wb75.heap.size wb75).alloc (Nat.le_refl _) (.cells (u8s (List.replicate 32 0)) 24)
            refine hK.out _ (World.alloc wb75 (.cells (u8s (List.replicate 32 0)) 24)) (HGC.out _ hal96) (fun hHeld => ?_)
            clear hK K
            try simp only [Act.put, List.setIfInBounds_toArray, List.set_cons_zero, List.set_cons_succ]
            refine (show ∀ wb96 : World, wb96 = World.alloc wb75 (.cells (u8s (List.replicate 32 0)) 24) → _ from ?_) _ rfl
            intro wb96 ew96
            rw [← ew96] at hal96 hnw96 hst96
            have HB96 := Lib.hid hal96
            have HX96 := Lib.hid (show ArrB wb96 wb75.heap.size 24 (List.replicate 32 0) from hnw96)
            have HY96 := Lib.hid (HY75.out.below hst96 HY75.out.lt)
            clear ew96 hal96 hnw96 hst96
            refine wpAnyH_ready (rs := [2]) (by decide +kernel) (by simp) ?_
            refine AllReadyH.cons rfl (fun K hK => ?_) AllReadyH.nil
            go_simp
            have hal97 := HB96.out.alloc HB96.out.size (.cells #[] 5)
            have hnw97 := heap_alloc_new wb96 (.cells #[] 5)
            have hst97 := (Below.refl wb96.heap.size wb96).alloc (Nat.le_refl _) (.cells #[] 5)
            have hon97 := own_mono (own_empty wb96) HB96.out.size
            refine hK.out _ (World.alloc wb96 (.cells #[] 5)) (HGC.out _ hal97) (fun hHeld => ?_)
            clear hK K
            try simp only [Act.put, List.setIfInBounds_toArray, List.set_cons_zero, List.set_cons_succ]
            refine (show ∀ wb97 : World, wb97 = World.alloc wb96 (.cells #[] 5) → _ from ?_) _ rfl
            intro wb97 ew97
            rw [← ew97] at hal97 hnw97 hst97 hon97
            have HB97 := Lib.hid hal97
            have HO97 := Lib.hid hon97
            have HX97 := Lib.hid (HX96.out.below hst97 HX96.out.lt)
            have HY97 := Lib.hid (HY96.out.below hst97 HY96.out.lt)
            have HQ97 := Lib.hid (show (Value.slice (some ⟨wb96.heap.size, 0, none⟩) 0 0).ownBlock ≠ some wr.drew.heap.size from fun e => absurd (Option.some.inj e) (Nat.ne_of_gt HY96.out.lt))
            clear ew97 hal97 hnw97 hst97 hon97
            refine wpAnyH_ready (rs := [4]) (by decide +kernel) (by simp) ?_
            refine AllReadyH.cons rfl (fun K hK => ?_) AllReadyH.nil
            obtain ⟨v98, wa98, hr98, ho98, hg98, hq98⟩ := run_append_last wb97 wr.heap.size 0 (.slice (some ⟨wb96.heap.size, 0, none⟩) 0 0) (.slice a10 bk.length c10) [] bk HO97.out (HL10.out.kept HB97.out) (by have := HKB.out.1; omega) HB97.out.size HBL.out.1 HBL.out.2
            rw [Nat.zero_add, List.nil_append] at ho98
            obtain ⟨aa98, cc98, rfl, _⟩ := own_shape ho98
            have HB98 := Lib.hid (HB97.out.grown hg98 HB97.out.size (fun k hk => (HO97.out.lt k hk).1))
            have HO98 := Lib.hid ho98
            have HX98 := Lib.hid (arr_grown HX97.out hg98 (arr_own_ne HO97.out HX97.out (by decide)))
            have HY98 := Lib.hid (arr_grown HY97.out hg98 HQ97.out)
            have HQ98 := Lib.hid (hq98 _ _ HY97.out HQ97.out)
            rw [if_pos (by kernel_rfl)]
            refine wp_append_run (o := ⟨some 30, _, _, _, _, _⟩) (.tmp 28) (.tmp 29) 22 22 rfl _ _ _ _ rfl rfl hr98 ?_
            clear hr98 ho98 hg98 hq98
            refine hK.out _ _ (HGC.out _ HB98.out) (fun hHeld => ?_)
            clear hK K
            try simp only [Act.put, List.setIfInBounds_toArray, List.set_cons_zero, List.set_cons_succ]
            refine wpAnyH_ready (rs := [6]) (by decide +kernel) (by simp) ?_
            refine AllReadyH.cons rfl (fun K hK => ?_) AllReadyH.nil
            obtain ⟨v99, wa99, hr99, ho99, hg99, _⟩ := Lib.run_append_own_string (P := Tryd.prog) wa98 wr.heap.size 22 9 22 5 i0 Tryd.underlying22 Tryd.underlying9 HI.out.1 HI.out.2.1 HI.out.2.2.1 HI.out.2.2.2 (.slice aa98 bk.length cc98) bk.length (bk.map (.int .u8)) HO98.out s (by unfold maxLen; have := HKB.out.1; have := HN.out.2.1; omega) (by have := HKB.out.1; have := HN.out.2.1; omega) HB98.out.size
            rw [strCells_txt', ← List.map_append] at ho99
            obtain ⟨aa99, cc99, rfl, _⟩ := own_shape ho99
            have HB99 := Lib.hid (HB98.out.grown hg99 HB98.out.size (fun k hk => (HO98.out.lt k hk).1))
            have HO99 := Lib.hid ho99
            have HX99 := Lib.hid (arr_grown HX98.out hg99 (arr_own_ne HO98.out HX98.out (by decide)))
            have HY99 := Lib.hid (arr_grown HY98.out hg99 HQ98.out)
            rw [if_pos (by kernel_rfl)]
            refine wp_append_run (o := ⟨some 32, _, _, _, _, _⟩) (.tmp 30) (.tmp 31) 22 9 rfl _ _ _ _ rfl rfl hr99 ?_
            clear hr99 ho99 hg99
            refine hK.out _ _ (HGC.out _ HB99.out) (fun hHeld => ?_)
            clear hK K
            try simp only [Act.put, List.setIfInBounds_toArray, List.set_cons_zero, List.set_cons_succ]
            refine wpAnyH_ready (rs := [10]) (by decide +kernel) (by simp) ?_
            refine AllReadyH.cons rfl (fun K hK => ?_) AllReadyH.nil
            obtain ⟨v100, wa100, hr100, ho100, hg100⟩ := run_append_BS wa99 wr.heap.size (bk.length + s.size) (.slice aa99 (bk.length + s.size) cc99) (.slice (some ⟨wr.drew.heap.size, 0, none⟩) 1 1) ((bk ++ txt s).map (.int .u8)) [(j : Int)] HO99.out (bs_const HY99.out HBJ.out 1 rfl) (by have := HKB.out.1; have := HN.out.2.1; simp; omega) HB99.out.size
            rw [← List.map_append, List.append_assoc] at ho100
            obtain ⟨aa100, cc100, rfl, _⟩ := own_shape ho100
            have HB100 := Lib.hid (HB99.out.grown hg100 HB99.out.size (fun k hk => (HO99.out.lt k hk).1))
            have HS100 := Lib.hid (BS.of_own ho100 HLA.out HYA.out)
            have HX100 := Lib.hid (arr_grown HX99.out hg100 (arr_own_ne HO99.out HX99.out (by decide)))
            rw [if_pos (by kernel_rfl)]
            refine wp_append_run (o := ⟨some 36, _, _, _, _, _⟩) (.tmp 32) (.tmp 35) 22 22 rfl _ _ _ _ rfl rfl hr100 ?_
            clear hr100 ho100 hg100
            refine hK.out _ _ (HGC.out _ HB100.out) (fun hHeld => ?_)
            clear hK K
            try simp only [Act.put, List.setIfInBounds_toArray, List.set_cons_zero, List.set_cons_succ]
            refine wpAnyH_ready (rs := [11]) (by decide +kernel) (by simp) ?_
            refine AllReadyH.cons rfl (fun K hK => ?_) AllReadyH.nil
            go_simp
            go_at_call 39
            have hw101 := rmacwith_any key (bk ++ (txt s ++ [(j : Int)])) v _ g1 c1 g2 c2 wa100 (HMW.out.kept HB100.out) (HVW.out.kept HB100.out) HV.out.2 HS100.out (by have := HN.out.1; omega) (by rw [HLA.out]; have := HKB.out.1; have := HN.out.2.1; simp; omega)
            rw [← HEB.out] at hw101
            refine hw101.mono ?_
            rintro e ww101 ⟨rfl, hb101⟩
            have HB101 := Lib.hid (HB100.out.trans (hb101.mono HB100.out.size))
            have HX101 := Lib.hid (HX100.out.below hb101 HX100.out.lt)
            clear hb101 hw101
            go_wp2_with fail
            refine hK.out _ _ (HGC.out _ HB101.out) (fun hHeld => ?_)
            clear hK K
            try simp only [Act.put, List.setIfInBounds_toArray, List.set_cons_zero, List.set_cons_succ]
            refine wpAnyH_ready (rs := [13]) (by decide +kernel) (by simp) ?_
            refine AllReadyH.cons rfl (fun K hK => ?_) AllReadyH.nil
            rw [if_pos (by kernel_rfl)]
            refine wp_store_row (o := ⟨none, _, _, _, _, _⟩) 24 (.tmp 12) (.tmp 37) rfl (wb75.heap.size) (u8s N) rfl rfl 24 (u8s (List.replicate 32 0)) HX101.out SH.out SE.out (u8s_one _) ?_
            have hbl := below_setRow HB101.out (show wr.heap.size ≤ wb75.heap.size from HB75.out.size) (u8s N)
            refine hK.out _ _ (HGC.out _ hbl) (fun hHeld => ?_)
            clear hK K
            try simp only [Act.put]
            refine wpAnyH_done (by decide +kernel) ?_ _
            refine NoPanic.normal ?_
            show K0 _ _
            refine hK0 _ _ (Met.intro (hJ0 _ _ ?_))
            repeat apply Exists.intro
            exact ⟨⟨_, rfl, setRow_heap _ _ _ _ _ (0, 0) HX101.out, hbl⟩, rfl⟩
        · go_simp
          have hal102 := HBD.out.alloc HBD.out.size (.cells (u8s (List.replicate 32 0)) 24)
          have hnw102 := heap_alloc_new wr.drew (.cells (u8s (List.replicate 32 0)) 24)
          have hst102 := (Below.refl wr.drew.heap.size wr.drew).alloc (Nat.le_refl _) (.cells (u8s (List.replicate 32 0)) 24)
          refine hK.out _ (World.alloc wr.drew (.cells (u8s (List.replicate 32 0)) 24)) (HGC.out _ hal102) (fun hHeld => ?_)
          clear hK K
          try simp only [Act.put, List.setIfInBounds_toArray, List.set_cons_zero, List.set_cons_succ]
          refine (show ∀ wb102 : World, wb102 = World.alloc wr.drew (.cells (u8s (List.replicate 32 0)) 24) → _ from ?_) _ rfl
          intro wb102 ew102
          rw [← ew102] at hal102 hnw102 hst102
          have HB102 := Lib.hid hal102
          have HX102 := Lib.hid (show ArrB wb102 wr.drew.heap.size 24 (List.replicate 32 0) from hnw102)
          clear ew102 hal102 hnw102 hst102
          refine wpAnyH_ready (rs := [2, 9]) (by decide +kernel) (by simp) ?_
          refine AllReadyH.cons rfl (fun K hK => ?_) (AllReadyH.cons rfl (fun K hK => ?_) AllReadyH.nil)
          · go_simp
            have hal103 := HB102.out.alloc HB102.out.size (.cells #[] 5)
            have hnw103 := heap_alloc_new wb102 (.cells #[] 5)
            have hst103 := (Below.refl wb102.heap.size wb102).alloc (Nat.le_refl _) (.cells #[] 5)
            have hon103 := own_mono (own_empty wb102) HB102.out.size
            refine hK.out _ (World.alloc wb102 (.cells #[] 5)) (HGC.out _ hal103) (fun hHeld => ?_)
            clear hK K
            try simp only [Act.put, List.setIfInBounds_toArray, List.set_cons_zero, List.set_cons_succ]
            refine (show ∀ wb103 : World, wb103 = World.alloc wb102 (.cells #[] 5) → _ from ?_) _ rfl
            intro wb103 ew103
            rw [← ew103] at hal103 hnw103 hst103 hon103
            have HB103 := Lib.hid hal103
            have HO103 := Lib.hid hon103
            have HX103 := Lib.hid (HX102.out.below hst103 HX102.out.lt)
            clear ew103 hal103 hnw103 hst103 hon103
            refine wpAnyH_ready (rs := [4, 9]) (by decide +kernel) (by simp) ?_
            refine AllReadyH.cons rfl (fun K hK => ?_) (AllReadyH.cons rfl (fun K hK => ?_) AllReadyH.nil)
            · obtain ⟨v104, wa104, hr104, ho104, hg104, hq104⟩ := run_append_last wb103 wr.heap.size 0 (.slice (some ⟨wb102.heap.size, 0, none⟩) 0 0) (.slice a10 bk.length c10) [] bk HO103.out (HL10.out.kept HB103.out) (by have := HKB.out.1; omega) HB103.out.size HBL.out.1 HBL.out.2
              rw [Nat.zero_add, List.nil_append] at ho104
              obtain ⟨aa104, cc104, rfl, _⟩ := own_shape ho104
              have HB104 := Lib.hid (HB103.out.grown hg104 HB103.out.size (fun k hk => (HO103.out.lt k hk).1))
              have HO104 := Lib.hid ho104
              have HX104 := Lib.hid (arr_grown HX103.out hg104 (arr_own_ne HO103.out HX103.out (by decide)))
              rw [if_pos (by kernel_rfl)]
              refine wp_append_run (o := ⟨some 30, _, _, _, _, _⟩) (.tmp 28) (.tmp 29) 22 22 rfl _ _ _ _ rfl rfl hr104 ?_
              clear hr104 ho104 hg104 hq104
              refine hK.out _ _ (HGC.out _ HB104.out) (fun hHeld => ?_)
              clear hK K
              try simp only [Act.put, List.setIfInBounds_toArray, List.set_cons_zero, List.set_cons_succ]
              refine wpAnyH_ready (rs := [6, 9]) (by decide +kernel) (by simp) ?_
              refine AllReadyH.cons rfl (fun K hK => ?_) (AllReadyH.cons rfl (fun K hK => ?_) AllReadyH.nil)
              · obtain ⟨v105, wa105, hr105, ho105, hg105, _⟩ := Lib.run_append_own_string (P := Tryd.prog) wa104 wr.heap.size 22 9 22 5 i0 Tryd.underlying22 Tryd.underlying9 HI.out.1 HI.out.2.1 HI.out.2.2.1 HI.out.2.2.2 (.slice aa104 bk.length cc104) bk.length (bk.map (.int .u8)) HO104.out s (by unfold maxLen; have := HKB.out.1; have := HN.out.2.1; omega) (by have := HKB.out.1; have := HN.out.2.1; omega) HB104.out.size
                rw [strCells_txt', ← List.map_append] at ho105
                obtain ⟨aa105, cc105, rfl, _⟩ := own_shape ho105
                have HB105 := Lib.hid (HB104.out.grown hg105 HB104.out.size (fun k hk => (HO104.out.lt k hk).1))
                have HO105 := Lib.hid ho105
                have HX105 := Lib.hid (arr_grown HX104.out hg105 (arr_own_ne HO104.out HX104.out (by decide)))
                rw [if_pos (by kernel_rfl)]
                refine wp_append_run (o := ⟨some 32, _, _, _, _, _⟩) (.tmp 30) (.tmp 31) 22 9 rfl _ _ _ _ rfl rfl hr105 ?_
                clear hr105 ho105 hg105
                refine hK.out _ _ (HGC.out _ HB105.out) (fun hHeld => ?_)
                clear hK K
                try simp only [Act.put, List.setIfInBounds_toArray, List.set_cons_zero, List.set_cons_succ]
                refine wpAnyH_ready (rs := [9]) (by decide +kernel) (by simp) ?_
                refine AllReadyH.cons rfl (fun K hK => ?_) AllReadyH.nil
                go_simp
                have hal106 := HB105.out.alloc HB105.out.size (.cells (u8s [(j : Int)]) 5)
                have hnw106 := heap_alloc_new wa105 (.cells (u8s [(j : Int)]) 5)
                have hst106 := (Below.refl wa105.heap.size wa105).alloc (Nat.le_refl _) (.cells (u8s [(j : Int)]) 5)
                refine hK.out _ (World.alloc wa105 (.cells (u8s [(j : Int)]) 5)) (HGC.out _ hal106) (fun hHeld => ?_)
                clear hK K
                try simp only [Act.put, List.setIfInBounds_toArray, List.set_cons_zero, List.set_cons_succ]
                refine (show ∀ wb106 : World, wb106 = World.alloc wa105 (.cells (u8s [(j : Int)]) 5) → _ from ?_) _ rfl
                intro wb106 ew106
                rw [← ew106] at hal106 hnw106 hst106
                have HB106 := Lib.hid hal106
                have HY106 := Lib.hid (show ArrB wb106 wa105.heap.size 5 [(j : Int)] from hnw106)
                have HX106 := Lib.hid (HX105.out.below hst106 HX105.out.lt)
                have HO106 := Lib.hid (own_below HO105.out hst106)
                have HQ106 := Lib.hid (show Value.ownBlock (.slice aa105 (bk.length + s.size) cc105) ≠ some wa105.heap.size from fun e => Nat.lt_irrefl _ (HO105.out.lt _ e).2)
                clear ew106 hal106 hnw106 hst106
                refine wpAnyH_ready (rs := [10]) (by decide +kernel) (by simp) ?_
                refine AllReadyH.cons rfl (fun K hK => ?_) AllReadyH.nil
                obtain ⟨v107, wa107, hr107, ho107, hg107⟩ := run_append_BS wb106 wr.heap.size (bk.length + s.size) (.slice aa105 (bk.length + s.size) cc105) (.slice (some ⟨wa105.heap.size, 0, none⟩) 1 1) ((bk ++ txt s).map (.int .u8)) [(j : Int)] HO106.out (bs_const HY106.out HBJ.out 1 rfl) (by have := HKB.out.1; have := HN.out.2.1; simp; omega) HB106.out.size
                rw [← List.map_append, List.append_assoc] at ho107
                obtain ⟨aa107, cc107, rfl, _⟩ := own_shape ho107
                have HB107 := Lib.hid (HB106.out.grown hg107 HB106.out.size (fun k hk => (HO106.out.lt k hk).1))
                have HS107 := Lib.hid (BS.of_own ho107 HLA.out HYA.out)
                have HX107 := Lib.hid (arr_grown HX106.out hg107 (arr_own_ne HO106.out HX106.out (by decide)))
                rw [if_pos (by kernel_rfl)]
                refine wp_append_run (o := ⟨some 36, _, _, _, _, _⟩) (.tmp 32) (.tmp 35) 22 22 rfl _ _ _ _ rfl rfl hr107 ?_
                clear hr107 ho107 hg107
                refine hK.out _ _ (HGC.out _ HB107.out) (fun hHeld => ?_)
                clear hK K
                try simp only [Act.put, List.setIfInBounds_toArray, List.set_cons_zero, List.set_cons_succ]
                refine wpAnyH_ready (rs := [11]) (by decide +kernel) (by simp) ?_
                refine AllReadyH.cons rfl (fun K hK => ?_) AllReadyH.nil
                go_simp
                go_at_call 39
                have hw108 := rmacwith_any key (bk ++ (txt s ++ [(j : Int)])) v _ g1 c1 g2 c2 wa107 (HMW.out.kept HB107.out) (HVW.out.kept HB107.out) HV.out.2 HS107.out (by have := HN.out.1; omega) (by rw [HLA.out]; have := HKB.out.1; have := HN.out.2.1; simp; omega)
                rw [← HEB.out] at hw108
                refine hw108.mono ?_
                rintro e ww108 ⟨rfl, hb108⟩
                have HB108 := Lib.hid (HB107.out.trans (hb108.mono HB107.out.size))
                have HX108 := Lib.hid (HX107.out.below hb108 HX107.out.lt)
                clear hb108 hw108
                go_wp2_with fail
                refine hK.out _ _ (HGC.out _ HB108.out) (fun hHeld => ?_)
                clear hK K
                try simp only [Act.put, List.setIfInBounds_toArray, List.set_cons_zero, List.set_cons_succ]
                refine wpAnyH_ready (rs := [13]) (by decide +kernel) (by simp) ?_
                refine AllReadyH.cons rfl (fun K hK => ?_) AllReadyH.nil
                rw [if_pos (by kernel_rfl)]
                refine wp_store_row (o := ⟨none, _, _, _, _, _⟩) 24 (.tmp 12) (.tmp 37) rfl (wr.drew.heap.size) (u8s N) rfl rfl 24 (u8s (List.replicate 32 0)) HX108.out SH.out SE.out (u8s_one _) ?_
                have hbl := below_setRow HB108.out (show wr.heap.size ≤ wr.drew.heap.size from HBD.out.size) (u8s N)
                refine hK.out _ _ (HGC.out _ hbl) (fun hHeld => ?_)
                clear hK K
                try simp only [Act.put]
                refine wpAnyH_done (by decide +kernel) ?_ _
                refine NoPanic.normal ?_
                show K0 _ _
                refine hK0 _ _ (Met.intro (hJ0 _ _ ?_))
                repeat apply Exists.intro
                exact ⟨⟨_, rfl, setRow_heap _ _ _ _ _ (0, 0) HX108.out, hbl⟩, rfl⟩
              · go_simp
                have hal109 := HB104.out.alloc HB104.out.size (.cells (u8s [(j : Int)]) 5)
                have hnw109 := heap_alloc_new wa104 (.cells (u8s [(j : Int)]) 5)
                have hst109 := (Below.refl wa104.heap.size wa104).alloc (Nat.le_refl _) (.cells (u8s [(j : Int)]) 5)
                refine hK.out _ (World.alloc wa104 (.cells (u8s [(j : Int)]) 5)) (HGC.out _ hal109) (fun hHeld => ?_)
                clear hK K
                try simp only [Act.put, List.setIfInBounds_toArray, List.set_cons_zero, List.set_cons_succ]
                refine (show ∀ wb109 : World, wb109 = World.alloc wa104 (.cells (u8s [(j : Int)]) 5) → _ from ?_) _ rfl
                intro wb109 ew109
                rw [← ew109] at hal109 hnw109 hst109
                have HB109 := Lib.hid hal109
                have HY109 := Lib.hid (show ArrB wb109 wa104.heap.size 5 [(j : Int)] from hnw109)
                have HX109 := Lib.hid (HX104.out.below hst109 HX104.out.lt)
                have HO109 := Lib.hid (own_below HO104.out hst109)
                have HQ109 := Lib.hid (show Value.ownBlock (.slice aa104 bk.length cc104) ≠ some wa104.heap.size from fun e => Nat.lt_irrefl _ (HO104.out.lt _ e).2)
                clear ew109 hal109 hnw109 hst109
                refine wpAnyH_ready (rs := [6]) (by decide +kernel) (by simp) ?_
                refine AllReadyH.cons rfl (fun K hK => ?_) AllReadyH.nil
                obtain ⟨v110, wa110, hr110, ho110, hg110, _⟩ := Lib.run_append_own_string (P := Tryd.prog) wb109 wr.heap.size 22 9 22 5 i0 Tryd.underlying22 Tryd.underlying9 HI.out.1 HI.out.2.1 HI.out.2.2.1 HI.out.2.2.2 (.slice aa104 bk.length cc104) bk.length (bk.map (.int .u8)) HO109.out s (by unfold maxLen; have := HKB.out.1; have := HN.out.2.1; omega) (by have := HKB.out.1; have := HN.out.2.1; omega) HB109.out.size
                rw [strCells_txt', ← List.map_append] at ho110
                obtain ⟨aa110, cc110, rfl, _⟩ := own_shape ho110
                have HB110 := Lib.hid (HB109.out.grown hg110 HB109.out.size (fun k hk => (HO109.out.lt k hk).1))
                have HO110 := Lib.hid ho110
                have HX110 := Lib.hid (arr_grown HX109.out hg110 (arr_own_ne HO109.out HX109.out (by decide)))
                have HY110 := Lib.hid (arr_grown HY109.out hg110 HQ109.out)
                rw [if_pos (by kernel_rfl)]
                refine wp_append_run (o := ⟨some 32, _, _, _, _, _⟩) (.tmp 30) (.tmp 31) 22 9 rfl _ _ _ _ rfl rfl hr110 ?_
                clear hr110 ho110 hg110
                refine hK.out _ _ (HGC.out _ HB110.out) (fun hHeld => ?_)
                clear hK K
                try simp only [Act.put, List.setIfInBounds_toArray, List.set_cons_zero, List.set_cons_succ]
                refine wpAnyH_ready (rs := [10]) (by decide +kernel) (by simp) ?_
                refine AllReadyH.cons rfl (fun K hK => ?_) AllReadyH.nil
                obtain ⟨v111, wa111, hr111, ho111, hg111⟩ := run_append_BS wa110 wr.heap.size (bk.length + s.size) (.slice aa110 (bk.length + s.size) cc110) (.slice (some ⟨wa104.heap.size, 0, none⟩) 1 1) ((bk ++ txt s).map (.int .u8)) [(j : Int)] HO110.out (bs_const HY110.out HBJ.out 1 rfl) (by have := HKB.out.1; have := HN.out.2.1; simp; omega) HB110.out.size
                rw [← List.map_append, List.append_assoc] at ho111
                obtain ⟨aa111, cc111, rfl, _⟩ := own_shape ho111
                have HB111 := Lib.hid (HB110.out.grown hg111 HB110.out.size (fun k hk => (HO110.out.lt k hk).1))
                have HS111 := Lib.hid (BS.of_own ho111 HLA.out HYA.out)
                have HX111 := Lib.hid (arr_grown HX110.out hg111 (arr_own_ne HO110.out HX110.out (by decide)))
                rw [if_pos (by kernel_rfl)]
                refine wp_append_run (o := ⟨some 36, _, _, _, _, _⟩) (.tmp 32) (.tmp 35) 22 22 rfl _ _ _ _ rfl rfl hr111 ?_
                clear hr111 ho111 hg111
                refine hK.out _ _ (HGC.out _ HB111.out) (fun hHeld => ?_)
                clear hK K
                try simp only [Act.put, List.setIfInBounds_toArray, List.set_cons_zero, List.set_cons_succ]
                refine wpAnyH_ready (rs := [11]) (by decide +kernel) (by simp) ?_
                refine AllReadyH.cons rfl (fun K hK => ?_) AllReadyH.nil
                go_simp
                go_at_call 39
                have hw112 := rmacwith_any key (bk ++ (txt s ++ [(j : Int)])) v _ g1 c1 g2 c2 wa111 (HMW.out.kept HB111.out) (HVW.out.kept HB111.out) HV.out.2 HS111.out (by have := HN.out.1; omega) (by rw [HLA.out]; have := HKB.out.1; have := HN.out.2.1; simp; omega)
                rw [← HEB.out] at hw112
                refine hw112.mono ?_
                rintro e ww112 ⟨rfl, hb112⟩
                have HB112 := Lib.hid (HB111.out.trans (hb112.mono HB111.out.size))
                have HX112 := Lib.hid (HX111.out.below hb112 HX111.out.lt)
                clear hb112 hw112
                go_wp2_with fail
                refine hK.out _ _ (HGC.out _ HB112.out) (fun hHeld => ?_)
                clear hK K
                try simp only [Act.put, List.setIfInBounds_toArray, List.set_cons_zero, List.set_cons_succ]
                refine wpAnyH_ready (rs := [13]) (by decide +kernel) (by simp) ?_
                refine AllReadyH.cons rfl (fun K hK => ?_) AllReadyH.nil
                rw [if_pos (by kernel_rfl)]
                refine wp_store_row (o := ⟨none, _, _, _, _, _⟩) 24 (.tmp 12) (.tmp 37) rfl (wr.drew.heap.size) (u8s N) rfl rfl 24 (u8s (List.replicate 32 0)) HX112.out SH.out SE.out (u8s_one _) ?_
                have hbl := below_setRow HB112.out (show wr.heap.size ≤ wr.drew.heap.size from HBD.out.size) (u8s N)
                refine hK.out _ _ (HGC.out _ hbl) (fun hHeld => ?_)
                clear hK K
                try simp only [Act.put]
                refine wpAnyH_done (by decide +kernel) ?_ _
                refine NoPanic.normal ?_
                show K0 _ _
                refine hK0 _ _ (Met.intro (hJ0 _ _ ?_))
                repeat apply Exists.intro
                exact ⟨⟨_, rfl, setRow_heap _ _ _ _ _ (0, 0) HX112.out, hbl⟩, rfl⟩
            · go_simp
              have hal113 := HB103.out.alloc HB103.out.size (.cells (u8s [(j : Int)]) 5)
              have hnw113 := heap_alloc_new wb103 (.cells (u8s [(j : Int)]) 5)
              have hst113 := (Below.refl wb103.heap.size wb103).alloc (Nat.le_refl _) (.cells (u8s [(j : Int)]) 5)
              refine hK.out _ (World.alloc wb103 (.cells (u8s [(j : Int)]) 5)) (HGC.out _ hal113) (fun hHeld => ?_)
              clear hK K
              try simp only [Act.put, List.setIfInBounds_toArray, List.set_cons_zero, List.set_cons_succ]
              refine (show ∀ wb113 : World, wb113 = World.alloc wb103 (.cells (u8s [(j : Int)]) 5) → _ from ?_) _ rfl
              intro wb113 ew113
              rw [← ew113] at hal113 hnw113 hst113
              have HB113 := Lib.hid hal113
              have HY113 := Lib.hid (show ArrB wb113 wb103.heap.size 5 [(j : Int)] from hnw113)
              have HX113 := Lib.hid (HX103.out.below hst113 HX103.out.lt)
              have HO113 := Lib.hid (own_below HO103.out hst113)
              have HQ113 := Lib.hid (show Value.ownBlock (.slice (some ⟨wb102.heap.size, 0, none⟩) 0 0) ≠ some wb103.heap.size from fun e => Nat.lt_irrefl _ (HO103.out.lt _ e).2)
              clear ew113 hal113 hnw113 hst113
              refine wpAnyH_ready (rs := [4]) (by decide +kernel) (by simp) ?_
              refine AllReadyH.cons rfl (fun K hK => ?_) AllReadyH.nil
              obtain ⟨v114, wa114, hr114, ho114, hg114, hq114⟩ := run_append_last wb113 wr.heap.size 0 (.slice (some ⟨wb102.heap.size, 0, none⟩) 0 0) (.slice a10 bk.length c10) [] bk HO113.out (HL10.out.kept HB113.out) (by have := HKB.out.1; omega) HB113.out.size HBL.out.1 HBL.out.2
              rw [Nat.zero_add, List.nil_append] at ho114
              obtain ⟨aa114, cc114, rfl, _⟩ := own_shape ho114
              have HB114 := Lib.hid (HB113.out.grown hg114 HB113.out.size (fun k hk => (HO113.out.lt k hk).1))
              have HO114 := Lib.hid ho114
              have HX114 := Lib.hid (arr_grown HX113.out hg114 (arr_own_ne HO113.out HX113.out (by decide)))
              have HY114 := Lib.hid (arr_grown HY113.out hg114 HQ113.out)
              have HQ114 := Lib.hid (hq114 _ _ HY113.out HQ113.out)
              rw [if_pos (by kernel_rfl)]
              refine wp_append_run (o := ⟨some 30, _, _, _, _, _⟩) (.tmp 28) (.tmp 29) 22 22 rfl _ _ _ _ rfl rfl hr114 ?_
              clear hr114 ho114 hg114 hq114
              refine hK.out _ _ (HGC.out _ HB114.out) (fun hHeld => ?_)
              clear hK K
              try simp only [Act.put, List.setIfInBounds_toArray, List.set_cons_zero, List.set_cons_succ]
              refine wpAnyH_ready (rs := [6]) (by decide +kernel) (by simp) ?_
              refine AllReadyH.cons rfl (fun K hK => ?_) AllReadyH.nil
              obtain ⟨v115, wa115, hr115, ho115, hg115, _⟩ := Lib.run_append_own_string (P := Tryd.prog) wa114 wr.heap.size 22 9 22 5 i0 Tryd.underlying22 Tryd.underlying9 HI.out.1 HI.out.2.1 HI.out.2.2.1 HI.out.2.2.2 (.slice aa114 bk.length cc114) bk.length (bk.map (.int .u8)) HO114.out s (by unfold maxLen; have := HKB.out.1; have := HN.out.2.1; omega) (by have := HKB.out.1; have := HN.out.2.1; omega) HB114.out.size
              rw [strCells_txt', ← List.map_append] at ho115
              obtain ⟨aa115, cc115, rfl, _⟩ := own_shape ho115
              have HB115 := Lib.hid (HB114.out.grown hg115 HB114.out.size (fun k hk => (HO114.out.lt k hk).1))
              have HO115 := Lib.hid ho115
              have HX115 := Lib.hid (arr_grown HX114.out hg115 (arr_own_ne HO114.out HX114.out (by decide)))
              have HY115 := Lib.hid (arr_grown HY114.out hg115 HQ114.out)
              rw [if_pos (by kernel_rfl)]
              refine wp_append_run (o := ⟨some 32, _, _, _, _, _⟩) (.tmp 30) (.tmp 31) 22 9 rfl _ _ _ _ rfl rfl hr115 ?_
              clear hr115 ho115 hg115
              refine hK.out _ _ (HGC.out _ HB115.out) (fun hHeld => ?_)
              clear hK K
              try simp only [Act.put, List.setIfInBounds_toArray, List.set_cons_zero, List.set_cons_succ]
              refine wpAnyH_ready (rs := [10]) (by decide +kernel) (by simp) ?_
              refine AllReadyH.cons rfl (fun K hK => ?_) AllReadyH.nil
              obtain ⟨v116, wa116, hr116, ho116, hg116⟩ := run_append_BS wa115 wr.heap.size (bk.length + s.size) (.slice aa115 (bk.length + s.size) cc115) (.slice (some ⟨wb103.heap.size, 0, none⟩) 1 1) ((bk ++ txt s).map (.int .u8)) [(j : Int)] HO115.out (bs_const HY115.out HBJ.out 1 rfl) (by have := HKB.out.1; have := HN.out.2.1; simp; omega) HB115.out.size
              rw [← List.map_append, List.append_assoc] at ho116
              obtain ⟨aa116, cc116, rfl, _⟩ := own_shape ho116
              have HB116 := Lib.hid (HB115.out.grown hg116 HB115.out.size (fun k hk => (HO115.out.lt k hk).1))
              have HS116 := Lib.hid (BS.of_own ho116 HLA.out HYA.out)
              have HX116 := Lib.hid (arr_grown HX115.out hg116 (arr_own_ne HO115.out HX115.out (by decide)))
              rw [if_pos (by kernel_rfl)]
              refine wp_append_run (o := ⟨some 36, _, _, _, _, _⟩) (.tmp 32) (.tmp 35) 22 22 rfl _ _ _ _ rfl rfl hr116 ?_
              clear hr116 ho116 hg116
              refine hK.out _ _ (HGC.out _ HB116.out) (fun hHeld => ?_)
              clear hK K
              try simp only [Act.put, List.setIfInBounds_toArray, List.set_cons_zero, List.set_cons_succ]
              refine wpAnyH_ready (rs := [11]) (by decide +kernel) (by simp) ?_
              refine AllReadyH.cons rfl (fun K hK => ?_) AllReadyH.nil
              go_simp
              go_at_call 39
              have hw117 := rmacwith_any key (bk ++ (txt s ++ [(j : Int)])) v _ g1 c1 g2 c2 wa116 (HMW.out.kept HB116.out) (HVW.out.kept HB116.out) HV.out.2 HS116.out (by have := HN.out.1; omega) (by rw [HLA.out]; have := HKB.out.1; have := HN.out.2.1; simp; omega)
              rw [← HEB.out] at hw117
              refine hw117.mono ?_
              rintro e ww117 ⟨rfl, hb117⟩
              have HB117 := Lib.hid (HB116.out.trans (hb117.mono HB116.out.size))
              have HX117 := Lib.hid (HX116.out.below hb117 HX116.out.lt)
              clear hb117 hw117
              go_wp2_with fail
              refine hK.out _ _ (HGC.out _ HB117.out) (fun hHeld => ?_)
              clear hK K
              try simp only [Act.put, List.setIfInBounds_toArray, List.set_cons_zero, List.set_cons_succ]
              refine wpAnyH_ready (rs := [13]) (by decide +kernel) (by simp) ?_
              refine AllReadyH.cons rfl (fun K hK => ?_) AllReadyH.nil
              rw [if_pos (by kernel_rfl)]
              refine wp_store_row (o := ⟨none, _, _, _, _, _⟩) 24 (.tmp 12) (.tmp 37) rfl (wr.drew.heap.size) (u8s N) rfl rfl 24 (u8s (List.replicate 32 0)) HX117.out SH.out SE.out (u8s_one _) ?_
              have hbl := below_setRow HB117.out (show wr.heap.size ≤ wr.drew.heap.size from HBD.out.size) (u8s N)
              refine hK.out _ _ (HGC.out _ hbl) (fun hHeld => ?_)
              clear hK K
              try simp only [Act.put]
              refine wpAnyH_done (by decide +kernel) ?_ _
              refine NoPanic.normal ?_
              show K0 _ _
              refine hK0 _ _ (Met.intro (hJ0 _ _ ?_))
              repeat apply Exists.intro
              exact ⟨⟨_, rfl, setRow_heap _ _ _ _ _ (0, 0) HX117.out, hbl⟩, rfl⟩
          · go_simp
            have hal118 := HB102.out.alloc HB102.out.size (.cells (u8s [(j : Int)]) 5)
            have hnw118 := heap_alloc_new wb102 (.cells (u8s [(j : Int)]) 5)
            have hst118 := (Below.refl wb102.heap.size wb102).alloc (Nat.le_refl _) (.cells (u8s [(j : Int)]) 5)
            refine hK.out _ (World.alloc wb102 (.cells (u8s [(j : Int)]) 5)) (HGC.out _ hal118) (fun hHeld => ?_)
            clear hK K
            try simp only [Act.put, List.setIfInBounds_toArray, List.set_cons_zero, List.set_cons_succ]
            refine (show ∀ wb118 : World, wb118 = World.alloc wb102 (.cells (u8s [(j : Int)]) 5) → _ from ?_) _ rfl
            intro wb118 ew118
            rw [← ew118] at hal118 hnw118 hst118
            have HB118 := Lib.hid hal118
            have HY118 := Lib.hid (show ArrB wb118 wb102.heap.size 5 [(j : Int)] from hnw118)
            have HX118 := Lib.hid (HX102.out.below hst118 HX102.out.lt)
            clear ew118 hal118 hnw118 hst118
            refine wpAnyH_ready (rs := [2]) (by decide +kernel) (by simp) ?_
            refine AllReadyH.cons rfl (fun K hK => ?_) AllReadyH.nil
            go_simp
            have hal119 := HB118.out.alloc HB118.out.size (.cells #[] 5)
            have hnw119 := heap_alloc_new wb118 (.cells #[] 5)
            have hst119 := (Below.refl wb118.heap.size wb118).alloc (Nat.le_refl _) (.cells #[] 5)
            have hon119 := own_mono (own_empty wb118) HB118.out.size
            refine hK.out _ (World.alloc wb118 (.cells #[] 5)) (HGC.out _ hal119) (fun hHeld => ?_)
            clear hK K
            try simp only [Act.put, List.setIfInBounds_toArray, List.set_cons_zero, List.set_cons_succ]
            refine (show ∀ wb119 : World, wb119 = World.alloc wb118 (.cells #[] 5) → _ from ?_) _ rfl
            intro wb119 ew119
            rw [← ew119] at hal119 hnw119 hst119 hon119
            have HB119 := Lib.hid hal119
            have HO119 := Lib.hid hon119
            have HX119 := Lib.hid (HX118.out.below hst119 HX118.out.lt)
            have HY119 := Lib.hid (HY118.out.below hst119 HY118.out.lt)
            have HQ119 := Lib.hid (show (Value.slice (some ⟨wb118.heap.size, 0, none⟩) 0 0).ownBlock ≠ some wb102.heap.size from fun e => absurd (Option.some.inj e) (Nat.ne_of_gt HY118.out.lt))
            clear ew119 hal119 hnw119 hst119 hon119
            refine wpAnyH_ready (rs := [4]) (by decide +kernel) (by simp) ?_
            refine AllReadyH.cons rfl (fun K hK => ?_) AllReadyH.nil
            obtain ⟨v120, wa120, hr120, ho120, hg120, hq120⟩ := run_append_last wb119 wr.heap.size 0 (.slice (some ⟨wb118.heap.size, 0, none⟩) 0 0) (.slice a10 bk.length c10) [] bk HO119.out (HL10.out.kept HB119.out) (by have := HKB.out.1; omega) HB119.out.size HBL.out.1 HBL.out.2
            rw [Nat.zero_add, List.nil_append] at ho120
            obtain ⟨aa120, cc120, rfl, _⟩ := own_shape ho120
            have HB120 := Lib.hid (HB119.out.grown hg120 HB119.out.size (fun k hk => (HO119.out.lt k hk).1))
            have HO120 := Lib.hid ho120
            have HX120 := Lib.hid (arr_grown HX119.out hg120 (arr_own_ne HO119.out HX119.out (by decide)))
            have HY120 := Lib.hid (arr_grown HY119.out hg120 HQ119.out)
            have HQ120 := Lib.hid (hq120 _ _ HY119.out HQ119.out)
            rw [if_pos (by kernel_rfl)]
            refine wp_append_run (o := ⟨some 30, _, _, _, _, _⟩) (.tmp 28) (.tmp 29) 22 22 rfl _ _ _ _ rfl rfl hr120 ?_
            clear hr120 ho120 hg120 hq120
            refine hK.out _ _ (HGC.out _ HB120.out) (fun hHeld => ?_)
            clear hK K
            try simp only [Act.put, List.setIfInBounds_toArray, List.set_cons_zero, List.set_cons_succ]
            refine wpAnyH_ready (rs := [6]) (by decide +kernel) (by simp) ?_
            refine AllReadyH.cons rfl (fun K hK => ?_) AllReadyH.nil
            obtain ⟨v121, wa121, hr121, ho121, hg121, _⟩ := Lib.run_append_own_string (P := Tryd.prog) wa120 wr.heap.size 22 9 22 5 i0 Tryd.underlying22 Tryd.underlying9 HI.out.1 HI.out.2.1 HI.out.2.2.1 HI.out.2.2.2 (.slice aa120 bk.length cc120) bk.length (bk.map (.int .u8)) HO120.out s (by unfold maxLen; have := HKB.out.1; have := HN.out.2.1; omega) (by have := HKB.out.1; have := HN.out.2.1; omega) HB120.out.size
            rw [strCells_txt', ← List.map_append] at ho121
            obtain ⟨aa121, cc121, rfl, _⟩ := own_shape ho121
            have HB121 := Lib.hid (HB120.out.grown hg121 HB120.out.size (fun k hk => (HO120.out.lt k hk).1))
            have HO121 := Lib.hid ho121
            have HX121 := Lib.hid (arr_grown HX120.out hg121 (arr_own_ne HO120.out HX120.out (by decide)))
            have HY121 := Lib.hid (arr_grown HY120.out hg121 HQ120.out)
            rw [if_pos (by kernel_rfl)]
            refine wp_append_run (o := ⟨some 32, _, _, _, _, _⟩) (.tmp 30) (.tmp 31) 22 9 rfl _ _ _ _ rfl rfl hr121 ?_
            clear hr121 ho121 hg121
            refine hK.out _ _ (HGC.out _ HB121.out) (fun hHeld => ?_)
            clear hK K
            try simp only [Act.put, List.setIfInBounds_toArray, List.set_cons_zero, List.set_cons_succ]
            refine wpAnyH_ready (rs := [10]) (by decide +kernel) (by simp) ?_
            refine AllReadyH.cons rfl (fun K hK => ?_) AllReadyH.nil
            obtain ⟨v122, wa122, hr122, ho122, hg122⟩ := run_append_BS wa121 wr.heap.size (bk.length + s.size) (.slice aa121 (bk.length + s.size) cc121) (.slice (some ⟨wb102.heap.size, 0, none⟩) 1 1) ((bk ++ txt s).map (.int .u8)) [(j : Int)] HO121.out (bs_const HY121.out HBJ.out 1 rfl) (by have := HKB.out.1; have := HN.out.2.1; simp; omega) HB121.out.size
            rw [← List.map_append, List.append_assoc] at ho122
            obtain ⟨aa122, cc122, rfl, _⟩ := own_shape ho122
            have HB122 := Lib.hid (HB121.out.grown hg122 HB121.out.size (fun k hk => (HO121.out.lt k hk).1))
            have HS122 := Lib.hid (BS.of_own ho122 HLA.out HYA.out)
            have HX122 := Lib.hid (arr_grown HX121.out hg122 (arr_own_ne HO121.out HX121.out (by decide)))
            rw [if_pos (by kernel_rfl)]
            refine wp_append_run (o := ⟨some 36, _, _, _, _, _⟩) (.tmp 32) (.tmp 35) 22 22 rfl _ _ _ _ rfl rfl hr122 ?_
            clear hr122 ho122 hg122
            refine hK.out _ _ (HGC.out _ HB122.out) (fun hHeld => ?_)
            clear hK K
            try simp only [Act.put, List.setIfInBounds_toArray, List.set_cons_zero, List.set_cons_succ]
            refine wpAnyH_ready (rs := [11]) (by decide +kernel) (by simp) ?_
            refine AllReadyH.cons rfl (fun K hK => ?_) AllReadyH.nil
            go_simp
            go_at_call 39
            have hw123 := rmacwith_any key (bk ++ (txt s ++ [(j : Int)])) v _ g1 c1 g2 c2 wa122 (HMW.out.kept HB122.out) (HVW.out.kept HB122.out) HV.out.2 HS122.out (by have := HN.out.1; omega) (by rw [HLA.out]; have := HKB.out.1; have := HN.out.2.1; simp; omega)
            rw [← HEB.out] at hw123
            refine hw123.mono ?_
            rintro e ww123 ⟨rfl, hb123⟩
            have HB123 := Lib.hid (HB122.out.trans (hb123.mono HB122.out.size))
            have HX123 := Lib.hid (HX122.out.below hb123 HX122.out.lt)
            clear hb123 hw123
            go_wp2_with fail
            refine hK.out _ _ (HGC.out _ HB123.out) (fun hHeld => ?_)
            clear hK K
            try simp only [Act.put, List.setIfInBounds_toArray, List.set_cons_zero, List.set_cons_succ]
            refine wpAnyH_ready (rs := [13]) (by decide +kernel) (by simp) ?_
            refine AllReadyH.cons rfl (fun K hK => ?_) AllReadyH.nil
            rw [if_pos (by kernel_rfl)]
            refine wp_store_row (o := ⟨none, _, _, _, _, _⟩) 24 (.tmp 12) (.tmp 37) rfl (wr.drew.heap.size) (u8s N) rfl rfl 24 (u8s (List.replicate 32 0)) HX123.out SH.out SE.out (u8s_one _) ?_
            have hbl := below_setRow HB123.out (show wr.heap.size ≤ wr.drew.heap.size from HBD.out.size) (u8s N)
            refine hK.out _ _ (HGC.out _ hbl) (fun hHeld => ?_)
            clear hK K
            try simp only [Act.put]
            refine wpAnyH_done (by decide +kernel) ?_ _
            refine NoPanic.normal ?_
            show K0 _ _
            refine hK0 _ _ (Met.intro (hJ0 _ _ ?_))
            repeat apply Exists.intro
            exact ⟨⟨_, rfl, setRow_heap _ _ _ _ _ (0, 0) HX123.out, hbl⟩, rfl⟩
      rename World => wc
      obtain ⟨X, rfl, hA, hbc⟩ := hcut
      have HBC := Lib.hid hbc
      have hxb := BS.of_arr hA HNB.out.2
      rw [HNB.out.1] at hxb
      have hne := own_empty wc
      have hbd := (Below.refl wc.heap.size wc).alloc (Nat.le_refl _) (.cells #[] 5)
      have HNE := Lib.hid hne
      have HBD := Lib.hid hbd
      have HXN := Lib.hid (hxb.kept hbd)
      have sa := slice_all32
      clear hA hbc hxb hne hbd
      go_wp2_with (first
        | (at_builtin; (with_reducible refine wpList_append_BS (o := ⟨some 40, _, _, _, _, _⟩) rfl _ _ rfl wc.heap.size (.slice (some ⟨wc.heap.size, 0, none⟩) 0 0) 0 [] rfl HNE.out (.slice (some ⟨X, 0, none⟩) 32 32) N rfl HXN.out (by rw [HNB.out.1]; omega) (by simp) ?_); intro v40 w40 ho40 hg40; (rw [Nat.zero_add, HNB.out.1, List.nil_append] at ho40); obtain ⟨a40, c40, rfl, _⟩ := own_shape ho40; have HBS40 := Lib.hid (BS.of_own ho40 HNB.out.1 HNB.out.2); have HOS40 := Lib.hid ho40; have HB40 := Lib.hid (HBC.out.trans ((HBD.out.grown hg40 (by simp) (fun k hk => by have h : wc.heap.size = k := Option.some.inj hk; omega)).mono HBC.out.size)); have HO40 := Lib.hid (own_below HO9.out HB40.out); clear ho40 hg40)
        | (at_builtin; (with_reducible refine wpList_append_BS (o := ⟨some 43, _, _, _, _, _⟩) rfl _ _ rfl W2.heap.size (.slice a9 p c9) p ((expAll key (txt s) k).map (.int .u8)) rfl HO40.out (.slice a40 32 c40) N rfl HBS40.out (by rw [HNB.out.1]; omega) (HBE.out.trans (HB40.out.mono HBE.out.size)).size ?_); intro v43 w43 ho43 hg43; (rw [HNB.out.1, ← List.map_append, ← HFB.out] at ho43); obtain ⟨a43, c43, rfl, _⟩ := own_shape ho43; have HO43 := Lib.hid ho43; have HG43 := Lib.hid hg43; clear ho43 hg43))
      have e1 : p + 32 = 32 * j := by have := HKJ.out; omega
      refine ⟨⟨j, a43, c43, a40, c40, by have := HKJ.out; omega, congrArg (Value.int .i64) (by omega), by rw [e1], by rw [HNN.out, HNB.out.1], ?_, ?_, fun e => absurd e (by have := HKJ.out; omega), ?_⟩, ?_⟩
      · rw [← e1]
        exact HO43.out
      · rw [HNN.out, HNB.out.1]
        exact BS.of_own (own_apart HOS40.out HO9.out HG43.out HBC.out.size) HNB.out.1 HNB.out.2
      · exact (HBE.out.trans (HB40.out.mono HBE.out.size)).grown HG43.out (HBE.out.trans (HB40.out.mono HBE.out.size)).size (fun q hq => (HO40.out.lt q hq).1)
      · simp [intOf]
        omega
    · have hb9 := BS.of_own ho9 (expAll_length _ _ _) (expAll_byt _ _ _)
      obtain ⟨a2, _, _, hsl, hbs, _⟩ := slice_part wr a9 (32 * k) c9 0 n _ hb9 (expAll_length _ _ _) (Nat.zero_le _) (by omega) (room_of_own ho9 _ _ _ rfl).1
      have hsl2 := hsl rfl
      rw [Nat.sub_zero, Nat.sub_zero] at hsl2 hbs
      rw [List.drop_zero, show (expAll key (txt s) k).take n = expS key (txt s) n by unfold expS; rw [show (n + 31) / 32 = k by omega]] at hbs
      have hge : (n : Int) ≤ ((32 * k : Nat) : Int) := by omega
      have HBS := Lib.hid hbs
      have HBE := Lib.hid (HB2.out.trans (hbe.mono HB2.out.size))
      clear hb10 hz10 hb9 hbs hsl hbe ho9 hk hlt
      generalize 32 * k = p at *
      go_wp2_with fail
      go_ret2
      exact ⟨⟨_, rfl, HBS.out⟩, HBE.out⟩
end Go.Proofs.YtpmeiadnikenmaaDoor
