/-
  Ubers: numbers split into bytes and joined, whether one may be, its bytes ahead of the code, bytes read.
-/
import Derived.Test.YtocdjaenhllemaaDoorUv
import Derived.Test.YtocdjaenhllemaaDoorAlive3
namespace Go.Proofs.YtocdjaenhllemaaDoor
set_option maxRecDepth 4000
open Go.ChangeShapes Go.WideShapes Go.ChangeAt Go.RowKit

set_option maxHeartbeats 400000 in
theorem usplit_any (x : Int) (n : Nat) (w : World) (h2 : n ≤ 8) :
    Calls Tryd.prog 34 #[.int .u64 x, .int .i64 n] w fun e w' => e = .returned (.slice (some ⟨w.heap.size, 0, none⟩) n n) ∧
       BS w' (.slice (some ⟨w.heap.size, 0, none⟩) n n) (putI x n) ∧ Below w.heap.size w w' := by
  obtain ⟨i0, hi, hz0, hz1, hz2⟩ := info_parts info_u8
  go_enter Tryd.func34, Tryd.ntmps34
  go_wp2_with (at_make; refine wpList_make_full _ rfl _ _ _ rfl w.heap.size 5 i0 (.int .u8 0) 1 Tryd.underlying22 hi hz0 hz1 .i64 .i64 _ _ n rfl rfl (by rfl) (by rfl) ?c1 ?c2 ?c3 ?_)
  case c1 => rw [hz2]; omega
  case c2 => unfold maxLen; omega
  case c3 => omega
  intro w1 hown hgrow
  have hb := (Below.refl w.heap.size w).grown hgrow (Nat.le_refl _) (by simp)
  have hsz := hgrow.size
  clear hgrow
  generalize hB : w.heap.size = B at *
  clear hi hz0 hz1 hz2
  go_wp2
  go_loopw [11] (fun i wr => ∃ k : Nat, k ≤ n ∧ i = .int .i64 k ∧ wr.ownsRow B 5 1 (.slice (some ⟨B, 0, none⟩) n n) n ((putP x n k).map (.int .u8)) ∧ Below B w wr) (fun i _ => n - (intOf i).toNat)
  case atStart => exact ⟨0, by omega, rfl, by rw [putP_zero, ← toList_madeCells_one]; exact hown, hb⟩
  case round =>
    obtain ⟨k, hk, rfl, ho, hbe⟩ := hrel
    by_cases hlt : k < n
    · have hce : wr.cell? ⟨B, k, none⟩ = some (.int .u8 0) := (ho.cellAt k (by omega)).trans (putP_at x n k hlt)
      have hfr := ho.frozenAt k
      have hst := ho.stored k
      clear ho hown
      have HST := Lib.hid hst
      clear hst
      go_wp2
      go_roundw
      case rel => exact ⟨k + 1, by omega, by go_num, by rw [← putP_set x n k]; exact (HST.out _).1, hbe.setCell (Nat.le_refl _) _⟩
      case measure => simp [intOf]; omega
    · obtain rfl : k = n := by omega
      go_wp2
      go_ret
      subst hB
      rw [putP_full] at ho
      exact ⟨rfl, BS.of_owns ho (putI_length _ _) (putI_byt _ _), hbe⟩

set_option maxHeartbeats 400000 in
theorem ujoin_nil (w : World) (a : Option Addr) (cap : Nat) :
    Calls Tryd.prog 47 #[.slice a 0 cap] w fun e w' => e = .returned (.int .u64 0) ∧ w' = w := by
  go_enter Tryd.func47, Tryd.ntmps47
  go_wp2
  go_loop [3, 8] (fun x i => x = .int .u64 0 ∧ i = .int .i64 0) (fun _ i => 0)
  case atStart => exact ⟨rfl, rfl⟩
  case round =>
    obtain ⟨rfl, rfl⟩ := hrel
    go_wp2
    go_ret
    exact ⟨rfl, rfl⟩
set_option maxHeartbeats 400000 in
theorem ujoin_some (w : World) (b off cap : Nat) (l : List Int) (h8 : l.length ≤ 8) (hb : Byt l)
    (hc : ∀ i, i < l.length → w.cell? ⟨b, off + i, none⟩ = some (.int .u8 (l.getD i 0))) :
    Calls Tryd.prog 47 #[.slice (some ⟨b, off, none⟩) l.length cap] w fun e w' => e = .returned (.int .u64 (num l)) ∧ w' = w := by
  have HS := Lib.hid (fun k (hk : k < l.length) => get_step l hb k hk h8)
  generalize hn : l.length = n at *
  have HN := Lib.hid hn
  clear hn
  go_enter Tryd.func47, Tryd.ntmps47
  go_wp2
  go_loop [3, 8] (fun x i => ∃ k : Nat, k ≤ n ∧ i = .int .i64 k ∧ x = .int .u64 (num (l.take k))) (fun _ i => n - (intOf i).toNat)
  case atStart => exact ⟨0, by omega, rfl, rfl⟩
  case round =>
    obtain ⟨k, hk, rfl, rfl⟩ := hrel
    by_cases hlt : k < n
    · have hcx := hc k hlt
      clear hc
      obtain ⟨b1, b2⟩ := num_take_le l hb k (by omega)
      obtain ⟨c1, c2⟩ := byt_at l hb k
      go_wp2
      go_round
      case rel => exact ⟨k + 1, by omega, by go_num, by rw [HS.out k hlt]⟩
      case measure => simp [intOf]; omega
    · have hkn : k = n := by omega
      subst hkn
      go_wp2
      go_ret
      have e := HN.out
      exact ⟨by rw [List.take_of_length_le (by omega)]; rfl, rfl⟩
theorem ujoin_any (w : World) (v : Value) (l : List Int) (h : BS w v l) (h8 : l.length ≤ 8) :
    Calls Tryd.prog 47 #[v] w fun e w' => e = .returned (.int .u64 (num l)) ∧ w' = w := by
  obtain ⟨a, cap, rfl, hb, _, rfl | ⟨b, off, rfl, hc⟩⟩ := h
  · exact ujoin_nil w a cap
  · exact ujoin_some w b off cap l h8 hb hc

set_option maxRecDepth 100000 in
set_option maxHeartbeats 1600000 in
theorem ucheck_any (u : UbV) (w : World) :
    Calls Tryd.prog 13 #[.agg (ubRow u).toArray] w fun e w' => e = .returned (.int .i64 (checkU u)) ∧ Below w.heap.size w w' := by
  have hb := (Below.refl w.heap.size w).alloc (Nat.le_refl _) (.cells (ubRow u).toArray 30)
  have hA := heap_alloc_new w (.cells (ubRow u).toArray 30)
  obtain ⟨c0, c1, c2⟩ := ub_at hA
  have HR := Lib.hid c2
  have HB := Lib.hid hb
  have SP := Lib.hid (size_ptr u.q)
  have HP := Lib.hid (fun (W : World) => pcheck_any u.q u.sz W)
  have HT := Lib.hid u.t0
  have hz := u.z0
  have hw : IntKind.i64.wrap u.sz = u.sz := IntWalk.i64_in _ (by omega)
  have HE := Lib.hid (show checkU u = if (decide (u.tx ≠ 0) && decide (16 ≤ u.sz) && decide (u.sz ≤ 4096) && mayB u.q u.sz) then 0 else 4 from rfl)
  have HC := Lib.hid (show checkE u.q u.sz = if mayB u.q u.sz then 0 else 4 from rfl)
  clear c2 hb hA
  generalize checkU u = cu at *
  generalize checkE u.q u.sz = ce at *
  generalize mayB u.q u.sz = mb at *
  generalize (ptrRow u.q) = PR at *
  generalize (ubRow u).toArray = AR at *
  generalize u.tx = tx at *
  generalize u.sz = sz at *
  by_cases h1 : tx = 0
  · subst h1
    go_enter Tryd.func13, Tryd.ntmps13
    go_wp2_with fail
    go_ret
    exact ⟨by rw [HE.out]; simp, HB.out⟩
  have h1' : (tx == 0) = false := by simp [h1]
  by_cases h2 : sz < 16
  · go_enter Tryd.func13, Tryd.ntmps13
    go_wp2_with fail
    go_ret
    exact ⟨by rw [HE.out, show decide ((16 : Int) ≤ sz) = false by simp; omega]; simp, HB.out⟩
  by_cases h3 : 4096 < sz
  · go_enter Tryd.func13, Tryd.ntmps13
    go_wp2_with fail
    go_ret
    exact ⟨by rw [HE.out, show decide (sz ≤ (4096 : Int)) = false by simp; omega]; simp, HB.out⟩
  have HX := Lib.hid (show (decide (tx ≠ 0) && decide (16 ≤ sz) && decide (sz ≤ 4096) && mb) = mb by
    rw [decide_eq_true h1, decide_eq_true (show 16 ≤ sz by omega), decide_eq_true (show sz ≤ 4096 by omega)]; simp)
  have h2' : decide (sz < 16) = false := by simp; omega
  have h3' : decide (4096 < sz) = false := by simp; omega
  clear h2 h3
  go_enter Tryd.func13, Tryd.ntmps13
  go_wp2_with (first
    | (with_reducible refine wpList_load_mid (op := ⟨some 17, _, _, _, _, _⟩) rfl 28 _ rfl w.heap.size 2 rfl PR _ HR.out Tryd.underlying28 rfl SP.out ?_))
  refine (HP.out _).mono ?_
  rintro e w2 ⟨rfl, h2⟩
  have HB2 := Lib.hid (HB.out.trans (h2.mono HB.out.size))
  clear h2
  go_wp2_with fail
  go_ret
  refine ⟨?_, HB2.out⟩
  rw [HE.out, HX.out, ← HC.out]
  rfl

/-! ### the bytes ahead of the code -/
theorem own_low10 {w : World} {B B' n k : Nat} {e : TypeId} {v : Value} {xs : List Value} (h : w.ownsRow B e k v n xs) (hb : B' ≤ B) : w.ownsRow B' e k v n xs := by
  refine ⟨h.1, ?_⟩
  rcases h.2 with q | ⟨g, cap, cur, e1, e2, q⟩
  · exact .inl q
  · exact .inr ⟨g, cap, cur, e1, Nat.le_trans hb e2, q⟩
/-- A row of bytes of the call's own that is answered: as it reads, and as it is owned. -/
def OwnB (w w' : World) (e : Ending) (l : List Int) : Prop := ∃ a c, e = .returned (.slice a l.length c) ∧ l.length ≤ c ∧ BS w' (.slice a l.length c) l ∧ w'.ownsRow w.heap.size 5 1 (.slice a l.length c) l.length (l.map (Value.int .u8)) ∧ Below w.heap.size w w'
theorem wl_own (w0 w : World) (P : Nat) (l : List Int) (h : WL w0 w P l) (h63 : l.length ≤ 140737488351232) :
    Calls Tryd.prog 37 #[.pointer (some ⟨P, 0, none⟩)] w fun e w' => OwnB w0 w' e l := by
  have h' := h
  obtain ⟨v, h, hP, hb⟩ := h
  refine (wbytes_any P _ v l w h h63).mono fun e w' ⟨v', he, ho, hb'⟩ => ?_
  obtain ⟨a, c, rfl, hc, hbs⟩ := own_bs ho rfl h.byt
  exact ⟨a, c, he, hc, hbs, own_low10 ho hb.size, hb.trans (hb'.mono hb.size)⟩
theorem usplit_u64 (x : Int) (W : World) :
    Calls Tryd.prog 34 #[.int .u64 x, .int .i64 8] W fun e w' => e = .returned (.slice (some ⟨W.heap.size, 0, none⟩) 8 8) ∧ BS w' (.slice (some ⟨W.heap.size, 0, none⟩) 8 8) (putI x 8) ∧ Below W.heap.size W w' := usplit_any x 8 W (by decide)
theorem usplit_u32 (x : Int) (W : World) :
    Calls Tryd.prog 34 #[.int .u64 x, .int .i64 4] W fun e w' => e = .returned (.slice (some ⟨W.heap.size, 0, none⟩) 4 4) ∧ BS w' (.slice (some ⟨W.heap.size, 0, none⟩) 4 4) (putI x 4) ∧ Below W.heap.size W w' := usplit_any x 4 W (by decide)
theorem bs_lit10 (w : World) (l : List Int) (fr : Nat × Nat) (hb : Byt l) : BS (w.alloc (.cells (l.map (Value.int .u8)).toArray 5 fr)) (.slice (some ⟨w.heap.size, 0, none⟩) l.length l.length) l := by
  refine ⟨_, _, rfl, hb, nofun, .inr ⟨_, 0, rfl, fun i hi => ?_⟩⟩
  rw [cell_of_row _ _ _ _ _ _ (heap_alloc_new w _)]
  simp [hi]
theorem bs_head (W : World) : BS (W.alloc (.cells #[.int .u8 66, .int .u8 78, .int .u8 89, .int .u8 78] 5 (4, 5))) (.slice (some ⟨W.heap.size, 0, none⟩) 4 4) headB := bs_lit10 W headB (4, 5) headB_byt
set_option maxRecDepth 100000 in
set_option maxHeartbeats 1600000 in
theorem ulay_any (u : UbV) (w : World) :
    Calls Tryd.prog 23 #[.agg (ubRow u).toArray] w fun e w' => OwnB w w' e (plainB u) := by
  have hz := zero_writer
  have hb1 := (Below.refl w.heap.size w).alloc (Nat.le_refl _) (.cells (ubRow u).toArray 30)
  have hA := heap_alloc_new w (.cells (ubRow u).toArray 30)
  have hT : w.heap.size < (w.alloc (.cells (ubRow u).toArray 30)).heap.size := by simp
  have HE := Lib.hid (show plainB u = ((((headB ++ putI u.tx 8) ++ putI u.sz 4) ++ ptrB u.q) ++ List.replicate 420 0) by simp [plainB, List.append_assoc])
  have H8 := Lib.hid (fun W => usplit_u64 u.tx W)
  have H4 := Lib.hid (fun W => usplit_u32 u.sz W)
  have hz0 := u.z0
  have hw : IntKind.u64.wrap u.sz = u.sz := IntWalk.u64_in _ (by omega)
  have SP := Lib.hid (size_ptr u.q)
  have HL := Lib.hid (And.intro (putI_length u.tx 8) (And.intro (putI_length u.sz 4) (ptrB_length u.q)))
  have HPT := Lib.hid (fun (w0 W : World) (P : Nat) (l : List Int) => wl_ptr w0 W P l u.q)
  have HPL := Lib.hid (show (plainB u).length = 480 from plainB_length u)
  generalize plainB u = PB at *
  generalize hw1 : w.alloc (.cells (ubRow u).toArray 30) = w1 at *
  have HX := Lib.hid (fun (W : World) (hb : Below w1.heap.size w1 W) => ub_at ((hb.block w.heap.size hT).trans hA))
  have HB1 := Lib.hid hb1
  clear hz0 hb1 hA hT
  generalize (ubRow u).toArray = AR at *
  generalize ptrB u.q = QB at *
  generalize (ptrRow u.q) = PR at *
  generalize putI u.tx 8 = TB at *
  generalize putI u.sz 4 = ZB at *
  generalize u.tx = tx at *
  generalize u.sz = sz at *
  go_enter Tryd.func23, Tryd.ntmps23
  go_upto_region 1 with fail
  try rw [hw1]
  clear hw1
  go_upto_region 2 with fail
  have h2 := Lib.hid (wl_new (Below.refl w1.heap.size w1))
  generalize World.alloc w1 _ = w2 at *
  generalize hP : w1.heap.size = P at *
  have HP := Lib.hid hP
  clear hP hz
  have hcv := conv_const w2 #[.int .u8 66, .int .u8 78, .int .u8 89, .int .u8 78] 4 4
  go_wp2_with fail
  clear hcv
  refine (wl_raw w1 _ P [] headB _ (h2.out.below ((Below.refl w2.heap.size w2).alloc (Nat.le_refl _) _)) (bs_head w2) (by decide)).mono ?_
  rintro e w3 ⟨rfl, h3⟩
  rw [List.nil_append] at h3
  obtain ⟨c0, _, _⟩ := HX.out w3 (by rw [← HP.out]; exact h3.bel)
  have H3 := Lib.hid h3
  clear h2 h3
  go_wp2_with fail
  refine (H8.out w3).mono ?_
  rintro e w4 ⟨rfl, hs4, hb4⟩
  have H4a := Lib.hid (wl_raw w1 w4 P _ _ _ (H3.out.below hb4) hs4 (by rw [HL.out.1]; simp [headB]))
  clear hs4 hb4 c0 H3 H8
  go_wp2_with fail
  refine H4a.out.mono ?_
  rintro e w5 ⟨rfl, h5⟩
  obtain ⟨_, c1, _⟩ := HX.out w5 (by rw [← HP.out]; exact h5.bel)
  have H5 := Lib.hid h5
  clear h5 H4a
  go_wp2_with fail
  refine (H4.out w5).mono ?_
  rintro e w6 ⟨rfl, hs6, hb6⟩
  have H6 := Lib.hid (wl_raw w1 w6 P _ _ _ (H5.out.below hb6) hs6 (by rw [List.length_append, HL.out.1, HL.out.2.1]; simp [headB]))
  clear hs6 hb6 c1 H5 H4 hw
  go_wp2_with fail
  refine H6.out.mono ?_
  rintro e w7 ⟨rfl, h7⟩
  have HR7 := Lib.hid (HX.out w7 (by rw [← HP.out]; exact h7.bel)).2.2
  have H7 := Lib.hid (HPT.out w1 w7 P _ h7 (by rw [List.length_append, List.length_append, HL.out.1, HL.out.2.1]; simp [headB]))
  clear h7 H6 HX
  go_wp2_with (first
    | (with_reducible refine wpList_load_mid (op := ⟨some 17, _, _, _, _, _⟩) rfl 28 _ rfl w.heap.size 2 rfl PR _ HR7.out Tryd.underlying28 rfl SP.out ?_))
  refine H7.out.mono ?_
  rintro e w8 ⟨rfl, h8⟩
  have hl8 : (((headB ++ TB) ++ ZB) ++ QB).length = 60 := by rw [List.length_append, List.length_append, List.length_append, HL.out.1, HL.out.2.1, HL.out.2.2]; simp [headB]
  have H8 := Lib.hid (wl_pad w1 w8 P _ 480 h8 (by rw [hl8]; decide))
  rw [hl8, show padW 60 480 = (List.replicate 420 0, 0) by decide, ← HE.out] at H8
  clear hl8 h8 H7 HR7
  go_wp2_with fail
  refine H8.out.mono ?_
  rintro e w9 ⟨rfl, h9⟩
  have H9 := Lib.hid (wl_own w1 w9 P _ h9 (by rw [HPL.out]; decide))
  clear h9 H8
  go_wp2_with fail
  refine H9.out.mono ?_
  rintro e wt ⟨a, c, rfl, hc, hbs, ho, hbl⟩
  have HZ := Lib.hid (show ∃ a' c', Ending.returned (.slice a PB.length c) = .returned (.slice a' PB.length c') ∧ PB.length ≤ c' ∧ BS wt (.slice a' PB.length c') PB ∧ wt.ownsRow w.heap.size 5 1 (.slice a' PB.length c') PB.length (PB.map (Value.int .u8)) ∧ Below w.heap.size w wt from ⟨a, c, rfl, hc, hbs, own_low10 ho HB1.out.size, HB1.out.trans (hbl.mono HB1.out.size)⟩)
  clear hc hbs ho hbl H9
  go_wp2_with fail
  go_ret
  exact HZ.out

/-! ### bytes read -/
theorem built_ub (parts : List (Nat × Value)) : Tryd.prog.built 30 parts = Instr.fill (#[(0, 1), (1, 1), (2, 34)][·]?) (ubRow zeroUb).toArray parts := by kernel_rfl
theorem fill_ub (u : UbV) : Instr.fill (#[(0, 1), (1, 1), (2, 34)][·]?) (ubRow zeroUb).toArray [(0, .int .u64 u.tx), (1, .int .u32 u.sz), (2, .agg (ptrRow u.q).toArray)] = some (ubRow u).toArray := by
  have hq := ptrRow_length u.q
  have hz := ptrRow_length zeroPtr
  rw [fill_cons _ _ (Value.int .u64 u.tx :: Value.int .u32 0 :: ptrRow zeroPtr).toArray #[.int .u64 u.tx] (.int .u64 u.tx) 0 0 1 _ rfl rfl rfl (by simp [ubRow_length]) (fun i => by
    unfold ubRow zeroUb
    cases i with
    | zero => simp
    | succ i => simp)]
  rw [fill_cons _ _ (Value.int .u64 u.tx :: Value.int .u32 u.sz :: ptrRow zeroPtr).toArray #[.int .u32 u.sz] (.int .u32 u.sz) 1 1 1 _ rfl rfl rfl (by simp) (fun i => by
    match i with
    | 0 => simp
    | 1 => simp
    | i + 2 =>
      rw [if_neg (by simp)]
      simp)]
  rw [fill_cons _ _ (ubRow u).toArray (ptrRow u.q).toArray (.agg (ptrRow u.q).toArray) 2 2 34 _ rfl rfl (by simp [hq]) (by simp [hq, hz]) (fun i => by
    unfold ubRow
    match i with
    | 0 => simp
    | 1 => simp
    | i + 2 =>
      by_cases h : i < (ptrRow u.q).length
      · rw [if_pos (by simp; omega)]; simp
      · rw [if_neg (by simp only [List.size_toArray]; omega)]
        simp only [List.getElem?_toArray, List.getElem?_cons_succ]
        rw [List.getElem?_eq_none (by omega), List.getElem?_eq_none (by omega)])]
  rfl
theorem build_ub (u : UbV) (W : World) : (Instr.build 30 #[(0, .int .u64 u.tx), (1, .int .u32 u.sz), (2, .agg (ptrRow u.q).toArray)]).run Tryd.prog W = .ok (.agg (ubRow u).toArray) W :=
  run_build W 30 _ _ (by rw [built_ub]; exact fill_ub u)
theorem build_nou (W : World) : (Instr.build 30 #[]).run Tryd.prog W = .ok (.agg (ubRow zeroUb).toArray) W :=
  run_build W 30 _ _ (by rw [built_ub]; rfl)
theorem range_other {W : World} {T B o : Nat} {l : List Value} {cs : Array Value} (h : W.rangeAt T o l) (hn : T ≠ B) : (W.setRow B cs).rangeAt T o l := fun j v hj => by
  have e : (W.setRow B cs).cell? ⟨T, o + j, none⟩ = W.cell? ⟨T, o + j, none⟩ := by simp [World.cell?, setRow_other _ _ _ _ hn]
  rw [e]
  exact h j v hj
theorem rawA_in (k : Nat) (l : List Int) (h : k ≤ l.length) : rawA (k : Int) l = (l.take k, 0, l.drop k) := by
  unfold rawA
  rw [if_neg (by omega), if_neg (by omega)]
  rfl
set_option maxRecDepth 100000 in
set_option maxHeartbeats 3200000 in
theorem uread_any (v : Value) (l : List Int) (w : World) (h : BS w v l) (hl : l.length = 480) :
    Calls Tryd.prog 29 #[v] w fun e w' => e = .returned (.agg (ubRow (ubOf l)).toArray) ∧ Below w.heap.size w w' := by
  have hz := zero_ub
  have hzp := zero_ptr
  have hb1 := (Below.refl w.heap.size w).alloc (Nat.le_refl _) (.cells (ubRow zeroUb).toArray 30)
  have hA1 := heap_alloc_new w (.cells (ubRow zeroUb).toArray 30)
  have hT : w.heap.size < (w.alloc (.cells (ubRow zeroUb).toArray 30)).heap.size := by simp
  have HRD := Lib.hid (pread7_any v l _ (h.kept hb1) (by omega))
  obtain ⟨p1, p2, p3⟩ := ubOf_parts l (by omega) h.byt
  have HW1 := Lib.hid (show rawA 4 l = (l.take 4, 0, l.drop 4) from rawA_in 4 l (by omega))
  have HW2 := Lib.hid (show rawA 8 (l.drop 4) = ((l.drop 4).take 8, 0, l.drop 12) by rw [show rawA 8 (l.drop 4) = _ from rawA_in 8 (l.drop 4) (by rw [List.length_drop]; omega), List.drop_drop])
  have HW3 := Lib.hid (show rawA 4 (l.drop 12) = ((l.drop 12).take 4, 0, l.drop 16) by rw [show rawA 4 (l.drop 12) = _ from rawA_in 4 (l.drop 12) (by rw [List.length_drop]; omega), List.drop_drop])
  have HW4 := Lib.hid (show getA (l.drop 16) = ((ubOf l).q, 0, l.drop 60) by unfold getA; rw [if_neg (by rw [List.length_drop]; omega), p3, List.drop_drop])
  have HJ1 := Lib.hid (fun (W : World) (v : Value) (h : BS W v ((l.drop 4).take 8)) => ujoin_any W v _ h (by rw [List.length_take]; omega))
  have HJ2 := Lib.hid (fun (W : World) (v : Value) (h : BS W v ((l.drop 12).take 4)) => ujoin_any W v _ h (by rw [List.length_take]; omega))
  rw [p1] at HJ1
  rw [p2] at HJ2
  have hz0 := (ubOf l).z0
  have hw : IntKind.u32.wrap (ubOf l).sz = (ubOf l).sz := IntWalk.u32_in _ (by omega)
  have HBD := Lib.hid (build_ub (ubOf l))
  have SE := Lib.hid (show (Tryd.prog.info? 30).map (·.size) = some (ubRow (ubOf l)).toArray.size from size_ubA _)
  have SL := Lib.hid (show (ubRow zeroUb).toArray.size = (ubRow (ubOf l)).toArray.size by simp [ubRow_length])
  have SO := Lib.hid (ubRow_one (ubOf l))
  have SP := Lib.hid (show (Tryd.prog.info? 28).map (·.size) = some (ptrRow (ubOf l).q).toArray.size from size_ptrA _)
  have SPL := Lib.hid (show (Tryd.prog.info? 28).map (·.size) = some (ptrRow (ubOf l).q).length from size_ptr _)
  have SZP := Lib.hid (show (ptrRow zeroPtr).toArray.size = (ptrRow (ubOf l).q).toArray.size by simp [ptrRow_length])
  have SOP := Lib.hid (ptrRow_one (ubOf l).q)
  have HB1 := Lib.hid hb1
  have HA1 := Lib.hid hA1
  have HT := Lib.hid hT
  clear h hb1 hA1 hT p1 p2 p3 hz0
  obtain ⟨QL, hQL⟩ : ∃ QL, ptrRow (ubOf l).q = QL := ⟨_, rfl⟩
  obtain ⟨UL, hUL⟩ : ∃ UL, ubRow (ubOf l) = UL := ⟨_, rfl⟩
  have HQL := Lib.hid hQL
  rw [hQL] at HBD SP SZP SOP SPL
  rw [hUL] at HBD SE SL SO ⊢
  clear hQL hUL
  generalize (ubOf l).tx = tx at *
  generalize (ubOf l).sz = sz at *
  generalize (ubRow zeroUb).toArray = ZU at *
  generalize (ptrRow zeroPtr).toArray = ZP at *
  generalize hw1 : w.alloc (.cells ZU 30) = w1 at *
  go_enter Tryd.func29, Tryd.ntmps29
  go_upto_region 1 with fail
  try rw [hw1]
  clear hw1 hz
  go_wp2_with fail
  refine HRD.out.mono ?_
  rintro e w2 ⟨R, ab, cb, rfl, r2, hR2, hb2, _⟩
  have HRW := Lib.hid (show w.heap.size ≠ R from fun e => by have := HT.out; omega)
  have HA2 := Lib.hid ((hb2.block w.heap.size HT.out).trans HA1.out)
  have HS2 := Lib.hid (show w.heap.size < w2.heap.size by have := hb2.size; have := HT.out; omega)
  have HB2 := Lib.hid (HB1.out.trans (hb2.mono (Nat.le_of_lt HT.out)))
  have HR2 := Lib.hid (show w.heap.size ≤ R by have := HT.out; omega)
  have HN := Lib.hid (praw_any R _ cb ab l 4 w2 r2 (by decide))
  rw [HW1.out] at HN
  clear r2 hR2 hb2 HRD HA1 HB1 HT HW1
  go_wp2_with fail
  refine HN.out.mono ?_
  rintro e w3 ⟨⟨v3, rfl, _⟩, ⟨a3, l3, c3, r3⟩, C3⟩
  have HA3 := Lib.hid ((C3.block w.heap.size HS2.out HRW.out).trans HA2.out)
  have HS3 := Lib.hid (Nat.lt_of_lt_of_le HS2.out C3.size)
  have HB3 := Lib.hid (HB2.out.trans (C3.below HR2.out (Nat.le_of_lt HS2.out)))
  have HN3 := Lib.hid (praw_any R _ _ _ _ 8 w3 r3 (by decide))
  rw [HW2.out] at HN3
  clear r3 C3 HN HA2 HS2 HB2 HW2
  go_wp2_with fail
  refine HN3.out.mono ?_
  rintro e w4 ⟨⟨v4, rfl, b4⟩, ⟨a4, l4, c4, r4⟩, C4⟩
  have HA4 := Lib.hid ((C4.block w.heap.size HS3.out HRW.out).trans HA3.out)
  have HS4 := Lib.hid (Nat.lt_of_lt_of_le HS3.out C4.size)
  have HB4 := Lib.hid (HB3.out.trans (C4.below HR2.out (Nat.le_of_lt HS3.out)))
  have HK4 := Lib.hid (fun (W : World) (q : ∀ k, k < w4.heap.size → k ≠ R → W.heap[k]? = w4.heap[k]?) => b4.old r4.cell q)
  have HN4 := Lib.hid (praw_any R _ _ _ _ 4 w4 r4 (by decide))
  rw [HW3.out] at HN4
  clear r4 C4 b4 HN3 HA3 HS3 HB3 HW3
  go_wp2_with fail
  refine HN4.out.mono ?_
  rintro e w5 ⟨⟨v5, rfl, b5⟩, ⟨a5, l5, c5, r5⟩, C5⟩
  have HA5 := Lib.hid ((C5.block w.heap.size HS4.out HRW.out).trans HA4.out)
  have HS5 := Lib.hid (Nat.lt_of_lt_of_le HS4.out C5.size)
  have HB5 := Lib.hid (HB4.out.trans (C5.below HR2.out (Nat.le_of_lt HS4.out)))
  have HK5 := Lib.hid (fun (W : World) (q : ∀ k, k < w5.heap.size → k ≠ R → W.heap[k]? = w5.heap[k]?) => And.intro (HK4.out W (fun k hk hne => (q k (Nat.lt_of_lt_of_le hk C5.size) hne).trans (C5.block k hk hne))) (b5.old r5.cell q))
  have HN5 := Lib.hid (pget_any R _ _ _ _ w5 r5)
  rw [HW4.out] at HN5
  clear r5 C5 b5 HN4 HA4 HS4 HB4 HK4 HW4
  go_wp2_with fail
  refine HN5.out.mono ?_
  rintro e w6 ⟨rfl, _, C6⟩
  have HA6 := Lib.hid ((C6.block w.heap.size HS5.out HRW.out).trans HA5.out)
  have HS6 := Lib.hid (Nat.lt_of_lt_of_le HS5.out C6.size)
  have HB6 := Lib.hid (HB5.out.trans (C6.below HR2.out (Nat.le_of_lt HS5.out)))
  have HK6 := Lib.hid (fun (W : World) (q : ∀ k, k < w6.heap.size → W.heap[k]? = w6.heap[k]?) => HK5.out W (fun k hk hne => (q k (Nat.lt_of_lt_of_le hk C6.size)).trans (C6.block k hk hne)))
  clear C6 HN5 HA5 HS5 HB5 HK5
  rw [HQL.out]
  have HH := Lib.hid (heap_alloc_new w6 (.cells ZP 28))
  go_upto_region 6 with (first
    | (with_reducible refine wpList_store_row (o := ⟨none, .store _ (.tmp 8) _, _, _, _, _⟩) rfl 28 _ _ rfl w6.heap.size QL.toArray rfl rfl 28 ZP HH.out SP.out SZP.out SOP.out ?_))
  have h7 := setRow_heap (w6.alloc (.cells ZP 28)) w6.heap.size _ QL.toArray _ _ HH.out
  have hb7 : Below w6.heap.size w6 ((w6.alloc (.cells ZP 28)).setRow w6.heap.size QL.toArray) := ybelow_row ((Below.refl w6.heap.size w6).alloc (Nat.le_refl _) _) (Nat.le_refl _) _
  generalize (w6.alloc (.cells ZP 28)).setRow w6.heap.size QL.toArray = w7 at *
  obtain ⟨T, hTt⟩ : ∃ T, w6.heap.size = T := ⟨_, rfl⟩
  rw [hTt] at h7 ⊢
  have HBS := Lib.hid (HK6.out w7.drew (fun k hk => hb7.block k hk))
  have HA7 := Lib.hid (show w7.drew.heap[w.heap.size]? = _ from (hb7.block w.heap.size HS6.out).trans HA6.out)
  have HB7 := Lib.hid (show Below w.heap.size w w7.drew from (HB6.out.trans (hb7.mono (Nat.le_of_lt HS6.out))).drew)
  have HG7 := Lib.hid (show w7.drew.rangeAt T 0 QL from range_of_row (show w7.drew.heap[T]? = _ from h7))
  have HTN := Lib.hid (show T ≠ w.heap.size by have := HS6.out; omega)
  clear h7 hb7 hTt HK6 HA6 HB6 HS6 HH hzp
  -- R6
  try simp only [Act.put]
  refine wp_region_noPanic ?_
  refine wp_region_held_drew (S := fun W => W.rangeAt T 0 QL) (by kernel_rfl) HG7.out (fun hHeld => ?_)
  refine wpAnyH_take (i := 0) (oi := ⟨some 29, _, _, _, _, _⟩) (v := ?_) rfl (by kernel_rfl) (by decide +kernel) (by decide +kernel) (fun _ _ _ h => h) (Or.inl ⟨by rfl, ?_⟩) (by assumption) ?_
  rotate_left 1
  · (intro w' hSw; go_simp; try with_reducible rfl)
  try simp only [Act.put, List.setIfInBounds_toArray, List.set_cons_zero, List.set_cons_succ]
  refine wpAnyH_take (i := 2) (oi := ⟨some 31, _, _, _, _, _⟩) (v := ?_) rfl (by kernel_rfl) (by decide +kernel) (by decide +kernel) (fun _ _ _ h => h) (Or.inl ⟨by rfl, ?_⟩) (by assumption) ?_
  rotate_left 1
  · (intro w' hSw; go_simp; try with_reducible rfl)
  try simp only [Act.put, List.setIfInBounds_toArray, List.set_cons_zero, List.set_cons_succ]
  refine wpAnyH_take (i := 5) (oi := ⟨some 34, _, _, _, _, _⟩) rfl (by kernel_rfl) (by decide +kernel) (by decide +kernel) (fun _ _ _ h => h) (yieldsIf_load_mid (by rfl) _ _ rfl T 0 rfl QL _ (fun w' h => h) Tryd.underlying28 rfl SPL.out) (by assumption) ?_
  try simp only [Act.put, List.setIfInBounds_toArray, List.set_cons_zero, List.set_cons_succ]
  refine wpAnyH_ready (rs := [1]) (by decide +kernel) (by simp) ?_
  refine AllReadyH.cons rfl (fun K hK => ?_) AllReadyH.nil
  go_simp
  go_at_call 47
  refine (HJ1.out _ _ HBS.out.1).mono ?_
  rintro e wt ⟨rfl, rfl⟩
  go_wp2_with fail
  refine hK.out _ _ HG7.out (fun hHeld => ?_)
  clear hK K
  try simp only [Act.put, List.setIfInBounds_toArray, List.set_cons_zero, List.set_cons_succ]
  refine wpAnyH_ready (rs := [3]) (by decide +kernel) (by simp) ?_
  refine AllReadyH.cons rfl (fun K hK => ?_) AllReadyH.nil
  go_simp
  go_at_call 47
  refine (HJ2.out _ _ HBS.out.2).mono ?_
  rintro e wt ⟨rfl, rfl⟩
  go_wp2_with fail
  refine hK.out _ _ HG7.out (fun hHeld => ?_)
  clear hK K
  try simp only [Act.put, List.setIfInBounds_toArray, List.set_cons_zero, List.set_cons_succ]
  refine wpAnyH_take (i := 4) (oi := ⟨some 33, _, _, _, _, _⟩) (v := ?_) rfl (by kernel_rfl) (by decide +kernel) (by decide +kernel) (fun _ _ _ h => h) (Or.inl ⟨by rfl, ?_⟩) (by assumption) ?_
  rotate_left 1
  · (intro w' hSw; go_simp; try with_reducible rfl)
  try simp only [Act.put, List.setIfInBounds_toArray, List.set_cons_zero, List.set_cons_succ]
  refine wpAnyH_take (i := 6) (oi := ⟨some 35, _, _, _, _, _⟩) rfl (by kernel_rfl) (by decide +kernel) (by decide +kernel) (fun _ _ _ h => h) (yieldsIf_build (by rfl) _ _ rfl #[(0, .int .u64 tx), (1, .int .u32 sz), (2, .agg QL.toArray)] _ (by simp [Act.eval]) HBD.out) (by assumption) ?_
  try simp only [Act.put, List.setIfInBounds_toArray, List.set_cons_zero, List.set_cons_succ]
  refine wpAnyH_ready (rs := [7]) (by decide +kernel) (by simp) ?_
  refine AllReadyH.cons rfl (fun K hK => ?_) AllReadyH.nil
  rw [if_pos (by kernel_rfl)]
  refine wp_store_row (o := ⟨none, .store _ (.tmp 2) _, _, _, _, _⟩) 30 _ _ rfl w.heap.size UL.toArray rfl rfl 30 ZU HA7.out SE.out SL.out SO.out ?_
  have HG8 := Lib.hid (show (w7.drew.setRow w.heap.size UL.toArray).rangeAt T 0 QL from range_other (HG7.out) HTN.out)
  refine hK.out _ _ HG8.out (fun hHeld => ?_)
  clear hK K
  simp only [Act.put]
  refine wpAnyH_done (by decide +kernel) ?_ _
  refine NoPanic.normal ?_
  go_wp2_with fail
  refine bodyPost_ret (v := .agg UL.toArray) (results_cell_row Tryd.results29 _ _ w.heap.size 30 UL.toArray (0, 0) _ rfl (setRow_heap _ w.heap.size _ UL.toArray _ _ HA7.out) Tryd.underlying30 rfl SE.out) rfl ⟨rfl, ?_⟩
  exact ybelow_row HB7.out (Nat.le_refl _) _
  -- R6 end
end Go.Proofs.YtocdjaenhllemaaDoor
