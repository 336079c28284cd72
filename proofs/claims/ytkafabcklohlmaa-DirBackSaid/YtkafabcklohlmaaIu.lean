/-
  Datasets out of keys and values: plain; read, Get of the program. (Written by tools/XIu.make.py.)
-/
import Derived.Test.YtkafabcklohlmaaIs
namespace Go.Proofs.Ytkafabcklohlmaa
set_option maxRecDepth 4000
set_option linter.unusedVariables false
open Go.ChangeShapes Go.WideShapes Go.ChangeAt Go.RowKit

theorem rl_ptr (w0 w : World) (R : Nat) (l : List Int) (h : RL w0 w R l) :
    Calls Try.prog 71 #[.pointer (some ⟨R, 0, none⟩)] w fun e w' => e = .returned (.tuple #[.agg (ptrRow (getA l).1).toArray, .int .i64 (getA l).2.1]) ∧ RL w0 w' R (getA l).2.2 := by
  obtain ⟨a, x, c, h, hR, hb⟩ := h
  refine (pget_any R x c a l w h).mono fun e w' ⟨he, ⟨a', x', c', hr⟩, hO⟩ => ⟨he, a', x', c', hr, hR, hb.trans (hO.below hR hb.size)⟩
theorem num1_15 (l : List Int) (h : Byt l) : 0 ≤ (numA 1 l).1 ∧ (numA 1 l).1 ≤ 255 := by
  cases l with
  | nil => exact ⟨by decide, by decide⟩
  | cons z r =>
    have e := numA_in8 1 (z :: r) (by simp) (by decide)
    have hz := h z (List.mem_cons_self ..)
    rw [show ((1 : Nat) : Int) = 1 from rfl] at e
    rw [e]
    simp [num]
    omega
theorem strA_15 (l : List Int) (h : Byt l) : (strA l).1.size ≤ 255 := by
  unfold strA
  split
  · exact Nat.zero_le _
  · rename_i hc
    have hne : l ≠ [] := fun e => hc (.inl e)
    have e : l.getD 0 0 = l[0]'(List.length_pos_iff.2 hne) := by simp [List.getD, List.length_pos_iff.2 hne]
    have hb := h _ (List.getElem_mem (List.length_pos_iff.2 hne))
    rw [← e] at hb
    have hs : (strOfNums ((l.drop 1).take (l.getD 0 0).toNat)).size = ((l.drop 1).take (l.getD 0 0).toNat).length := by
      have := congrArg List.length (strOfNums_data ((l.drop 1).take (l.getD 0 0).toNat))
      simpa using this
    show (strOfNums ((l.drop 1).take (l.getD 0 0).toNat)).size ≤ 255
    rw [hs, List.length_take]
    omega
theorem numA_byt (l : List Int) (h : Byt l) : Byt (numA 1 l).2.2 := by
  unfold numA rawA
  split
  · exact h
  · split
    · exact h
    · split
      · exact h
      · exact byt_drop8 l h _
theorem strA_15b (l : List Int) (h : Byt l) : Byt (strA l).2.2 := by
  unfold strA
  split
  · exact h
  · exact byt_drop8 l h _
theorem nums_btxt15 (s : ByteArray) : strOfNums (btxt s) = s := by
  have h : (strOfNums (btxt s)).data.toList = s.data.toList := by
    rw [strOfNums_data, btxt, List.map_map]
    conv => rhs; rw [← List.map_id s.data.toList]
    apply List.map_congr_left
    intro b _
    simp
  cases s with
  | mk d =>
    have h2 : (strOfNums (btxt ⟨d⟩)).data = d := Array.toList_inj.1 h
    exact (show strOfNums (btxt ⟨d⟩) = ⟨(strOfNums (btxt ⟨d⟩)).data⟩ from rfl).trans (by rw [h2])
def readD (K V : ByteArray) : SetV := ⟨K, (strA (numA 1 (btxt V)).2.2).1, (numA 1 (btxt V)).1 == 2, (getA (strA (numA 1 (btxt V)).2.2).2.2).1⟩
def getK (K V : ByteArray) : SetV × Int := if putD (readD K V) = ((K, V), 0) then (readD K V, 0) else (zeroSet, 4)
theorem readD_ok {K V : ByteArray} (h : K.size ≤ 140737488351232) : SetOk (readD K V) := ⟨h, by have := strA_15 _ (numA_byt _ (btxt_byt V)); show (strA (numA 1 (btxt V)).2.2).1.size ≤ _; omega⟩
theorem getK_ok {K V : ByteArray} (h : K.size ≤ 140737488351232) : SetOk (getK K V).1 := by
  unfold getK
  split
  · exact readD_ok h
  · exact setok_zero
/-- What is put is got. -/
theorem read_put {s : SetV} (h : okS s = true) : readD s.nm (putV s) = s := by
  have hfr := (ok_parts h).1
  have hby := setB_byt (s := s) (by omega)
  have hb : btxt (putV s) = setB s := btxt_str _ hby
  unfold readD
  rw [hb]
  have e1 : numA 1 (setB s) = (kB s, 0, ((s.fr.size : Int) :: btxt s.fr) ++ ptrB s.rt) := by
    have e := numA_in8 1 (setB s) (by rw [setB_len]; omega) (by decide)
    rw [show ((1 : Nat) : Int) = 1 from rfl] at e
    rw [e]
    unfold setB
    simp [num]
  rw [e1]
  have e2 : strA (((s.fr.size : Int) :: btxt s.fr) ++ ptrB s.rt) = (s.fr, 0, ptrB s.rt) := by
    unfold strA
    rw [if_neg (by simp [btxt_length]; omega)]
    simp only [List.cons_append, List.getD_cons_zero, Int.toNat_natCast, List.drop_succ_cons, List.drop_zero]
    rw [List.take_append_of_le_length (by rw [btxt_length]; omega), List.take_of_length_le (by rw [btxt_length]; omega), nums_btxt15, Nat.add_comm 1, List.drop_succ_cons, ← btxt_length, List.drop_left]
  rw [e2]
  have e3 := getA_ptrB s.rt [] (by intro z hz; simp at hz)
  rw [List.append_nil] at e3
  rw [e3]
  refine SetV.same rfl rfl ?_ rfl
  show (kB s == 2) = s.sn
  unfold kB
  cases s.sn <;> rfl
theorem get_put {s : SetV} (h : okS s = true) : getK s.nm (putV s) = (s, 0) := by
  unfold getK
  rw [read_put h]
  have : putD s = ((s.nm, putV s), 0) := by unfold putD; rw [if_pos h]
  rw [this, if_pos rfl]
/-- What is got is put as it was. -/
theorem put_get {K V : ByteArray} (h : (getK K V).2 = 0) : putD (getK K V).1 = ((K, V), 0) ∧ okS (getK K V).1 = true := by
  unfold getK at h ⊢
  split at h
  · rename_i e
    rw [if_pos e]
    refine ⟨e, ?_⟩
    unfold putD at e
    split at e
    · assumption
    · simp at e
  · cases h
theorem get_err {K V : ByteArray} (h : (getK K V).2 ≠ 0) : getK K V = (zeroSet, 4) := by
  unfold getK at h ⊢
  split
  · rename_i e; rw [if_pos e] at h; exact absurd rfl h
  · rfl
def SetPost (w : World) (X : SetV × Int) (e : Ending) (w' : World) : Prop := e = .returned (.tuple #[.agg (setRow X.1).toArray, .int .i64 X.2]) ∧ Below w.heap.size w w'
theorem two_rows (w : World) (o1 o2 : Obj) : ((w.alloc o1).alloc o2).heap[w.heap.size]? = some o1 ∧ ((w.alloc o1).alloc o2).heap[w.heap.size + 1]? = some o2 ∧ Below w.heap.size w ((w.alloc o1).alloc o2) := by
  have hs : (w.alloc o1).heap.size = w.heap.size + 1 := by simp
  refine ⟨((ba15 (w.alloc o1) o2).block w.heap.size (by rw [hs]; exact Nat.lt_succ_self _)).trans (new15 w _), ?_, bt15 (ba15 w _) (ba15 _ _)⟩
  have := new15 (w.alloc o1) o2
  rwa [hs] at this
theorem RL.bel15 {w0 w : World} {R : Nat} {l : List Int} (h : RL w0 w R l) : Below w0.heap.size w0 w := by obtain ⟨_, _, _, _, _, h⟩ := h; exact h
set_option maxRecDepth 100000 in
set_option maxHeartbeats 3200000 in
theorem pread15 (K V : ByteArray) (hV : V.size ≤ 140737488351232) (w : World) : Calls Try.prog 45 #[.agg #[.string K, .string V]] w fun e w' => e = .returned (.agg (setRow (readD K V)).toArray) ∧ Below w.heap.size w w' := by
  obtain ⟨hx, hr, hb⟩ := two_rows w (.cells #[.string K, .string V] 45) (.cells (setRow zeroSet).toArray 38)
  obtain ⟨ZS, hzs⟩ := setR zeroSet
  have hz := zero_set
  rw [hzs.eq] at hz
  have HZ := Lib.hid hzs
  clear hzs
  rw [HZ.out.eq] at hx hr hb
  have HX := Lib.hid hx
  have HR := Lib.hid hr
  have HB := Lib.hid hb
  clear hx hr hb
  go_enter Try.func45, Try.ntmps45
  go_upto_region 1 with fail
  generalize World.alloc (World.alloc w (.cells #[.string K, .string V] 45)) (.cells ZS 38) = w1 at *
  have HRW := Lib.hid (show w.heap.size ≤ w.heap.size + 1 by omega)
  generalize hRR : w.heap.size + 1 = R at *
  generalize hXX : w.heap.size = X at *
  have HXS := Lib.hid (show X ≤ w1.heap.size from hXX ▸ HB.out.size)
  clear hRR
  have c1 := cell_of_row w1 X 1 _ _ _ HX.out
  have hcv := bconv_txt V w1
  have HBW := Lib.hid (bbytes_below w1 V)
  have HRD := Lib.hid (rl_read (Lib.bytesWorld w1 5 V) (Lib.bytesWorld w1 5 V) _ (btxt V) (Below.refl _ _) (bbytes_bs w1 V) (by rw [btxt_length]; omega))
  go_wp2_with fail
  generalize Lib.bytesWorld w1 5 V = w2 at *
  refine HRD.out.mono ?_
  rintro e w3 ⟨Q, rfl, hrl, _⟩
  have HB2 := Lib.hid (HB.out.trans (HBW.out.mono HXS.out))
  have HXS2 := Lib.hid (Nat.le_trans HXS.out HBW.out.size)
  have HX2 := Lib.hid ((HBW.out.block _ (lt_of_block HX.out)).trans HX.out)
  have HR2 := Lib.hid ((HBW.out.block _ (lt_of_block HR.out)).trans HR.out)
  obtain ⟨bv, hbv⟩ : ∃ z, btxt V = z := ⟨_, rfl⟩
  have hby : Byt bv := hbv ▸ btxt_byt V
  have HBY := Lib.hid hby
  have HRE := Lib.hid (show readD K V = ⟨K, (strA (numA 1 bv).2.2).1, (numA 1 bv).1 == 2, (getA (strA (numA 1 bv).2.2).2.2).1⟩ by unfold readD; rw [hbv])
  rw [hbv] at hrl
  have HN := Lib.hid (rl_num w2 w3 Q bv 1 hrl (by decide))
  clear hby hbv hrl HRD c1 hcv HBW HB HX HR hV
  go_wp2_with fail
  refine HN.out.mono ?_
  rintro e w4 ⟨rfl, hr4⟩
  have hnb := num1_15 bv HBY.out
  generalize numA 1 bv = NA at *
  have HS := Lib.hid (rl_str w2 w4 Q _ hr4)
  clear hr4 HN
  go_wp2_with fail
  refine HS.out.mono ?_
  rintro e w5 ⟨rfl, hr5⟩
  generalize strA NA.2.2 = SA at *
  have HG := Lib.hid (rl_ptr w2 w5 Q _ hr5)
  obtain ⟨PR, hPR⟩ : ∃ z, (ptrRow (getA SA.2.2).1).toArray = z := ⟨_, rfl⟩
  rw [hPR] at HG
  have HPR := Lib.hid hPR
  clear hr5 HS hPR
  go_wp2_with fail
  refine HG.out.mono ?_
  rintro e w6 ⟨rfl, hr6⟩
  have HB6 := Lib.hid (RL.bel15 hr6)
  obtain ⟨ZP, hZP⟩ : ∃ z, (ptrRow zeroPtr).toArray = z := ⟨_, rfl⟩
  have hzp := zero_ptr
  rw [hZP] at hzp
  have HZS := Lib.hid (show ZP.size = PR.size by rw [← hZP, ← HPR.out]; simp [ptrRow_length])
  have HP1 := Lib.hid (show (Try.prog.info? 36).map (·.size) = some PR.size from HPR.out ▸ size_ptrA _)
  have HP2 := Lib.hid (show PR.all (·.oneCell') = true from HPR.out ▸ ptrRow_one _)
  clear hr6 HG hZP
  go_upto_region 5 with (first
    | (with_reducible refine wpList_store_row (o := ⟨none, .store _ (.tmp 8) _, _, _, _, _⟩) rfl 36 _ _ rfl w6.heap.size PR rfl rfl 36 ZP (heap_alloc_new w6 _) HP1.out HZS.out HP2.out ?_))
  generalize hWs : World.setRow _ w6.heap.size _ = w7
  have hst := fresh15 w6 ZP PR 36 w7 hWs.symm
  have HQ7 := Lib.hid hst.1
  have HB7 := Lib.hid (HB6.out.trans (hst.2.mono HB6.out.size))
  have HX7 := Lib.hid ((HB7.out.block _ (lt_of_block HX2.out)).trans HX2.out)
  have HR7 := Lib.hid ((HB7.out.block _ (lt_of_block HR2.out)).trans HR2.out)
  have c0 := cell_of_row w7 X 0 _ _ _ HX7.out
  clear hWs hst hzp HB6
  generalize w6.heap.size = Y at *
  obtain ⟨n1, hn1⟩ : ∃ z, NA.1 = z := ⟨_, rfl⟩
  rw [hn1] at hnb HRE ⊢
  have hw8 : IntKind.u8.wrap n1 = n1 := IntWalk.u8_in _ (by omega)
  have hbd := build_set4 K SA.1 (n1 == 2) (getA SA.2.2).1
  rw [HPR.out, ← HRE.out] at hbd
  obtain ⟨BR, hB⟩ := setR (readD K V)
  rw [hB.eq] at hbd
  have HBR := Lib.hid hB
  have HBD := Lib.hid hbd
  clear hbd hB hn1
  go_wp2_with (first
    | (with_reducible refine wpList_load_row (o := ⟨some 35, _, _, _, _, _⟩) rfl 36 _ rfl Y rfl 36 PR (0, 0) _ HQ7.out Try.underlying36 rfl HP1.out ?_)
    | (with_reducible refine wpList_build_run (o := ⟨some 36, _, _, _, _, _⟩) rfl 38 _ rfl #[(0, .string K), (1, .string SA.1), (2, .bool (n1 == 2)), (3, .agg PR)] (by simp [Act.eval, Act.put]) (.agg BR) (HBD.out _) ?_)
    | (with_reducible refine wpList_store_row (o := ⟨none, .store _ (.tmp 2) _, _, _, _, _⟩) rfl 38 _ _ rfl R BR rfl rfl 38 ZS HR7.out HBR.out.sz (HZ.out.same HBR.out) HBR.out.one ?_))
  refine bodyPost_ret (v := .agg BR) (results_cell_row Try.results45 _ _ R 38 BR (0, 0) _ rfl (setRow_heap _ R _ BR _ _ HR7.out) Try.underlying38 rfl HBR.out.sz) rfl ?_
  exact ⟨by rw [HBR.out.eq], by rw [hXX]; exact ybelow_row (HB2.out.trans (HB7.out.mono HXS2.out)) HRW.out _⟩
set_option maxRecDepth 100000 in
set_option maxHeartbeats 3200000 in
theorem pget15 (K V : ByteArray) (hK : K.size ≤ 140737488351232) (hV : V.size ≤ 140737488351232) (w : World) : Calls Try.prog 21 #[.agg #[.string K, .string V]] w fun e w' => SetPost w (getK K V) e w' := by
  obtain ⟨hx, hr, hb⟩ := two_rows w (.cells #[.string K, .string V] 45) (.cells (setRow zeroSet).toArray 38)
  obtain ⟨ZS, hzs⟩ := setR zeroSet
  have hz := zero_set
  rw [hzs.eq] at hz
  have HZ := Lib.hid hzs
  clear hzs
  rw [HZ.out.eq] at hx hr hb
  have HX := Lib.hid hx
  have HR := Lib.hid hr
  have HB := Lib.hid hb
  clear hx hr hb
  have HRD := Lib.hid (fun W => pread15 K V hV W)
  have HPU := Lib.hid (fun W => pput15 (readD K V) (readD_ok hK) W)
  obtain ⟨AR, har⟩ := setR (readD K V)
  rw [har.eq] at HRD HPU
  have HAR := Lib.hid har
  unfold KvPost at HPU
  clear har
  go_enter Try.func21, Try.ntmps21
  go_upto_region 1 with fail
  generalize World.alloc (World.alloc w (.cells #[.string K, .string V] 45)) (.cells ZS 38) = w1 at *
  have HRW := Lib.hid (show w.heap.size ≤ w.heap.size + 1 by omega)
  generalize hRR : w.heap.size + 1 = R at *
  generalize hXX : w.heap.size = X at *
  have HXS := Lib.hid (show X ≤ w1.heap.size from hXX ▸ HB.out.size)
  clear hRR
  clear hV hK
  go_wp2_with (first
    | (with_reducible refine wpList_load_row (o := ⟨some 7, _, _, _, _, _⟩) rfl 45 _ rfl X rfl 45 #[.string K, .string V] (0, 0) _ HX.out Try.underlying45 rfl (size_kv _ _) ?_))
  refine (HRD.out _).mono ?_
  rintro e w2 ⟨rfl, hb2⟩
  have HB2 := Lib.hid (HB.out.trans (hb2.mono HXS.out))
  have HXS2 := Lib.hid (Nat.le_trans HXS.out hb2.size)
  have HX2 := Lib.hid ((hb2.block _ (lt_of_block HX.out)).trans HX.out)
  have HR2 := Lib.hid ((hb2.block _ (lt_of_block HR.out)).trans HR.out)
  clear hb2 HRD HX HR HB
  go_upto_region 2 with (first
    | (with_reducible refine wpList_store_row (o := ⟨none, .store _ (.tmp 4) _, _, _, _, _⟩) rfl 38 _ _ rfl w2.heap.size AR rfl rfl 38 ZS (heap_alloc_new w2 _) HAR.out.sz (HZ.out.same HAR.out) HAR.out.one ?_))
  generalize hWs : World.setRow _ w2.heap.size _ = w3
  have hst := fresh15 w2 ZS AR 38 w3 hWs.symm
  have HQ3 := Lib.hid hst.1
  have HB3 := Lib.hid (HB2.out.trans (hst.2.mono HXS2.out))
  have HXS3 := Lib.hid (Nat.le_trans HXS2.out hst.2.size)
  have HX3 := Lib.hid ((hst.2.block _ (lt_of_block HX2.out)).trans HX2.out)
  have HR3 := Lib.hid ((hst.2.block _ (lt_of_block HR2.out)).trans HR2.out)
  clear hWs hst HB2 HX2 HR2
  generalize w2.heap.size = Y at *
  go_wp2_with (first
    | (with_reducible refine wpList_load_row (o := ⟨some 10, _, _, _, _, _⟩) rfl 38 _ rfl Y rfl 38 AR (0, 0) _ HQ3.out Try.underlying38 rfl HAR.out.sz ?_))
  refine (HPU.out _).mono ?_
  rintro e w4 ⟨rfl, hb4⟩
  have HB4 := Lib.hid (HB3.out.trans (hb4.mono HXS3.out))
  have HXS4 := Lib.hid (Nat.le_trans HXS3.out hb4.size)
  have HQ4 := Lib.hid ((hb4.block _ (lt_of_block HQ3.out)).trans HQ3.out)
  have HX4 := Lib.hid ((hb4.block _ (lt_of_block HX3.out)).trans HX3.out)
  have HR4 := Lib.hid ((hb4.block _ (lt_of_block HR3.out)).trans HR3.out)
  have hbn := build_set0
  rw [HZ.out.eq] at hbn
  clear hb4 HPU HB3 HX3 HR3 HQ3
  by_cases hok : okS (readD K V) = true
  · have hpd : putD (readD K V) = ((K, putV (readD K V)), 0) := by unfold putD; rw [if_pos hok]; rfl
    rw [hpd]
    have HPD := Lib.hid hpd
    clear hok hpd
    go_upto_region 3 with fail
    generalize hWs : World.alloc w4 (.cells #[.string K, .string (putV (readD K V))] 45) = w5
    have hb5 := ba15 w4 (.cells #[.string K, .string (putV (readD K V))] 45)
    have hn5 := new15 w4 (.cells #[.string K, .string (putV (readD K V))] 45)
    rw [hWs] at hb5 hn5
    have HN5 := Lib.hid hn5
    have HB5 := Lib.hid (HB4.out.trans (hb5.mono HXS4.out))
    have HQ5 := Lib.hid ((hb5.block _ (lt_of_block HQ4.out)).trans HQ4.out)
    have HX5 := Lib.hid ((hb5.block _ (lt_of_block HX4.out)).trans HX4.out)
    have HR5 := Lib.hid ((hb5.block _ (lt_of_block HR4.out)).trans HR4.out)
    clear hWs hb5 hn5 HB4 HQ4 HX4 HR4
    generalize w4.heap.size = Z at *
    generalize putV (readD K V) = PV at *
    have hkk : (K.toList == K.toList) = true := by simp
    have hvv := str_beq PV V
    by_cases hv : PV = V
    · have HE := Lib.hid (show getK K V = (readD K V, 0) by unfold getK; rw [if_pos (by rw [HPD.out, hv])])
      rw [decide_eq_true hv] at hvv
      clear hv
      go_wp2_with (first
        | (with_reducible refine wpList_load_guarded (o := ⟨some 17, _, _, _, _, _⟩) (by kernel_rfl) 45 _ rfl Z rfl 45 #[.string K, .string PV] (0, 0) _ HN5.out Try.underlying45 rfl (size_kv _ _) ?_)
        | (with_reducible refine wpList_load_guarded (o := ⟨some 18, _, _, _, _, _⟩) (by kernel_rfl) 45 _ rfl X rfl 45 #[.string K, .string V] (0, 0) _ HX5.out Try.underlying45 rfl (size_kv _ _) ?_)
        | (with_reducible refine wpList_load_row (o := ⟨some 22, _, _, _, _, _⟩) rfl 38 _ rfl Y rfl 38 AR (0, 0) _ HQ5.out Try.underlying38 rfl HAR.out.sz ?_)
        | (with_reducible refine wpList_store_row (o := ⟨none, .store _ (.tmp 2) _, _, _, _, _⟩) rfl 38 _ _ rfl R AR rfl rfl 38 ZS HR5.out HAR.out.sz (HZ.out.same HAR.out) HAR.out.one ?_))
      refine bodyPost_ret (v := .tuple #[.agg AR, .int .i64 0]) (results_cell_two Try.results21 _ _ R 38 AR (0, 0) _ rfl (setRow_heap _ R _ AR _ _ HR5.out) Try.underlying38 rfl HAR.out.sz _ (by simp)) rfl ?_
      exact ⟨by rw [HE.out, HAR.out.eq], by rw [hXX]; exact ybelow_row HB5.out HRW.out _⟩
    · have HE := Lib.hid (show getK K V = (zeroSet, 4) by unfold getK; rw [if_neg (by rw [HPD.out]; simp [hv])])
      rw [decide_eq_false hv] at hvv
      clear hv
      go_wp2_with (first
        | (with_reducible refine wpList_load_guarded (o := ⟨some 17, _, _, _, _, _⟩) (by kernel_rfl) 45 _ rfl Z rfl 45 #[.string K, .string PV] (0, 0) _ HN5.out Try.underlying45 rfl (size_kv _ _) ?_)
        | (with_reducible refine wpList_load_guarded (o := ⟨some 18, _, _, _, _, _⟩) (by kernel_rfl) 45 _ rfl X rfl 45 #[.string K, .string V] (0, 0) _ HX5.out Try.underlying45 rfl (size_kv _ _) ?_)
        | (with_reducible refine wpList_store_row (o := ⟨none, .store _ (.tmp 2) _, _, _, _, _⟩) rfl 38 _ _ rfl R ZS rfl rfl 38 ZS HR5.out HZ.out.sz (HZ.out.same HZ.out) HZ.out.one ?_))
      refine bodyPost_ret (v := .tuple #[.agg ZS, .int .i64 4]) (results_cell_two Try.results21 _ _ R 38 ZS (0, 0) _ rfl (setRow_heap _ R _ ZS _ _ HR5.out) Try.underlying38 rfl HZ.out.sz _ (by simp)) rfl ?_
      exact ⟨by rw [HE.out, HZ.out.eq], by rw [hXX]; exact ybelow_row HB5.out HRW.out _⟩
  · have hpd : putD (readD K V) = ((noS, noS), 4) := by unfold putD; rw [if_neg hok]
    have HE := Lib.hid (show getK K V = (zeroSet, 4) by unfold getK; rw [if_neg (by rw [hpd]; simp)])
    rw [hpd]
    clear hok hpd
    have hb5 := ba15 w4 (.cells #[.string noS, .string noS] 45)
    have HB5 := Lib.hid (HB4.out.trans (hb5.mono HXS4.out))
    have HR5 := Lib.hid ((hb5.block _ (lt_of_block HR4.out)).trans HR4.out)
    clear hb5
    go_upto_region 3 with fail
    generalize World.alloc w4 (.cells #[.string noS, .string noS] 45) = w5 at *
    go_wp2_with (first
      | (with_reducible refine wpList_store_row (o := ⟨none, .store _ (.tmp 2) _, _, _, _, _⟩) rfl 38 _ _ rfl R ZS rfl rfl 38 ZS HR5.out HZ.out.sz (HZ.out.same HZ.out) HZ.out.one ?_))
    refine bodyPost_ret (v := .tuple #[.agg ZS, .int .i64 4]) (results_cell_two Try.results21 _ _ R 38 ZS (0, 0) _ rfl (setRow_heap _ R _ ZS _ _ HR5.out) Try.underlying38 rfl HZ.out.sz _ (by simp)) rfl ?_
    exact ⟨by rw [HE.out, HZ.out.eq], by rw [hXX]; exact ybelow_row HB5.out HRW.out _⟩
end Go.Proofs.Ytkafabcklohlmaa
