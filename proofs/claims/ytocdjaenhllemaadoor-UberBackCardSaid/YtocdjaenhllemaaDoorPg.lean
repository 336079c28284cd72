/-
  Pointers read: Get, of the program and of the document's answer.
-/
import Derived.Test.YtocdjaenhllemaaDoorPt
import Derived.Test.YtocdjaenhllemaaDoorOld
namespace Go.Proofs.YtocdjaenhllemaaDoor
set_option maxRecDepth 4000
open Go.ChangeShapes Go.WideShapes Go.ChangeAt Go.RowKit

instance byt_dec (l : List Int) : Decidable (Byt l) := inferInstanceAs (Decidable (∀ z ∈ l, 0 ≤ z ∧ z ≤ 255))
theorem byt_take8 (l : List Int) (h : Byt l) (k : Nat) : Byt (l.take k) := fun z hz => h z (List.mem_of_mem_take hz)
theorem byt_drop8 (l : List Int) (h : Byt l) (k : Nat) : Byt (l.drop k) := fun z hz => h z (List.mem_of_mem_drop hz)
theorem num_le8 (l : List Int) (h : Byt l) (k : Nat) (hl : l.length = k) (m : Int) (hm : (256 : Int) ^ k ≤ m + 1) : 0 ≤ num l ∧ num l ≤ m := by
  have := num_bound l h
  rw [hl] at this
  omega
/-- The pointer that bytes are. -/
def ptrOf (l : List Int) : PtrV :=
  if h : 44 ≤ l.length ∧ Byt l then
    ⟨num (l.take 4), num ((l.drop 4).take 8), (l.drop 12).take 32,
      num_le8 _ (byt_take8 _ h.2 4) 4 (by rw [List.length_take]; omega) _ (by decide),
      num_le8 _ (byt_take8 _ (byt_drop8 _ h.2 4) 8) 8 (by rw [List.length_take, List.length_drop]; omega) _ (by decide),
      by rw [List.length_take, List.length_drop]; omega, byt_take8 _ (byt_drop8 _ h.2 12) 32⟩
  else zeroPtr
/-- What Get answers, and what is left. -/
def getA (l : List Int) : PtrV × Int × List Int := if l.length < 44 then (zeroPtr, 3, l) else (ptrOf l, 0, l.drop 44)
theorem ptrOf_ptrB (q : PtrV) (R : List Int) (hR : Byt R) : ptrOf (ptrB q ++ R) = q := by
  have h4 := putI_length q.ad 4
  have h8 := putI_length q.bi 8
  have hs := q.s0.1
  have hb : Byt (ptrB q ++ R) := fun z hz => by
    rcases List.mem_append.1 hz with h | h
    · exact ptrB_byt q z h
    · exact hR z h
  unfold ptrOf
  rw [dif_pos ⟨by rw [List.length_append, ptrB_length]; omega, hb⟩]
  have e1 : (ptrB q ++ R).take 4 = putI q.ad 4 := by
    unfold ptrB
    rw [List.append_assoc, List.take_append_of_le_length (by omega), List.take_of_length_le (by omega)]
  have e2 : (ptrB q ++ R).drop 4 = putI q.bi 8 ++ (q.su ++ R) := by
    unfold ptrB
    rw [List.append_assoc, List.drop_append_of_le_length (by omega), List.drop_eq_nil_of_le (by omega), List.nil_append, List.append_assoc]
  have e3 : (ptrB q ++ R).drop 12 = q.su ++ R := by
    rw [show (12 : Nat) = 4 + 8 from rfl, ← List.drop_drop, e2, List.drop_append_of_le_length (by omega), List.drop_eq_nil_of_le (by omega), List.nil_append]
  refine PtrV.same ?_ ?_ ?_
  · show num ((ptrB q ++ R).take 4) = q.ad
    rw [e1]
    exact putI_num 4 _ q.a0.1 (by have := q.a0.2; omega)
  · show num (((ptrB q ++ R).drop 4).take 8) = q.bi
    rw [e2, List.take_append_of_le_length (by omega), List.take_of_length_le (by omega)]
    exact putI_num 8 _ q.b0.1 (by have := q.b0.2; omega)
  · show ((ptrB q ++ R).drop 12).take 32 = q.su
    rw [e3, List.take_append_of_le_length (by omega), List.take_of_length_le (by omega)]
theorem getA_ptrB (q : PtrV) (R : List Int) (hR : Byt R) : getA (ptrB q ++ R) = (q, 0, R) := by
  unfold getA
  rw [if_neg (by rw [List.length_append, ptrB_length]; omega), ptrOf_ptrB q R hR, List.drop_append_of_le_length (by rw [ptrB_length]; exact Nat.le_refl _), List.drop_eq_nil_of_le (by rw [ptrB_length]; exact Nat.le_refl _), List.nil_append]
theorem numA_in8 (k : Nat) (l : List Int) (h : k ≤ l.length) (h8 : k ≤ 8) : numA (k : Int) l = (num (l.take k), 0, l.drop k) := by
  unfold numA rawA
  rw [if_neg (by omega), if_neg (by omega), if_neg (by omega)]
  rfl
theorem Chg.only {R : Nat} {w w1 w' : World} (h : Only R w w1) (q : Chg R w1 w') : Chg R w w' := (Chg.of_only h).trans q

set_option maxRecDepth 100000 in
set_option maxHeartbeats 1600000 in
theorem pget_short (R lb cb : Nat) (ab : Option Addr) (l : List Int) (w : World) (h : RR w 110 R ab lb cb l) (hs : l.length < 44) :
    Calls Tryd.prog 46 #[.pointer (some ⟨R, 0, none⟩)] w fun e w' => e = .returned (.tuple #[.agg (ptrRow zeroPtr).toArray, .int .i64 3]) ∧ (∃ ab' lb' cb', RR w' 110 R ab' lb' cb' l) ∧ Chg R w w' := by
  have hb := (Below.refl w.heap.size w).alloc (Nat.le_refl _) (.cells (ptrRow zeroPtr).toArray 28)
  have hA := heap_alloc_new w (.cells (ptrRow zeroPtr).toArray 28)
  have h1 := h.below hb
  have HN := Lib.hid (pleft_any R lb cb ab l _ h1)
  have H0 := Lib.hid h
  have hz := zero_ptr
  have hbn := build_none
  have SE := Lib.hid (size_ptrA zeroPtr)
  have SO := Lib.hid (ptrRow_one zeroPtr)
  have HB := Lib.hid hb
  have HA := Lib.hid hA
  have hlt : decide ((l.length : Int) < 44) = true := by simp; omega
  clear h hb hA h1 hs
  generalize (ptrRow zeroPtr).toArray = ZR at *
  go_enter Tryd.func46, Tryd.ntmps46
  go_wp2_with fail
  refine HN.out.mono ?_
  rintro e w2 ⟨rfl, rfl⟩
  go_wp2_with (first
    | (with_reducible refine wpList_store_row (o := ⟨none, .store _ (.tmp 2) _, _, _, _, _⟩) rfl 28 _ _ rfl w.heap.size ZR rfl rfl 28 ZR HA.out SE.out rfl SO.out ?_))
  have h5 : Below w.heap.size w ((w.alloc (.cells ZR 28)).setRow w.heap.size ZR) := ybelow_row HB.out (Nat.le_refl _) _
  refine bodyPost_ret (v := .tuple #[.agg ZR, .int .i64 3]) (results_cell_two Tryd.results46 _ _ w.heap.size 28 ZR (0, 0) _ rfl (setRow_heap _ w.heap.size _ ZR _ _ HA.out) Tryd.underlying28 rfl SE.out _ (by simp)) rfl ⟨rfl, ⟨_, _, _, H0.out.below h5⟩, Chg.of_below h5⟩
theorem ptrOf_parts (l : List Int) (h : 44 ≤ l.length) (hb : Byt l) : num (l.take 4) = (ptrOf l).ad ∧ num ((l.drop 4).take 8) = (ptrOf l).bi ∧ (l.drop 12).take 32 = (ptrOf l).su := by
  unfold ptrOf
  rw [dif_pos ⟨h, hb⟩]
  exact ⟨rfl, rfl, rfl⟩
set_option maxRecDepth 100000 in
set_option maxHeartbeats 3200000 in
theorem pget_ok (R lb cb : Nat) (ab : Option Addr) (l : List Int) (w : World) (h : RR w 110 R ab lb cb l) (hs : 44 ≤ l.length) :
    Calls Tryd.prog 46 #[.pointer (some ⟨R, 0, none⟩)] w fun e w' => e = .returned (.tuple #[.agg (ptrRow (ptrOf l)).toArray, .int .i64 0]) ∧ (∃ ab' lb' cb', RR w' 110 R ab' lb' cb' (l.drop 44)) ∧ Chg R w w' := by
  have hb := (Below.refl w.heap.size w).alloc (Nat.le_refl _) (.cells (ptrRow zeroPtr).toArray 28)
  have hA := heap_alloc_new w (.cells (ptrRow zeroPtr).toArray 28)
  have hsz : (w.alloc (.cells (ptrRow zeroPtr).toArray 28)).heap.size = w.heap.size + 1 := by simp
  have h1 := h.below hb
  have hr1 := (RT.now h).keep (w' := w.alloc (.cells (ptrRow zeroPtr).toArray 28)) (by omega) (fun k hk => hb.block k hk)
  have hby := h.bytes.byt
  obtain ⟨p4, p8, p32⟩ := ptrOf_parts l hs hby
  have HN := Lib.hid (pleft_any R lb cb ab l _ h1)
  have HN1 := Lib.hid (pnum_t _ R l 4 _ hr1 (by omega))
  rw [show numA 4 l = (num (l.take 4), 0, l.drop 4) from numA_in8 4 l (by omega) (by omega), p4] at HN1
  have HM2 := Lib.hid (show numA 8 (l.drop 4) = ((ptrOf l).bi, 0, l.drop 12) by
    rw [show numA 8 (l.drop 4) = _ from numA_in8 8 (l.drop 4) (by rw [List.length_drop]; omega) (by omega), p8, List.drop_drop])
  have HM3 := Lib.hid (show hashA (l.drop 12) = ((ptrOf l).su, 0, l.drop 44) by
    unfold hashA
    rw [if_neg (by rw [List.length_drop]; omega), p32, List.drop_drop])
  have hz := zero_ptr
  have hzh := zero_hash7
  have SE := Lib.hid (size_ptrA (ptrOf l))
  have SO := Lib.hid (ptrRow_one (ptrOf l))
  have SL := Lib.hid (show (ptrRow zeroPtr).toArray.size = (ptrRow (ptrOf l)).toArray.size by simp [ptrRow_length])
  have HBD := Lib.hid (build_ptr (ptrOf l))
  have SH := Lib.hid (size_hash7 (ptrOf l).su (ptrOf l).s0.1)
  have SHO := Lib.hid (i8s_one (ptrOf l).su)
  have SHL := Lib.hid (show (i8s (List.replicate 32 0)).size = (i8s (ptrOf l).su).size by rw [i8s_size, i8s_size, (ptrOf l).s0.1]; simp)
  have hwr : IntKind.u32.wrap (ptrOf l).ad = (ptrOf l).ad := IntWalk.u32_in _ (by have := (ptrOf l).a0; omega)
  have HRl := Lib.hid (show R < w.heap.size from (Array.getElem?_eq_some_iff.1 h.cell).1)
  have HB := Lib.hid hb
  have HA := Lib.hid hA
  have HSZ := Lib.hid hsz
  have hlt : decide ((l.length : Int) < 44) = false := by simp; omega
  clear h hb hA h1 hs hsz hby p4 p8 p32 hr1
  generalize (ptrRow zeroPtr).toArray = ZR at *
  generalize (ptrRow (ptrOf l)).toArray = QR at *
  generalize (ptrOf l).ad = ad at *
  generalize (ptrOf l).bi = bi at *
  generalize (ptrOf l).su = su at *
  generalize i8s (List.replicate 32 0) = ZH at *
  generalize hSU : i8s su = SU at *
  have HSU := Lib.hid hSU
  clear hSU
  generalize hW1 : w.alloc (.cells ZR 28) = w1 at *
  go_enter Tryd.func46, Tryd.ntmps46
  go_upto_region 1 with fail
  clear hW1 hz
  go_wp2_with fail
  refine HN.out.mono ?_
  rintro e w2 ⟨rfl, rfl⟩
  clear HN
  go_wp2_with fail
  refine HN1.out.mono ?_
  rintro e w2 ⟨rfl, r2, O2⟩
  have HN2 := Lib.hid (pnum_t _ R _ 8 w2 r2 (by omega))
  rw [HM2.out] at HN2
  have HA2 := Lib.hid ((O2.rest w.heap.size (by have := HRl.out; omega)).trans HA.out)
  have C2 := Lib.hid ((Chg.of_below HB.out).trans (Chg.of_only O2))
  have SZ2 := Lib.hid (show w2.heap.size = w.heap.size + 1 by rw [O2.size]; exact HSZ.out)
  clear r2 O2 HN1 HM2 HA HB hlt
  go_wp2_with fail
  refine HN2.out.mono ?_
  rintro e w3 ⟨rfl, r3, O3⟩
  have HN3 := Lib.hid (phash_t _ R _ w3 r3)
  rw [HM3.out] at HN3
  have HA3 := Lib.hid ((O3.rest w.heap.size (by have := HRl.out; omega)).trans HA2.out)
  have C3 := Lib.hid (C2.out.trans (Chg.of_only O3))
  have SZ3 := Lib.hid (show w3.heap.size = w.heap.size + 1 by rw [O3.size]; exact SZ2.out)
  clear r3 O3 HN2 HM3 HA2 C2
  go_wp2_with fail
  refine HN3.out.mono ?_
  rintro e w4 ⟨rfl, r4, O4⟩
  have HA4 := Lib.hid ((O4.block w.heap.size (by have := SZ3.out; omega) (by have := HRl.out; omega)).trans HA3.out)
  have C4 := Lib.hid (C3.out.trans O4)
  have HR4 := Lib.hid r4
  have SZ4 := Lib.hid (show w.heap.size + 1 ≤ w4.heap.size by have := O4.size; have := SZ3.out; omega)
  clear r4 O4 HN3 HA3 C3
  rw [HSU.out]
  have HH := Lib.hid (heap_alloc_new w4 (.cells ZH 26))
  go_upto_region 8 with (first
    | (with_reducible refine wpList_store_row (o := ⟨none, .store _ (.tmp 8) _, _, _, _, _⟩) rfl 26 _ _ rfl w4.heap.size SU rfl rfl 26 ZH HH.out SH.out SHL.out SHO.out ?_))
  have H5 := Lib.hid (setRow_heap (w4.alloc (.cells ZH 26)) w4.heap.size _ SU _ _ HH.out)
  have hb5 : Below w4.heap.size w4 ((w4.alloc (.cells ZH 26)).setRow w4.heap.size SU) := ybelow_row ((Below.refl w4.heap.size w4).alloc (Nat.le_refl _) _) (Nat.le_refl _) _
  have HA5 := Lib.hid ((hb5.block w.heap.size (by have := SZ4.out; omega)).trans HA4.out)
  have HB5 := Lib.hid hb5
  generalize (w4.alloc (.cells ZH 26)).setRow w4.heap.size SU = w5 at *
  clear hb5 HH HA4 hzh
  go_wp2_with (first
    | (with_reducible refine wpList_load_row (o := ⟨some 35, _, _, _, _, _⟩) rfl 26 _ rfl w4.heap.size rfl 26 SU (0, 0) _ H5.out Tryd.underlying26 rfl SH.out ?_)
    | (with_reducible refine wpList_build_run (o := ⟨some 36, _, _, _, _, _⟩) rfl 28 _ rfl #[(0, .int .u32 ad), (1, .int .u64 bi), (2, .agg SU)] (by simp [Act.eval, Act.put]) (.agg QR) (HBD.out _) ?_)
    | (with_reducible refine wpList_store_row (o := ⟨none, .store _ (.tmp 2) _, _, _, _, _⟩) rfl 28 _ _ rfl w.heap.size QR rfl rfl 28 ZR HA5.out SE.out SL.out SO.out ?_))
  have hb6 : Below w.heap.size w4 (w5.setRow w.heap.size QR) := ybelow_row (HB5.out.mono (by have := SZ4.out; omega)) (Nat.le_refl _) _
  refine bodyPost_ret (v := .tuple #[.agg QR, .int .i64 0]) (results_cell_two Tryd.results46 _ _ w.heap.size 28 QR (0, 0) _ rfl (setRow_heap _ w.heap.size _ QR _ _ HA5.out) Tryd.underlying28 rfl SE.out _ (by simp)) rfl ⟨rfl, ?_, ?_⟩
  · exact (HR4.out.keep (Nat.le_trans (by have := SZ4.out; omega) hb6.size) (fun k hk => hb6.block k hk)).rr
  · exact ⟨hb6.os.trans C4.out.os, hb6.tape.trans C4.out.tape, hb6.output.trans C4.out.output, Nat.le_trans C4.out.size (Nat.le_trans HB5.out.size (by simp)), fun k hk hne => (hb6.block k hk).trans (C4.out.block k hk hne)⟩
theorem pget_any (R lb cb : Nat) (ab : Option Addr) (l : List Int) (w : World) (h : RR w 110 R ab lb cb l) :
    Calls Tryd.prog 46 #[.pointer (some ⟨R, 0, none⟩)] w fun e w' => e = .returned (.tuple #[.agg (ptrRow (getA l).1).toArray, .int .i64 (getA l).2.1]) ∧ (∃ ab' lb' cb', RR w' 110 R ab' lb' cb' (getA l).2.2) ∧ Chg R w w' := by
  by_cases hs : l.length < 44
  · rw [show getA l = (zeroPtr, 3, l) by unfold getA; rw [if_pos hs]]
    exact pget_short R lb cb ab l w h hs
  · rw [show getA l = (ptrOf l, 0, l.drop 44) by unfold getA; rw [if_neg hs]]
    exact pget_ok R lb cb ab l w h (by omega)

/-! ### the document's answer -/
def putAt (cur : List Value) (o : Nat) (vs : List Value) : List Value := cur.take o ++ vs ++ cur.drop (o + vs.length)
theorem heap_putAt (b : Nat) (t : TypeId) : ∀ (vs : List Value) (o : Nat) (w : World) (cur : List Value), w.heap[b]? = some (.cells cur.toArray t (0, 0)) → o + vs.length ≤ cur.length →
    (w.setCells b o vs).heap[b]? = some (.cells (putAt cur o vs).toArray t (0, 0))
  | [], o, w, cur, hg, _ => by simpa [World.setCells, putAt] using hg
  | v :: r, o, w, cur, hg, hl => by
    simp only [List.length_cons] at hl
    have h1 := heap_setCell_same w b o _ _ v hg
    rw [List.setIfInBounds_toArray] at h1
    have ih := heap_putAt b t r (o + 1) (w.setCell ⟨b, o, none⟩ v) (cur.set o v) h1 (by simp; omega)
    rw [World.setCells, ih]
    congr 3
    unfold putAt
    rw [List.take_succ_eq_append_getElem (by simp; omega), List.getElem_set_self, List.take_set_of_le (by omega), List.drop_set_of_lt (by omega)]
    simp only [List.append_assoc, List.cons_append, List.nil_append, List.length_cons]
    rw [show o + 1 + r.length = o + (r.length + 1) by omega]
theorem below_sets (b : Nat) : ∀ (vs : List Value) (o : Nat) (a w : World) (N : Nat), Below N a w → N ≤ b → Below N a (w.setCells b o vs)
  | [], _, _, _, _, h, _ => h
  | v :: r, o, a, _, N, h, hb => below_sets b r (o + 1) a _ N (h.setCell (show N ≤ (⟨b, o, none⟩ : Addr).block from hb) v) hb
/-- A pointer's cells, whatever stands in them. -/
def prow (a b : Int) (s : List Int) : List Value := .int .u32 a :: .int .u64 b :: s.map (Value.int .u8)
theorem prow_ptr (q : PtrV) : prow q.ad q.bi q.su = ptrRow q := rfl
theorem chg_below {R N : Nat} {w w1 w2 : World} (h : Chg R w w1) (hN : w.heap.size ≤ N) (b : Below N w1 w2) : Chg R w w2 :=
  ⟨b.os.trans h.os, b.tape.trans h.tape, b.output.trans h.output, Nat.le_trans h.size b.size, fun k hk hne => (b.block k (Nat.lt_of_lt_of_le hk hN)).trans (h.block k hk hne)⟩
/-- Two cells of the call's own, of pointers. -/
theorem two_ptrs (w : World) (Z : Array Value) :
    Below w.heap.size w ((w.alloc (.cells Z 28)).alloc (.cells Z 28)) ∧ ((w.alloc (.cells Z 28)).alloc (.cells Z 28)).heap.size = w.heap.size + 2 ∧
      ((w.alloc (.cells Z 28)).alloc (.cells Z 28)).heap[w.heap.size]? = some (.cells Z 28 (0, 0)) ∧ ((w.alloc (.cells Z 28)).alloc (.cells Z 28)).heap[w.heap.size + 1]? = some (.cells Z 28 (0, 0)) := by
  have hb := (Below.refl w.heap.size w).alloc (Nat.le_refl _) (.cells Z 28)
  have hs1 : (w.alloc (.cells Z 28)).heap.size = w.heap.size + 1 := by simp
  refine ⟨hb.alloc hb.size _, by simp, ?_, ?_⟩
  · exact (((Below.refl _ (w.alloc (.cells Z 28))).alloc (Nat.le_refl _) (.cells Z 28)).block w.heap.size (by omega)).trans (heap_alloc_new w (.cells Z 28))
  · have q := heap_alloc_new (w.alloc (.cells Z 28)) (.cells Z 28)
    rwa [hs1] at q
set_option maxRecDepth 100000 in
set_option maxHeartbeats 1600000 in
theorem rgetp_short (R lb cb : Nat) (ab : Option Addr) (l : List Int) (w : World) (h : RR w 63 R ab lb cb l) (hs : l.length < 44) :
    Calls Tryd.prog 32 #[.pointer (some ⟨R, 0, none⟩)] w fun e w' => e = .returned (.tuple #[.agg (ptrRow zeroPtr).toArray, .int .i64 3]) ∧ (∃ ab' lb' cb', RR w' 63 R ab' lb' cb' l) ∧ Chg R w w' := by
  obtain ⟨hb2, hs2, hA1, hA2⟩ := two_ptrs w (ptrRow zeroPtr).toArray
  have c0 := (h.below hb2).at
  have H0 := Lib.hid h
  have hz := zero_ptr
  have SE := Lib.hid (size_ptrA zeroPtr)
  have SO := Lib.hid (ptrRow_one zeroPtr)
  have HB := Lib.hid hb2
  have HA1 := Lib.hid hA1
  have HA2 := Lib.hid hA2
  have hlt : decide ((lb : Int) < 44) = true := by have := h.len; simp; omega
  have hlt2 : decide (lb < 44) = true := by have := h.len; simp; omega
  clear h hb2 hA1 hA2 hs hs2
  generalize (ptrRow zeroPtr).toArray = ZR at *
  generalize hW2 : (w.alloc (.cells ZR 28)).alloc (.cells ZR 28) = w2 at *
  go_enter Tryd.func32, Tryd.ntmps32
  go_upto_region 2 with fail
  try rw [hW2]
  clear hW2 hz
  go_wp2_with (first
    | (with_reducible refine wpList_load_row (o := ⟨some 13, _, _, _, _, _⟩) rfl 28 _ rfl (w.heap.size + 1) rfl 28 ZR (0, 0) _ HA2.out Tryd.underlying28 rfl SE.out ?_)
    | (with_reducible refine wpList_store_row (o := ⟨none, .store _ (.tmp 2) _, _, _, _, _⟩) rfl 28 _ _ rfl w.heap.size ZR rfl rfl 28 ZR HA1.out SE.out rfl SO.out ?_))
  have h5 : Below w.heap.size w (w2.setRow w.heap.size ZR) := ybelow_row HB.out (Nat.le_refl _) _
  refine bodyPost_ret (v := .tuple #[.agg ZR, .int .i64 3]) (results_cell_two Tryd.results32 _ _ w.heap.size 28 ZR (0, 0) _ rfl (setRow_heap _ w.heap.size _ ZR _ _ HA1.out) Tryd.underlying28 rfl SE.out _ (by simp)) rfl ⟨rfl, ⟨_, _, _, H0.out.below h5⟩, Chg.of_below h5⟩
set_option maxRecDepth 100000 in
set_option maxHeartbeats 3200000 in
theorem rgetp_ok (R lb cb : Nat) (ab : Option Addr) (l : List Int) (w : World) (h : RR w 63 R ab lb cb l) (hs : 44 ≤ l.length) :
    Calls Tryd.prog 32 #[.pointer (some ⟨R, 0, none⟩)] w fun e w' => e = .returned (.tuple #[.agg (ptrRow (ptrOf l)).toArray, .int .i64 0]) ∧ (∃ ab' lb' cb', RR w' 63 R ab' lb' cb' (l.drop 44)) ∧ Chg R w w' := by
  obtain ⟨hb2, hs2, hA1, hA2⟩ := two_ptrs w (ptrRow zeroPtr).toArray
  have c0 := (h.below hb2).at
  have hr1 := (RT.now h).keep (w' := (w.alloc (.cells (ptrRow zeroPtr).toArray 28)).alloc (.cells (ptrRow zeroPtr).toArray 28)) (by omega) (fun k hk => hb2.block k hk)
  have hby := h.bytes.byt
  obtain ⟨p4, p8, p32⟩ := ptrOf_parts l hs hby
  have HN1 := Lib.hid (rnum_t _ R l 4 _ hr1 (by omega))
  rw [show numA 4 l = (num (l.take 4), 0, l.drop 4) from numA_in8 4 l (by omega) (by omega), p4] at HN1
  have HM2 := Lib.hid (show numA 8 (l.drop 4) = ((ptrOf l).bi, 0, l.drop 12) by
    rw [show numA 8 (l.drop 4) = _ from numA_in8 8 (l.drop 4) (by rw [List.length_drop]; omega) (by omega), p8, List.drop_drop])
  have HM3 := Lib.hid (show hashA (l.drop 12) = ((ptrOf l).su, 0, l.drop 44) by
    unfold hashA
    rw [if_neg (by rw [List.length_drop]; omega), p32, List.drop_drop])
  have hz := zero_ptr
  have SE := Lib.hid (size_ptrA (ptrOf l))
  have SO := Lib.hid (ptrRow_one (ptrOf l))
  have SL := Lib.hid (show (ptrRow zeroPtr).toArray.size = (ptrRow (ptrOf l)).toArray.size by simp [ptrRow_length])
  have SH := Lib.hid (size_hash7 (ptrOf l).su (ptrOf l).s0.1)
  have SHO := Lib.hid (i8s_one (ptrOf l).su)
  have HPR := Lib.hid (show prow (ptrOf l).ad (ptrOf l).bi (ptrOf l).su = ptrRow (ptrOf l) from rfl)
  have HQL := Lib.hid (ptrOf l).s0.1
  have hwr : IntKind.u32.wrap (ptrOf l).ad = (ptrOf l).ad := IntWalk.u32_in _ (by have := (ptrOf l).a0; omega)
  have HRl := Lib.hid (show R < w.heap.size from (Array.getElem?_eq_some_iff.1 h.cell).1)
  have HB := Lib.hid hb2
  have HA1 := Lib.hid hA1
  have HA2 := Lib.hid hA2
  have HSZ := Lib.hid hs2
  have HZR := Lib.hid (show (ptrRow zeroPtr).toArray = (prow 0 0 (List.replicate 32 0)).toArray from rfl)
  have hlt : decide ((lb : Int) < 44) = false := by have := h.len; simp; omega
  have hlt2 : decide (lb < 44) = false := by have := h.len; simp; omega
  clear h hb2 hA1 hA2 hs hs2 hby p4 p8 p32 hr1
  generalize (ptrRow zeroPtr).toArray = ZR at *
  generalize hQR : (ptrRow (ptrOf l)).toArray = QR at *
  generalize (ptrOf l).ad = ad at *
  generalize (ptrOf l).bi = bi at *
  generalize (ptrOf l).su = su at *
  have HQR := Lib.hid (show (prow ad bi su).toArray = QR by rw [HPR.out]; exact hQR)
  clear hQR HPR
  generalize hW2 : (w.alloc (.cells ZR 28)).alloc (.cells ZR 28) = w2 at *
  go_enter Tryd.func32, Tryd.ntmps32
  go_upto_region 2 with fail
  try rw [hW2]
  clear hW2 hz
  go_wp2_with fail
  refine HN1.out.mono ?_
  rintro e w3 ⟨rfl, r3, O3⟩
  have HN2 := Lib.hid (fun w3' (q : RT w.heap.size w3' 63 R (List.drop 4 l)) => rnum_t _ R _ 8 w3' q (by omega))
  rw [HM2.out] at HN2
  have HA13 := Lib.hid ((O3.rest w.heap.size (by have := HRl.out; omega)).trans HA1.out)
  have hA23 := (O3.rest (w.heap.size + 1) (by have := HRl.out; omega)).trans HA2.out
  rw [HZR.out] at hA23
  have HA23 := Lib.hid hA23
  have C3 := Lib.hid ((Chg.of_below HB.out).trans (Chg.of_only O3))
  have SZ3 := Lib.hid (show w3.heap.size = w.heap.size + 2 by rw [O3.size]; exact HSZ.out)
  have R3 := Lib.hid r3
  have d0 : w3.cell? ⟨w.heap.size + 1, 0, none⟩ = some (.int .u32 0) := cell_of_row _ _ _ _ _ _ hA23
  have f0 : w3.frozen? ⟨w.heap.size + 1, 0, none⟩ = false := frozen_of_row _ _ _ _ _ hA23
  clear r3 O3 HN1 HM2 HA1 HA2 HB hlt hlt2 c0 hA23
  go_upto_region 6 with fail
  have hA4 := heap_setCell_same w3 (w.heap.size + 1) 0 _ _ (.int .u32 ad) HA23.out
  rw [show (prow 0 0 (List.replicate 32 0)).toArray.setIfInBounds 0 (.int .u32 ad) = (prow ad 0 (List.replicate 32 0)).toArray by simp [prow]] at hA4
  have hb4 : Below (w.heap.size + 1) w3 (w3.setCell ⟨w.heap.size + 1, 0, none⟩ (.int .u32 ad)) := ((Below.refl w3.heap.size w3).mono (by have := SZ3.out; omega)).setCell (show w.heap.size + 1 ≤ (⟨w.heap.size + 1, 0, none⟩ : Addr).block from Nat.le_refl _) _
  have hs4 : (w3.setCell ⟨w.heap.size + 1, 0, none⟩ (.int .u32 ad)).heap.size = w.heap.size + 2 := by rw [← SZ3.out]; simp
  generalize w3.setCell ⟨w.heap.size + 1, 0, none⟩ (.int .u32 ad) = w4 at *
  have HN2' := Lib.hid (HN2.out w4 (R3.out.keep (by omega) (fun k hk => hb4.block k (by omega))))
  have HA14 := Lib.hid ((hb4.block w.heap.size (by omega)).trans HA13.out)
  have HA24 := Lib.hid hA4
  have C4 := Lib.hid (chg_below C3.out (Nat.le_succ _) hb4)
  have SZ4 := Lib.hid hs4
  clear hA4 hb4 hs4 HN2 HA13 HA23 C3 SZ3 R3 d0 f0 hwr
  go_wp2_with fail
  refine HN2'.out.mono ?_
  rintro e w5 ⟨rfl, r5, O5⟩
  have HA15 := Lib.hid ((O5.rest w.heap.size (by have := HRl.out; omega)).trans HA14.out)
  have hA25 := (O5.rest (w.heap.size + 1) (by have := HRl.out; omega)).trans HA24.out
  have HA25 := Lib.hid hA25
  have C5 := Lib.hid (C4.out.trans (Chg.of_only O5))
  have SZ5 := Lib.hid (show w5.heap.size = w.heap.size + 2 by rw [O5.size]; exact SZ4.out)
  have R5 := Lib.hid r5
  have d1 : w5.cell? ⟨w.heap.size + 1, 1, none⟩ = some (.int .u64 0) := cell_of_row _ _ _ _ _ _ hA25
  have f1 : w5.frozen? ⟨w.heap.size + 1, 1, none⟩ = false := frozen_of_row _ _ _ _ _ hA25
  clear r5 O5 HN2' HA14 HA24 C4 SZ4 hA25
  go_upto_region 7 with fail
  have hA6 := heap_setCell_same w5 (w.heap.size + 1) 1 _ _ (.int .u64 bi) HA25.out
  rw [show (prow ad 0 (List.replicate 32 0)).toArray.setIfInBounds 1 (.int .u64 bi) = (prow ad bi (List.replicate 32 0)).toArray by simp [prow]] at hA6
  have hb6 : Below (w.heap.size + 1) w5 (w5.setCell ⟨w.heap.size + 1, 1, none⟩ (.int .u64 bi)) := ((Below.refl w5.heap.size w5).mono (by have := SZ5.out; omega)).setCell (show w.heap.size + 1 ≤ (⟨w.heap.size + 1, 1, none⟩ : Addr).block from Nat.le_refl _) _
  have hs6 : (w5.setCell ⟨w.heap.size + 1, 1, none⟩ (.int .u64 bi)).heap.size = w.heap.size + 2 := by rw [← SZ5.out]; simp
  generalize w5.setCell ⟨w.heap.size + 1, 1, none⟩ (.int .u64 bi) = w6 at *
  have HN3 := Lib.hid (rhash_t _ R _ w6 (R5.out.keep (by omega) (fun k hk => hb6.block k (by omega))))
  rw [HM3.out] at HN3
  have HA16 := Lib.hid ((hb6.block w.heap.size (by omega)).trans HA15.out)
  have HA26 := Lib.hid hA6
  have C6 := Lib.hid (chg_below C5.out (Nat.le_succ _) hb6)
  have SZ6 := Lib.hid hs6
  clear hA6 hb6 hs6 HA15 HA25 C5 SZ5 R5 d1 f1 HM3
  go_wp2_with fail
  refine HN3.out.mono ?_
  rintro e w7 ⟨rfl, r7, O7⟩
  have HA17 := Lib.hid ((O7.block w.heap.size (by have := SZ6.out; omega) (by have := HRl.out; omega)).trans HA16.out)
  have hA27 := (O7.block (w.heap.size + 1) (by have := SZ6.out; omega) (by have := HRl.out; omega)).trans HA26.out
  have C7 := Lib.hid (C6.out.trans O7)
  have SZ7 := Lib.hid (show w.heap.size + 2 ≤ w7.heap.size by have := O7.size; have := SZ6.out; omega)
  have R7 := Lib.hid r7
  have HTH := Lib.hid (show w7.there (w.heap.size + 1) 2 (i8s su).size from fun j hj => by
    rw [i8s_size, HQL.out] at hj
    refine ⟨?_, frozen_of_row _ _ _ _ _ hA27⟩
    rw [cell_of_row _ _ _ _ _ _ hA27]
    rw [List.getElem?_toArray, List.getElem?_eq_getElem (by simp [prow]; omega)]
    rfl)
  have H8 := Lib.hid (heap_putAt (w.heap.size + 1) 28 (i8s su).toList 2 w7 _ hA27 (by simp [prow, i8s, HQL.out]))
  have HP8 := Lib.hid (show (putAt (prow ad bi (List.replicate 32 0)) 2 (i8s su).toList).toArray = QR by
    rw [← HQR.out]
    have hl := HQL.out
    simp [putAt, prow, i8s, hl])
  clear r7 O7 HN3 HA16 HA26 C6 SZ6 hA27
  go_upto_region 8 with (first
    | (with_reducible refine wpList_store_mid (op := ⟨none, .store _ (.tmp 33) _, _, _, _, _⟩) rfl 26 _ _ rfl (w.heap.size + 1) 2 (i8s su) rfl rfl HTH.out SH.out SHO.out ?_))
  have hA8 := H8.out
  rw [HP8.out] at hA8
  have hb8 := below_sets (w.heap.size + 1) (i8s su).toList 2 w7 w7 (w.heap.size + 1) ((Below.refl w7.heap.size w7).mono (by have := SZ7.out; omega)) (Nat.le_refl _)
  generalize w7.setCells (w.heap.size + 1) 2 (i8s su).toList = w8 at *
  have HA18 := Lib.hid ((hb8.block w.heap.size (by omega)).trans HA17.out)
  have HA28 := Lib.hid hA8
  have C8 := Lib.hid (chg_below C7.out (Nat.le_succ _) hb8)
  have R8 := Lib.hid (R7.out.keep (w' := w8) (by have := hb8.size; have := SZ7.out; omega) (fun k hk => hb8.block k (by omega)))
  have SZ8 := Lib.hid (Nat.le_trans SZ7.out hb8.size)
  clear hA8 hb8 H8 HP8 HA17 C7 R7 SZ7 HTH
  go_wp2_with (first
    | (with_reducible refine wpList_load_row (o := ⟨some 34, _, _, _, _, _⟩) rfl 28 _ rfl (w.heap.size + 1) rfl 28 QR (0, 0) _ HA28.out Tryd.underlying28 rfl SE.out ?_)
    | (with_reducible refine wpList_store_row (o := ⟨none, .store _ (.tmp 2) _, _, _, _, _⟩) rfl 28 _ _ rfl w.heap.size QR rfl rfl 28 ZR HA18.out SE.out SL.out SO.out ?_))
  have hb9 : Below w.heap.size w8 (w8.setRow w.heap.size QR) := ybelow_row ((Below.refl w8.heap.size w8).mono (by have := SZ8.out; omega)) (Nat.le_refl _) _
  refine bodyPost_ret (v := .tuple #[.agg QR, .int .i64 0]) (results_cell_two Tryd.results32 _ _ w.heap.size 28 QR (0, 0) _ rfl (setRow_heap _ w.heap.size _ QR _ _ HA18.out) Tryd.underlying28 rfl SE.out _ (by simp)) rfl ⟨rfl, ?_, ?_⟩
  · exact (R8.out.keep (Nat.le_trans (by have := SZ8.out; omega) hb9.size) (fun k hk => hb9.block k hk)).rr
  · exact chg_below C8.out (Nat.le_refl _) hb9
theorem rgetp_any (R lb cb : Nat) (ab : Option Addr) (l : List Int) (w : World) (h : RR w 63 R ab lb cb l) :
    Calls Tryd.prog 32 #[.pointer (some ⟨R, 0, none⟩)] w fun e w' => e = .returned (.tuple #[.agg (ptrRow (getA l).1).toArray, .int .i64 (getA l).2.1]) ∧ (∃ ab' lb' cb', RR w' 63 R ab' lb' cb' (getA l).2.2) ∧ Chg R w w' := by
  by_cases hs : l.length < 44
  · rw [show getA l = (zeroPtr, 3, l) by unfold getA; rw [if_pos hs]]
    exact rgetp_short R lb cb ab l w h hs
  · rw [show getA l = (ptrOf l, 0, l.drop 44) by unfold getA; rw [if_neg hs]]
    exact rgetp_ok R lb cb ab l w h (by omega)
end Go.Proofs.YtocdjaenhllemaaDoor
