/-
  Datasets: the program's used, Destroy, Rename. (Written by tools/XIh.make.py.)
-/
import Derived.Test.YtkafabcklohlmaaIg
namespace Go.Proofs.Ytkafabcklohlmaa
set_option maxRecDepth 4000
set_option linter.unusedVariables false
open Go.ChangeShapes Go.WideShapes Go.ChangeAt Go.RowKit

open Go.Maps (Keyed)

def kS15 (s : ByteArray) : Lit := .string s.data.toList
theorem kS15_ne {a b : ByteArray} (h : a ≠ b) : kS15 a ≠ kS15 b := fun e => by
  unfold kS15 at e
  injection e with e
  exact h (ByteArray.ext (Array.toList_inj.1 e))
theorem keyof15 (s : ByteArray) (h : s.size ≤ 140737488351232) : keyOf Try.prog 9 (.string s) = some (kS15 s) := by
  rw [keyOf_string Try.underlying9]
  have h2 : s.size ≤ maxLen := by unfold maxLen; omega
  simp [mapKey, Try.underlying9, kS15, h2]
/-- How many datasets are of the one of a name. -/
def cntF (L : List SetV) (a : ByteArray) : Nat := L.countP (fun s => decide (s.fr = a) && !decide (s.fr = noS))
theorem cntF_le (L : List SetV) (a : ByteArray) : cntF L a ≤ L.length := List.countP_le_length
theorem cntF_used {L : List SetV} {a : ByteArray} (h : a ≠ noS) : decide (0 < cntF L a) = usedB L a := by
  unfold cntF usedB
  rw [Bool.eq_iff_iff, decide_eq_true_iff, List.countP_pos_iff, List.any_eq_true]
  constructor
  · rintro ⟨x, hx, e⟩
    rw [Bool.and_eq_true] at e
    exact ⟨x, hx, e.1⟩
  · rintro ⟨x, hx, e⟩
    refine ⟨x, hx, ?_⟩
    rw [decide_eq_true_iff] at e
    rw [e]
    simp [h]
/-- A map in block b that tells how many there are; c puts so far at most. -/
structure MI (w : World) (b c : Nat) (L : List SetV) : Prop where
  map : ∃ D, w.ownsMap Try.prog 9 (plainElem (H := Unit) Try.prog 3) b c D ∧ Maps.IsMap D ∧ Maps.Tidy D ∧ ∀ a : ByteArray, D.atKey (kS15 a) (.lit (.int .i64 0)) = .lit (.int .i64 (cntF L a : Nat))
theorem MI.lt {w : World} {b c : Nat} {L : List SetV} (h : MI w b c L) : b < w.heap.size := by obtain ⟨D, h1, _⟩ := h.map; exact h1.lt
theorem MI.move {w w' : World} {b c : Nat} {L : List SetV} (h : MI w b c L) (e : w'.heap[b]? = w.heap[b]?) : MI w' b c L := by
  obtain ⟨D, ⟨es, clock, hb, F, hs, hD⟩, h2⟩ := h.map
  exact ⟨D, ⟨es, clock, e.trans hb, F, hs, hD⟩, h2⟩
theorem MI.below {w w' : World} {b c : Nat} {L : List SetV} (h : MI w b c L) (q : Below w.heap.size w w') : MI w' b c L := h.move (q.block b h.lt)
theorem mi_made (w : World) : MI (w.alloc (.map #[] 0)) w.heap.size 0 [] :=
  ⟨_, World.ownsMap_made w _ _ _, Maps.isMap_empty, Maps.tidy_empty, fun a => rfl⟩
theorem wf_small {n : Nat} (h : n ≤ 1000000) : (Lit.int .i64 (n : Int)).wf = true := by
  simp [Lit.wf, IntKind.min, IntKind.max, IntKind.signed, IntKind.bits]; omega
theorem mi_look {w : World} {b c : Nat} {L : List SetV} (h : MI w b c L) (a : ByteArray) (ha : a.size ≤ 140737488351232) :
    (Instr.lookup 88 (.map (some b)) (.string a) false).run Try.prog w = .ok (.int .i64 (cntF L a : Nat)) w := by
  obtain ⟨D, h1, _, _, h5⟩ := h.map
  obtain ⟨v, ps, hr, hv⟩ := h1.lookup (t := 88) (e := 3) (Maps.string_keyed Try.underlying9) Try.underlying88 (z := .int .i64 0) (by kernel_rfl) (plainElem_int (H := Unit) Try.underlying3 (by decide)) (keyof15 a ha)
  rw [h5 a] at hv
  obtain ⟨x, e1, e2, _⟩ := plainElem_int_inv Try.underlying3 hv
  simp only [Prod.mk.injEq, DataW.lit.injEq, Lit.int.injEq, true_and] at e2
  rw [hr, e1, e2.1]
theorem mi_skip {w : World} {b c : Nat} {L : List SetV} (h : MI w b c L) {s : SetV} (hs : s.fr = noS) : MI w b c (L ++ [s]) := by
  obtain ⟨D, h1, h2, h3, h5⟩ := h.map
  refine ⟨D, h1, h2, h3, fun a => ?_⟩
  rw [h5 a]
  have : cntF (L ++ [s]) a = cntF L a := by unfold cntF; rw [List.countP_append]; simp [hs]
  rw [this]
theorem mi_put {w : World} {b c : Nat} {L : List SetV} (h : MI w b c L) (hc : c < 1000000) (hl : L.length < 1000000) {s : SetV} (ha : s.fr.size ≤ 140737488351232) (hs : s.fr ≠ noS) :
    ∃ w', (Instr.mapUpdate 88 (.map (some b)) (.string s.fr) (.int .i64 ((cntF L s.fr : Nat) + 1))).run Try.prog w = .ok () w' ∧ MI w' b (c + 1) (L ++ [s]) ∧ Touch [b] w w' := by
  obtain ⟨D, h1, h2, h3, h5⟩ := h.map
  have hle := cntF_le L s.fr
  have hadd : cntF (L ++ [s]) s.fr = cntF L s.fr + 1 := by unfold cntF; rw [List.countP_append]; simp [hs]
  obtain ⟨w', hr, ho, hg⟩ := h1.update (t := 88) (e := 3) (val := .int .i64 ((cntF L s.fr : Nat) + 1)) (Maps.string_keyed Try.underlying9) Try.underlying88 (by unfold maxLen; omega) (keyof15 s.fr ha) (plainElem_int (H := Unit) Try.underlying3 (wf_small (n := cntF L s.fr + 1) (by omega)))
  refine ⟨w', hr, ⟨_, ho, h2.put _ _, h3.put (by trivial) _, fun x => ?_⟩, ⟨hg.os, hg.tape, hg.output, hg.size, fun k h1 h2 => hg.block k h1 (by simpa using h2)⟩⟩
  by_cases e : x = s.fr
  · subst e
    rw [Maps.atKey_put_same h2 (by trivial), hadd]
    rfl
  · rw [Maps.atKey_put_other (kS15_ne e), h5 x]
    have : cntF (L ++ [s]) x = cntF L x := by
      unfold cntF
      rw [List.countP_append]
      simp
      intro h
      exact absurd h.symm e
    rw [this]
theorem touch_below15 {w0 w w' : World} {b : Nat} (h : Below w0.heap.size w0 w) (t : Touch [b] w w') (hb : w0.heap.size ≤ b) : Below w0.heap.size w0 w' :=
  ⟨t.os.trans h.os, t.tape.trans h.tape, t.output.trans h.output, Nat.le_trans h.size t.size, fun k hk => (t.block k (Nat.lt_of_lt_of_le hk h.size) (by simp; omega)).trans (h.block k hk)⟩
set_option maxRecDepth 100000 in
set_option maxHeartbeats 3200000 in
theorem pused15 (v : Value) (l : List SetV) (w : World) (h : LS w v l) (hs : l.length ≤ 1000) (ho : ∀ s ∈ l, SetOk s) :
    Calls Try.prog 53 #[v] w fun e w' => ∃ b c, e = .returned (.map (some b)) ∧ MI w' b c l ∧ Below w.heap.size w w' := by
  obtain ⟨a, c, rfl, hc, hat⟩ := h
  obtain ⟨n, hn⟩ : ∃ n, l.length = n := ⟨_, rfl⟩
  have HA := Lib.hid hat
  have HN := Lib.hid hn
  have HOK := Lib.hid ho
  rw [hn]
  have nI : (n : Int) ≤ 1000 := by omega
  have n0 : (0 : Int) ≤ (n : Int) := by omega
  have hmm : ∀ W : World, (Instr.makeMap 88 none).run Try.prog W = .ok (.map (some W.heap.size)) (W.alloc (.map #[] 0)) := fun W => run_makeMap _ W
  have HB0 := Lib.hid (ba15 w (.map #[] 0))
  have HM0 := Lib.hid (mi_made w)
  have HMB := Lib.hid (show w.heap.size < (w.alloc (.map #[] 0)).heap.size from (mi_made w).lt)
  clear hat hs hc hn ho
  obtain ⟨ZS, hzs⟩ := setR zeroSet
  have hz := zero_set
  rw [hzs.eq] at hz
  have HZ := Lib.hid hzs
  clear hzs
  go_enter Try.func53, Try.ntmps53
  go_wp2_with fail
  clear hmm
  generalize w.alloc (.map #[] 0) = wm at *
  obtain ⟨mb, hmb⟩ : ∃ z, w.heap.size = z := ⟨_, rfl⟩
  have HMBE := Lib.hid hmb
  rw [hmb] at HM0 HMB ⊢
  clear hmb
  go_loopw [5, 9] (fun _ v9 wr => ∃ i k : Nat, i ≤ n ∧ k ≤ i ∧ v9 = .int .i64 (i : Int) ∧ MI wr mb k (l.take i) ∧ Below w.heap.size w wr) (fun _ v _ => n - (intOf v).toNat)
  case atStart => exact ⟨0, 0, Nat.zero_le _, Nat.le_refl _, rfl, HM0.out, HB0.out⟩
  case round =>
    clear HM0 HB0
    obtain ⟨i, k, hi, hk, rfl, hm, hb⟩ := hrel
    have HB := Lib.hid hb
    have HM := Lib.hid hm
    have HK := Lib.hid (And.intro hk hi)
    clear hb hm hk
    by_cases hlt : i < n
    · obtain ⟨q, hq⟩ : ∃ q, l[i]? = some q := ⟨_, List.getElem?_eq_getElem (by rw [HN.out]; exact hlt)⟩
      obtain ⟨b, off, rfl, hrg⟩ := HA.out i q hq
      have HRG := Lib.hid (range_below hrg HB.out)
      have hix := index_set b off n c i hlt
      obtain ⟨AR, har⟩ := setR q
      have HAR := Lib.hid har
      have HQ := Lib.hid hq
      have HLT := Lib.hid hlt
      have iI : (i : Int) < (n : Int) := by omega
      have i0 : (0 : Int) ≤ (i : Int) := by omega
      clear hlt hrg hq hi
      go_upto_region 5 with (first
        | (with_reducible refine ld_set (op := ⟨some 12, _, _, _, _, _⟩) rfl _ rfl b (off + i * 37) rfl q _ HAR.out.eq HRG.out ?_)
        | (with_reducible refine wpList_store_row (o := ⟨none, .store _ (.tmp 5) _, _, _, _, _⟩) rfl 38 _ _ rfl wr.heap.size AR rfl rfl 38 ZS (heap_alloc_new wr _) HAR.out.sz (HZ.out.same HAR.out) HAR.out.one ?_))
      generalize hWs : World.setRow _ wr.heap.size _ = wk
      have hst := fresh15 wr ZS AR 38 wk hWs.symm
      have HRk := Lib.hid hst.1
      have HBk := Lib.hid (bt15 HB.out hst.2)
      obtain ⟨d0, d1, d2, d3⟩ := set_atR hst.1 har
      have HXk := Lib.hid (show w.heap.size ≤ wr.heap.size from HB.out.size)
      have HMk := Lib.hid (HM.out.below hst.2)
      have HXM := Lib.hid (show mb ≠ wr.heap.size from Nat.ne_of_lt HM.out.lt)
      clear hWs hst hix har HRG
      generalize wr.heap.size = X at *
      have HNX := Lib.hid (take_next15 HQ.out)
      have hsn := str_no q.fr
      have hfz := (HOK.out q (List.mem_of_getElem? HQ.out)).fs
      by_cases hf : q.fr = noS
      · rw [decide_eq_true hf] at hsn
        have HM2 := Lib.hid (mi_skip HMk.out hf)
        rw [← HNX.out] at HM2
        clear hf hfz HMk
        go_wp2_with fail
        go_roundw
        case rel => exact ⟨i + 1, k, by have := HLT.out; omega, by have := HK.out; omega, by go_num, HM2.out, HBk.out⟩
        case measure => simp [intOf]; have := HLT.out; omega
      · rw [decide_eq_false hf] at hsn
        have hlk := mi_look HMk.out q.fr hfz
        obtain ⟨w5, hup, hm5, ht5⟩ := mi_put HMk.out (by have := HK.out; have := HLT.out; omega) (by rw [List.length_take]; have := HN.out; omega) hfz hf
        rw [← HNX.out] at hm5
        have HM5 := Lib.hid hm5
        have HB5 := Lib.hid (touch_below15 HBk.out ht5 (by rw [HMBE.out]; exact Nat.le_refl _))
        have hcn := cntF_le (l.take i) q.fr
        rw [List.length_take] at hcn
        have kI : ((cntF (l.take i) q.fr : Nat) : Int) ≤ 1000 := by have := HLT.out; omega
        generalize cntF (l.take i) q.fr = K at *
        have k0 : (0 : Int) ≤ (K : Int) := by omega
        clear hf hfz HMk hm5 ht5 hcn HM
        go_wp2_with fail
        go_roundw
        case rel => exact ⟨i + 1, k + 1, by have := HLT.out; omega, by have := HK.out; omega, by go_num, HM5.out, HB5.out⟩
        case measure => simp [intOf]; have := HLT.out; omega
    · obtain rfl : n = i := by omega
      have HM2 := Lib.hid (show MI wr mb k l by have h := HM.out; rw [List.take_of_length_le (by rw [HN.out]; exact Nat.le_refl _)] at h; exact h)
      clear hi hlt HM
      go_wp2_with fail
      go_ret
      exact ⟨mb, k, rfl, HM2.out, HB.out⟩
set_option maxRecDepth 100000 in
set_option maxHeartbeats 3200000 in
theorem pdest15 (v : Value) (l : List SetV) (n : ByteArray) (w : World) (h : LS w v l) (hs : l.length < 1000) (ho : ∀ s ∈ l, SetOk s) :
    Calls Try.prog 25 #[v, .string n] w fun e w' => DoPost w (destD l n) e w' := by
  have HF := Lib.hid (pfind15 v l n w h (by omega) ho)
  unfold FindPost at HF
  obtain ⟨ZS, hzs⟩ := setR zeroSet
  have hz := zero_set
  rw [hzs.eq] at hz
  have HZ := Lib.hid hzs
  clear hzs
  by_cases hf : (findD l n).2 = 0
  · obtain ⟨hv, hm, hn⟩ := find_cases l n hf
    rw [hf] at HF
    have hnn := (okS_nm (hv.ok _ hm)).1
    rw [hn] at hnn
    have hnz := (okS_nm (hv.ok _ hm)).2
    rw [hn] at hnz
    have hcu := cntF_used (L := l) (show n ≠ noS from fun e => by rw [e] at hnn; exact absurd hnn (by decide))
    obtain ⟨s, hs0⟩ : ∃ s, (findD l n).1 = s := ⟨_, rfl⟩
    rw [hs0] at HF hm hn
    obtain ⟨AR, har⟩ := setR s
    rw [har.eq] at HF
    have HAR := Lib.hid har
    have HUS := Lib.hid (fun W (b : Below w.heap.size w W) => pused15 v l W (h.below b) (by omega) ho)
    have HWO := Lib.hid (fun W (b : Below w.heap.size w W) => pwithout15 v l n W (h.below b) (by omega) hv.ris (mem_nms.2 ⟨s, hm, hn⟩))
    have hcl := cntF_le l n
    have HCL := Lib.hid (show cntF l n ≤ 1000 by omega)
    have HNZ := Lib.hid (show n.size ≤ 140737488351232 by omega)
    have HCU := Lib.hid hcu
    cases hu : usedB l n with
    | true =>
      have HE := Lib.hid (show destD l n = (11, []) by unfold destD; rw [if_pos hf, hu]; rfl)
      have hpos := HCU.out
      rw [hu] at hpos
      have kI : ((cntF l n : Nat) : Int) ≤ 1000 := by have := HCL.out; omega
      have kP : (0 : Int) < ((cntF l n : Nat) : Int) := by have := of_decide_eq_true hpos; omega
      clear hpos hcu hcl har h hs ho hf hs0 hm hn hv hu hnn hnz
      go_enter Try.func25, Try.ntmps25
      go_wp2_with fail
      refine HF.out.mono ?_
      rintro e w2 ⟨rfl, hb2⟩
      have HB2 := Lib.hid hb2
      clear hb2
      go_upto_region 2 with (first
        | (with_reducible refine wpList_store_row (o := ⟨none, .store _ (.tmp 6) _, _, _, _, _⟩) rfl 38 _ _ rfl w2.heap.size AR rfl rfl 38 ZS (heap_alloc_new w2 _) HAR.out.sz (HZ.out.same HAR.out) HAR.out.one ?_))
      generalize hWs : World.setRow _ w2.heap.size _ = w3
      have hst := fresh15 w2 ZS AR 38 w3 hWs.symm
      have HR3 := Lib.hid hst.1
      have HB3 := Lib.hid (bt15 HB2.out hst.2)
      obtain ⟨d0, d1, d2, d3⟩ := set_atR hst.1 HAR.out
      have HP3 := Lib.hid d3
      have HXk := Lib.hid HB2.out.size
      clear hWs hst d3 HF
      generalize w2.heap.size = X at *
      go_wp2_with fail
      refine (HUS.out _ HB3.out).mono ?_
      rintro e w4 ⟨mb, cc, rfl, hmi, hb4⟩
      have hlk := mi_look hmi n HNZ.out
      have HB4 := Lib.hid (bt15 HB3.out hb4)
      clear hmi hb4 HUS
      go_wp2_with fail
      go_ret2
      exact ⟨_, by rw [HE.out]; rfl, by rw [HE.out]; exact OWS.nil _ _, HB4.out⟩
    | false =>
      have HE := Lib.hid (show destD l n = (0, lessL l n) by unfold destD; rw [if_pos hf, hu]; rfl)
      have hpos := HCU.out
      rw [hu] at hpos
      have kI : ((cntF l n : Nat) : Int) ≤ 1000 := by have := HCL.out; omega
      have kP : ¬ ((0 : Int) < ((cntF l n : Nat) : Int)) := by have := of_decide_eq_false hpos; omega
      clear hpos hcu hcl har h hs ho hf hs0 hm hn hv hu hnn hnz
      go_enter Try.func25, Try.ntmps25
      go_wp2_with fail
      refine HF.out.mono ?_
      rintro e w2 ⟨rfl, hb2⟩
      have HB2 := Lib.hid hb2
      clear hb2
      go_upto_region 2 with (first
        | (with_reducible refine wpList_store_row (o := ⟨none, .store _ (.tmp 6) _, _, _, _, _⟩) rfl 38 _ _ rfl w2.heap.size AR rfl rfl 38 ZS (heap_alloc_new w2 _) HAR.out.sz (HZ.out.same HAR.out) HAR.out.one ?_))
      generalize hWs : World.setRow _ w2.heap.size _ = w3
      have hst := fresh15 w2 ZS AR 38 w3 hWs.symm
      have HR3 := Lib.hid hst.1
      have HB3 := Lib.hid (bt15 HB2.out hst.2)
      obtain ⟨d0, d1, d2, d3⟩ := set_atR hst.1 HAR.out
      have HP3 := Lib.hid d3
      have HXk := Lib.hid HB2.out.size
      clear hWs hst d3 HF
      generalize w2.heap.size = X at *
      go_wp2_with fail
      refine (HUS.out _ HB3.out).mono ?_
      rintro e w4 ⟨mb, cc, rfl, hmi, hb4⟩
      have hlk := mi_look hmi n HNZ.out
      have HB4 := Lib.hid (bt15 HB3.out hb4)
      clear hmi hb4 HUS
      go_wp2_with fail
      refine (HWO.out _ HB4.out).mono ?_
      rintro e w5 ⟨v', rfl, ho5, hb5⟩
      have HO := Lib.hid (ho5.up HB4.out.size)
      have HB5 := Lib.hid (bt15 HB4.out hb5)
      clear ho5 hb5
      go_wp2_with fail
      go_ret2
      exact ⟨_, by rw [HE.out]; rfl, by rw [HE.out]; exact HO.out, HB5.out⟩
  · have HE := Lib.hid (show destD l n = ((findD l n).2, []) by unfold destD; rw [if_neg hf])
    obtain ⟨AR, har⟩ := setR (findD l n).1
    rw [har.eq] at HF
    have HAR := Lib.hid har
    clear har h hs ho
    generalize (findD l n).2 = E at *
    have h1 : (E == 0) = false := by simpa using hf
    have h2 : decide (E = 0) = false := by simpa using hf
    have h3 : (E != 0) = true := by simpa using hf
    go_enter Try.func25, Try.ntmps25
    go_wp2_with fail
    refine HF.out.mono ?_
    rintro e w2 ⟨rfl, hb2⟩
    have HB2 := Lib.hid hb2
    clear hb2
    go_wp2_with (first
      | (with_reducible refine wpList_store_row (o := ⟨none, .store _ (.tmp 6) _, _, _, _, _⟩) rfl 38 _ _ rfl w2.heap.size AR rfl rfl 38 ZS (heap_alloc_new w2 _) HAR.out.sz (HZ.out.same HAR.out) HAR.out.one ?_))
    go_ret2
    exact ⟨_, by rw [HE.out]; rfl, by rw [HE.out]; exact OWS.nil _ _, ybelow_row (HB2.out.alloc HB2.out.size _) HB2.out.size _⟩
end Go.Proofs.Ytkafabcklohlmaa
