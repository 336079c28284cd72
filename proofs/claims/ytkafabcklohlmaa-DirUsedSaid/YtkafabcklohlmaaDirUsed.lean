/-
  'DirUsed' returns true at every input, and each argument reads behind the call as it read before. Conditions: none.
-/
import Derived.Test.YtkafabcklohlmaaRows
import Derived.Test.YtkafabcklohlmaaAes0
import Derived.Test.YtkafabcklohlmaaIo
import Derived.Test.YtkafabcklohlmaaIp
namespace Go.Proofs.Ytkafabcklohlmaa.dirUsed
open Go.ChangeShapes Go.WideShapes Go.ChangeAt Go.RowKit
set_option linter.unusedVariables false

def lenV : Value → Nat
  | .slice _ n _ => n
  | _ => 0
/-- What was found so far: the last one that none uses, or none. -/
def FoundU (L : List SetV) (i : Nat) (v : Value) : Prop :=
  (∃ (g : Nat) (s : SetV), v = .int .i64 (g : Int) ∧ g < L.length ∧ L[g]? = some s ∧ usedB L s.nm = false) ∨ (v = .int .i64 (-1) ∧ ∀ s ∈ L.take i, usedB L s.nm = true)
theorem found_next {L : List SetV} {i : Nat} {v : Value} {q : SetV} (h : FoundU L i v) (hq : L[i]? = some q) (hu : usedB L q.nm = true) : FoundU L (i + 1) v := by
  rcases h with h | ⟨e, h⟩
  · exact .inl h
  · refine .inr ⟨e, fun s hs => ?_⟩
    rw [take_next15 hq, List.mem_append, List.mem_singleton] at hs
    rcases hs with hs | rfl
    · exact h s hs
    · exact hu
theorem used_next {L : List SetV} {j : Nat} {q : SetV} (n : ByteArray) (hq : L[j]? = some q) : usedB (L.take (j + 1)) n = (usedB (L.take j) n || decide (q.fr = n)) := by
  rw [take_next15 hq]
  unfold usedB
  rw [List.any_append]
  simp

set_option maxRecDepth 100000 in
set_option maxHeartbeats 3200000 in
theorem walk (w : World) (a0 : Option Addr) (len0 cap0 : Nat) (x0 : List ActD) (sl0 : SlR RActD 3 w x0 a0 len0 cap0) :
    Calls Try.prog 7 #[.slice a0 len0 cap0] w fun e w' => e = .returned (.bool true) ∧ Below w.heap.size w w' := by
  have HAL := Lib.hid (alive15 w)
  obtain ⟨hat, hok⟩ := ad_of sl0
  have HLEN := Lib.hid sl0.len
  have HCAP := Lib.hid (And.intro sl0.cap sl0.big)
  have HAT := Lib.hid hat
  have HOK := Lib.hid hok
  have nBI : (len0 : Int) ≤ 140737488351232 := by have := sl0.cap; have := sl0.big; omega
  have n0I : (0 : Int) ≤ (len0 : Int) := by omega
  clear sl0 hat hok
  obtain ⟨ZS, hzs⟩ := setR zeroSet
  have hz := zero_set
  rw [hzs.eq] at hz
  have HZ := Lib.hid hzs
  clear hzs
  go_enter Try.func7, Try.ntmps7
  go_wp2_with fail
  refine HAL.out.mono ?_
  rintro e w1 ⟨rfl, hb1⟩
  have HB1 := Lib.hid hb1
  clear hb1 HAL
  by_cases hbig : 60 < len0
  · have bI : (60 : Int) < (len0 : Int) := by omega
    clear hbig
    go_wp2_with fail
    go_ret
    exact ⟨rfl, HB1.out⟩
  · have bI : ¬ ((60 : Int) < (len0 : Int)) := by omega
    have HSM := Lib.hid (show len0 ≤ 60 by omega)
    clear hbig
    go_wp2_with fail
    go_loopw [3, 5, 6, 7, 25] (fun v3 _ _ _ v25 wr => ∃ (i : Nat) (L : List SetV), i ≤ len0 ∧ v25 = .int .i64 (i : Int) ∧ LS wr v3 L ∧ GD L i ∧ Acy L ∧ Below w.heap.size w wr) (fun _ _ _ _ v _ => len0 - (intOf v).toNat)
    case atStart => exact ⟨0, [], Nat.zero_le _, rfl, ls_nil _, GD.nil, acy_nil, HB1.out⟩
    case round =>
      clear HB1
      obtain ⟨i, L, hi, rfl, hL, hg, hac, hb⟩ := hrel
      have HB := Lib.hid hb
      have HL := Lib.hid hL
      have HG := Lib.hid hg
      have HAC := Lib.hid hac
      clear hb hL hg hac
      by_cases hlt : i < len0
      · obtain ⟨q, hq⟩ : ∃ q, x0[i]? = some q := ⟨_, List.getElem?_eq_getElem (by rw [HLEN.out]; exact hlt)⟩
        obtain ⟨b, off, rfl, hrg⟩ := (HAT.out.below HB.out).at_ i q hq
        obtain ⟨c0, c1, c2⟩ := act_cellsD hrg
        have hix := index_act15 b off len0 cap0 i hlt
        have HLT := Lib.hid hlt
        have HQO := Lib.hid (HOK.out q (List.mem_of_getElem? hq))
        have HQ := Lib.hid hq
        have iI : (i : Int) < (len0 : Int) := by omega
        have i0 : (0 : Int) ≤ (i : Int) := by omega
        clear hi hlt hq hrg
        obtain ⟨kd, qa, qb⟩ := q
        dsimp only at c0 c1 c2
        go_upto_region 9 with fail
        generalize hwi : World.alloc wr (.cells #[.int .i64 kd, .string qa, .string qb] 27) = wi
        have hbi := ba15 wr (.cells #[.int .i64 kd, .string qa, .string qb] 27)
        have hni := new15 wr (.cells #[.int .i64 kd, .string qa, .string qb] 27)
        rw [hwi] at hbi hni
        have HBi := Lib.hid (bt15 HB.out hbi)
        have HNI := Lib.hid hni
        have HSI := Lib.hid hbi
        have j0 := cell_of_row wi wr.heap.size 0 _ _ _ hni
        have j1 := cell_of_row wi wr.heap.size 1 _ _ _ hni
        have j2 := cell_of_row wi wr.heap.size 2 _ _ _ hni
        have HLi := Lib.hid (HL.out.below hbi)
        clear hwi hbi hni c0 c1 c2 hix
        generalize hXX : wr.heap.size = X at *
        clear hXX
        have HDO := Lib.hid (pdo15 _ L kd qa qb wi HLi.out (by have := HG.out.n; have := HLT.out; have := HSM.out; omega) HG.out.v.okk HQO.out.za HQO.out.zb)
        go_wp2_with fail
        refine HDO.out.mono ?_
        rintro e wd ⟨vx, rfl, hox, hbd⟩
        have HX := Lib.hid hox.ls
        have HBD := Lib.hid (bt15 HBi.out hbd)
        have HLD := Lib.hid (HLi.out.below hbd)
        clear hbd hox HDO HLi HNI HSI j0 j1 j2
        by_cases he : (doD L kd qa qb).1 = 0
        · have HNX := Lib.hid (HG.out.next he)
          have HAN := Lib.hid (do_acy HG.out.v HAC.out kd qa qb he)
          rw [he]
          clear he
          go_wp2_with fail
          go_roundw
          case rel => exact ⟨i + 1, (doD L kd qa qb).2, by have := HLT.out; omega, by go_num, HX.out, HNX.out, HAN.out, HBD.out⟩
          case measure => simp [intOf]; have := HLT.out; omega
        · have HNX := Lib.hid HG.out.up
          generalize (doD L kd qa qb).1 = E at *
          have h1 : (E == 0) = false := by simpa using he
          have h2 : decide (E = 0) = false := by simpa using he
          have h3 : (E != 0) = true := by simpa using he
          go_wp2_with fail
          go_roundw
          case rel => exact ⟨i + 1, L, by have := HLT.out; omega, by go_num, HLD.out, HNX.out, HAC.out, HBD.out⟩
          case measure => simp [intOf]; have := HLT.out; omega
      · have HNN := Lib.hid (show i ≤ 60 by have := HSM.out; omega)
        go_wp2_with fail
        clear hi hlt HLEN HCAP HAT HOK nBI n0I bI HSM
        go_loopw [3, 8, 9, 10, 11, 13, 14, 15, 16, 17] (fun v3 _ _ _ _ _ _ _ _ _ wr => ∃ L : List SetV, LS wr v3 L ∧ VL L ∧ Acy L ∧ L.length ≤ 60 ∧ Below w.heap.size w wr) (fun v _ _ _ _ _ _ _ _ _ _ => lenV v)
        case atStart => exact ⟨L, HL.out, HG.out.v, HAC.out, Nat.le_trans HG.out.n HNN.out, HB.out⟩
        case round =>
          rename World => wo
          clear HL HG HAC HB HNN
          obtain ⟨L, hL, hv, hac, hn, hb⟩ := hrel
          obtain ⟨a, c, rfl, hc, hat⟩ := id hL
          have HL := Lib.hid hL
          have HV := Lib.hid hv
          have HAC := Lib.hid hac
          have HB := Lib.hid hb
          obtain ⟨n, hnn⟩ : ∃ n, L.length = n := ⟨_, rfl⟩
          have HN := Lib.hid hnn
          have HA := Lib.hid (fun (W : World) (q : Below wo.heap.size wo W) (i : Nat) (q' : SetV) (hq : L[i]? = some q') => (show ∃ b off, a = some ⟨b, off, none⟩ ∧ W.rangeAt b (off + i * 37) (setRow q') by obtain ⟨b, off, e, h⟩ := hat i q' hq; exact ⟨b, off, e, range_below h q⟩))
          rw [hnn]
          have nI : (n : Int) ≤ 60 := by omega
          have n0 : (0 : Int) ≤ (n : Int) := by omega
          clear hL hv hac hb hat hc hn
          by_cases h0 : n = 0
          · have hz : ¬ ((0 : Int) < (n : Int)) := by omega
            clear h0 hnn
            go_wp2_with fail
            go_ret
            exact ⟨rfl, HB.out⟩
          · have hpos : (0 : Int) < (n : Int) := by omega
            have HFR := Lib.hid (some_free HV.out HAC.out (by intro e; rw [e] at hnn; exact h0 hnn.symm))
            clear h0 hnn
            go_wp2_with fail
            try rw [show decide (0 < n) = true from decide_eq_true (by omega)]
            go_loopw [8, 9, 10, 11, 13, 14, 15, 44] (fun v8 _ _ _ _ _ _ v44 wr2 => ∃ i : Nat, i ≤ n ∧ v44 = .int .i64 (i : Int) ∧ FoundU L i v8 ∧ Below wo.heap.size wo wr2) (fun _ _ _ _ _ _ _ v _ => n - (intOf v).toNat)
            case atStart => exact ⟨0, Nat.zero_le _, rfl, .inr ⟨rfl, fun s hs => by simp at hs⟩, Below.refl _ _⟩
            case round =>
              rename World => wq
              obtain ⟨i, hi, rfl, hf, hb2⟩ := hrel
              have HF := Lib.hid hf
              have HB2 := Lib.hid hb2
              clear hf hb2
              by_cases hlt : i < n
              · have HA0 := Lib.hid (HA.out wo (Below.refl _ _))
                obtain ⟨q, hq⟩ : ∃ q, L[i]? = some q := ⟨_, List.getElem?_eq_getElem (by rw [HN.out]; exact hlt)⟩
                obtain ⟨b, off, rfl, hrg⟩ := HA0.out i q hq
                have HRG := Lib.hid (range_below hrg HB2.out)
                have hix := index_set b off n c i hlt
                obtain ⟨AR, har⟩ := setR q
                have HAR := Lib.hid har
                have HQ := Lib.hid hq
                have HLT := Lib.hid hlt
                have iI : (i : Int) < (n : Int) := by omega
                have i0 : (0 : Int) ≤ (i : Int) := by omega
                clear hlt hrg hq hi
                go_upto_region 19 with (first
                  | (with_reducible refine ld_set (op := ⟨some 48, _, _, _, _, _⟩) rfl _ rfl b (off + i * 37) rfl q _ HAR.out.eq HRG.out ?_)
                  | (with_reducible refine wpList_store_row (o := ⟨none, .store _ (.tmp 10) _, _, _, _, _⟩) rfl 38 _ _ rfl wq.heap.size AR rfl rfl 38 ZS (heap_alloc_new wq _) HAR.out.sz (HZ.out.same HAR.out) HAR.out.one ?_))
                generalize hWs : World.setRow _ wq.heap.size _ = wk
                have hst := fresh15 wq ZS AR 38 wk hWs.symm
                have HRk := Lib.hid hst.1
                have HBk := Lib.hid (bt15 HB2.out hst.2)
                obtain ⟨d0, d1, d2, d3⟩ := set_atR hst.1 har
                have HXk := Lib.hid (show wo.heap.size ≤ wq.heap.size from HB2.out.size)
                clear hWs hst hix har HRG
                generalize wq.heap.size = X at *
                have HBk2 := Lib.hid HBk.out
                go_wp2_with fail
                go_loopw [11, 13, 51] (fun v11 _ v51 wt => ∃ j : Nat, j ≤ n ∧ v51 = .int .i64 (j : Int) ∧ v11 = .bool (usedB (L.take j) q.nm) ∧ Below wk.heap.size wk wt) (fun _ _ v _ => n - (intOf v).toNat)
                case atStart => exact ⟨0, Nat.zero_le _, rfl, rfl, Below.refl _ _⟩
                case round =>
                  rename World => wt
                  obtain ⟨j, hj, rfl, rfl, hb3⟩ := hrel
                  have HB3 := Lib.hid hb3
                  have dd0 := cell_block15 d0 hb3
                  clear hb3
                  by_cases hlt : j < n
                  · have HAt := Lib.hid (HA.out wo (Below.refl _ _))
                    have HBt := Lib.hid (bt15 HBk.out HB3.out)
                    obtain ⟨t, ht⟩ : ∃ q, L[j]? = some q := ⟨_, List.getElem?_eq_getElem (by rw [HN.out]; exact hlt)⟩
                    obtain ⟨b', off', hbe, hrg⟩ := HAt.out j t ht
                    injection hbe with hbe
                    injection hbe with hb1 hb2
                    subst hb1 hb2
                    have HRGt := Lib.hid (range_below hrg HBt.out)
                    have hix := index_set b off n c j hlt
                    obtain ⟨CR, hcr⟩ := setR t
                    have HCR := Lib.hid hcr
                    have HQt := Lib.hid ht
                    have HLTj := Lib.hid hlt
                    have jI : (j : Int) < (n : Int) := by omega
                    have j0 : (0 : Int) ≤ (j : Int) := by omega
                    clear hlt hrg ht hj
                    go_upto_region 22 with (first
                      | (with_reducible refine ld_set (op := ⟨some 54, _, _, _, _, _⟩) rfl _ rfl b (off + j * 37) rfl t _ HCR.out.eq HRGt.out ?_)
                      | (with_reducible refine wpList_store_row (o := ⟨none, .store _ (.tmp 13) _, _, _, _, _⟩) rfl 38 _ _ rfl wt.heap.size CR rfl rfl 38 ZS (heap_alloc_new wt _) HCR.out.sz (HZ.out.same HCR.out) HCR.out.one ?_))
                    generalize hWs : World.setRow _ wt.heap.size _ = wl
                    have hst := fresh15 wt ZS CR 38 wl hWs.symm
                    have HRl := Lib.hid hst.1
                    have HBl := Lib.hid (bt15 HBt.out hst.2)
                    obtain ⟨f0, f1, f2, f3⟩ := set_atR hst.1 hcr
                    have HXl := Lib.hid (show wo.heap.size ≤ wt.heap.size from HBt.out.size)
                    have g0 := cell_block15 dd0 hst.2
                    have HBkl := Lib.hid (bt15 HB3.out hst.2)
                    clear hWs hst hix hcr HRGt
                    generalize wt.heap.size = Y at *
                    have hsb := str_beq t.fr q.nm
                    have HUN := Lib.hid (used_next q.nm HQt.out)
                    have HBw := Lib.hid (show Below wk.heap.size wk wl from HBkl.out)
                    cases hub : usedB (L.take j) q.nm with
                    | true =>
                      rw [hub] at HUN
                      clear hub
                      go_wp2_with fail
                      go_roundw
                      case rel => exact ⟨j + 1, by have := HLTj.out; omega, by go_num, by rw [HUN.out]; rfl, HBw.out⟩
                      case measure => simp [intOf]; have := HLTj.out; omega
                    | false =>
                      rw [hub] at HUN
                      clear hub
                      by_cases hf : t.fr = q.nm
                      · rw [decide_eq_true hf] at hsb HUN
                        clear hf
                        go_wp2_with fail
                        go_roundw
                        case rel => exact ⟨j + 1, by have := HLTj.out; omega, by go_num, by rw [HUN.out]; rfl, HBw.out⟩
                        case measure => simp [intOf]; have := HLTj.out; omega
                      · rw [decide_eq_false hf] at hsb HUN
                        clear hf
                        go_wp2_with fail
                        go_roundw
                        case rel => exact ⟨j + 1, by have := HLTj.out; omega, by go_num, by rw [HUN.out]; rfl, HBw.out⟩
                        case measure => simp [intOf]; have := HLTj.out; omega
                  · obtain rfl : n = j := by omega
                    rw [show L.take n = L from List.take_of_length_le (by rw [HN.out]; exact Nat.le_refl _)]
                    have HBt := Lib.hid (bt15 HBk.out HB3.out)
                    clear hj hlt
                    have HDS := Lib.hid (pdest15 _ L q.nm wt (HL.out.below HBt.out) (by rw [HN.out]; omega) HV.out.okk)
                    rw [dest_mem HV.out (List.mem_of_getElem? HQ.out), HN.out] at HDS
                    cases hu : usedB L q.nm with
                    | true =>
                      rw [hu] at HDS
                      rw [if_pos rfl] at HDS
                      have HUU := Lib.hid hu
                      clear hu
                      go_wp2_with fail
                      refine HDS.out.mono ?_
                      rintro e we ⟨vx, rfl, _, hbe⟩
                      have HBe := Lib.hid (bt15 HBt.out hbe)
                      clear hbe HDS
                      go_wp2_with fail
                      have HFN := Lib.hid (found_next HF.out HQ.out HUU.out)
                      go_roundw
                      case rel => exact ⟨i + 1, by have := HLT.out; omega, by go_num, HFN.out, HBe.out⟩
                      case measure => simp [intOf]; have := HLT.out; omega
                    | false =>
                      rw [hu] at HDS
                      rw [if_neg (by decide)] at HDS
                      have HUU := Lib.hid hu
                      clear hu
                      go_wp2_with fail
                      refine HDS.out.mono ?_
                      rintro e we ⟨vx, rfl, _, hbe⟩
                      have HBe := Lib.hid (bt15 HBt.out hbe)
                      clear hbe HDS
                      go_wp2_with fail
                      go_roundw
                      case rel => exact ⟨i + 1, by have := HLT.out; omega, by go_num, .inl ⟨i, q, rfl, by rw [HN.out]; exact HLT.out, HQ.out, HUU.out⟩, HBe.out⟩
                      case measure => simp [intOf]; have := HLT.out; omega
              · obtain rfl : n = i := by omega
                clear hi hlt
                rcases HF.out with ⟨g, s, rfl, hg1, hg2, hg3⟩ | ⟨rfl, hall⟩
                · rw [HN.out] at hg1
                  have hgI : (g : Int) < (n : Int) := by omega
                  have hg0 : (0 : Int) ≤ (g : Int) := by omega
                  have hgn : ¬ ((g : Int) < 0) := by omega
                  obtain ⟨b, off, rfl, hrg⟩ := HA.out wq HB2.out g s hg2
                  obtain ⟨c0, _, _, _⟩ := set_range hrg
                  have hix := index_set b off n c g hg1
                  have HSM := Lib.hid (List.mem_of_getElem? hg2)
                  have HDS := Lib.hid (pdest15 _ L s.nm wq (HL.out.below HB2.out) (by rw [HN.out]; omega) HV.out.okk)
                  rw [dest_mem HV.out HSM.out, hg3, if_neg (by decide), HN.out] at HDS
                  have HVN := Lib.hid (vl_less HV.out hg3)
                  have HAN := Lib.hid (acy_less HAC.out s.nm)
                  have HLN := Lib.hid (len_less HV.out.ris (mem_nms.2 ⟨s, HSM.out, rfl⟩))
                  clear hg1 hg2 hg3 hrg HF
                  go_wp2_with fail
                  refine HDS.out.mono ?_
                  rintro e we ⟨vx, rfl, hox, hbe⟩
                  have HX := Lib.hid hox.ls
                  have HBe := Lib.hid (bt15 HB.out (bt15 HB2.out hbe))
                  obtain ⟨ax, cx, rfl, _, _⟩ := hox.ls
                  obtain ⟨m, hm⟩ : ∃ m, (lessL L s.nm).length = m := ⟨_, rfl⟩
                  rw [HN.out, hm] at HLN
                  have hln := HLN.out
                  have HM := Lib.hid hm
                  rw [hm] at HX ⊢
                  have hnm : (n : Int) = (m : Int) + 1 := by omega
                  have hn1 : IntKind.i64.wrap ((n : Int) - 1) = (m : Int) := by rw [show (n : Int) - 1 = (m : Int) by omega]; exact IntWalk.i64_in _ (by omega)
                  have m0 : (0 : Int) ≤ (m : Int) := by omega
                  have m1 : (m : Int) ≤ 60 := by omega
                  clear hbe hox HDS hm hln
                  go_wp2_with fail
                  go_roundw
                  case rel => exact ⟨lessL L s.nm, HX.out, HVN.out, HAN.out, by rw [HM.out]; omega, HBe.out⟩
                  case measure => simp only [lenV]; have := HLN.out; omega
                · obtain ⟨s, hs, hu⟩ := HFR.out
                  have := hall s (by rw [List.take_of_length_le (by rw [HN.out]; exact Nat.le_refl _)]; exact hs)
                  rw [hu] at this
                  cases this
set_option maxRecDepth 100000 in
theorem lifted (os : Os) (started : os.Started) (H : Type) (enc : TypeId × Value → H) :
    ReturnsInHanded {} Try.checked os 7 .any (Rows.dirUsedSpec.pre6 enc Try.prog Try.f7 Rows.dirUsedRow.domain false) (Rows.dirUsedSpec.post enc Try.prog Try.f7 false true false false) := by
  refine returnsInHanded_of_change_sized (C := Try.checked) own started (by kernel_rfl) Try.func7
    (ChangeSpec.witness6 (enc := enc) (C := Try.checked) false ⟨#[], #[.slice none 0 0], []⟩ 8 (by kernel_rfl) (by kernel_rfl) (by kernel_rfl) (by kernel_rfl)) ?_
  intro W base args ds gs before hval0 hW hcnd hsz0 _
  have hsz : (DataW.weightsEach Try.prog (Try.f7.params.toList ++ Rows.dirUsedSpec.plain.varTypes Try.prog) (ds ++ gs)).all (· ≤ reachBytes) = true := hsz0
  clear hsz0
  have hval : ∀ (j : Nat) t v, Try.f7.params[j]? = some t → args[j]? = some v → Value.okWide Try.prog W .any base t v := hval0
  have hW' := hW
  obtain ⟨p, q, hA0, hV, rfl, hfz, hnd⟩ := hW
  have hA : DataW.TrodAll enc Try.prog W 0 (fun _ => true) true Try.f7.params.toList args.toList ds p := hA0
  rw [Try.params7] at hA hval hsz
  obtain ⟨v0, vs0, d0, ds0, p0, q0, hargs, rfl, rfl, h0, r0⟩ := trodAll_cons hA
  obtain ⟨rfl, rfl, rfl⟩ := trodAll_nil r0
  obtain rfl : args = #[v0] := by cases args; simp_all
  obtain ⟨rfl, rfl⟩ := trodVars_none hV
  have k0 := h0
  have lt0 : ∀ x ∈ p0, x.block < W.heap.size := by obtain ⟨m, hm⟩ := k0; exact DataW.trod_lt m _ _ _ hm
  obtain ⟨x0, a0, len0, cap0, rfl, sl0⟩ := par_slice (j := 0) Try.underlying23 opn_acts15 (hval 0 23 v0 rfl rfl) h0 hsz rfl rfl
  clear hA0 hval0
  simp only [List.append_nil] at hW'
  refine (walk W a0 len0 cap0 x0 sl0).mono fun e W' ⟨he, bel⟩ => ?_
  subst he
  exact ⟨_, rfl, _, _, _, [], _, [], hW', trodAll_mk1 (shut_bool Try.underlying4 _), (trodAll_cons_mk (Below.trod laidOut (by kernel_rfl) (of_decide_eq_true (by kernel_rfl)) k0 bel lt0) trodAll_mk0), rfl, bel.frame _, fun h => by cases h⟩

theorem over : Rows.dirUsedRow.holds Try.pinned (OpenSpec.ofChange Rows.dirUsedSpec) :=
  OpenClaim.holds_of_wide 7 Try.f7 rfl rfl rfl rfl rfl rfl rfl ⟨rfl, rfl, rfl, rfl, rfl⟩ rfl rfl rfl rfl rfl (by kernel_rfl) Try.func7 (by kernel_rfl)
    (of_decide_eq_true (by kernel_rfl)) (by unfold Func.isWrapper; first | (rw [if_pos (by decide +kernel)]; kernel_rfl) | (rw [if_neg (by decide +kernel)]; exact ⟨rfl, rfl⟩))
    (fun os started H enc _ => lifted os started H enc)

/-- The statement. -/
theorem proved : Rows.DirUsedSaid := over
#print axioms proved
end Go.Proofs.Ytkafabcklohlmaa.dirUsed
