/-
  Datasets: the document's with, Create, Snap, Clone. (Written by tools/XIl.make.py.)
-/
import Derived.Test.YtkafabcklohlmaaIk
namespace Go.Proofs.Ytkafabcklohlmaa
set_option maxRecDepth 4000
set_option linter.unusedVariables false
open Go.ChangeShapes Go.WideShapes Go.ChangeAt Go.RowKit

theorem filter_next {l : List SetV} {i : Nat} {q : SetV} (p : SetV → Bool) (h : l[i]? = some q) : (l.take (i + 1)).filter p = if p q then (l.take i).filter p ++ [q] else (l.take i).filter p := by
  rw [take_next15 h, List.filter_append]
  cases hp : p q with
  | true => rw [if_pos rfl, List.filter_cons_of_pos hp]; rfl
  | false => rw [if_neg (by decide), List.filter_cons_of_neg (by rw [hp]; decide)]; simp
theorem filter_len (p : SetV → Bool) (l : List SetV) (i : Nat) : ((l.take i).filter p).length ≤ l.length := Nat.le_trans (List.length_filter_le _ _) (by rw [List.length_take]; omega)
/-- One more dataset, of a block of its own. -/
theorem ows_one {w : World} {B : Nat} {v : Value} {K : List SetV} {AR : Array Value} {q : SetV} (h : OWS w B v K) (hB : B ≤ w.heap.size) (hr : SetR AR q) (hn : K.length ≤ 10000) (ty : TypeId) :
    ∃ v' w', (Builtin.append_ #[22, 22] ty #[v, .slice (some ⟨w.heap.size, 0, none⟩) 1 1]).run Try.prog (w.alloc (.cells AR 38)) = .ok v' w' ∧ OWS w' B v' (K ++ [q]) ∧ (∀ w0 : World, B = w0.heap.size → Below w0.heap.size w0 w → Below w0.heap.size w0 w') := by
  have h1 := h.below (ba15 w (.cells AR 38))
  obtain ⟨v', w', hrun, ho, hg⟩ := ows_app (M := [q]) h1 (Nat.le_trans hB (ba15 w _).size) (ls_one (new15 w _) hr) (by rw [List.length_singleton]; omega) ty
  refine ⟨v', w', hrun, ho, ?_⟩
  rintro w0 rfl hb
  exact h1.grown hg (hb.alloc hB _)
set_option maxRecDepth 100000 in
set_option maxHeartbeats 3200000 in
theorem rwith15 (v : Value) (l : List SetV) (s : SetV) (w : World) (h : LS w v l) (hs : l.length ≤ 1000) :
    Calls Try.prog 59 #[v, .agg (setRow s).toArray] w fun e w' => ∃ v', e = .returned v' ∧ OWS w' w.heap.size v' (withL l s) ∧ Below w.heap.size w w' := by
  obtain ⟨BR, hbr⟩ := setR s
  rw [hbr.eq]
  have HBR := Lib.hid hbr
  have HN0 := Lib.hid (new15 w (.cells BR 38))
  have HB0 := Lib.hid (ba15 w (.cells BR 38))
  obtain ⟨a, c, rfl, hc, hat⟩ := h.below (ba15 w (.cells BR 38))
  obtain ⟨n, hn⟩ : ∃ n, l.length = n := ⟨_, rfl⟩
  have HA := Lib.hid hat
  have HN := Lib.hid hn
  rw [hn]
  have nI : (n : Int) ≤ 1000 := by omega
  have n0 : (0 : Int) ≤ (n : Int) := by omega
  clear hat hc hn hs hbr h
  obtain ⟨ZS, hzs⟩ := setR zeroSet
  have hz := zero_set
  rw [hzs.eq] at hz
  have HZ := Lib.hid hzs
  clear hzs
  go_enter Try.func59, Try.ntmps59
  go_upto_region 2 with fail
  generalize w.alloc (.cells BR 38) = w1 at *
  have HXb := Lib.hid (lt_of_block HN0.out)
  obtain ⟨Xb, hxb⟩ : ∃ z, w.heap.size = z := ⟨_, rfl⟩
  have HXE := Lib.hid hxb
  rw [hxb] at HN0 HXb ⊢
  clear hxb
  go_wp2_with fail
  go_loopw [5, 7, 12] (fun v5 _ v12 wr => ∃ i : Nat, i ≤ n ∧ v12 = .int .i64 (i : Int) ∧ OWS wr w1.heap.size v5 ((l.take i).filter (fun x => lo x.nm s.nm)) ∧ Below w1.heap.size w1 wr) (fun _ _ v _ => n - (intOf v).toNat)
  case atStart => exact ⟨0, Nat.zero_le _, rfl, OWS.nil _ _, Below.refl _ _⟩
  case round =>
    obtain ⟨i, hi, rfl, ho, hb⟩ := hrel
    have HB := Lib.hid hb
    have HO := Lib.hid ho
    clear hb ho
    by_cases hlt : i < n
    · obtain ⟨q, hq⟩ : ∃ q, l[i]? = some q := ⟨_, List.getElem?_eq_getElem (by rw [HN.out]; exact hlt)⟩
      obtain ⟨b, off, rfl, hrg⟩ := HA.out i q hq
      have HRG := Lib.hid (range_below hrg HB.out)
      have hix := index_set b off n c i hlt
      obtain ⟨AR, har⟩ := setR q
      have HAR := Lib.hid har
      have HQ := Lib.hid hq
      have HLT := Lib.hid hlt
      have iI : (i : Int) < (n : Int) := by omega
      have i0 : (0 : Int) ≤ (i : Int) := by omega
      clear hlt hrg hq hi
      go_upto_region 5 with (first
        | (with_reducible refine ld_set (op := ⟨some 15, _, _, _, _, _⟩) rfl _ rfl b (off + i * 37) rfl q _ HAR.out.eq HRG.out ?_)
        | (with_reducible refine wpList_store_row (o := ⟨none, .store _ (.tmp 7) _, _, _, _, _⟩) rfl 38 _ _ rfl wr.heap.size AR rfl rfl 38 ZS (heap_alloc_new wr _) HAR.out.sz (HZ.out.same HAR.out) HAR.out.one ?_))
      generalize hWs : World.setRow _ wr.heap.size _ = wk
      have hst := fresh15 wr ZS AR 38 wk hWs.symm
      have HRk := Lib.hid hst.1
      have HBk := Lib.hid (bt15 HB.out hst.2)
      obtain ⟨d0, d1, d2, d3⟩ := set_atR hst.1 har
      have HXk := Lib.hid (show w1.heap.size ≤ wr.heap.size from HB.out.size)
      have HOk := Lib.hid (HO.out.below hst.2)
      clear hWs hst hix har HRG
      generalize wr.heap.size = X at *
      have HBX := Lib.hid ((HBk.out.block Xb HXb.out).trans HN0.out)
      obtain ⟨e0, _, _, _⟩ := set_atR HBX.out HBR.out
      have HFN := Lib.hid (filter_next (fun x => lo x.nm s.nm) HQ.out)
      have HFL := Lib.hid (filter_len (fun x => lo x.nm s.nm) l i)
      cases hlo : lo q.nm s.nm with
      | true =>
        have s1 : Op.bytesLess q.nm.toList s.nm.toList = true := hlo
        have HFT := Lib.hid (HFN.out.trans (if_pos hlo))
        obtain ⟨v', w9, hru, ho9, hb9⟩ := ows_one HOk.out HBk.out.size HAR.out (by have := HFL.out; have := HN.out; omega) 22
        have HRU := Lib.hid hru
        have HO9 := Lib.hid ho9
        have HB9 := Lib.hid (hb9 _ rfl HBk.out)
        have HLI := Lib.hid (show (Instr.buildSlice 22 1 #[(0, .agg AR)]).run Try.prog wk = .ok (.slice (some ⟨wk.heap.size, 0, none⟩) 1 1) (World.alloc wk (.cells AR 38)) from HAR.out.eq ▸ lit_set _ wk)
        clear hru ho9 hb9
        have HO2 := Lib.hid (show OWS w9 w1.heap.size v' ((l.take (i + 1)).filter (fun x => lo x.nm s.nm)) by rw [HFT.out]; exact HO9.out)
        clear hlo HFN HFT
        go_wp2_with (first
          | (with_reducible refine wpList_load_row (o := ⟨some 22, _, _, _, _, _⟩) rfl 38 _ rfl X rfl 38 AR (0, 0) _ HRk.out Try.underlying38 rfl HAR.out.sz ?_)
          | (refine wpList_lit_run (o := ⟨some 23, _, _, _, _, _⟩) rfl _ _ _ rfl #[(0, .agg AR)] (by simp [Act.eval, Act.put]) _ _ HLI.out ?_)
          | (at_builtin; refine wpList_append_run (o := ⟨some 24, _, _, _, _, _⟩) rfl _ _ _ _ rfl _ _ _ _ rfl rfl HRU.out ?_))
        go_roundw
        case rel => exact ⟨i + 1, by have := HLT.out; omega, by go_num, HO2.out, HB9.out⟩
        case measure => simp [intOf]; have := HLT.out; omega
      | false =>
        have s1 : Op.bytesLess q.nm.toList s.nm.toList = false := hlo
        have HO2 := Lib.hid (show OWS wk w1.heap.size _ ((l.take (i + 1)).filter (fun x => lo x.nm s.nm)) by rw [HFN.out, if_neg (by rw [hlo]; decide)]; exact HOk.out)
        clear hlo HFN
        go_wp2_with fail
        go_roundw
        case rel => exact ⟨i + 1, by have := HLT.out; omega, by go_num, HO2.out, HBk.out⟩
        case measure => simp [intOf]; have := HLT.out; omega
    · obtain rfl : n = i := by omega
      have hfl := List.length_filter_le (fun x => lo x.nm s.nm) l
      have HO1 := Lib.hid (show OWS wr w1.heap.size _ (l.filter (fun x => lo x.nm s.nm)) by have h := HO.out; rw [List.take_of_length_le (by rw [HN.out]; exact Nat.le_refl _)] at h; exact h)
      have HBX := Lib.hid ((HB.out.block Xb HXb.out).trans HN0.out)
      obtain ⟨v', w9, hru, ho9, hb9⟩ := ows_one HO1.out HB.out.size HBR.out (by have := HN.out; omega) 22
      have HRU := Lib.hid hru
      have HO9 := Lib.hid ho9
      have HB9 := Lib.hid (hb9 _ rfl HB.out)
      have HLI := Lib.hid (show (Instr.buildSlice 22 1 #[(0, .agg BR)]).run Try.prog wr = .ok (.slice (some ⟨wr.heap.size, 0, none⟩) 1 1) (World.alloc wr (.cells BR 38)) from HBR.out.eq ▸ lit_set _ wr)
      clear hru ho9 hb9
      clear hi hlt HO HO1 hfl
      go_wp2_with (first
        | (with_reducible refine wpList_load_row (o := ⟨some 27, _, _, _, _, _⟩) rfl 38 _ rfl Xb rfl 38 BR (0, 0) _ HBX.out Try.underlying38 rfl HBR.out.sz ?_)
        | (refine wpList_lit_run (o := ⟨some 28, _, _, _, _, _⟩) rfl _ _ _ rfl #[(0, .agg BR)] (by simp [Act.eval, Act.put]) _ _ HLI.out ?_)
        | (at_builtin; refine wpList_append_run (o := ⟨some 29, _, _, _, _, _⟩) rfl _ _ _ _ rfl _ _ _ _ rfl rfl HRU.out ?_))
      have HFA := Lib.hid (List.length_filter_le (fun x => lo x.nm s.nm) l)
      clear HRU HLI HB
      go_loopw [5, 9, 32] (fun v5 _ v32 wr => ∃ i : Nat, i ≤ n ∧ v32 = .int .i64 (i : Int) ∧ OWS wr w1.heap.size v5 ((l.filter (fun x => lo x.nm s.nm) ++ [s]) ++ (l.take i).filter (fun x => lo s.nm x.nm)) ∧ Below w1.heap.size w1 wr) (fun _ _ v _ => n - (intOf v).toNat)
      case atStart => exact ⟨0, Nat.zero_le _, rfl, by rw [show (l.take 0).filter (fun x => lo s.nm x.nm) = [] from rfl, List.append_nil]; exact HO9.out, HB9.out⟩
      case round =>
        clear HO9 HB9 HBX
        obtain ⟨i, hi, rfl, ho, hb⟩ := hrel
        have HB := Lib.hid hb
        have HO := Lib.hid ho
        clear hb ho
        by_cases hlt : i < n
        · obtain ⟨q, hq⟩ : ∃ q, l[i]? = some q := ⟨_, List.getElem?_eq_getElem (by rw [HN.out]; exact hlt)⟩
          obtain ⟨b, off, rfl, hrg⟩ := HA.out i q hq
          have HRG := Lib.hid (range_below hrg HB.out)
          have hix := index_set b off n c i hlt
          obtain ⟨AR, har⟩ := setR q
          have HAR := Lib.hid har
          have HQ := Lib.hid hq
          have HLT := Lib.hid hlt
          have iI : (i : Int) < (n : Int) := by omega
          have i0 : (0 : Int) ≤ (i : Int) := by omega
          clear hlt hrg hq hi
          go_upto_region 12 with (first
            | (with_reducible refine ld_set (op := ⟨some 35, _, _, _, _, _⟩) rfl _ rfl b (off + i * 37) rfl q _ HAR.out.eq HRG.out ?_)
            | (with_reducible refine wpList_store_row (o := ⟨none, .store _ (.tmp 9) _, _, _, _, _⟩) rfl 38 _ _ rfl wr.heap.size AR rfl rfl 38 ZS (heap_alloc_new wr _) HAR.out.sz (HZ.out.same HAR.out) HAR.out.one ?_))
          generalize hWs : World.setRow _ wr.heap.size _ = wk
          have hst := fresh15 wr ZS AR 38 wk hWs.symm
          have HRk := Lib.hid hst.1
          have HBk := Lib.hid (bt15 HB.out hst.2)
          obtain ⟨d0, d1, d2, d3⟩ := set_atR hst.1 har
          have HXk := Lib.hid (show w1.heap.size ≤ wr.heap.size from HB.out.size)
          have HOk := Lib.hid (HO.out.below hst.2)
          clear hWs hst hix har HRG
          generalize wr.heap.size = X at *
          have HBX := Lib.hid ((HBk.out.block Xb HXb.out).trans HN0.out)
          obtain ⟨e0, _, _, _⟩ := set_atR HBX.out HBR.out
          have HFN := Lib.hid (filter_next (fun x => lo s.nm x.nm) HQ.out)
          have HFL := Lib.hid (filter_len (fun x => lo s.nm x.nm) l i)
          obtain ⟨hlo, s2, s3⟩ | ⟨hlo, s2, s3⟩ | ⟨hlo, s2, s3⟩ := str_three s.nm q.nm
          · have HFT := Lib.hid (HFN.out.trans (if_pos hlo))
            obtain ⟨v', w9, hru, ho9, hb9⟩ := ows_one HOk.out HBk.out.size HAR.out (by have := HFL.out; have := HFA.out; have := HN.out; rw [List.length_append, List.length_append, List.length_singleton]; omega) 22
            have HRU := Lib.hid hru
            have HO9 := Lib.hid ho9
            have HB9 := Lib.hid (hb9 _ rfl HBk.out)
            have HLI := Lib.hid (show (Instr.buildSlice 22 1 #[(0, .agg AR)]).run Try.prog wk = .ok (.slice (some ⟨wk.heap.size, 0, none⟩) 1 1) (World.alloc wk (.cells AR 38)) from HAR.out.eq ▸ lit_set _ wk)
            clear hru ho9 hb9
            have HO2 := Lib.hid (show OWS w9 w1.heap.size v' ((l.filter (fun x => lo x.nm s.nm) ++ [s]) ++ (l.take (i + 1)).filter (fun x => lo s.nm x.nm)) by rw [HFT.out]; rw [← List.append_assoc]; exact HO9.out)
            clear hlo HFN HFT
            go_wp2_with (first
              | (with_reducible refine wpList_load_row (o := ⟨some 42, _, _, _, _, _⟩) rfl 38 _ rfl X rfl 38 AR (0, 0) _ HRk.out Try.underlying38 rfl HAR.out.sz ?_)
              | (refine wpList_lit_run (o := ⟨some 43, _, _, _, _, _⟩) rfl _ _ _ rfl #[(0, .agg AR)] (by simp [Act.eval, Act.put]) _ _ HLI.out ?_)
              | (at_builtin; refine wpList_append_run (o := ⟨some 44, _, _, _, _, _⟩) rfl _ _ _ _ rfl _ _ _ _ rfl rfl HRU.out ?_))
            go_roundw
            case rel => exact ⟨i + 1, by have := HLT.out; omega, by go_num, HO2.out, HB9.out⟩
            case measure => simp [intOf]; have := HLT.out; omega
          · have HO2 := Lib.hid (show OWS wk w1.heap.size _ ((l.filter (fun x => lo x.nm s.nm) ++ [s]) ++ (l.take (i + 1)).filter (fun x => lo s.nm x.nm)) by rw [HFN.out, if_neg (by rw [hlo]; decide)]; exact HOk.out)
            clear hlo HFN
            go_wp2_with fail
            go_roundw
            case rel => exact ⟨i + 1, by have := HLT.out; omega, by go_num, HO2.out, HBk.out⟩
            case measure => simp [intOf]; have := HLT.out; omega
          · have HO2 := Lib.hid (show OWS wk w1.heap.size _ ((l.filter (fun x => lo x.nm s.nm) ++ [s]) ++ (l.take (i + 1)).filter (fun x => lo s.nm x.nm)) by rw [HFN.out, if_neg (by rw [hlo]; decide)]; exact HOk.out)
            clear hlo HFN
            go_wp2_with fail
            go_roundw
            case rel => exact ⟨i + 1, by have := HLT.out; omega, by go_num, HO2.out, HBk.out⟩
            case measure => simp [intOf]; have := HLT.out; omega
        · obtain rfl : n = i := by omega
          have HO2 := Lib.hid (show OWS wr w.heap.size _ (withL l s) by have h := HO.out; rw [List.take_of_length_le (by rw [HN.out]; exact Nat.le_refl _), List.append_assoc] at h; exact h.up HB0.out.size)
          have HB2 := Lib.hid (show Below w.heap.size w wr from bt15 HB0.out HB.out)
          clear hi hlt HO
          go_wp2_with fail
          go_ret
          exact ⟨_, rfl, HO2.out, HB2.out⟩
end Go.Proofs.Ytkafabcklohlmaa
