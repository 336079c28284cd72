/-
  The reference's Space of layer 11: Mark, Free, Take, Set, Taken.
-/
import Derived.Test.YtpeemnkhcgapnaaDoorVl
namespace Go.Proofs.YtpeemnkhcgapnaaDoor
set_option maxRecDepth 4000
set_option linter.unusedVariables false
open Go.ChangeShapes Go.WideShapes Go.ChangeAt Go.RowKit

/-- Addresses that are read lie elsewhere than the reference's Space. -/
theorem us_ne {w : World} {M G n len cap : Nat} {F : Nat → Bool} {a : Option Addr} {l : List Nat} (h : RW w M G n F) (hu : US w a len cap l) (hl : 0 < len) (b off : Nat) (ha : a = some ⟨b, off, none⟩) : b ≠ M := by
  intro e
  subst e
  obtain ⟨b', off', ha', hc⟩ := hu.at hl
  rw [ha] at ha'
  injection ha' with e
  injection e with e1 e2
  subst e1
  rw [cell_of_row _ _ _ _ _ _ h.cell] at hc
  have h9 := (Array.getElem?_eq_some_iff.1 hc).1
  have h8 : off' + 0 = 0 := by simp at h9; omega
  rw [h8] at hc
  simp at hc
theorem touch_new {w0 w : World} {M G : Nat} (h : Touch [M] w0 w) (hG : w0.heap.size ≤ G) (a : Nat) (v : Value) : Touch [M] w0 (w.setCell ⟨G, a, none⟩ v) := by
  have t := touch_set w G a v
  refine ⟨t.os.trans h.os, t.tape.trans h.tape, t.output.trans h.output, Nat.le_trans h.size t.size, fun k hk hn => ?_⟩
  exact (t.block k (Nat.lt_of_lt_of_le hk h.size) (by simp; omega)).trans (h.block k hk hn)
set_option maxHeartbeats 1000000 in
theorem rmark11_any (M G n a : Nat) (F : Nat → Bool) (w : World) (h : RW w M G n F) (ha : a < 4294967296) :
    Calls Tryd.prog 14 #[.pointer (some ⟨M, 0, none⟩), .int .u32 (a : Int)] w fun e w' => e = .returned (.int .i64 (markA n F a).1) ∧ RW w' M G n (markA n F a).2 ∧ Touch [G] w w' := by
  have his := ris_any M G n a F w h ha
  unfold markA
  by_cases hb : a < 2 ∨ n ≤ a
  · rw [if_pos hb]
    rw [show allF n a = false by unfold allF; rcases hb with hb | hb; (rw [decide_eq_false (by omega)]; rfl); (rw [decide_eq_false (show ¬ a < n by omega), Bool.and_false])] at his
    have HI := Lib.hid his
    have HH := Lib.hid h
    clear his h hb
    go_enter Tryd.func14, Tryd.ntmps14
    go_wp2_with fail
    refine HI.out.mono ?_
    rintro e w2 ⟨rfl, rfl⟩
    clear HI
    go_wp2_with fail
    go_ret
    exact ⟨rfl, HH.out, Touch.refl _ _⟩
  · rw [if_neg hb]
    rw [show allF n a = true by unfold allF; rw [decide_eq_true (by omega), decide_eq_true (by omega)]; rfl] at his
    have HI := Lib.hid his
    have HH := Lib.hid h
    have c0 := h.at
    have cG := h.flag a (by omega)
    have fG := h.freeG a
    rw [takF_in F (by omega) (by omega)] at cG
    have hix := index_bool .u32 G n a (by omega)
    have HR := Lib.hid (show 2 ≤ a ∧ a < n from ⟨by omega, by omega⟩)
    have aI : (a : Int) < (n : Int) := by omega
    have a0 : (0 : Int) ≤ (a : Int) := by omega
    have nI : (n : Int) ≤ 4096 := by have := h.hi; omega
    cases hF : F a with
    | false =>
      rw [hF] at cG
      rw [if_neg (by simp)]
      clear his h hb hF
      go_enter Tryd.func14, Tryd.ntmps14
      go_wp2_with fail
      refine HI.out.mono ?_
      rintro e w2 ⟨rfl, rfl⟩
      clear HI
      go_wp2_with fail
      go_ret
      exact ⟨rfl, HH.out, Touch.refl _ _⟩
    | true =>
      rw [hF] at cG
      rw [if_pos rfl]
      clear his h hb hF
      go_enter Tryd.func14, Tryd.ntmps14
      go_wp2_with fail
      refine HI.out.mono ?_
      rintro e w2 ⟨rfl, rfl⟩
      clear HI
      go_wp2_with fail
      go_ret
      exact ⟨rfl, HH.out.set a true HR.out.1 HR.out.2, touch_set _ G a _⟩
set_option maxHeartbeats 1000000 in
theorem rfree11_any (M G n a : Nat) (F : Nat → Bool) (w : World) (h : RW w M G n F) (ha : a < 4294967296) :
    Calls Tryd.prog 16 #[.pointer (some ⟨M, 0, none⟩), .int .u32 (a : Int)] w fun e w' => e = .returned (.int .i64 (freeA n F a).1) ∧ RW w' M G n (freeA n F a).2 ∧ Touch [G] w w' := by
  have his := ris_any M G n a F w h ha
  unfold freeA
  by_cases hb : a < 2 ∨ n ≤ a
  · rw [if_pos hb]
    rw [show allF n a = false by unfold allF; rcases hb with hb | hb; (rw [decide_eq_false (by omega)]; rfl); (rw [decide_eq_false (show ¬ a < n by omega), Bool.and_false])] at his
    have HI := Lib.hid his
    have HH := Lib.hid h
    clear his h hb
    go_enter Tryd.func16, Tryd.ntmps16
    go_wp2_with fail
    refine HI.out.mono ?_
    rintro e w2 ⟨rfl, rfl⟩
    clear HI
    go_wp2_with fail
    go_ret
    exact ⟨rfl, HH.out, Touch.refl _ _⟩
  · rw [if_neg hb]
    rw [show allF n a = true by unfold allF; rw [decide_eq_true (by omega), decide_eq_true (by omega)]; rfl] at his
    have HI := Lib.hid his
    have HH := Lib.hid h
    have c0 := h.at
    have cG := h.flag a (by omega)
    have fG := h.freeG a
    rw [takF_in F (by omega) (by omega)] at cG
    have hix := index_bool .u32 G n a (by omega)
    have HR := Lib.hid (show 2 ≤ a ∧ a < n from ⟨by omega, by omega⟩)
    have aI : (a : Int) < (n : Int) := by omega
    have a0 : (0 : Int) ≤ (a : Int) := by omega
    have nI : (n : Int) ≤ 4096 := by have := h.hi; omega
    cases hF : F a with
    | true =>
      rw [hF] at cG
      rw [if_pos rfl]
      clear his h hb hF
      go_enter Tryd.func16, Tryd.ntmps16
      go_wp2_with fail
      refine HI.out.mono ?_
      rintro e w2 ⟨rfl, rfl⟩
      clear HI
      go_wp2_with fail
      go_ret
      exact ⟨rfl, HH.out, Touch.refl _ _⟩
    | false =>
      rw [hF] at cG
      rw [if_neg (by simp)]
      clear his h hb hF
      go_enter Tryd.func16, Tryd.ntmps16
      go_wp2_with fail
      refine HI.out.mono ?_
      rintro e w2 ⟨rfl, rfl⟩
      clear HI
      go_wp2_with fail
      go_ret
      exact ⟨rfl, HH.out.set a false HR.out.1 HR.out.2, touch_set _ G a _⟩
set_option maxRecDepth 100000 in
set_option maxHeartbeats 1600000 in
theorem rtake11_full (M G n : Nat) (F : Nat → Bool) (w : World) (h : RW w M G n F) (hF : ∀ a, F a = false) :
    Calls Tryd.prog 20 #[.pointer (some ⟨M, 0, none⟩)] w fun e w' => e = .returned (.tuple #[.int .u32 0, .int .i64 6]) ∧ w' = w := by
  have c0 := h.at
  have HH := Lib.hid h
  have HF := Lib.hid hF
  have hlo := h.lo
  have nI : (n : Int) ≤ 4096 := by have := h.hi; omega
  clear h hF
  go_enter Tryd.func20, Tryd.ntmps20
  go_wp2_with fail
  go_loopw [4] (fun v4 wr => ∃ i : Nat, 2 ≤ i ∧ i ≤ n ∧ v4 = .int .i64 (i : Int) ∧ wr = w) (fun v _ => n - (intOf v).toNat)
  case atStart => exact ⟨2, by omega, by omega, rfl, rfl⟩
  case round =>
    obtain ⟨i, hi2, hin, rfl, rfl⟩ := hrel
    by_cases hlt : i < n
    · have cG := HH.out.flag i hlt
      rw [takF_in F hi2 hlt, HF.out] at cG
      have hix := index_bool .i64 G n i hlt
      have iI : (i : Int) < (n : Int) := by omega
      have i0 : (2 : Int) ≤ (i : Int) := by omega
      go_wp2_with fail
      go_roundw
      case rel => exact ⟨i + 1, by omega, by omega, by go_num, trivial⟩
      case measure => simp [intOf]; omega
    · obtain rfl : i = n := by omega
      go_wp2_with fail
      go_ret2
      exact ⟨rfl, rfl⟩
set_option maxRecDepth 100000 in
set_option maxHeartbeats 1600000 in
theorem rtake11_ok (M G n a : Nat) (F : Nat → Bool) (w : World) (h : RW w M G n F) (ha : F a = true) (hr : 2 ≤ a ∧ a < n) (hlow : ∀ x, x < a → F x = false) :
    Calls Tryd.prog 20 #[.pointer (some ⟨M, 0, none⟩)] w fun e w' => e = .returned (.tuple #[.int .u32 (a : Int), .int .i64 0]) ∧ RW w' M G n (updF F a false) ∧ Touch [G] w w' := by
  have c0 := h.at
  have HH := Lib.hid h
  have HF := Lib.hid (And.intro ha hlow)
  have HR := Lib.hid hr
  have nI : (n : Int) ≤ 4096 := by have := h.hi; omega
  clear h ha hlow hr
  go_enter Tryd.func20, Tryd.ntmps20
  go_wp2_with fail
  go_loopw [4] (fun v4 wr => ∃ i : Nat, 2 ≤ i ∧ i ≤ a ∧ v4 = .int .i64 (i : Int) ∧ wr = w) (fun v _ => n - (intOf v).toNat)
  case atStart => exact ⟨2, by omega, HR.out.1, rfl, rfl⟩
  case round =>
    obtain ⟨i, hi2, hia, rfl, rfl⟩ := hrel
    have hra := HR.out
    have cG := HH.out.flag i (by omega)
    rw [takF_in F hi2 (by omega)] at cG
    have hix := index_bool .i64 G n i (by omega)
    have iI : (i : Int) < (n : Int) := by omega
    have i0 : (2 : Int) ≤ (i : Int) := by omega
    by_cases hlt : i < a
    · rw [HF.out.2 i hlt] at cG
      go_wp2_with fail
      go_roundw
      case rel => exact ⟨i + 1, by omega, by omega, by go_num, trivial⟩
      case measure => simp [intOf]; omega
    · obtain rfl : a = i := by omega
      rw [HF.out.1] at cG
      have fG := HH.out.freeG a
      have HQ := Lib.hid hra
      clear hlt hia hi2 hra
      go_wp2_with fail
      go_ret2
      exact ⟨rfl, HH.out.set a true HQ.out.1 HQ.out.2, touch_set _ G a _⟩
set_option maxRecDepth 100000 in
set_option maxHeartbeats 1600000 in
theorem rtaken11_any (M G n : Nat) (F : Nat → Bool) (w : World) (h : RW w M G n F) :
    Calls Tryd.prog 21 #[.pointer (some ⟨M, 0, none⟩)] w fun e w' => ∃ a c, e = .returned (.slice a (tkn F n).length c) ∧ OU w' w.heap.size (.slice a (tkn F n).length c) (tkn F n) ∧ Below w.heap.size w w' := by
  obtain ⟨i0, hi, hz0, hz1, hz2⟩ := info_parts info_u32n
  have HI := Lib.hid hi
  have HZ := Lib.hid (And.intro hz0 (And.intro hz1 hz2))
  have HH := Lib.hid h
  have c0 := h.at
  have nI : (n : Int) ≤ 4096 := by have := h.hi; omega
  have nN : n ≤ 4096 := h.hi
  clear h hi hz0 hz1 hz2
  go_enter Tryd.func21, Tryd.ntmps21
  go_wp2_with fail
  clear c0
  go_loopw [3, 4, 5, 11] (fun v3 _ _ v11 wr => ∃ i : Nat, i ≤ n ∧ v11 = .int .i64 (i : Int) ∧ OU wr w.heap.size v3 (tkn F i) ∧ Below w.heap.size w wr) (fun _ _ _ v _ => n - (intOf v).toNat)
  case atStart => exact ⟨0, by omega, rfl, OU.nil _ _, Below.refl _ _⟩
  case round =>
    obtain ⟨i, hin, rfl, ho, hb⟩ := hrel
    have hlen := tkn_len F i
    by_cases hlt : i < n
    · have cG := (HH.out.below hb).flag i hlt
      have hix := index_bool .i64 G n i hlt
      have HNX := Lib.hid (show tkn F (i + 1) = tkn F i ++ (if 2 ≤ i ∧ F i = false then [i] else []) from rfl)
      generalize hL : tkn F i = L at *
      have HO := Lib.hid ho
      have HB := Lib.hid hb
      have HLT := Lib.hid hlt
      have iI : (i : Int) < (n : Int) := by omega
      have i0' : (0 : Int) ≤ (i : Int) := by omega
      have lI : L.length ≤ 4096 := by omega
      clear ho hb hL hin
      by_cases hF : 2 ≤ i ∧ F i = false
      · rw [takF_in F hF.1 hlt, hF.2] at cG
        rw [if_pos hF] at HNX
        clear hF hlt hlen
        obtain ⟨u, cap, hv, _⟩ := own_sl HO.out
        subst hv
        have HO2 := Lib.hid (World.ownsRow.alloc HO.out (.cells #[Value.int .u32 (i : Int)] 31))
        have HB3 := Lib.hid (HB.out.alloc HB.out.size (.cells #[Value.int .u32 (i : Int)] 31))
        have HC := Lib.hid (heap_alloc_new wr (.cells #[Value.int .u32 (i : Int)] 31))
        clear HO
        go_wp2_with (at_builtin; go_must (with_reducible refine wpList_append_own _ rfl _ _ 32 rfl w.heap.size 31 i0 (.int .u32 0) 1 4 Tryd.underlying32 HI.out HZ.out.1 HZ.out.2.1 HZ.out.2.2 rfl (by decide) (.slice u L.length cap) L.length (u32n L) rfl HO2.out ⟨wr.heap.size, 0, none⟩ 1 1 [.int .u32 (i : Int)] rfl rfl ?c1 ?c2 ?c3 ?c4 ?c5 ?_))
        case c1 => exact cell_one_new _ _ _
        case c2 => intro u hu; simp only [List.mem_cons, List.not_mem_nil, or_false] at hu; subst hu; rfl
        case c3 => unfold maxLen; omega
        case c4 => omega
        case c5 => exact HB3.out.size
        intro v' w4 hown' hgrow _
        have hb4 := HB3.out.grown hgrow HB3.out.size (fun k hk => (HO2.out.lt k hk).1)
        have HW := Lib.hid (show OU w4 w.heap.size v' (L ++ [i]) from by unfold OU; rw [List.length_append, u32n_append]; exact hown')
        have HB4 := Lib.hid hb4
        clear hown' hgrow hb4 HO2 HC
        go_wp2_with fail
        go_roundw
        case rel => exact ⟨i + 1, by have := HLT.out; omega, by go_num, by rw [HNX.out]; exact HW.out, HB4.out⟩
        case measure => simp [intOf]; have := HLT.out; omega
      · rw [show takF n F i = false by
          by_cases h2 : 2 ≤ i
          · rw [takF_in F h2 hlt]
            cases hFi : F i with
            | true => rfl
            | false => exact absurd ⟨h2, hFi⟩ hF
          · exact takF_out F (.inl (by omega))] at cG
        rw [if_neg hF, List.append_nil] at HNX
        clear hF hlt hlen
        go_wp2_with fail
        go_roundw
        case rel => exact ⟨i + 1, by have := HLT.out; omega, by go_num, by rw [HNX.out]; exact HO.out, HB.out⟩
        case measure => simp [intOf]; have := HLT.out; omega
    · obtain rfl : n = i := by omega
      have HO := Lib.hid ho
      have HB := Lib.hid hb
      obtain ⟨u, cap, hv, _⟩ := own_sl ho
      subst hv
      clear ho hb
      go_wp2_with fail
      go_ret
      exact ⟨_, _, rfl, HO.out, HB.out⟩
set_option maxRecDepth 100000 in
set_option maxHeartbeats 3200000 in
theorem rset11_any (M G n len cap : Nat) (a : Option Addr) (F : Nat → Bool) (l : List Nat) (w : World) (h : RW w M G n F) (hl : US w a len cap l) (hlen : len ≤ 100000000) (ok : Bool) (hok : ok = true ↔ allIn n l) :
    Calls Tryd.prog 18 #[.pointer (some ⟨M, 0, none⟩), .slice a len cap] w fun e w' => ∃ G', e = .returned (.int .i64 (setA n F l ok).1) ∧ RW w' M G' n (setA n F l ok).2 ∧ Touch [M] w w' ∧ (G' = G ∨ w.heap.size ≤ G') := by
  have HH := Lib.hid h
  have HU := Lib.hid hl
  have lI : (len : Int) ≤ 100000000 := by omega
  have nI : (n : Int) ≤ 4096 := by have := h.hi; omega
  have n0 : (0 : Int) ≤ (n : Int) := by omega
  obtain ⟨K, hk0, hki0⟩ : ∃ K, K ≤ len ∧ (∀ i, i < K → 2 ≤ l.getD i 0 ∧ l.getD i 0 < n) ∧ (ok = true → K = len) ∧ (ok = false → K < len ∧ ¬ (2 ≤ l.getD K 0 ∧ l.getD K 0 < n)) := by
    have hll := hl.len
    rcases first_out n l with h1 | ⟨m, h1, h2, h3⟩
    · exact ⟨len, Nat.le_refl _, fun i hi => allIn_at h1 i (by omega), fun _ => rfl, fun e => by rw [hok.2 h1] at e; cases e⟩
    · refine ⟨m, by omega, h3, fun e => ?_, fun _ => ⟨by omega, h2⟩⟩
      exact absurd (allIn_at (hok.1 e) m h1) h2
  have HKI := Lib.hid hki0
  have HK := Lib.hid hk0
  clear hk0 hki0
  have HN4 := Lib.hid h.hi
  clear hl h hlen
  go_enter Tryd.func18, Tryd.ntmps18
  go_wp2_with fail
  go_loopw [6, 11] (fun _ v11 wr => ∃ i : Nat, i ≤ K ∧ v11 = .int .i64 (i : Int) ∧ wr = w) (fun _ v _ => len - (intOf v).toNat)
  case atStart => exact ⟨0, by omega, rfl, rfl⟩
  case round =>
    obtain ⟨i, hi, rfl, rfl⟩ := hrel
    have hK := HK.out
    by_cases hlt : i < len
    · obtain ⟨b, off, rfl, hx⟩ := HU.out.at hlt
      have hix := index_u32 b off len cap i hlt
      have hxs := HU.out.small (l.getD i 0) (by
        have e : l.getD i 0 = l[i]'(by rw [HU.out.len]; exact hlt) := by simp [List.getD, show i < l.length by rw [HU.out.len]; exact hlt]
        rw [e]; exact List.getElem_mem _)
      have his := ris_any M G n (l.getD i 0) F wr HH.out hxs
      have iI : (i : Int) < (len : Int) := by omega
      have i0 : (0 : Int) ≤ (i : Int) := by omega
      by_cases hiK : i < K
      · have hin := HKI.out.1 i hiK
        rw [show allF n (l.getD i 0) = true by unfold allF; rw [decide_eq_true hin.1, decide_eq_true hin.2]; rfl] at his
        have HIS := Lib.hid his
        have HIK := Lib.hid hiK
        clear his hin hxs hlt hi hiK hK
        generalize l.getD i 0 = x at *
        go_wp2_with fail
        refine HIS.out.mono ?_
        rintro e w5 ⟨rfl, rfl⟩
        clear HIS
        go_wp2_with fail
        go_roundw
        case rel => exact ⟨i + 1, by have := HIK.out; omega, by go_num, trivial⟩
        case measure => simp [intOf]; omega
      · obtain rfl : i = K := by omega
        cases ok with
        | true => have := HKI.out.2.1 rfl; omega
        | false =>
          have hout := (HKI.out.2.2 rfl).2
          rw [show allF n (l.getD i 0) = false by
            unfold allF
            by_cases q : 2 ≤ l.getD i 0
            · rw [decide_eq_false (show ¬ l.getD i 0 < n from fun e => hout ⟨q, e⟩), Bool.and_false]
            · rw [decide_eq_false q]; rfl] at his
          have HIS := Lib.hid his
          clear his hout hxs hlt hi hiK hK
          generalize l.getD i 0 = x at *
          go_wp2_with fail
          refine HIS.out.mono ?_
          rintro e w5 ⟨rfl, rfl⟩
          clear HIS
          go_wp2_with fail
          go_ret
          exact ⟨G, rfl, HH.out, Touch.refl _ _, .inl rfl⟩
    · cases ok with
      | false => have := (HKI.out.2.2 rfl).1; omega
      | true =>
        obtain rfl : i = len := by omega
        have hmk := make_bools n (by have := HN4.out; omega) wr
        have c0 := HH.out.at
        have f0 := HH.out.freeM
        have hMl := HH.out.ltM
        have hba := (Below.refl wr.heap.size wr).alloc (Nat.le_refl _) (.cells (boolsF (takF n (allF n)) n).toArray 4)
        have hnew := heap_alloc_new wr (.cells (boolsF (takF n (allF n)) n).toArray 4)
        have c1 := (HH.out.below hba).at
        have f1 := (HH.out.below hba).freeM
        have cM := (HH.out.below hba).cell
        obtain ⟨RB, hRB⟩ : ∃ RB, (boolsF (takF n (allF n)) n).toArray = RB := ⟨_, rfl⟩
        rw [hRB] at hmk hba hnew c1 f1 cM
        have HW4 := Lib.hid (show RW ((wr.alloc (.cells RB 4)).setCell ⟨M, 0, none⟩ (.slice (some ⟨wr.heap.size, 0, none⟩) n n)) M wr.heap.size n (minF n []) ∧ Touch [M] wr ((wr.alloc (.cells RB 4)).setCell ⟨M, 0, none⟩ (.slice (some ⟨wr.heap.size, 0, none⟩) n n)) from by
          refine ⟨⟨?_, ?_, HH.out.lo, HH.out.hi⟩, (Touch.of_below hba).trans (touch_set _ M 0 _)⟩
          · rw [heap_setCell_same _ M 0 _ _ _ cM]; rfl
          · rw [heap_setCell_other _ ⟨M, 0, none⟩ wr.heap.size _ (by show wr.heap.size ≠ M; omega), minF_nil, hRB]; exact hnew)
        have HALL := Lib.hid (hok.1 rfl)
        clear hok
        have HHS := Lib.hid (Nat.le_refl wr.heap.size)
        clear hRB hlt hi hK hMl hnew cM
        go_wp2_with fail
        clear hmk c0 f0 c1 f1 hba
        generalize World.setCell _ _ _ = w4 at *
        generalize hGS : wr.heap.size = G2 at *
        have HGS := Lib.hid hGS
        clear hGS
        go_loopw [8, 31] (fun _ v31 wq => ∃ j : Nat, j ≤ i ∧ v31 = .int .i64 (j : Int) ∧ RW wq M G2 n (minF n (l.take j)) ∧ Touch [M] wr wq) (fun _ v _ => i - (intOf v).toNat)
        case atStart => exact ⟨0, by omega, rfl, by rw [List.take_zero]; exact HW4.out.1, HW4.out.2⟩
        case round =>
          clear HW4
          obtain ⟨j, hj, rfl, hw, ht⟩ := hrel
          by_cases hjl : j < i
          · obtain ⟨b, off, rfl, hx⟩ := (HU.out.touch ht (fun b off e => by simp; exact us_ne HH.out HU.out (by omega) b off e)).at hjl
            have hix := index_u32 b off i cap j hjl
            have jI : (j : Int) < (i : Int) := by omega
            have j0 : (0 : Int) ≤ (j : Int) := by omega
            have hlj : j < l.length := by rw [HU.out.len]; exact hjl
            have hin := allIn_at HALL.out j hlj
            have HNX := Lib.hid (minF_next n l j hlj)
            have c0 := hw.at
            have fG := hw.freeG (l.getD j 0)
            have cG := hw.flag (l.getD j 0) hin.2
            have hbx := index_bool .u32 G2 n (l.getD j 0) hin.2
            have HWS := Lib.hid (hw.set (l.getD j 0) true hin.1 hin.2)
            have HTT := Lib.hid (touch_new ht (Nat.le_of_eq HGS.out) (l.getD j 0) (.bool true))
            have HLT := Lib.hid hjl
            have xI : ((l.getD j 0 : Nat) : Int) < (n : Int) := by omega
            have x0 : (0 : Int) ≤ ((l.getD j 0 : Nat) : Int) := by omega
            rw [show (!true) = false from rfl, ← HNX.out] at HWS
            clear HNX hw ht hin hlj hj hjl
            generalize l.getD j 0 = x at *
            go_wp2_with fail
            go_roundw
            case rel => exact ⟨j + 1, by have := HLT.out; omega, by go_num, HWS.out, HTT.out⟩
            case measure => simp [intOf]; have := HLT.out; omega
          · obtain rfl : j = i := by omega
            rw [show l.take j = l from List.take_of_length_le (by rw [HU.out.len]; exact Nat.le_refl _)] at hw
            have HQ := Lib.hid (And.intro hw ht)
            clear hw ht hj hjl
            go_wp2_with fail
            go_ret
            exact ⟨G2, rfl, HQ.out.1, HQ.out.2, .inr (Nat.le_of_eq HGS.out)⟩
end Go.Proofs.YtpeemnkhcgapnaaDoor
