/-
  The program's Space: Set; slices of addresses that come in; the reference's Same.
-/
import Derived.Test.YtpeemnkhcgapnaaDoorVd
namespace Go.Proofs.YtpeemnkhcgapnaaDoor
set_option maxRecDepth 4000
set_option linter.unusedVariables false
open Go.RowKit

/-- A slice that reads as these addresses. -/
structure US (w : World) (a : Option Addr) (n c : Nat) (l : List Nat) : Prop where
  len : l.length = n
  small : ∀ x ∈ l, x < 4294967296
  cells : l = [] ∨ ∃ b off, a = some ⟨b, off, none⟩ ∧ ∀ i, i < n → w.cell? ⟨b, off + i, none⟩ = some (.int .u32 (l.getD i 0 : Nat))
theorem US.below {w w' : World} {a : Option Addr} {n c : Nat} {l : List Nat} (h : US w a n c l) (q : Below w.heap.size w w') : US w' a n c l :=
  ⟨h.len, h.small, h.cells.imp id fun ⟨b, off, ha, hc⟩ => ⟨b, off, ha, fun i hi => (q.cell (block_lt_of_cell (hc i hi))).trans (hc i hi)⟩⟩
theorem US.at {w : World} {a : Option Addr} {n c i : Nat} {l : List Nat} (h : US w a n c l) (hi : i < n) : ∃ b off, a = some ⟨b, off, none⟩ ∧ w.cell? ⟨b, off + i, none⟩ = some (.int .u32 (l.getD i 0 : Nat)) := by
  rcases h.cells with h0 | ⟨b, off, ha, hc⟩
  · have := h.len; rw [h0] at this; simp at this; omega
  · exact ⟨b, off, ha, hc i hi⟩
theorem US.touch {w w' : World} {a : Option Addr} {n c : Nat} {l : List Nat} {m : List Nat} (h : US w a n c l) (q : Touch m w w') (hm : ∀ b off, a = some ⟨b, off, none⟩ → b ∉ m) : US w' a n c l :=
  ⟨h.len, h.small, h.cells.imp id fun ⟨b, off, ha, hc⟩ => ⟨b, off, ha, fun i hi => by
    have := hc i hi
    have hlt := block_lt_of_cell this
    unfold World.cell? at this ⊢
    rw [q.block b hlt (hm b off ha)]; exact this⟩⟩
theorem us_own {w : World} {B n c : Nat} {a : Option Addr} {l : List Nat} (h : OU w B (.slice a n c) l) (hs : ∀ x ∈ l, x < 4294967296) (hn : n = l.length) : US w a n c l := by
  subst hn
  refine ⟨rfl, hs, ?_⟩
  obtain ⟨a', c', hv, hc⟩ := own_sl h
  injection hv with e1 _ e3
  subst e1
  rcases hc with h0 | ⟨g, rfl, hg⟩
  · exact .inl (List.eq_nil_of_length_eq_zero h0)
  · exact .inr ⟨g, 0, rfl, fun i hi => by rw [Nat.zero_add, hg i hi, u32n_at _ _ hi]⟩
/-- What is free when just those are taken. -/
def minF (n : Nat) (l : List Nat) : Nat → Bool := fun a => allF n a && !decide (a ∈ l)
theorem minF_nil (n : Nat) : minF n [] = allF n := by funext a; simp [minF]
theorem minF_next (n : Nat) (l : List Nat) (i : Nat) (h : i < l.length) : minF n (l.take (i + 1)) = updF (minF n (l.take i)) (l.getD i 0) false := by
  funext x
  unfold minF updF
  rw [List.take_succ_eq_append_getElem h]
  have e : l.getD i 0 = l[i] := by simp [List.getD, h]
  rw [e]
  by_cases q : x = l[i]
  · rw [if_pos q, decide_eq_true (List.mem_append.2 (.inr (by simp [q])))]; simp
  · rw [if_neg q]
    congr 2
    apply decide_eq_decide.2
    rw [List.mem_append, List.mem_singleton]
    simp [q]
/-- All of them are sectors of a space of so many. -/
def allIn (n : Nat) (l : List Nat) : Prop := ∀ x ∈ l, 2 ≤ x ∧ x < n
theorem allIn_at {n : Nat} {l : List Nat} (h : allIn n l) (i : Nat) (hi : i < l.length) : 2 ≤ l.getD i 0 ∧ l.getD i 0 < n := by
  have : l.getD i 0 = l[i] := by simp [List.getD, hi]
  rw [this]; exact h _ (List.getElem_mem hi)
theorem index_u32 (b off len cap i : Nat) (h : i < len) (W : World) : (Instr.indexAt 32 (.slice (some ⟨b, off, none⟩) len cap) (.int .i64 (i : Int))).run Tryd.prog W = .ok (.pointer (some ⟨b, off + i, none⟩)) W := by
  obtain ⟨i0, hi, hs⟩ := Option.map_eq_some_iff.1 (show (Tryd.prog.info? 31).map (·.size) = some 1 by kernel_rfl)
  simp [Instr.indexAt, asIntOf, run_underlying Tryd.underlying32, sizeOf, typeInfo, hi, hs, h, Addr.add_mid]
theorem zero_sectors (W : World) : (zeroValue 57).run Tryd.prog W = .ok (.agg (List.replicate 64 (Value.int .u64 0)).toArray) W := by kernel_rfl
theorem pset11_nil (v : Value) (w : World) : Calls Tryd.prog 17 #[.pointer none, v] w fun e w' => e = .returned (.int .i64 1) ∧ w' = w := by
  go_enter Tryd.func17, Tryd.ntmps17
  go_wp2_with fail
  go_ret
  exact ⟨rfl, rfl⟩
/-- Where the first that is no sector stands. -/
theorem first_out (n : Nat) (l : List Nat) : allIn n l ∨ ∃ m, m < l.length ∧ ¬ (2 ≤ l.getD m 0 ∧ l.getD m 0 < n) ∧ ∀ i, i < m → 2 ≤ l.getD i 0 ∧ l.getD i 0 < n := by
  by_cases h : ∃ m, m < l.length ∧ ¬ (2 ≤ l.getD m 0 ∧ l.getD m 0 < n)
  · right
    obtain ⟨m, hm, hx⟩ := h
    induction m using Nat.strongRecOn with
    | _ m ih =>
      by_cases hy : ∃ i, i < m ∧ ¬ (2 ≤ l.getD i 0 ∧ l.getD i 0 < n)
      · obtain ⟨i, hi, hz⟩ := hy
        exact ih i hi (by omega) hz
      · refine ⟨m, hm, hx, fun i hi => ?_⟩
        by_cases q : 2 ≤ l.getD i 0 ∧ l.getD i 0 < n
        · exact q
        · exact absurd ⟨i, hi, q⟩ hy
  · left
    intro x hx
    obtain ⟨i, hi, rfl⟩ := List.getElem_of_mem hx
    have e : l.getD i 0 = l[i] := by simp [List.getD, hi]
    rw [← e]
    by_cases q : 2 ≤ l.getD i 0 ∧ l.getD i 0 < n
    · exact q
    · exact absurd ⟨i, hi, q⟩ h
def setA (n : Nat) (F : Nat → Bool) (l : List Nat) (b : Bool) : Int × (Nat → Bool) := if b = true then (0, minF n l) else (2, F)
set_option maxRecDepth 100000 in
set_option maxHeartbeats 3200000 in
theorem pset11_any (S n len cap : Nat) (a : Option Addr) (F : Nat → Bool) (l : List Nat) (w : World) (h : SP w S n F) (hl : US w a len cap l) (hlen : len ≤ 100000000) (ok : Bool) (hok : ok = true ↔ allIn n l) :
    Calls Tryd.prog 17 #[.pointer (some ⟨S, 0, none⟩), .slice a len cap] w fun e w' => e = .returned (.int .i64 (setA n F l ok).1) ∧ SP w' S n (setA n F l ok).2 ∧ Touch [S] w w' := by
  have HALL := Lib.hid (all_any S n w h.size h.lo h.hi)
  have HH := Lib.hid h
  have HU := Lib.hid hl
  have hhi := h.hi
  have lI : (len : Int) ≤ 100000000 := by omega
  obtain ⟨M, HM, HMI⟩ : ∃ M, M ≤ len ∧ (∀ i, i < M → 2 ≤ l.getD i 0 ∧ l.getD i 0 < n) ∧ (ok = true → M = len) ∧ (ok = false → M < len ∧ ¬ (2 ≤ l.getD M 0 ∧ l.getD M 0 < n)) := by
    have hll := hl.len
    rcases first_out n l with h1 | ⟨m, h1, h2, h3⟩
    · exact ⟨len, Nat.le_refl _, fun i hi => allIn_at h1 i (by omega), fun _ => rfl, fun e => by rw [hok.2 h1] at e; cases e⟩
    · refine ⟨m, by omega, h3, fun e => ?_, fun _ => ⟨by omega, h2⟩⟩
      exact absurd (allIn_at (hok.1 e) m h1) h2
  have HMI := Lib.hid HMI
  have HM := Lib.hid HM
  clear hl h hlen
  have hz := zero_sectors
  go_enter Tryd.func17, Tryd.ntmps17
  go_wp2_with fail
  refine HALL.out.mono ?_
  rintro e w2 ⟨rfl, hb2⟩
  have HB2 := Lib.hid hb2
  clear HALL hb2
  obtain ⟨RR, hRR⟩ : ∃ R, (wordsF (allF n)).toArray = R := ⟨_, rfl⟩
  have SZ := Lib.hid (size_sectors (allF n))
  have SE := Lib.hid (show (List.replicate 64 (Value.int .u64 0)).toArray.size = (wordsF (allF n)).toArray.size by rw [List.size_toArray, List.size_toArray, wordsF_length, List.length_replicate])
  have ONE := Lib.hid (show (wordsF (allF n)).toArray.all (·.oneCell') = true from all_oneCell_toArray (wordsF_one _))
  rw [hRR] at SZ SE ONE ⊢
  go_wp2_with (first
    | (with_reducible refine wpList_store_row (o := ⟨none, .store _ (.tmp 5) _, _, _, _, _⟩) rfl 57 _ _ rfl w2.heap.size RR rfl rfl 57 (List.replicate 64 (.int .u64 0)).toArray (heap_alloc_new w2 _) SZ.out SE.out ONE.out ?_))
  obtain ⟨e1, _, e3⟩ := ygen_row (w := w2) (old := #[Value.int .u64 0, Value.int .u64 0, Value.int .u64 0, Value.int .u64 0, Value.int .u64 0, Value.int .u64 0, Value.int .u64 0, Value.int .u64 0, Value.int .u64 0, Value.int .u64 0, Value.int .u64 0, Value.int .u64 0, Value.int .u64 0, Value.int .u64 0, Value.int .u64 0, Value.int .u64 0, Value.int .u64 0, Value.int .u64 0, Value.int .u64 0, Value.int .u64 0, Value.int .u64 0, Value.int .u64 0, Value.int .u64 0, Value.int .u64 0, Value.int .u64 0, Value.int .u64 0, Value.int .u64 0, Value.int .u64 0, Value.int .u64 0, Value.int .u64 0, Value.int .u64 0, Value.int .u64 0, Value.int .u64 0, Value.int .u64 0, Value.int .u64 0, Value.int .u64 0, Value.int .u64 0, Value.int .u64 0, Value.int .u64 0, Value.int .u64 0, Value.int .u64 0, Value.int .u64 0, Value.int .u64 0, Value.int .u64 0, Value.int .u64 0, Value.int .u64 0, Value.int .u64 0, Value.int .u64 0, Value.int .u64 0, Value.int .u64 0, Value.int .u64 0, Value.int .u64 0, Value.int .u64 0, Value.int .u64 0, Value.int .u64 0, Value.int .u64 0, Value.int .u64 0, Value.int .u64 0, Value.int .u64 0, Value.int .u64 0, Value.int .u64 0, Value.int .u64 0, Value.int .u64 0, Value.int .u64 0]) (cs := RR) (T := 57)
  generalize World.setRow _ w2.heap.size _ = w3 at *
  have HX0 := Lib.hid (show SA w3 w2.heap.size 57 [] (minF n []) by
    unfold SA
    rw [minF_nil, List.nil_append, hRR]; exact e1)
  have HB3 := Lib.hid (HB2.out.trans (e3.mono HB2.out.size))
  have HPL := Lib.hid (show w.heap.size ≤ w2.heap.size from HB2.out.size)
  clear e1 e3 hRR SZ SE ONE hz HB2
  generalize hP : w2.heap.size = P at *
  clear hP
  go_wp2_with fail
  go_loopw [7, 8, 15] (fun _ _ v15 wr => ∃ i : Nat, i ≤ M ∧ v15 = .int .i64 (i : Int) ∧ SA wr P 57 [] (minF n (l.take i)) ∧ Below w.heap.size w wr) (fun _ _ v _ => len - (intOf v).toNat)
  case atStart => exact ⟨0, by omega, rfl, by rw [List.take_zero]; exact HX0.out, HB3.out⟩
  case round =>
    clear HX0 HB3
    obtain ⟨i, hi, rfl, hA, hb⟩ := hrel
    have hM := HM.out
    by_cases hlt : i < len
    · obtain ⟨b, off, rfl, hx⟩ := (HU.out.below hb).at hlt
      have hix := index_u32 b off len cap i hlt
      have hxs := HU.out.small (l.getD i 0) (by
        have e : l.getD i 0 = l[i]'(by rw [HU.out.len]; exact hlt) := by simp [List.getD, show i < l.length by rw [HU.out.len]; exact hlt]
        rw [e]; exact List.getElem_mem _)
      have hS := HH.out.below hb
      have HLK := Lib.hid (lacks_any S n (l.getD i 0) F wr hS)
      have HAA := Lib.hid hA
      have HB := Lib.hid hb
      have HLT := Lib.hid hlt
      have iI : (i : Int) < (len : Int) := by omega
      have i0 : (0 : Int) ≤ (i : Int) := by omega
      by_cases hiM : i < M
      · have hin := HMI.out.1 i hiM
        have HNX := Lib.hid (minF_next n l i (by rw [HU.out.len]; exact hlt))
        have HDR := Lib.hid (drop_any11 P 57 0 (l.getD i 0) [] (minF n (l.take i)) wr hA rfl (by omega))
        rw [lackA_ok (by omega)] at HLK
        rw [← HNX.out] at HDR
        have HIM := Lib.hid hiM
        clear hA hb hlt hi hiM hM hin hS
        generalize l.getD i 0 = x at *
        go_wp2_with fail
        refine HLK.out.mono ?_
        rintro e w5 ⟨rfl, rfl⟩
        clear HLK
        go_wp2_with fail
        refine HDR.out.mono ?_
        rintro e w6 ⟨rfl, hA6, hT6⟩
        have HA6 := Lib.hid hA6
        have HT6 := Lib.hid hT6
        clear HDR hA6 hT6 hx hix
        go_wp2_with fail
        go_roundw
        case rel => exact ⟨i + 1, by have := HIM.out; omega, by go_num, HA6.out, HB.out.trans (HT6.out.below HB.out.size (by simp; exact HPL.out))⟩
        case measure => simp [intOf]; omega
      · obtain rfl : i = M := by omega
        cases ok with
        | true => have := HMI.out.2.1 rfl; omega
        | false =>
          have hout := (HMI.out.2.2 rfl).2
          rw [lackA_bad (by omega)] at HLK
          clear hA hb hlt hi hiM hM hout hS
          generalize l.getD i 0 = x at *
          go_wp2_with fail
          refine HLK.out.mono ?_
          rintro e w5 ⟨rfl, rfl⟩
          clear HLK hx hix
          go_wp2_with fail
          go_ret
          exact ⟨rfl, HH.out.below HB.out, Touch.of_below HB.out⟩
    · have hil : i = len := by omega
      cases ok with
      | false => have := (HMI.out.2.2 rfl).1; omega
      | true =>
        have hall := hok.1 rfl
        have HAA := Lib.hid (show wr.heap[P]? = some (.cells (wordsF (minF n l)).toArray 57 (0, 0)) by
          have e : l.take i = l := List.take_of_length_le (by rw [HU.out.len]; omega)
          rw [e] at hA; exact hA)
        have hS := HH.out.below hb
        have hs2 : wr.heap[S]? = some (.cells ([Value.int .u32 (n : Int)] ++ wordsF F).toArray 59 (0, 0)) := hS.arr
        obtain ⟨q1, q2⟩ := setCells_tail (wordsF (minF n l)) (wordsF F) [Value.int .u32 (n : Int)] wr 1 rfl (by rw [wordsF_length, wordsF_length]) hs2
        have TH := Lib.hid (show wr.there S 1 (wordsF (minF n l)).toArray.size from fun j hj => by
          rw [List.size_toArray, wordsF_length] at hj
          refine ⟨?_, frozen_of_row wr S _ _ _ hs2⟩
          rw [hS.arr.cell (o := 1) rfl j hj]
          rfl)
        have SZ := Lib.hid (size_sectors (minF n l))
        have ONE := Lib.hid (show (wordsF (minF n l)).toArray.all (·.oneCell') = true from all_oneCell_toArray (wordsF_one _))
        have HEND := Lib.hid (show SP (wr.setCells S 1 (wordsF (minF n l)).toArray.toList) S n (minF n l) ∧ Touch [S] w (wr.setCells S 1 (wordsF (minF n l)).toArray.toList) from by
          refine ⟨⟨q1, HH.out.lo, HH.out.hi, fun a ha => by unfold minF allF at ha; simp at ha; exact ha.1⟩, ?_⟩
          exact (Touch.of_below hb).trans (Touch.of_only q2 (by simp)))
        clear q1 q2 hs2 hS hA hi hM
        obtain ⟨R, hR⟩ : ∃ R, (wordsF (minF n l)).toArray = R := ⟨_, rfl⟩
        rw [hR] at TH SZ ONE HEND HAA
        have iI : (len : Int) ≤ (i : Int) := by omega
        clear hR hlt hil
        go_wp2_with (first
          | (with_reducible refine wpList_load_row (o := ⟨some 29, _, _, _, _, _⟩) rfl 57 _ rfl P rfl 57 R (0, 0) _ HAA.out Tryd.underlying57 rfl SZ.out ?_)
          | (with_reducible refine wpList_store_mid (op := ⟨none, .store _ (.tmp 31) _, _, _, _, _⟩) rfl 57 _ _ rfl S 1 R rfl rfl TH.out SZ.out ONE.out ?_))
        go_ret
        exact ⟨rfl, HEND.out.1, HEND.out.2⟩
end Go.Proofs.YtpeemnkhcgapnaaDoor
