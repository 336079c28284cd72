/-
  The reference's first primes, and what is behind their roots' whole parts.
-/
import Derived.Test.YtfgdddejpdjllaaDoorRef02
import Derived.WalkSmall
import Derived.OneCell
namespace Go.Proofs.YtfgdddejpdjllaaDoor
set_option maxRecDepth 4000
open Go.RowKit

/-- One number more is tried by the primes below it. -/
def nextP (out : List Nat) (p : Nat) : List Nat := if out.all (fun q => decide (0 < p % q)) then out ++ [p] else out
/-- The primes below p. -/
def prs (p : Nat) : List Nat := (List.range p).foldl (fun out q => if q < 2 then out else nextP out q) []
theorem prs_succ (p : Nat) : prs (p + 1) = if p < 2 then prs p else nextP (prs p) p := by
  unfold prs
  rw [List.range_succ, List.foldl_append]
  rfl
theorem prs_length (p : Nat) : (prs p).length ≤ (prs (p + 1)).length := by
  rw [prs_succ]
  split
  · omega
  · unfold nextP; split <;> simp
theorem prs_mono (p d : Nat) : (prs p).length ≤ (prs (p + d)).length := by
  induction d with
  | zero => simp
  | succ d ih => exact Nat.le_trans ih (prs_length _)
theorem prs_mem (p : Nat) : ∀ q ∈ prs p, 2 ≤ q ∧ q < p := by
  induction p with
  | zero => intro q hq; simp [prs] at hq
  | succ p ih =>
    intro q hq
    rw [prs_succ] at hq
    split at hq
    · have := ih q hq; omega
    · unfold nextP at hq
      split at hq
      · rcases List.mem_append.1 hq with h | h
        · have := ih q h; omega
        · simp at h; omega
      · have := ih q hq; omega
theorem prs_lt (p : Nat) : (prs p).length ≤ p := by
  induction p with
  | zero => simp [prs]
  | succ p ih =>
    rw [prs_succ]; split
    · omega
    · unfold nextP; split
      · simp; omega
      · omega
theorem prs2 : prs 2 = [] := by decide
theorem prs20 : (prs 20).length = 8 ∧ (prs 19).length = 7 := by decide +kernel
theorem prs312 : (prs 312).length = 64 ∧ (prs 311).length = 63 := by decide +kernel

def u32s (l : List Nat) : List Value := l.map fun q : Nat => Value.int .u32 (q : Int)
theorem u32s_at (l : List Nat) (k : Nat) (h : k < l.length) : (u32s l)[k]? = some (.int .u32 ((l[k]?.getD 0 : Nat) : Int)) := by simp [u32s, h]
theorem u32s_length (l : List Nat) : (u32s l).length = l.length := by simp [u32s]
theorem info_u32 : (Tryd.prog.info? 35).map (fun i => (i.zero, i.size, i.bytes)) = some (some (.int .u32 0), 1, 4) := by kernel_rfl
theorem all_take (l : List Nat) (f : Nat → Bool) (k : Nat) (h : k < l.length) : (l.take (k + 1)).all f = ((l.take k).all f && f (l[k]?.getD 0)) := by
  rw [List.take_succ_eq_append_getElem h, List.all_append]; simp [h]

/-- What a list of numbers that the call made leaves. -/
def Nums (w : World) (l : List Nat) (e : Ending) (w' : World) : Prop :=
  ∃ v, e = .returned v ∧ w'.ownsRow w.heap.size 35 1 v l.length (u32s l) ∧ Below w.heap.size w w'

theorem own_kept {w w' : World} {base n : Nat} {e : TypeId} {v : Value} {xs : List Value} (h : w.ownsRow base e 1 v n xs) (hb : Below w.heap.size w w') : w'.ownsRow base e 1 v n xs := by
  refine ⟨h.1, ?_⟩
  rcases h.2 with h2 | ⟨g, cap, cur, hv, hg, hh, r⟩
  · exact .inl h2
  · exact .inr ⟨g, cap, cur, hv, hg, by rw [hb.block g (lt_of_block hh)]; exact hh, r⟩
theorem own_mono {w : World} {base base' n : Nat} {e : TypeId} {v : Value} {xs : List Value} (h : w.ownsRow base e 1 v n xs) (hb : base' ≤ base) : w.ownsRow base' e 1 v n xs := by
  refine ⟨h.1, ?_⟩
  rcases h.2 with h2 | ⟨g, cap, cur, hv, hg, hh, r⟩
  · exact .inl h2
  · exact .inr ⟨g, cap, cur, hv, Nat.le_trans hb hg, hh, r⟩
theorem own_row {w : World} {base n : Nat} {e : TypeId} {v : Value} {xs : List Value} (h : w.ownsRow base e 1 v n xs) {g : Nat} {cs : Array Value} (hne : ∀ k, v.ownBlock = some k → k ≠ g) : (w.setRow g cs).ownsRow base e 1 v n xs := by
  refine ⟨h.1, ?_⟩
  rcases h.2 with h2 | ⟨k, cap, cur, hv, hg, hh, r⟩
  · exact .inl h2
  · exact .inr ⟨k, cap, cur, hv, hg, by rw [setRow_other _ _ _ _ (hne k (by rw [hv]; rfl))]; exact hh, r⟩
theorem own_shape {w : World} {base n : Nat} {e : TypeId} {v : Value} {xs : List Value} (h : w.ownsRow base e 1 v n xs) :
    ∃ a cap, v = .slice a n cap ∧ (n = 0 ∨ ∃ g, a = some ⟨g, 0, none⟩ ∧ ∀ j, j < n → w.cell? ⟨g, j, none⟩ = xs[j]?) := by
  rcases h.2 with ⟨rfl, rfl⟩ | ⟨g, cap, cur, rfl, _⟩
  · exact ⟨none, 0, rfl, .inl rfl⟩
  · exact ⟨_, cap, rfl, .inr ⟨g, rfl, fun j hj => h.cellAt j (by omega)⟩⟩
set_option maxHeartbeats 800000 in
theorem rprimes_any (n P : Nat) (w : World) (h2 : 2 ≤ P) (hP : P ≤ 1000) (hn : (prs P).length = n) (hm : (prs (P - 1)).length < n) :
    Calls Tryd.prog 88 #[.int .i64 n] w (Nums w (prs P)) := by
  obtain ⟨i0, hi, hz0, hz1, hz2⟩ := info_parts info_u32
  have HI := Lib.hid hi
  have HZ0 := Lib.hid hz0
  have HZ1 := Lib.hid hz1
  have HZ2 := Lib.hid hz2
  have HN := Lib.hid hn
  have hn1 : n ≤ 1000 := by have := prs_lt P; omega
  clear hi hz0 hz1 hz2 hn
  go_enter Tryd.func88, Tryd.ntmps88
  go_wp2_with fail
  go_loopw [3, 4] (fun v3 v4 wr => ∃ p : Nat, 2 ≤ p ∧ p ≤ P ∧ v4 = .int .u32 (p : Nat) ∧ wr.ownsRow w.heap.size 35 1 v3 (prs p).length (u32s (prs p)) ∧ Below w.heap.size w wr) (fun _ v _ => P - (intOf v).toNat)
  case atStart => exact ⟨2, by omega, h2, rfl, by rw [prs2]; exact World.ownsRow_nil _ _ _ _, Below.refl _ _⟩
  case round =>
    obtain ⟨p, hp2, hpP, rfl, ho, hb⟩ := hrel
    have hmem := prs_mem p
    have hsucc := prs_succ p
    rw [if_neg (by omega)] at hsucc
    have hlen1 := prs_lt p
    by_cases hlt : p < P
    · have hlen : (prs p).length < n := by
        have := prs_mono p (P - 1 - p)
        rw [show p + (P - 1 - p) = P - 1 from by omega] at this
        omega
      generalize hL : prs p = L at *
      have HSUC := Lib.hid hsucc
      have HO := Lib.hid ho
      have HMEM := Lib.hid hmem
      clear ho hL hsucc hmem
      obtain ⟨a, cap, hv, hsh⟩ := own_shape HO.out
      subst hv
      have HSH := Lib.hid hsh
      clear hsh
      go_wp2_with fail
      go_loop [5, 16] (fun v5 v16 => ∃ k : Nat, k ≤ L.length ∧ v16 = .int .i64 (k : Nat) ∧ v5 = .bool ((L.take k).all (fun q => decide (0 < p % q)))) (fun _ v => L.length - (intOf v).toNat)
      case atStart => exact ⟨0, by omega, rfl, by simp⟩
      case round =>
        obtain ⟨k, hk, rfl, rfl⟩ := hrel
        by_cases hkl : k < L.length
        · obtain ⟨g, rfl, hc⟩ := HSH.out.resolve_left (by omega)
          have c1 := (hc k hkl).trans (u32s_at L k hkl)
          have hall := all_take L (fun q => decide (0 < p % q)) k hkl
          have hq := HMEM.out (L[k]?.getD 0) (by simp [hkl])
          generalize L[k]?.getD 0 = q at *
          generalize (L.take k).all (fun q => decide (0 < p % q)) = b at *
          have HALL := Lib.hid hall
          have hq0 : (0 : Int) < (q : Int) := by omega
          have hqs : (q : Int) < 4294967296 := by omega
          clear hall hc
          cases b
          · go_wp2_with fail
            go_round
            case rel => exact ⟨k + 1, by omega, by go_num, by rw [HALL.out]; rfl⟩
            case measure => simp [intOf]; omega
          · go_wp2_with fail
            go_round
            case rel => exact ⟨k + 1, by omega, by go_num, by rw [HALL.out, Bool.true_and]; congr 1; apply decide_eq_decide.2; omega⟩
            case measure => simp [intOf]; omega
        · obtain rfl : k = L.length := by omega
          rw [List.take_length]
          have hb2 := hb.alloc hb.size (.cells #[Value.int .u32 (p : Int)] 35)
          have HO2 := Lib.hid (HO.out.alloc (.cells #[Value.int .u32 (p : Int)] 35))
          have HC := Lib.hid (heap_alloc_new wr (.cells #[Value.int .u32 (p : Int)] 35))
          have hsz := hb.size
          have hs := HSUC.out
          unfold nextP at hs
          have hps : (p : Int) < 4294967295 := by omega
          cases hall : L.all (fun q => decide (0 < p % q)) with
          | false =>
            rw [hall, if_neg (by simp)] at hs
            have HS := Lib.hid hs
            clear hs hall
            go_wp2_with fail
            go_roundw
            case rel => exact ⟨p + 1, by omega, by omega, by go_num, by rw [HS.out]; exact HO.out, hb⟩
            case measure => simp [intOf]; omega
          | true =>
            rw [hall, if_pos rfl] at hs
            have HS := Lib.hid hs
            clear hs hall
            go_wp2_with (at_builtin; go_must (with_reducible refine wpList_append_own _ rfl _ _ 102 rfl w.heap.size 35 i0 (.int .u32 0) 1 4 Tryd.underlying102 HI.out HZ0.out HZ1.out HZ2.out rfl (by decide) (.slice a L.length cap) L.length (u32s L) rfl HO2.out ⟨wr.heap.size, 0, none⟩ 1 1 [.int .u32 (p : Int)] rfl rfl ?c1 ?c2 ?c3 ?c4 ?c5 ?_))
            case c2 => rfl
            case c3 => unfold maxLen; omega
            case c4 => omega
            case c5 => omega
            intro v' w1 hown' hgrow _
            have hb3 := hb2.grown hgrow (by simp; omega) (fun k hk => (HO2.out.lt k hk).1)
            have HW := Lib.hid (show w1.ownsRow w.heap.size 35 1 v' (L ++ [p]).length (u32s (L ++ [p])) from by simpa [u32s] using hown')
            clear hown' hgrow
            go_wp2_with fail
            go_roundw
            case rel => exact ⟨p + 1, by omega, by omega, by go_num, by rw [HS.out]; exact HW.out, hb3⟩
            case measure => simp [intOf]; omega
    · obtain rfl : p = P := by omega
      have HO := Lib.hid ho
      obtain ⟨a, cap, hv, _⟩ := own_shape HO.out
      subst hv
      rw [HN.out] at HO ⊢
      clear ho hmem hsucc
      go_wp2_with fail
      go_ret
      exact ⟨_, rfl, by rw [HN.out]; exact HO.out, hb⟩

theorem u32s_append (l : List Nat) (x : Nat) : u32s (l ++ [x]) = u32s l ++ [.int .u32 (x : Int)] := by simp [u32s]
theorem map_take (l : List Nat) (f : Nat → Nat) (k : Nat) (h : k < l.length) : (l.map f).take (k + 1) = (l.map f).take k ++ [f (l[k]?.getD 0)] := by
  rw [List.take_succ_eq_append_getElem (by simpa using h)]; simp [h]
theorem prs_pos (P : Nat) (hP : P ≤ 1000) (k : Nat) (hk : k < (prs P).length) : 2 ≤ (prs P)[k]?.getD 0 ∧ (prs P)[k]?.getD 0 ≤ 1000 := by
  have := prs_mem P ((prs P)[k]?.getD 0) (by simp [hk])
  omega

set_option maxHeartbeats 800000 in
theorem rfracs_any (n P k : Nat) (w : World) (h2 : 2 ≤ P) (hP : P ≤ 1000) (hn : (prs P).length = n) (hm : (prs (P - 1)).length < n) (hk : k = 2 ∨ k = 3) :
    Calls Tryd.prog 66 #[.int .i64 n, .int .i64 k] w (Nums w ((prs P).map fun p => fracI p k)) := by
  obtain ⟨i0, hi, hz0, hz1, hz2⟩ := info_parts info_u32
  have HI := Lib.hid hi
  have HZ0 := Lib.hid hz0
  have HZ1 := Lib.hid hz1
  have HZ2 := Lib.hid hz2
  have HP := Lib.hid (fun w => rprimes_any n P w h2 hP hn hm)
  have HPOS := Lib.hid (fun j hj => prs_pos P hP j hj)
  have HK := Lib.hid hk
  have hn1 : (prs P).length ≤ 1000 := by have := prs_lt P; omega
  clear hi hz0 hz1 hz2 hn hm hk
  generalize prs P = L at *
  have hMT := map_take L (fun p => fracI p k)
  have hML : (L.map fun p => fracI p k).length = L.length := by simp
  generalize (L.map fun p => fracI p k) = M at *
  have HMT := Lib.hid hMT
  have HML := Lib.hid hML
  clear hMT hML
  go_enter Tryd.func66, Tryd.ntmps66
  go_wp2_with fail
  refine (HP.out _).mono ?_
  rintro e w1 ⟨v1, rfl, ho1, hb1⟩
  obtain ⟨a1, cap1, rfl, hsh⟩ := own_shape ho1
  have HSH := Lib.hid hsh
  have hold : ∀ g, a1 = some ⟨g, 0, none⟩ → g < w1.heap.size := fun g hg => (ho1.lt g (by rw [hg]; rfl)).2
  have HOLD := Lib.hid hold
  clear hsh ho1 hold
  go_wp2_with fail
  go_loopw [5, 13] (fun v5 v13 wr => ∃ j : Nat, j ≤ L.length ∧ v13 = .int .i64 (j : Nat) ∧ wr.ownsRow w1.heap.size 35 1 v5 j (u32s (M.take j)) ∧ Below w1.heap.size w1 wr) (fun _ v _ => L.length - (intOf v).toNat)
  case atStart => exact ⟨0, by omega, rfl, World.ownsRow_nil _ _ _ _, Below.refl _ _⟩
  case round =>
    obtain ⟨j, hj, rfl, ho, hb⟩ := hrel
    obtain ⟨a2, cap2, hv, _⟩ := own_shape ho
    subst hv
    have HO := Lib.hid ho
    clear ho
    by_cases hjl : j < L.length
    · obtain ⟨g, rfl, hc⟩ := HSH.out.resolve_left (by omega)
      have c1 := ((hb.cell (p := ⟨g, j, none⟩) (HOLD.out g rfl)).trans (hc j hjl)).trans (u32s_at L j hjl)
      have hmt := HMT.out j hjl
      obtain ⟨q1, q2⟩ := HPOS.out j hjl
      generalize L[j]?.getD 0 = q at *
      have HM := Lib.hid hmt
      have HF := Lib.hid (fun w => rfrac_ok q k w HK.out (by omega) (by omega))
      clear hmt hc
      go_wp2_with fail
      refine (HF.out _).mono ?_
      rintro e w2 ⟨rfl, hb2⟩
      have hb3 := hb.trans (hb2.mono hb.size)
      have hsz := hb3.size
      have HO2 := Lib.hid ((show w2.ownsRow w1.heap.size 35 1 (.slice a2 j cap2) j (u32s (M.take j)) from
        own_kept HO.out hb2).alloc (.cells #[Value.int .u32 (fracI q k : Nat)] 35))
      have hb4 := hb3.alloc hsz (.cells #[Value.int .u32 (fracI q k : Nat)] 35)
      have HC := Lib.hid (heap_alloc_new w2 (.cells #[Value.int .u32 (fracI q k : Nat)] 35))
      generalize fracI q k = x at *
      go_wp2_with (at_builtin; go_must (with_reducible refine wpList_append_own _ rfl _ _ 102 rfl w1.heap.size 35 i0 (.int .u32 0) 1 4 Tryd.underlying102 HI.out HZ0.out HZ1.out HZ2.out rfl (by decide) (.slice a2 j cap2) j (u32s (M.take j)) rfl HO2.out ⟨w2.heap.size, 0, none⟩ 1 1 [.int .u32 (x : Int)] rfl rfl ?c1 ?c2 ?c3 ?c4 ?c5 ?_))
      case c1 =>
        intro j u hj
        match j, hj with
        | 0, hj =>
          simp at hj; subst hj
          simp [Addr.add]
        | j + 1, hj => simp at hj
      case c2 => intro u hu; simp at hu; subst hu; rfl
      case c3 => unfold maxLen; omega
      case c4 => omega
      case c5 => simp; omega
      intro v' w3 hown' hgrow _
      have hb5 := hb4.grown hgrow (by simp; omega) (fun k hk => (HO2.out.lt k hk).1)
      have HW := Lib.hid (show w3.ownsRow w1.heap.size 35 1 v' (j + 1) (u32s (M.take (j + 1))) from by rw [HM.out, u32s_append]; exact hown')
      clear hown' hgrow
      go_wp2_with fail
      go_roundw
      case rel => exact ⟨j + 1, by omega, by go_num, HW.out, hb5⟩
      case measure => simp [intOf]; omega
    · obtain rfl : j = L.length := by omega
      go_wp2_with fail
      go_ret
      have ho := HO.out
      rw [List.take_of_length_le (by rw [HML.out]; omega)] at ho
      exact ⟨_, rfl, by rw [HML.out]; exact own_mono ho hb1.size, hb1.trans (hb.mono hb1.size)⟩

/-- What hashes begin with, and go on with. -/
def hashH : List Nat := (prs 20).map fun p => fracI p 2
def hashK : List Nat := (prs 312).map fun p => fracI p 3
theorem hashH_length : hashH.length = 8 := by unfold hashH; rw [List.length_map]; exact prs20.1
theorem hashK_length : hashK.length = 64 := by unfold hashK; rw [List.length_map]; exact prs312.1
/-- What Made leaves: a pair of lists, each of the call's own. -/
def Pair (w : World) (e : Ending) (w' : World) : Prop :=
  ∃ v1 v2, e = .returned (.agg #[v1, v2]) ∧ w'.ownsRow w.heap.size 35 1 v1 8 (u32s hashH) ∧ w'.ownsRow w.heap.size 35 1 v2 64 (u32s hashK) ∧ Below w.heap.size w w'
set_option maxHeartbeats 800000 in
theorem rmade_any (w : World) : Calls Tryd.prog 51 #[] w (Pair w) := by
  have H1 := Lib.hid (fun w => rfracs_any 8 20 2 w (by omega) (by omega) prs20.1 (by rw [prs20.2]; omega) (.inl rfl))
  have H2 := Lib.hid (fun w => rfracs_any 64 312 3 w (by omega) (by omega) prs312.1 (by rw [prs312.2]; omega) (.inr rfl))
  go_enter Tryd.func51, Tryd.ntmps51
  go_wp2_with fail
  refine (H1.out _).mono ?_
  rintro e w1 ⟨v1, rfl, ho1, hb1⟩
  rw [show ((prs 20).map fun p => fracI p 2) = hashH from rfl, hashH_length] at ho1
  obtain ⟨a1, c1, rfl, _⟩ := own_shape ho1
  have HO1 := Lib.hid ho1
  have hz1 := hb1.size
  have hz1 : w.heap.size + 1 ≤ w1.heap.size := by simpa using hz1
  have r1 := (hb1.block w.heap.size (by simp)).trans (heap_alloc_new w _)
  have R1 := Lib.hid r1
  clear ho1 r1
  go_wp2_with fail
  refine (H2.out _).mono ?_
  rintro e w2 ⟨v2, rfl, ho2, hb2⟩
  rw [show ((prs 312).map fun p => fracI p 3) = hashK from rfl, hashK_length] at ho2
  obtain ⟨a2, c2, rfl, _⟩ := own_shape ho2
  have HO2 := Lib.hid ho2
  have R2 := Lib.hid ((hb2.block w.heap.size (by omega)).trans R1.out)
  have s1 : (Tryd.prog.info? 104).map (fun i => i.size) = some (#[Value.slice a1 8 c1, Value.slice a2 64 c2] : Array Value).size := by kernel_rfl
  have hz2 := hb2.size
  clear ho2
  have d0 : w2.cell? ⟨w.heap.size, 0, none⟩ = some (.slice none 0 0) := cell_of_row w2 _ 0 _ _ _ R2.out
  have d1 : w2.cell? ⟨w.heap.size, 1, none⟩ = some (.slice none 0 0) := cell_of_row w2 _ 1 _ _ _ R2.out
  have f0 := frozen_of_row w2 w.heap.size 0 _ _ R2.out
  have f1 := frozen_of_row w2 w.heap.size 1 _ _ R2.out
  go_wp2_with fail
  have R3 := heap_setCell_same _ w.heap.size 1 _ _ (.slice a2 64 c2) (heap_setCell_same w2 w.heap.size 0 _ _ (.slice a1 8 c1) R2.out)
  have n1 : ∀ k, (Value.slice a1 8 c1).ownBlock = some k → k ≠ w.heap.size := fun k hk => by have := (HO1.out.lt k hk).1; simp at this; omega
  have n2 : ∀ k, (Value.slice a2 64 c2).ownBlock = some k → k ≠ w.heap.size := fun k hk => by have := (HO2.out.lt k hk).1; omega
  have k1 := own_mono (own_kept HO1.out hb2) (show w.heap.size ≤ _ by simp)
  have k2 := own_mono HO2.out (show w.heap.size ≤ w1.heap.size by omega)
  have hb : Below w.heap.size w w2 := (((Below.refl w.heap.size w).alloc (Nat.le_refl _) _).trans (hb1.mono (by simp))).trans (hb2.mono (by omega))
  refine bodyPost_ret (v := .agg #[Value.slice a1 8 c1, Value.slice a2 64 c2]) (results_cell_row (ty := 104) rfl _ _ w.heap.size _ #[Value.slice a1 8 c1, Value.slice a2 64 c2] _ _ rfl R3 Tryd.underlying104 rfl s1) rfl
    ⟨_, _, rfl, ownsRow_setCell_other (ownsRow_setCell_other k1 (fun h => n1 _ h rfl) _) (fun h => n1 _ h rfl) _, ownsRow_setCell_other (ownsRow_setCell_other k2 (fun h => n2 _ h rfl) _) (fun h => n2 _ h rfl) _,
      (hb.setCell (p := ⟨w.heap.size, 0, none⟩) (Nat.le_refl _) _).setCell (p := ⟨w.heap.size, 1, none⟩) (Nat.le_refl _) _⟩
end Go.Proofs.YtfgdddejpdjllaaDoor
