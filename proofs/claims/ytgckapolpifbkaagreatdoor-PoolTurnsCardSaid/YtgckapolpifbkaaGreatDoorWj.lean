import Derived.Test.YtgckapolpifbkaaGreatDoorWi
import Derived.Laws.IdiomCopy
namespace Go.Proofs.YtgckapolpifbkaaGreatDoor
set_option maxRecDepth 4000
set_option linter.unusedVariables false
open Go.ChangeShapes Go.WideShapes Go.ChangeAt Go.RowKit
theorem range_only13 {w w' : World} {g b o : Nat} {cs : List Value} (h : Only g w w') (hr : w.rangeAt b o cs) (hne : b ≠ g) : w'.rangeAt b o cs := fun j v hj => by
  have := hr j v hj
  unfold World.cell? at this ⊢
  rw [h.rest b hne]; exact this
set_option maxRecDepth 100000 in
set_option maxHeartbeats 1600000 in
theorem ppoke_ok13 (D gl bm n a bx cap : Nat) (vw : Value) (F l : List (BitVec 8)) (ws : List (Nat × List (BitVec 8))) (lim : Int) (dn : Bool) (w : World) (h : PD w D gl bm n vw F ws lim dn) (ha : a < n) (hB : w.rangeAt bx 0 (yvs l).toList) (hne : gl ≠ bx) (hl : l.length = 512) :
    Calls Tryz.prog 36 #[.pointer (some ⟨D, 0, none⟩), .int .u32 (a : Int), .slice (some ⟨bx, 0, none⟩) 512 cap] w fun e w' => e = .returned (.int .i64 0) ∧ PD w' D gl bm n vw (putL F (a * 512) l) ws lim dn ∧ Only gl w w' := by
  have hbig := h.big
  have HT := Lib.hid (show Calls Tryz.prog 64 #[.pointer (some ⟨D, 0, none⟩), .int .u32 (a : Int), .slice (some ⟨bx, 0, none⟩) 512 cap] w fun e w' => e = .returned (.int .i64 0) ∧ w' = w by have q := prefuses_any D gl bm n a vw F ws lim dn (some ⟨bx, 0, none⟩) 512 cap w h (by omega); rwa [if_pos ⟨ha, rfl⟩] at q)
  obtain ⟨left, hd, _⟩ := h.dev
  obtain ⟨c0, _⟩ := pd_at hd
  have H := Lib.hid h
  have HB := Lib.hid hB
  have harr := parr_ptr ⟨bx, 0, none⟩ cap
  have hix := pindex_sec gl n a ha
  have hfl : a * 512 + l.length ≤ F.length := by rw [h.len, hl]; omega
  have IP := Lib.hid (show (Tryz.prog.info? 117).map (·.size) = some (yvs l).toList.length by rw [Array.length_toList]; exact psize_sec _ hl)
  have SP := Lib.hid (psize_sec l hl)
  have HTH := Lib.hid (show w.drew.there gl (a * 512) (yvs l).size by rw [yvs_size]; exact (show ArrY w.drew gl 117 _ from h.lay).there _ _ hfl)
  have HO := Lib.hid (only_setCells (yvs l).toList (a * 512) w.drew w.drew (Only.refl gl _))
  have HA := Lib.hid (ArrY.put 117 gl l (a * 512) _ w.drew h.lay hfl)
  have HR := Lib.hid ((h.below (Below.refl _ _).drew).relay HO.out HA.out (by rw [putL_length _ _ _ hfl]; exact h.len))
  have HS0 := Lib.hid (show w.drew.cell? ⟨D, 0, none⟩ = some (.slice (some ⟨gl, 0, none⟩) n n) ∧ w.drew.rangeAt bx 0 (yvs l).toList from ⟨c0, (show w.drew.rangeAt bx 0 (yvs l).toList from hB)⟩)
  have HS1 := Lib.hid (show (w.drew.setCells gl (a * 512) (yvs l).toList).cell? ⟨D, 0, none⟩ = some (.slice (some ⟨gl, 0, none⟩) n n) ∧ (w.drew.setCells gl (a * 512) (yvs l).toList).rangeAt bx 0 (yvs l).toList from by
    obtain ⟨left, hd, _⟩ := HR.out.dev
    exact ⟨(pd_at hd).1, range_only13 HO.out (show w.drew.rangeAt bx 0 (yvs l).toList from hB) (Ne.symm hne)⟩)
  have HOO := Lib.hid (show Only gl w (w.drew.setCells gl (a * 512) (yvs l).toList) from ⟨HO.out.size, HO.out.rest, fun B hB => (Below.refl _ _).drew.trans (HO.out.bel B hB)⟩)
  clear h ha hB hl hfl hbig hne hd
  go_enter Tryz.func36, Tryz.ntmps36
  go_wp2_with fail
  refine HT.out.mono ?_
  rintro e w1 ⟨rfl, rfl⟩
  go_upto_region 4 with fail
  clear c0
  try simp only [Act.put]
  refine wp_region_noPanic ?_
  refine wp_region_held_drew (S := fun W => W.cell? ⟨D, 0, none⟩ = some (.slice (some ⟨gl, 0, none⟩) n n) ∧ W.rangeAt bx 0 (yvs l).toList) (by kernel_rfl) (HS0.out) (fun hHeld => ?_)
  refine wpAnyH_take (i := 0) (oi := ⟨some 15, _, _, _, _, _⟩) (v := ?_) rfl (by kernel_rfl) (by decide +kernel) (by decide +kernel) (fun _ _ _ h => h) (Or.inl ⟨by rfl, ?_⟩) (by assumption) ?_
  rotate_left 1
  · (intro w' hSw; go_simp; try with_reducible rfl)
  try simp only [Act.put, List.setIfInBounds_toArray, List.set_cons_zero, List.set_cons_succ]
  refine wpAnyH_take (i := 1) (oi := ⟨some 16, _, _, _, _, _⟩) (v := ?_) rfl (by kernel_rfl) (by decide +kernel) (by decide +kernel) (fun _ _ _ h => h) (Or.inl ⟨by rfl, ?_⟩) (by assumption) ?_
  rotate_left 1
  · (intro w' hSw; go_simp; try with_reducible rfl)
  try simp only [Act.put, List.setIfInBounds_toArray, List.set_cons_zero, List.set_cons_succ]
  refine wpAnyH_take (i := 2) (oi := ⟨some 17, _, _, _, _, _⟩) (v := ?_) rfl (by kernel_rfl) (by decide +kernel) (by decide +kernel) (fun _ _ _ h => h) (Or.inl ⟨by rfl, ?_⟩) (by assumption) ?_
  rotate_left 1
  · (intro w' hSw; go_simp; try with_reducible rfl)
  try simp only [Act.put, List.setIfInBounds_toArray, List.set_cons_zero, List.set_cons_succ]
  refine wpAnyH_take (i := 3) (oi := ⟨some 18, _, _, _, _, _⟩) (v := ?_) rfl (by kernel_rfl) (by decide +kernel) (by decide +kernel) (fun _ _ _ h => h) (Or.inl ⟨by rfl, ?_⟩) (by assumption) ?_
  rotate_left 1
  · (intro w' hSw; have hcell := hSw.1; clear hSw; go_simp; try with_reducible rfl)
  try simp only [Act.put, List.setIfInBounds_toArray, List.set_cons_zero, List.set_cons_succ]
  refine wpAnyH_take (i := 4) (oi := ⟨some 19, _, _, _, _, _⟩) (v := ?_) rfl (by kernel_rfl) (by decide +kernel) (by decide +kernel) (fun _ _ _ h => h) (Or.inl ⟨by rfl, ?_⟩) (by assumption) ?_
  rotate_left 1
  · (intro w' hSw; go_simp; try with_reducible rfl)
  try simp only [Act.put, List.setIfInBounds_toArray, List.set_cons_zero, List.set_cons_succ]
  refine wpAnyH_take (i := 5) (oi := ⟨some 20, _, _, _, _, _⟩) (v := ?_) rfl (by kernel_rfl) (by decide +kernel) (by decide +kernel) (fun _ _ _ h => h) (Or.inl ⟨by rfl, ?_⟩) (by assumption) ?_
  rotate_left 1
  · (intro w' hSw; go_simp; try with_reducible rfl)
  try simp only [Act.put, List.setIfInBounds_toArray, List.set_cons_zero, List.set_cons_succ]
  refine wpAnyH_take (i := 6) (oi := ⟨some 21, _, _, _, _, _⟩) (v := ?_) rfl (by kernel_rfl) (by decide +kernel) (by decide +kernel) (fun _ _ _ h => h) (Or.inl ⟨by rfl, ?_⟩) (by assumption) ?_
  rotate_left 1
  · (intro w' hSw; go_simp; try with_reducible rfl)
  try simp only [Act.put, List.setIfInBounds_toArray, List.set_cons_zero, List.set_cons_succ]
  refine wpAnyH_take (i := 7) (oi := ⟨some 22, _, _, _, _, _⟩) rfl (by kernel_rfl) (by decide +kernel) (by decide +kernel) (fun _ _ _ h => h) (yieldsIf_load_mid (by rfl) _ _ rfl (bx) (0) rfl (yvs l).toList _ (fun w' h => h.2) Tryz.underlying117 rfl IP.out) (by assumption) ?_
  try simp only [Act.put, List.setIfInBounds_toArray, List.set_cons_zero, List.set_cons_succ, Array.toArray_toList]
  refine wpAnyH_take (i := 8) (oi := ⟨some 23, _, _, _, _, _⟩) (v := ?_) rfl (by kernel_rfl) (by decide +kernel) (by decide +kernel) (fun _ _ _ h => h) (Or.inl ⟨by rfl, ?_⟩) (by assumption) ?_
  rotate_left 1
  · (intro w' hSw; go_simp; try with_reducible rfl)
  try simp only [Act.put, List.setIfInBounds_toArray, List.set_cons_zero, List.set_cons_succ]
  clear hHeld
  refine wpAnyH_ready (rs := [9]) (by decide +kernel) (by simp) ?_
  refine AllReadyH.cons rfl (fun K hK => ?_) AllReadyH.nil
  rw [if_pos (by kernel_rfl)]
  refine wp_store_mid (op := ⟨none, .store _ (.tmp 23) _, _, _, _, _⟩) 117 _ _ rfl gl (a * 512) (yvs l) rfl rfl HTH.out SP.out (yvs_one _) ?_
  refine hK.out _ _ (HS1.out) (fun hHeld => ?_)
  clear hK K hHeld
  try simp only [Act.put]
  refine wpAnyH_done (by decide +kernel) ?_ _
  refine NoPanic.normal ?_
  go_wp2_with fail
  go_ret
  exact ⟨rfl, HR.out, HOO.out⟩
theorem ql_poke13 {w0 w : World} {P D gl n b : Nat} {ks V : List (BitVec 8)} {F : Nat → Bool} {ws : List (Nat × List (BitVec 8))} {lim : Int} {dn : Bool} {L : List RowE} {M : List Nat} (a bx cap : Nat) (l : List (BitVec 8)) (h : QL w0 w P D gl n ks F b V ws lim dn L M) (ha : a < n) (hB : w.rangeAt bx 0 (yvs l).toList) (hbx : bx ∈ P :: (L.map (·.1) ++ M)) (hl : l.length = 512) :
    Calls Tryz.prog 36 #[.pointer (some ⟨D, 0, none⟩), .int .u32 (a : Int), .slice (some ⟨bx, 0, none⟩) 512 cap] w fun e w' => e = .returned (.int .i64 0) ∧ QL w0 w' P D gl n ks F b (putL V (a * 512) l) ws lim dn L M ∧ Stay M w w' := by
  obtain ⟨bm, vw, hd, hf, a3, a4⟩ := h.po
  refine (ppoke_ok13 D gl bm n a bx cap vw V l ws lim dn w hd ha hB (fun e => (hf gl (by simp [pfp])).2 (e ▸ hbx)) hl).mono ?_
  rintro e w' ⟨he, hd', ho⟩
  have hPg : P ≠ gl := fun e => (hf gl (by simp [pfp])).2 (by rw [← e]; exact List.mem_cons_self ..)
  exact ⟨he, h.dev hd hf hd' (h.pl.keep (ho.rest _ hPg)) (touch_only ho (by simp [pfp])) (fun g hg => .inl hg)⟩
theorem lit_nob (W : World) : (Instr.buildSlice 62 0 #[]).run Tryz.prog W = .ok (.slice (some ⟨W.heap.size, 0, none⟩) 0 0) (W.alloc (.cells #[] 5)) := by
  obtain ⟨i, hi, hs⟩ := Option.map_eq_some_iff.1 (show (Tryz.prog.info? 5).map (·.size) = some 1 by kernel_rfl)
  simp [Instr.buildSlice, run_underlying Tryz.underlying62, sizeOf, typeInfo, hi, Instr.fill, newRow]
  exact congrArg (fun x => W.alloc (Obj.cells x 5)) (Array.eq_empty_of_size_eq_zero (by simp))
theorem copied (w : World) (v : Value) (l : List Int) (h : BS w v l) (h63 : l.length ≤ 1000000) : ∃ a c w', (Builtin.append_ #[62, 62] 62 #[.slice (some ⟨w.heap.size, 0, none⟩) 0 0, v]).run Tryz.prog (w.alloc (.cells #[] 5)) = .ok (.slice a l.length c) w' ∧ w'.ownsRow w.heap.size 5 1 (.slice a l.length c) l.length (l.map (Value.int .u8)) ∧ Below w.heap.size w w' := by
  have hb := (Below.refl w.heap.size w).alloc (Nat.le_refl _) (.cells #[] 5)
  have ho := World.ownsRow_lit (base := w.heap.size) (e := 5) (size := 1) w #[] 0 (Nat.le_refl _) (by unfold maxLen; omega) rfl
  obtain ⟨v', w', h1, h2, h3, _⟩ := run_append_BS_at (w.alloc (.cells #[] 5)) w.heap.size 0 (.slice (some ⟨w.heap.size, 0, none⟩) 0 0) v [] l ho (h.kept hb) (by omega) hb.size
  rw [Nat.zero_add] at h2
  obtain ⟨a, c, rfl⟩ := own_shape8 h2
  exact ⟨a, c, w', h1, by simpa using h2, hb.trans (grown_below9 h3 hb.size (fun g e => by simp [Value.ownBlock] at e; omega))⟩
theorem copied_row (w : World) (v : Value) (L : List (BitVec 8)) (h : BS w v (L.map yv)) (hl : L.length = 512) : ∃ g c cur w', (Builtin.append_ #[62, 62] 62 #[.slice (some ⟨w.heap.size, 0, none⟩) 0 0, v]).run Tryz.prog (w.alloc (.cells #[] 5)) = .ok (.slice (some ⟨g, 0, none⟩) 512 c) w' ∧ w.heap.size ≤ g ∧ w'.heap[g]? = some (.cells (cur : List Value).toArray 5 (0, 0)) ∧ cur.take 512 = (yvs L).toList ∧ 512 ≤ c ∧ c ≤ 9223372036854775807 ∧ Below w.heap.size w w' := by
  obtain ⟨a, c, w', h1, h2, h3⟩ := copied w v (L.map yv) h (by rw [List.length_map, hl]; decide)
  rw [List.length_map, hl] at h1 h2
  rcases h2.2 with ⟨e, h0⟩ | ⟨g, cap, cur, e, hb, hg, k1, k2, k3, k4⟩
  · cases h0
  · injection e with e1 e2 e3
    subst e1; subst e3
    refine ⟨g, c, cur.toList, w', h1, hb, by simpa using hg, ?_, k1, k2, h3⟩
    rw [Nat.mul_one] at k4
    rw [k4]
    simp [yvs, List.map_map]
theorem yvs_list (L : List (BitVec 8)) : (yvs L).toList = L.map fun b => Value.int .u8 (yv b) := rfl
theorem range_take {w : World} {g t : Nat} {fr : Nat × Nat} {cur : List Value} {L : List (BitVec 8)} (hg : w.heap[g]? = some (.cells cur.toArray t fr)) (hc : cur.take 512 = (yvs L).toList) : w.rangeAt g 0 (yvs L).toList := fun j v hj => by
  rw [Nat.zero_add, cell_of_row _ _ _ _ _ _ hg, List.getElem?_toArray]
  rw [← hc, List.getElem?_take] at hj
  split at hj
  · exact hj
  · cases hj
theorem bs_range {w : World} {g c : Nat} {L : List (BitVec 8)} (h : w.rangeAt g 0 (yvs L).toList) (hl : L.length = 512) : BS w (.slice (some ⟨g, 0, none⟩) 512 c) (L.map yv) := by
  refine ⟨_, _, by rw [List.length_map, hl], fun z hz => ?_, (fun h => by cases h), .inr ⟨g, 0, rfl, fun i hi => ?_⟩⟩
  · obtain ⟨b, _, rfl⟩ := List.mem_map.1 hz
    have := yv_lt b; have := yv_pos b; omega
  · rw [List.length_map] at hi
    have := h i (.int .u8 (yv L[i])) (by rw [yvs_list, List.getElem?_map, List.getElem?_eq_getElem hi]; rfl)
    rw [this]
    simp [List.getD, hi]
theorem putL_nil (L : List (BitVec 8)) (o : Nat) : putL L o [] = L := by simp [putL]
theorem take_app13 {α : Type} {n : Nat} {l m : List α} (h : l.length ≤ n) : (l ++ m).take n = l ++ m.take (n - l.length) := by
  rw [List.take_append, List.take_of_length_le h]
theorem take_put (cur : List Value) (L x : List (BitVec 8)) (off : Nat) (hc : cur.take 512 = (yvs L).toList) (hf : off + x.length ≤ 512) : (cur.take off ++ ((yvs x).toList ++ cur.drop (off + (yvs x).toList.length))).take 512 = (yvs (putL L off x)).toList := by
  have hx : (yvs x).toList.length = x.length := by rw [yvs_list, List.length_map]
  have h1 : cur.take off = (L.take off).map fun b => Value.int .u8 (yv b) := by
    have := congrArg (List.take off) hc
    rw [List.take_take, Nat.min_eq_left (by omega), yvs_list, ← List.map_take] at this
    exact this
  have h2 : (cur.drop (off + x.length)).take (512 - (off + x.length)) = (L.drop (off + x.length)).map fun b => Value.int .u8 (yv b) := by
    have := congrArg (List.drop (off + x.length)) hc
    rw [List.drop_take, yvs_list, ← List.map_drop] at this
    exact this
  have hlo : off ≤ cur.length ∨ cur.length < off := by omega
  have hl : L.length = min 512 cur.length := by
    have := congrArg List.length hc
    rw [List.length_take, yvs_list, List.length_map] at this
    exact this.symm
  rw [hx]
  unfold putL
  rw [yvs_list x, yvs_list (_ ++ _), List.map_append, List.map_append, ← h1, ← h2]
  rcases hlo with h | h
  · have e1 : (cur.take off).length = off := by rw [List.length_take]; omega
    rw [take_app13 (by rw [e1]; omega), e1, take_app13 (by rw [List.length_map]; omega), List.length_map, List.append_assoc]
    congr 3
    omega
  · have e2 : cur.drop (off + x.length) = [] := List.drop_eq_nil_of_le (by omega)
    rw [e2, List.take_nil, List.append_nil, List.append_nil, List.take_of_length_le (by rw [List.length_append, List.length_take, List.length_map]; omega)]
theorem copy_any13 (w : World) (g off cc n c : Nat) (ty : TypeId) (cur : List Value) (L : List (BitVec 8)) (a : Option Addr) (x : List Int) (hg : w.heap[g]? = some (.cells cur.toArray 5 (0, 0))) (hc : cur.take 512 = (yvs L).toList) (hL : L.length = 512) (hoff : off < 512) (hB : BS w (.slice a n c) x) (hn : x.length = n) :
    ∃ v w' cur', (Builtin.copy_ #[62, 62] ty #[.slice (some ⟨g, off, none⟩) (512 - off) cc, .slice a n c]).run Tryz.prog w = .ok v w' ∧ w'.heap[g]? = some (.cells (cur' : List Value).toArray 5 (0, 0)) ∧ cur'.take 512 = (yvs (putL L off ((toY x).take (512 - off)))).toList ∧ Touch [g] w w' := by
  have hlen : 512 ≤ cur.length := by
    have := congrArg List.length hc
    rw [List.length_take, yvs_list, List.length_map, hL] at this
    omega
  by_cases h0 : n = 0
  · have hx : x = [] := List.eq_nil_of_length_eq_zero (by omega)
    refine ⟨_, w, cur, run_copy_none w _ _ ty 5 _ _ _ _ _ _ Tryz.underlying62 yone (by subst h0; simp), hg, ?_, Touch.refl _ _⟩
    rw [hx]
    simp only [toY, List.map_nil, List.take_nil]
    rw [putL_nil]; exact hc
  · have hy : (toY x).map yv = x := toY_yv x hB.byt
    obtain ⟨ad, rfl, hsrc⟩ := bs_src (l := toY x) (by rw [hy]; exact hB) (by rw [toY_length]; omega)
    have hk : (yvs ((toY x).take (512 - off))).toList.length = Nat.min n (512 - off) := by rw [yvs_list, List.length_map, List.length_take, toY_length, hn, Nat.min_comm]
    have hrun := run_copy_row (P := Tryz.prog) w 62 62 ty 5 g off (512 - off) cc ad n c cur.toArray 5 (yvs ((toY x).take (512 - off))).toList Tryz.underlying62 yone hg hk
      (fun j v hj => hsrc j v (by
        rw [yvs_list, List.getElem?_map, List.getElem?_take] at hj
        split at hj
        · rw [yvs_list, List.getElem?_map]; exact hj
        · cases hj))
      (by rw [hk, List.size_toArray]; have : Nat.min n (512 - off) ≤ 512 - off := Nat.min_le_right n (512 - off); omega) (fun v hv => by rw [yvs_list] at hv; obtain ⟨b, _, rfl⟩ := List.mem_map.1 hv; rfl)
    refine ⟨_, _, cur.take off ++ ((yvs ((toY x).take (512 - off))).toList ++ cur.drop (off + (yvs ((toY x).take (512 - off))).toList.length)), hrun, ?_, ?_, setRow_touch _ _ _⟩
    · have := setRow_heap w g _ (cur.toArray.toList.take off ++ (yvs ((toY x).take (512 - off))).toList ++ cur.toArray.toList.drop (off + (yvs ((toY x).take (512 - off))).toList.length)).toArray _ _ hg
      rw [this]
      simp
    · exact take_put cur L _ off hc (by rw [List.length_take]; omega)
theorem slice_from13 (g d c : Nat) (h : d < 512) (hc : 512 ≤ c) (W : World) : (Instr.slice 62 (.slice (some ⟨g, 0, none⟩) 512 c) (some (.int .i64 (d : Int))) none none).run Tryz.prog W = .ok (.slice (some ⟨g, d, none⟩) (512 - d) (c - d)) W := by
  obtain ⟨a2, h1, h2⟩ := slice_from2 g 0 512 c d (by omega) hc
  rcases h2 with h2 | h2
  · omega
  · rw [h1 W, h2, Nat.zero_add]
end Go.Proofs.YtgckapolpifbkaaGreatDoor
