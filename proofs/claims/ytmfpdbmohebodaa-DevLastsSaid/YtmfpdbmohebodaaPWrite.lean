/-
  The program's device of layer 6: New, Poke, Write.
-/
import Derived.Test.YtmfpdbmohebodaaPFill
namespace Go.Proofs.Ytmfpdbmohebodaa
open Go.RowKit
open Go.Maps (Keyed)

set_option maxHeartbeats 800000 in
theorem pnew_small (x : Int) (w : World) (hx : x < 16) :
    Calls Try.prog 11 #[.int .i64 x] w fun e w' => e = .returned (.tuple #[.pointer none, .int .i64 2]) ∧ w' = w := by
  go_enter Try.func11, Try.ntmps11
  go_wp2_with fail
  go_ret2
  exact ⟨rfl, rfl⟩
set_option maxHeartbeats 800000 in
theorem pnew_large (x : Int) (w : World) (hx : 4096 < x) :
    Calls Try.prog 11 #[.int .i64 x] w fun e w' => e = .returned (.tuple #[.pointer none, .int .i64 2]) ∧ w' = w := by
  have h0 : (16 : Int) ≤ x := by omega
  go_enter Try.func11, Try.ntmps11
  go_wp2_with fail
  go_ret2
  exact ⟨rfl, rfl⟩
theorem pinfo_sec : (Try.prog.info? 74).map (fun i => (i.zero, i.size, i.bytes)) = some (some (.agg (yvs (zeroY 512))), 512, 512) := by kernel_rfl
theorem pmake_secs (n : Nat) (h : n ≤ 4096) (w : World) : (Instr.makeSlice 67 (.int .i64 (n : Int)) (.int .i64 (n : Int))).run Try.prog w = .ok (.slice (some ⟨w.heap.size, 0, none⟩) n n) (w.alloc (.cells (yvs (zeroY (n * 512))) 74)) := by
  obtain ⟨i, hi, hzz⟩ := Option.map_eq_some_iff.1 pinfo_sec
  simp only [Prod.mk.injEq] at hzz
  obtain ⟨hz, hs, hb⟩ := hzz
  rw [run_make (P := Try.prog) w 67 74 i _ Try.underlying67 hi hz .i64 .i64 n n (by omega) (by omega) (by rw [hb]; omega) (by omega), hs]
  simp only [Int.toNat_natCast]
  rw [show (Value.agg (yvs (zeroY 512))).cells = yvs (zeroY 512) from rfl, made_secs]
set_option maxRecDepth 100000 in
set_option maxHeartbeats 1600000 in
theorem pnew_ok (n : Nat) (w : World) (h0 : 16 ≤ n) (h1 : n ≤ 4096) :
    Calls Try.prog 11 #[.int .i64 (n : Int)] w fun e w' => e = .returned (.tuple #[.pointer (some ⟨w.heap.size + 2, 0, none⟩), .int .i64 0]) ∧ PD w' (w.heap.size + 2) w.heap.size (w.heap.size + 1) n (.slice none 0 0) (zeroY (n * 512)) [] (-1) false ∧ Below w.heap.size w w' := by
  have i0 : (16 : Int) ≤ (n : Int) := by omega
  have i1 : (n : Int) ≤ 4096 := by omega
  have hmk := pmake_secs n h1
  have hmm : ∀ W : World, (Instr.makeMap 68 none).run Try.prog W = .ok (.map (some W.heap.size)) (W.alloc (.map #[] 0)) := fun W => run_makeMap _ W
  have H1 := Lib.hid h1
  clear h0 h1
  go_enter Try.func11, Try.ntmps11
  go_wp2_with fail
  clear hmk hmm
  go_ret2
  generalize hO1 : Obj.cells (yvs (zeroY (n * 512))) 74 = O1
  have hb1 : Below w.heap.size w (w.alloc O1) := (Below.refl _ _).alloc (Nat.le_refl _) _
  have hsz : (w.alloc O1).heap.size = w.heap.size + 1 := by simp
  have hb2 : Below w.heap.size w ((w.alloc O1).alloc (.map #[] 0)) := hb1.alloc (by omega) _
  have hsz2 : ((w.alloc O1).alloc (.map #[] 0)).heap.size = w.heap.size + 2 := by simp
  have hmap := World.ownsMap_made (w.alloc O1) Try.prog 32 (plainElem (H := Unit) Try.prog 3)
  rw [hsz] at hmap
  generalize hW2 : (w.alloc O1).alloc (.map #[] 0) = W2 at *
  generalize hO2 : Obj.cells #[.slice (some ⟨w.heap.size, 0, none⟩) n n, .slice none 0 0, .map (some (w.heap.size + 1)), .bool false, .int .i64 0, .bool false] 71 = O2
  have hb3 : Below w.heap.size w (W2.alloc O2) := hb2.alloc (by omega) _
  have hb4 : Below W2.heap.size W2 (W2.alloc O2) := (Below.refl _ _).alloc (Nat.le_refl _) _
  have e2 := heap_alloc_new W2 O2
  rw [hsz2] at e2
  have e1 : W2.heap[w.heap.size]? = some O1 := by
    rw [← hW2]
    have q := (Below.refl (w.alloc O1).heap.size (w.alloc O1)).alloc (Nat.le_refl _) (.map #[] 0)
    exact (q.block w.heap.size (by omega)).trans (heap_alloc_new w O1)
  have e3 := (hb4.block w.heap.size (by omega)).trans e1
  have hmap2 : MapAt W2 (w.heap.size + 1) [] := ⟨_, MapOf.none, hmap⟩
  refine ⟨rfl, ⟨⟨0, e2.trans (congrArg some hO2.symm), fun h => by omega⟩, e3.trans (congrArg some hO1.symm), by simp [zeroY], World.ownsRow_nil _ _ _ _, (fun p hp => by cases hp), H1.out, by omega, hmap2.keep (hb4.block _ (by omega))⟩, hb3⟩

theorem arr_range {w : World} {b t : Nat} {l : List (BitVec 8)} (h : ArrY w b t l) : w.rangeAt b 0 (yvs l).toList := h.all
set_option maxRecDepth 100000 in
set_option maxHeartbeats 1600000 in
theorem ppoke_ok (D gl bm n a bx cap : Nat) (vw : Value) (F l : List (BitVec 8)) (ws : List (Nat × List (BitVec 8))) (lim : Int) (dn : Bool) (w : World) (h : PD w D gl bm n vw F ws lim dn) (ha : a < n) (hB : ArrY w bx 5 l) (hl : l.length = 512) :
    Calls Try.prog 21 #[.pointer (some ⟨D, 0, none⟩), .int .u32 (a : Int), .slice (some ⟨bx, 0, none⟩) 512 cap] w fun e w' => e = .returned (.int .i64 0) ∧ PD w' D gl bm n vw (putL F (a * 512) l) ws lim dn ∧ Only gl w w' := by
  have hbig := h.big
  have HT := Lib.hid (show Calls Try.prog 36 #[.pointer (some ⟨D, 0, none⟩), .int .u32 (a : Int), .slice (some ⟨bx, 0, none⟩) 512 cap] w fun e w' => e = .returned (.int .i64 0) ∧ w' = w by have q := prefuses_any D gl bm n a vw F ws lim dn (some ⟨bx, 0, none⟩) 512 cap w h (by omega); rwa [if_pos ⟨ha, rfl⟩] at q)
  obtain ⟨left, hd, _⟩ := h.dev
  obtain ⟨c0, _⟩ := pd_at hd
  have H := Lib.hid h
  have HB := Lib.hid hB
  have harr := parr_ptr ⟨bx, 0, none⟩ cap
  have hix := pindex_sec gl n a ha
  have hne : gl ≠ bx := type_ne h.lay hB (by decide)
  have hfl : a * 512 + l.length ≤ F.length := by rw [h.len, hl]; omega
  have IP := Lib.hid (show (Try.prog.info? 74).map (·.size) = some (yvs l).toList.length by rw [Array.length_toList]; exact psize_sec _ hl)
  have SP := Lib.hid (psize_sec l hl)
  have HTH := Lib.hid (show w.drew.there gl (a * 512) (yvs l).size by rw [yvs_size]; exact (show ArrY w.drew gl 74 _ from h.lay).there _ _ hfl)
  have HO := Lib.hid (only_setCells (yvs l).toList (a * 512) w.drew w.drew (Only.refl gl _))
  have HA := Lib.hid (ArrY.put 74 gl l (a * 512) _ w.drew h.lay hfl)
  have HR := Lib.hid ((h.below (Below.refl _ _).drew).relay HO.out HA.out (by rw [putL_length _ _ _ hfl]; exact h.len))
  have HS0 := Lib.hid (show w.drew.cell? ⟨D, 0, none⟩ = some (.slice (some ⟨gl, 0, none⟩) n n) ∧ w.drew.rangeAt bx 0 (yvs l).toList from ⟨c0, arr_range (show ArrY w.drew bx _ l from hB)⟩)
  have HS1 := Lib.hid (show (w.drew.setCells gl (a * 512) (yvs l).toList).cell? ⟨D, 0, none⟩ = some (.slice (some ⟨gl, 0, none⟩) n n) ∧ (w.drew.setCells gl (a * 512) (yvs l).toList).rangeAt bx 0 (yvs l).toList from by
    obtain ⟨left, hd, _⟩ := HR.out.dev
    exact ⟨(pd_at hd).1, arr_range (HO.out.arr (show ArrY w.drew bx _ l from hB) (Ne.symm hne))⟩)
  have HOO := Lib.hid (show Only gl w (w.drew.setCells gl (a * 512) (yvs l).toList) from ⟨HO.out.size, HO.out.rest, fun B hB => (Below.refl _ _).drew.trans (HO.out.bel B hB)⟩)
  clear h ha hB hl hfl hbig hne hd
  go_enter Try.func21, Try.ntmps21
  go_wp2_with fail
  refine HT.out.mono ?_
  rintro e w1 ⟨rfl, rfl⟩
  go_upto_region 4 with fail
  clear c0
  try simp only [Act.put]
  refine wp_region_noPanic ?_
  refine wp_region_held_drew (S := fun W => W.cell? ⟨D, 0, none⟩ = some (.slice (some ⟨gl, 0, none⟩) n n) ∧ W.rangeAt bx 0 (yvs l).toList) (by kernel_rfl) (HS0.out) (fun hHeld => ?_)
  refine wpAnyH_take (i := 0) (oi := ⟨some 15, _, _, _, _, _⟩) (v := ?_) rfl (by kernel_rfl) (by decide +kernel) (by decide +kernel) (fun _ _ _ h => h) (Or.inl ⟨by rfl, ?_⟩) (by assumption) ?_
  rotate_left 1
  · (intro w' hSw; go_simp; try with_reducible rfl)
  try simp only [Act.put, List.setIfInBounds_toArray, List.set_cons_zero, List.set_cons_succ]
  refine wpAnyH_take (i := 1) (oi := ⟨some 16, _, _, _, _, _⟩) (v := ?_) rfl (by kernel_rfl) (by decide +kernel) (by decide +kernel) (fun _ _ _ h => h) (Or.inl ⟨by rfl, ?_⟩) (by assumption) ?_
  rotate_left 1
  · (intro w' hSw; go_simp; try with_reducible rfl)
  try simp only [Act.put, List.setIfInBounds_toArray, List.set_cons_zero, List.set_cons_succ]
  refine wpAnyH_take (i := 2) (oi := ⟨some 17, _, _, _, _, _⟩) (v := ?_) rfl (by kernel_rfl) (by decide +kernel) (by decide +kernel) (fun _ _ _ h => h) (Or.inl ⟨by rfl, ?_⟩) (by assumption) ?_
  rotate_left 1
  · (intro w' hSw; go_simp; try with_reducible rfl)
  try simp only [Act.put, List.setIfInBounds_toArray, List.set_cons_zero, List.set_cons_succ]
  refine wpAnyH_take (i := 3) (oi := ⟨some 18, _, _, _, _, _⟩) (v := ?_) rfl (by kernel_rfl) (by decide +kernel) (by decide +kernel) (fun _ _ _ h => h) (Or.inl ⟨by rfl, ?_⟩) (by assumption) ?_
  rotate_left 1
  · (intro w' hSw; have hcell := hSw.1; clear hSw; go_simp; try with_reducible rfl)
  try simp only [Act.put, List.setIfInBounds_toArray, List.set_cons_zero, List.set_cons_succ]
  refine wpAnyH_take (i := 4) (oi := ⟨some 19, _, _, _, _, _⟩) (v := ?_) rfl (by kernel_rfl) (by decide +kernel) (by decide +kernel) (fun _ _ _ h => h) (Or.inl ⟨by rfl, ?_⟩) (by assumption) ?_
  rotate_left 1
  · (intro w' hSw; go_simp; try with_reducible rfl)
  try simp only [Act.put, List.setIfInBounds_toArray, List.set_cons_zero, List.set_cons_succ]
  refine wpAnyH_take (i := 5) (oi := ⟨some 20, _, _, _, _, _⟩) (v := ?_) rfl (by kernel_rfl) (by decide +kernel) (by decide +kernel) (fun _ _ _ h => h) (Or.inl ⟨by rfl, ?_⟩) (by assumption) ?_
  rotate_left 1
  · (intro w' hSw; go_simp; try with_reducible rfl)
  try simp only [Act.put, List.setIfInBounds_toArray, List.set_cons_zero, List.set_cons_succ]
  refine wpAnyH_take (i := 6) (oi := ⟨some 21, _, _, _, _, _⟩) (v := ?_) rfl (by kernel_rfl) (by decide +kernel) (by decide +kernel) (fun _ _ _ h => h) (Or.inl ⟨by rfl, ?_⟩) (by assumption) ?_
  rotate_left 1
  · (intro w' hSw; go_simp; try with_reducible rfl)
  try simp only [Act.put, List.setIfInBounds_toArray, List.set_cons_zero, List.set_cons_succ]
  refine wpAnyH_take (i := 7) (oi := ⟨some 22, _, _, _, _, _⟩) rfl (by kernel_rfl) (by decide +kernel) (by decide +kernel) (fun _ _ _ h => h) (yieldsIf_load_mid (by rfl) _ _ rfl (bx) (0) rfl (yvs l).toList _ (fun w' h => h.2) Try.underlying74 rfl IP.out) (by assumption) ?_
  try simp only [Act.put, List.setIfInBounds_toArray, List.set_cons_zero, List.set_cons_succ, Array.toArray_toList]
  refine wpAnyH_take (i := 8) (oi := ⟨some 23, _, _, _, _, _⟩) (v := ?_) rfl (by kernel_rfl) (by decide +kernel) (by decide +kernel) (fun _ _ _ h => h) (Or.inl ⟨by rfl, ?_⟩) (by assumption) ?_
  rotate_left 1
  · (intro w' hSw; go_simp; try with_reducible rfl)
  try simp only [Act.put, List.setIfInBounds_toArray, List.set_cons_zero, List.set_cons_succ]
  clear hHeld
  refine wpAnyH_ready (rs := [9]) (by decide +kernel) (by simp) ?_
  refine AllReadyH.cons rfl (fun K hK => ?_) AllReadyH.nil
  rw [if_pos (by kernel_rfl)]
  refine wp_store_mid (op := ⟨none, .store _ (.tmp 23) _, _, _, _, _⟩) 74 _ _ rfl gl (a * 512) (yvs l) rfl rfl HTH.out SP.out (yvs_one _) ?_
  refine hK.out _ _ (HS1.out) (fun hHeld => ?_)
  clear hK K hHeld
  try simp only [Act.put]
  refine wpAnyH_done (by decide +kernel) ?_ _
  refine NoPanic.normal ?_
  go_wp2_with fail
  go_ret
  exact ⟨rfl, HR.out, HOO.out⟩
set_option maxHeartbeats 800000 in
theorem ppoke_no (D gl bm n a : Nat) (vw : Value) (F : List (BitVec 8)) (ws : List (Nat × List (BitVec 8))) (lim : Int) (dn : Bool) (ab : Option Addr) (lb capb : Nat) (w : World) (h : PD w D gl bm n vw F ws lim dn) (ha : a < 4294967296) (hno : ¬ (a < n ∧ lb = 512)) :
    Calls Try.prog 21 #[.pointer (some ⟨D, 0, none⟩), .int .u32 (a : Int), .slice ab lb capb] w fun e w' => e = .returned (.int .i64 2) ∧ w' = w := by
  have HT := Lib.hid (show Calls Try.prog 36 #[.pointer (some ⟨D, 0, none⟩), .int .u32 (a : Int), .slice ab lb capb] w fun e w' => e = .returned (.int .i64 2) ∧ w' = w by have q := prefuses_any D gl bm n a vw F ws lim dn ab lb capb w h ha; rwa [if_neg hno] at q)
  clear h ha hno
  go_enter Try.func21, Try.ntmps21
  go_wp2_with fail
  refine HT.out.mono ?_
  rintro e w1 ⟨rfl, rfl⟩
  go_wp2_with fail
  go_ret
  exact ⟨rfl, rfl⟩
set_option maxHeartbeats 800000 in
theorem pwrite_no (D gl bm n a : Nat) (vw : Value) (F : List (BitVec 8)) (ws : List (Nat × List (BitVec 8))) (lim : Int) (dn : Bool) (ab : Option Addr) (lb capb : Nat) (w : World) (h : PD w D gl bm n vw F ws lim dn) (ha : a < 4294967296) (hno : ¬ (a < n ∧ lb = 512)) :
    Calls Try.prog 28 #[.pointer (some ⟨D, 0, none⟩), .int .u32 (a : Int), .slice ab lb capb] w fun e w' => e = .returned (.int .i64 2) ∧ w' = w := by
  have HT := Lib.hid (show Calls Try.prog 36 #[.pointer (some ⟨D, 0, none⟩), .int .u32 (a : Int), .slice ab lb capb] w fun e w' => e = .returned (.int .i64 2) ∧ w' = w by have q := prefuses_any D gl bm n a vw F ws lim dn ab lb capb w h ha; rwa [if_neg hno] at q)
  clear h ha hno
  go_enter Try.func28, Try.ntmps28
  go_wp2_with fail
  refine HT.out.mono ?_
  rintro e w1 ⟨rfl, rfl⟩
  go_wp2_with fail
  go_ret
  exact ⟨rfl, rfl⟩
set_option maxHeartbeats 800000 in
theorem pwrite_down (D gl bm n a : Nat) (vw : Value) (F : List (BitVec 8)) (ws : List (Nat × List (BitVec 8))) (lim : Int) (dn : Bool) (ab : Option Addr) (capb : Nat) (w : World) (h : PD w D gl bm n vw F ws lim dn) (ha : a < n) (hdn : (goP lim dn).2 = true) :
    Calls Try.prog 28 #[.pointer (some ⟨D, 0, none⟩), .int .u32 (a : Int), .slice ab 512 capb] w fun e w' => e = .returned (.int .i64 7) ∧ PD w' D gl bm n vw F ws (goP lim dn).1 true ∧ Only D w w' := by
  have hbig := h.big
  have HT := Lib.hid (show Calls Try.prog 36 #[.pointer (some ⟨D, 0, none⟩), .int .u32 (a : Int), .slice ab 512 capb] w fun e w' => e = .returned (.int .i64 0) ∧ w' = w by have q := prefuses_any D gl bm n a vw F ws lim dn ab 512 capb w h (by omega); rwa [if_pos ⟨ha, rfl⟩] at q)
  have hgo := pgoes_any D gl bm n vw F ws lim dn w h
  rw [hdn] at hgo
  have HG := Lib.hid hgo
  clear h ha hbig hgo hdn
  go_enter Try.func28, Try.ntmps28
  go_wp2_with fail
  refine HT.out.mono ?_
  rintro e w1 ⟨rfl, rfl⟩
  go_wp2_with fail
  refine HG.out.mono ?_
  rintro e w2 ⟨rfl, hP, hO⟩
  have HP := Lib.hid hP
  have HO := Lib.hid hO
  clear hP hO HG
  go_wp2_with fail
  go_ret
  exact ⟨rfl, HP.out, HO.out⟩
theorem wp_mapUpdate_at {P : Program} {o : Oper} {a : Act} {w : World} {K : Act → World → Prop} {Q : Exit → Act → World → Prop} (t : TypeId) (m x v : Operand) (ho : o.op = .mapUpdate t m x v) (mv key val : Value) (hm : a.eval m = mv) (hx : a.eval x = key) (hv : a.eval v = val)
    (w' : World) (hrun : (Instr.mapUpdate t mv key val).run P w = .ok () w') (h : K (a.put o.dst undef) w') : o.wp P a w K Q := by
  unfold Oper.wp execOp
  simp [ho, hm, hx, hv, hrun, Result.andThen]
  exact h
theorem wp_append_at {P : Program} {o : Oper} {a : Act} {w : World} {K : Act → World → Prop} {Q : Exit → Act → World → Prop} (s x : Operand) (t : TypeId) (ho : o.op = .call { callee := .builtin .append, args := #[s, x], argTypes := #[t, t] }) (sv xv : Value) (hs : a.eval s = sv) (hx : a.eval x = xv)
    (v' : Value) (w' : World) (hr : (Builtin.append_ #[t, t] o.type #[sv, xv]).run P w = .ok v' w') (h : K (a.put o.dst v') w') : o.wp P a w K Q := by
  unfold Oper.wp execOp
  simp only [ho, resolve, invoke, builtin, Sem.run_bind, Sem.run_pure, Result.andThen_ok, List.map_toArray, List.map_cons, List.map_nil, hs, hx, hr]
  exact h
theorem wp_lit_at {P : Program} {o : Oper} {a : Act} {w : World} {K : Act → World → Prop} {Q : Exit → Act → World → Prop} (t : TypeId) (len : Nat) (parts : Array (Nat × Operand)) (ho : o.op = .buildSlice t len parts) (vs : Array (Nat × Value)) (hv : (parts.map fun (i, x) => (i, a.eval x)) = vs)
    (v : Value) (w' : World) (hr : (Instr.buildSlice t len vs).run P w = .ok v w') (h : K (a.put o.dst v) w') : o.wp P a w K Q := by
  subst hv
  unfold Oper.wp execOp
  simp only [ho, Sem.run_bind, hr, Result.andThen_ok]
  exact h
theorem yieldsIf_build {P : Program} {ops : Array Oper} {S : World → Prop} {op : Oper} {a : Act} (hw : Region.wanted op (yielded ops a.tmps) = true) (t : TypeId) (parts : Array (Nat × Operand)) (ho : op.op = .build t parts) (vs : Array (Nat × Value)) (v : Value) (hv : (parts.map fun (i, x) => (i, a.eval x)) = vs)
    (hr : ∀ W, (Instr.build t vs).run P W = .ok v W) : YieldsIf P ops S op v a := by
  subst hv
  exact .inl ⟨hw, fun w hw' => by
    unfold execOp
    simp only [ho, Sem.run_bind, Sem.run_pure, Result.andThen_ok, hr]⟩
theorem wcells_more (ws : List (Nat × List (BitVec 8))) (p : Nat × List (BitVec 8)) : wcells (ws ++ [p]) = wcells ws ++ (wrow p).toList := by
  unfold wcells wrow
  rw [List.flatMap_append]; simp
set_option maxRecDepth 100000 in
set_option maxHeartbeats 3200000 in
theorem pwrite_ok (D gl bm n a bx cap : Nat) (vw : Value) (F l : List (BitVec 8)) (ws : List (Nat × List (BitVec 8))) (lim : Int) (w : World) (h : PD w D gl bm n vw F ws lim false) (ha : a < n) (hB : ArrY w bx 5 l) (hl : l.length = 512) (hlim : lim ≠ 0) (hws : ws.length ≤ 1000000) :
    Calls Try.prog 28 #[.pointer (some ⟨D, 0, none⟩), .int .u32 (a : Int), .slice (some ⟨bx, 0, none⟩) 512 cap] w fun e w' => e = .returned (.int .i64 0) ∧
      ∃ vw', PD w' D gl bm n vw' F (ws ++ [(a, l)]) (goP lim false).1 false ∧ Touch (pfp D gl bm vw) w w' ∧ (∀ g, vw'.ownBlock = some g → vw.ownBlock = some g ∨ w.heap.size ≤ g) := by
  have hbig := h.big
  have HT := Lib.hid (show Calls Try.prog 36 #[.pointer (some ⟨D, 0, none⟩), .int .u32 (a : Int), .slice (some ⟨bx, 0, none⟩) 512 cap] w fun e w' => e = .returned (.int .i64 0) ∧ w' = w by have q := prefuses_any D gl bm n a vw F ws lim false (some ⟨bx, 0, none⟩) 512 cap w h (by omega); rwa [if_pos ⟨ha, rfl⟩] at q)
  have hgo := pgoes_any D gl bm n vw F ws lim false w h
  rw [show (goP lim false).2 = false by unfold goP; simp [hlim]] at hgo
  generalize (goP lim false).1 = lim' at *
  have HG := Lib.hid hgo
  obtain ⟨left0, hd0, _⟩ := h.dev
  have hneD : D ≠ bx := type_ne hd0 hB (by decide)
  have HB := Lib.hid hB
  have HL := Lib.hid hl
  have HA := Lib.hid ha
  have HBIG := Lib.hid hbig
  have wI : (ws.length : Int) ≤ 1000000 := by omega
  have HWS := Lib.hid hws
  have HSZ := Lib.hid (Nat.le_refl w.heap.size)
  have harr := parr_ptr ⟨bx, 0, none⟩ cap
  have hkey := Lib.hid (key_u32 a (by omega))
  have hbuild := Lib.hid (build_pwrite a l hl)
  have hlit := Lib.hid (lit_pwrite (a, l) hl)
  have IP := Lib.hid (show (Try.prog.info? 74).map (·.size) = some (yvs l).toList.length by rw [Array.length_toList]; exact psize_sec _ hl)
  obtain ⟨aw, capw, rfl, _⟩ := pd_form h
  generalize hN : ws.length = N at *
  have HN := Lib.hid hN
  clear hgo hlim h hws hbig hd0 hB hl ha hN
  go_enter Try.func28, Try.ntmps28
  go_wp2_with fail
  refine HT.out.mono ?_
  rintro e w1 ⟨rfl, rfl⟩
  go_wp2_with fail
  refine HG.out.mono ?_
  rintro e w2 ⟨rfl, hP2, hO2⟩
  clear HG HT
  obtain ⟨left, hd, hle⟩ := hP2.dev
  obtain ⟨_, c1, c2, _⟩ := pd_at hd
  obtain ⟨m, hm, hown⟩ := hP2.map
  obtain ⟨w6, hrun, hown6, hg6⟩ := World.ownsMap.update (w := w2.drew) (t := 68) (e := 3) hown.drew (Maps.int_keyed Try.underlying32) Try.underlying68 (by rw [HN.out]; have := HWS.out; unfold maxLen; omega) hkey.out
    (plainElem_int (H := Unit) Try.underlying3 (a := (N : Int)) (by have := HWS.out; simp [Lit.wf, IntKind.min, IntKind.max, IntKind.bits, IntKind.signed]; omega))
  have hDm : D ≠ bm := hP2.map.ne hd
  have hdm : some D ≠ some bm := by simpa using hDm
  have hsz6 : w2.heap.size ≤ w6.heap.size := hg6.size
  have k6 : ∀ k, k < w2.heap.size → k ≠ bm → w6.heap[k]? = w2.heap[k]? := fun k hk hb => hg6.block k hk (by simpa using hb)
  have hd6 : w6.heap[D]? = _ := (k6 D (rd_lt hd) hDm).trans hd
  have HB2 := Lib.hid (hO2.arr HB.out (Ne.symm hneD))
  have hbm : bx ≠ bm := hP2.map.ne HB2.out
  have HB6 := Lib.hid (show ArrY w6 bx 5 l from (k6 bx (zlt HB2.out) hbm).trans HB2.out)
  have hlay6 : ArrY w6 gl 74 F := (k6 gl (zlt hP2.lay) (hP2.map.ne hP2.lay)).trans hP2.lay
  have hT6 : Touch [D, bm] w1 w6 := (Touch.of_only hO2 (by simp)).trans ⟨hg6.os, hg6.tape, hg6.output, hg6.size, fun k hk hn => k6 k hk (fun e => hn (by simp [e]))⟩
  have hwai6 := own_touch hP2.wai (l := [bm]) (w' := w6) ⟨hg6.os, hg6.tape, hg6.output, hg6.size, fun k hk hn => k6 k hk (fun e => hn (by simp [e]))⟩ (fun g hg => by
    have := own_map_ne hP2.wai hP2.map
    simp only [List.mem_cons, List.not_mem_nil, or_false]
    rintro rfl
    exact this hg)
  have HRUN := Lib.hid hrun
  have HS0 := Lib.hid (show w2.drew.cell? ⟨D, 2, none⟩ = some (.map (some bm)) ∧ w2.drew.cell? ⟨D, 1, none⟩ = some (.slice aw N capw) from ⟨c2, c1⟩)
  have HS1 := Lib.hid (show w6.cell? ⟨D, 2, none⟩ = some (.map (some bm)) ∧ w6.cell? ⟨D, 1, none⟩ = some (.slice aw N capw) from ⟨(pd_at hd6).2.2.1, (pd_at hd6).2.1⟩)
  have C6 := Lib.hid (show w6.drew.cell? ⟨D, 1, none⟩ = some (.slice aw N capw) from (pd_at hd6).2.1)
  have HS2 := Lib.hid (show w6.drew.rangeAt bx 0 (yvs l).toList from arr_range (show ArrY w6.drew bx _ l from HB6.out))
  -- the slice of the one write
  have hlt6 : ∀ k, k < w6.heap.size → (w6.drew.alloc (.cells (wrow (a, l)) 79)).heap[k]? = w6.heap[k]? := fun k hk => ((Below.refl w6.heap.size w6).drew.alloc (Nat.le_refl _) _).block k hk
  have hnew6 : (w6.drew.alloc (.cells (wrow (a, l)) 79)).heap[w6.heap.size]? = some (.cells (wrow (a, l)) 79 (0, 0)) := heap_alloc_new w6.drew _
  have hT8 : Touch [] w6 (w6.drew.alloc (.cells (wrow (a, l)) 79)) := Touch.of_below ((Below.refl w6.heap.size w6).drew.alloc (Nat.le_refl _) _)
  have hwai8 := own_touch hwai6 hT8 (fun g _ => by simp)
  have hd8 := (hlt6 D (rd_lt hd6)).trans hd6
  have HB8 := Lib.hid (show ArrY (w6.drew.alloc (.cells (wrow (a, l)) 79)) bx 5 l from (hlt6 bx (zlt HB6.out)).trans HB6.out)
  have hlay8 : ArrY (w6.drew.alloc (.cells (wrow (a, l)) 79)) gl 74 F := (hlt6 gl (zlt hlay6)).trans hlay6
  have hown8 := hown6.drew.alloc (.cells (wrow (a, l)) 79)
  have C8 := Lib.hid (show (w6.drew.alloc (.cells (wrow (a, l)) 79)).cell? ⟨D, 1, none⟩ = some (.slice aw N capw) from (pd_at hd8).2.1)
  have HS3 := Lib.hid (show (w6.drew.alloc (.cells (wrow (a, l)) 79)).rangeAt bx 0 (yvs l).toList from arr_range HB8.out)
  obtain ⟨i8, hi8, hzz⟩ := Option.map_eq_some_iff.1 info_pwrite
  simp only [Prod.mk.injEq] at hzz
  obtain ⟨hz8, hs8, hby8⟩ := hzz
  have hwl : (wrow (a, l)).toList.length = 1 * 513 := by rw [Array.length_toList, wrow_size _ HL.out]
  generalize hW8 : w6.drew.alloc (.cells (wrow (a, l)) 79) = w8 at *
  obtain ⟨v9, w9, hrun9, hown9, hg9, _, hloc9⟩ := run_append_own_at (P := Try.prog) w8 0 69 69 79 i8 _ 513 516 Try.underlying69 hi8 hz8 hs8 hby8 (wrow_size _ zero_len) (by decide)
    _ N (wcells ws) (by rw [← HN.out]; exact hwai8) ⟨w6.heap.size, 0, none⟩ 1 1 (wrow (a, l)).toList hwl (fun j u hu => by
      rw [Addr.add_mid, cell_of_row _ _ _ _ _ _ hnew6]; simpa using hu) (fun u hu => Array.all_eq_true_iff_forall_mem.1 (wrow_one (a, l)) u (by simpa using hu)) (by have := HWS.out; unfold maxLen; omega) (by have := HWS.out; omega) (Nat.zero_le _)
  obtain ⟨a9, cap9, rfl⟩ : ∃ x c, v9 = .slice x (N + 1) c := by
    rcases hown9.2 with ⟨hv, h0⟩ | ⟨g, c, cur, hv, _⟩
    · omega
    · exact ⟨_, _, hv⟩
  have hvD : Value.ownBlock (.slice aw N capw) ≠ some D := own_type hwai8 hd8 (by decide)
  have hvB : Value.ownBlock (.slice aw N capw) ≠ some bx := own_type hwai8 HB8.out (by decide)
  have hvL : Value.ownBlock (.slice aw N capw) ≠ some gl := own_type hwai8 hlay8 (by decide)
  have hvM : Value.ownBlock (.slice aw N capw) ≠ some bm := own_map_ne hwai8 (ws := ws ++ [(a, l)]) ⟨_, MapOf.more ws m (a, l) hm, by rw [List.length_append, HN.out]; rw [HN.out] at hown8; exact hown8⟩
  have k9 : ∀ k, k < w8.heap.size → Value.ownBlock (.slice aw N capw) ≠ some k → w9.heap[k]? = w8.heap[k]? := fun k hk hb => hg9.block k hk (fun e => hb e.symm)
  have hd9 := (k9 D (rd_lt hd8) hvD).trans hd8
  have HRUN9 := Lib.hid hrun9
  have HS4 := Lib.hid (show w9.rangeAt bx 0 (yvs l).toList from arr_range (show ArrY w9 bx _ l from (k9 bx (zlt HB8.out) hvB).trans HB8.out))
  have C9 := Lib.hid (show w9.cell? ⟨D, 1, none⟩ = some (.slice aw N capw) from (pd_at hd9).2.1)
  have F9 := Lib.hid (pd_free hd9 1)
  have hO10 : Only D w9 (w9.setCell ⟨D, 1, none⟩ (.slice a9 (N + 1) cap9)) := (Only.refl _ _).setCell _ _
  have hB9 : ArrY w9 bx 5 l := (k9 bx (zlt HB8.out) hvB).trans HB8.out
  have HS5 := Lib.hid (show (w9.setCell ⟨D, 1, none⟩ (.slice a9 (N + 1) cap9)).rangeAt bx 0 (yvs l).toList from arr_range (hO10.arr hB9 (Ne.symm hneD)))
  have hd10 := heap_setCell_same _ D 1 _ _ (.slice a9 (N + 1) cap9) hd9
  have hlay9 : ArrY w9 gl 74 F := (k9 gl (zlt hlay8) hvL).trans hlay8
  have hmap8 : MapAt w8 bm (ws ++ [(a, l)]) := ⟨_, MapOf.more ws m (a, l) hm, by rw [List.length_append, HN.out]; rw [HN.out] at hown8; exact hown8⟩
  have hmap9 : MapAt w9 bm (ws ++ [(a, l)]) := hmap8.keep (k9 bm hmap8.lt hvM)
  have hv9D : Value.ownBlock (.slice a9 (N + 1) cap9) ≠ some D := own_type hown9 hd9 (by decide)
  have HPD := Lib.hid (show PD (w9.setCell ⟨D, 1, none⟩ (.slice a9 (N + 1) cap9)) D gl bm n (.slice a9 (N + 1) cap9) F (ws ++ [(a, l)]) lim' false from
    ⟨⟨left, hd10, hle⟩, hO10.arr hlay9 (type_ne hlay9 hd9 (by decide)), hP2.len, by
      rw [wcells_more, List.length_append, HN.out]
      exact own_only hown9 hO10 hv9D, fun p hp => by
      rcases List.mem_append.1 hp with hp | hp
      · exact hP2.wok p hp
      · simp only [List.mem_cons, List.not_mem_nil, or_false] at hp
        subst hp
        exact ⟨HL.out, HA.out⟩, HBIG.out, hP2.lim1, hmap9.keep (hO10.rest bm (Ne.symm (hmap9.ne hd9)))⟩)
  have HTT := Lib.hid (show Touch (pfp D gl bm (.slice aw N capw)) w1 (w9.setCell ⟨D, 1, none⟩ (.slice a9 (N + 1) cap9)) from by
    have t1 : Touch (pfp D gl bm (.slice aw N capw)) w1 w6 := hT6.more (by intro k hk; simp only [List.mem_cons, List.not_mem_nil, or_false] at hk; rcases hk with rfl | rfl <;> simp [pfp])
    have t2 : Touch (pfp D gl bm (.slice aw N capw)) w6 w8 := hT8.more (by simp)
    have t3 : Touch (pfp D gl bm (.slice aw N capw)) w8 w9 := ⟨hg9.os, hg9.tape, hg9.output, hg9.size, fun k hk hn => k9 k hk (fun e => hn (by simp [pfp, e]))⟩
    exact ((t1.trans t2).trans t3).trans (Touch.of_only hO10 (by simp [pfp])))
  have HLOC := Lib.hid (show ∀ g, Value.ownBlock (.slice a9 (N + 1) cap9) = some g → Value.ownBlock (.slice aw N capw) = some g ∨ w1.heap.size ≤ g from fun g hg => by
    rcases hloc9 with e | e
    · exact .inl (e ▸ hg)
    · rw [hg] at e
      injection e with e
      have h8 := hT8.size
      have h6 := hT6.size
      exact .inr (by omega))
  have HS3w := HS3
  rw [← hW8] at HS3
  clear hP2 hO2 hd hle hm hown hown6 hg6 hrun hdm hsz6 k6 hd6 hlay6 hT6 hwai6 hlt6 hnew6 hT8 hwai8 hd8 hlay8 hown8 hi8 hz8 hs8 hby8 hwl hrun9 hown9 hg9 hloc9 hvD hvB hvL hvM k9 hd9 hO10 hB9 hd10 hlay9 hmap8 hmap9 hv9D c1 c2 hneD hbm hDm
  go_upto_region 6 with fail
  try simp only [Act.put]
  refine wp_region_noPanic ?_
  refine wp_region_held_drew (S := fun W => W.cell? ⟨D, 2, none⟩ = some (.map (some bm)) ∧ W.cell? ⟨D, 1, none⟩ = some (.slice aw N capw)) (by kernel_rfl) (HS0.out) (fun hHeld => ?_)
  refine wpAnyH_take (i := 0) (oi := ⟨some 18, _, _, _, _, _⟩) (v := ?_) rfl (by kernel_rfl) (by decide +kernel) (by decide +kernel) (fun _ _ _ h => h) (Or.inl ⟨by rfl, ?_⟩) (by assumption) ?_
  rotate_left 1
  · (intro w' hSw; go_simp; try with_reducible rfl)
  try simp only [Act.put, List.setIfInBounds_toArray, List.set_cons_zero, List.set_cons_succ]
  refine wpAnyH_take (i := 1) (oi := ⟨some 19, _, _, _, _, _⟩) (v := ?_) rfl (by kernel_rfl) (by decide +kernel) (by decide +kernel) (fun _ _ _ h => h) (Or.inl ⟨by rfl, ?_⟩) (by assumption) ?_
  rotate_left 1
  · (intro w' hSw; go_simp; try with_reducible rfl)
  try simp only [Act.put, List.setIfInBounds_toArray, List.set_cons_zero, List.set_cons_succ]
  refine wpAnyH_take (i := 2) (oi := ⟨some 20, _, _, _, _, _⟩) (v := ?_) rfl (by kernel_rfl) (by decide +kernel) (by decide +kernel) (fun _ _ _ h => h) (Or.inl ⟨by rfl, ?_⟩) (by assumption) ?_
  rotate_left 1
  · (intro w' hSw; go_simp; try with_reducible rfl)
  try simp only [Act.put, List.setIfInBounds_toArray, List.set_cons_zero, List.set_cons_succ]
  refine wpAnyH_take (i := 3) (oi := ⟨some 21, _, _, _, _, _⟩) (v := ?_) rfl (by kernel_rfl) (by decide +kernel) (by decide +kernel) (fun _ _ _ h => h) (Or.inl ⟨by rfl, ?_⟩) (by assumption) ?_
  rotate_left 1
  · (intro w' hSw; have hcell := hSw.1; clear hSw; go_simp; try with_reducible rfl)
  try simp only [Act.put, List.setIfInBounds_toArray, List.set_cons_zero, List.set_cons_succ]
  refine wpAnyH_take (i := 4) (oi := ⟨some 22, _, _, _, _, _⟩) (v := ?_) rfl (by kernel_rfl) (by decide +kernel) (by decide +kernel) (fun _ _ _ h => h) (Or.inl ⟨by rfl, ?_⟩) (by assumption) ?_
  rotate_left 1
  · (intro w' hSw; go_simp; try with_reducible rfl)
  try simp only [Act.put, List.setIfInBounds_toArray, List.set_cons_zero, List.set_cons_succ]
  refine wpAnyH_take (i := 5) (oi := ⟨some 23, _, _, _, _, _⟩) (v := ?_) rfl (by kernel_rfl) (by decide +kernel) (by decide +kernel) (fun _ _ _ h => h) (Or.inl ⟨by rfl, ?_⟩) (by assumption) ?_
  rotate_left 1
  · (intro w' hSw; go_simp; try with_reducible rfl)
  try simp only [Act.put, List.setIfInBounds_toArray, List.set_cons_zero, List.set_cons_succ]
  refine wpAnyH_take (i := 6) (oi := ⟨some 24, _, _, _, _, _⟩) (v := ?_) rfl (by kernel_rfl) (by decide +kernel) (by decide +kernel) (fun _ _ _ h => h) (Or.inl ⟨by rfl, ?_⟩) (by assumption) ?_
  rotate_left 1
  · (intro w' hSw; go_simp; try with_reducible rfl)
  try simp only [Act.put, List.setIfInBounds_toArray, List.set_cons_zero, List.set_cons_succ]
  refine wpAnyH_take (i := 7) (oi := ⟨some 25, _, _, _, _, _⟩) (v := ?_) rfl (by kernel_rfl) (by decide +kernel) (by decide +kernel) (fun _ _ _ h => h) (Or.inl ⟨by rfl, ?_⟩) (by assumption) ?_
  rotate_left 1
  · (intro w' hSw; go_simp; try with_reducible rfl)
  try simp only [Act.put, List.setIfInBounds_toArray, List.set_cons_zero, List.set_cons_succ]
  refine wpAnyH_take (i := 8) (oi := ⟨some 26, _, _, _, _, _⟩) (v := ?_) rfl (by kernel_rfl) (by decide +kernel) (by decide +kernel) (fun _ _ _ h => h) (Or.inl ⟨by rfl, ?_⟩) (by assumption) ?_
  rotate_left 1
  · (intro w' hSw; have hcell := hSw.2; clear hSw; go_simp; try with_reducible rfl)
  try simp only [Act.put, List.setIfInBounds_toArray, List.set_cons_zero, List.set_cons_succ]
  refine wpAnyH_take (i := 9) (oi := ⟨some 27, _, _, _, _, _⟩) (v := ?_) rfl (by kernel_rfl) (by decide +kernel) (by decide +kernel) (fun _ _ _ h => h) (Or.inl ⟨by rfl, ?_⟩) (by assumption) ?_
  rotate_left 1
  · (intro w' hSw; go_simp; try with_reducible rfl)
  try simp only [Act.put, List.setIfInBounds_toArray, List.set_cons_zero, List.set_cons_succ]
  clear hHeld
  refine wpAnyH_ready (rs := [10]) (by decide +kernel) (by simp) ?_
  refine AllReadyH.cons rfl (fun K hK => ?_) AllReadyH.nil
  rw [if_pos (by kernel_rfl)]
  refine wp_mapUpdate_at (o := ⟨none, .mapUpdate _ (.tmp 21) (.tmp 22) (.tmp 27), _, _, _, _⟩) _ _ _ _ rfl _ _ _ rfl rfl rfl w6 HRUN.out ?_
  refine hK.out _ _ (HS1.out) (fun hHeld => ?_)
  clear hK K hHeld
  try simp only [Act.put]
  refine wpAnyH_done (by decide +kernel) ?_ _
  refine NoPanic.normal ?_
  go_upto_region 7 with fail
  try simp only [Act.put]
  refine wp_region_noPanic ?_
  refine wp_region_held_drew (S := fun W => W.rangeAt bx 0 (yvs l).toList) (by kernel_rfl) (HS2.out) (fun hHeld => ?_)
  refine wpAnyH_take (i := 0) (oi := ⟨some 28, _, _, _, _, _⟩) (v := ?_) rfl (by kernel_rfl) (by decide +kernel) (by decide +kernel) (fun _ _ _ h => h) (Or.inl ⟨by rfl, ?_⟩) (by assumption) ?_
  rotate_left 1
  · (intro w' hSw; go_simp; try with_reducible rfl)
  try simp only [Act.put, List.setIfInBounds_toArray, List.set_cons_zero, List.set_cons_succ]
  refine wpAnyH_take (i := 1) (oi := ⟨some 29, _, _, _, _, _⟩) (v := ?_) rfl (by kernel_rfl) (by decide +kernel) (by decide +kernel) (fun _ _ _ h => h) (Or.inl ⟨by rfl, ?_⟩) (by assumption) ?_
  rotate_left 1
  · (intro w' hSw; go_simp; try with_reducible rfl)
  try simp only [Act.put, List.setIfInBounds_toArray, List.set_cons_zero, List.set_cons_succ]
  refine wpAnyH_take (i := 2) (oi := ⟨some 30, _, _, _, _, _⟩) (v := ?_) rfl (by kernel_rfl) (by decide +kernel) (by decide +kernel) (fun _ _ _ h => h) (Or.inl ⟨by rfl, ?_⟩) (by assumption) ?_
  rotate_left 1
  · (intro w' hSw; go_simp; try with_reducible rfl)
  try simp only [Act.put, List.setIfInBounds_toArray, List.set_cons_zero, List.set_cons_succ]
  refine wpAnyH_take (i := 3) (oi := ⟨some 31, _, _, _, _, _⟩) (v := ?_) rfl (by kernel_rfl) (by decide +kernel) (by decide +kernel) (fun _ _ _ h => h) (Or.inl ⟨by rfl, ?_⟩) (by assumption) ?_
  rotate_left 1
  · (intro w' hSw; go_simp; try with_reducible rfl)
  try simp only [Act.put, List.setIfInBounds_toArray, List.set_cons_zero, List.set_cons_succ]
  refine wpAnyH_take (i := 5) (oi := ⟨some 33, _, _, _, _, _⟩) (v := ?_) rfl (by kernel_rfl) (by decide +kernel) (by decide +kernel) (fun _ _ _ h => h) (Or.inl ⟨by rfl, ?_⟩) (by assumption) ?_
  rotate_left 1
  · (intro w' hSw; go_simp; try with_reducible rfl)
  try simp only [Act.put, List.setIfInBounds_toArray, List.set_cons_zero, List.set_cons_succ]
  refine wpAnyH_take (i := 6) (oi := ⟨some 34, _, _, _, _, _⟩) (v := ?_) rfl (by kernel_rfl) (by decide +kernel) (by decide +kernel) (fun _ _ _ h => h) (Or.inl ⟨by rfl, ?_⟩) (by assumption) ?_
  rotate_left 1
  · (intro w' hSw; go_simp; try with_reducible rfl)
  try simp only [Act.put, List.setIfInBounds_toArray, List.set_cons_zero, List.set_cons_succ]
  refine wpAnyH_take (i := 7) (oi := ⟨some 35, _, _, _, _, _⟩) (v := ?_) rfl (by kernel_rfl) (by decide +kernel) (by decide +kernel) (fun _ _ _ h => h) (Or.inl ⟨by rfl, ?_⟩) (by assumption) ?_
  rotate_left 1
  · (intro w' hSw; go_simp; try with_reducible rfl)
  try simp only [Act.put, List.setIfInBounds_toArray, List.set_cons_zero, List.set_cons_succ]
  refine wpAnyH_take (i := 8) (oi := ⟨some 36, _, _, _, _, _⟩) rfl (by kernel_rfl) (by decide +kernel) (by decide +kernel) (fun _ _ _ h => h) (yieldsIf_load_mid (by rfl) _ _ rfl (bx) (0) rfl (yvs l).toList _ (fun w' h => h) Try.underlying74 rfl IP.out) (by assumption) ?_
  try simp only [Act.put, List.setIfInBounds_toArray, List.set_cons_zero, List.set_cons_succ, Array.toArray_toList]
  refine wpAnyH_take (i := 9) (oi := ⟨some 37, _, _, _, _, _⟩) rfl (by kernel_rfl) (by decide +kernel) (by decide +kernel) (fun _ _ _ h => h) (yieldsIf_build (by rfl) _ _ rfl #[(0, .int .u32 (a : Int)), (1, .agg (yvs l))] _ (by simp [Act.eval]) hbuild.out) (by assumption) ?_
  try simp only [Act.put, List.setIfInBounds_toArray, List.set_cons_zero, List.set_cons_succ]
  clear hHeld
  refine wpAnyH_ready (rs := [4, 10]) (by decide +kernel) (by simp) ?_
  refine AllReadyH.cons rfl (fun K hK => ?_) (AllReadyH.cons rfl (fun K hK => ?_) AllReadyH.nil)
  · have co' := C6.out
    go_simp
    refine hK.out _ _ (HS2.out) (fun hHeld => ?_)
    clear hK K co' hHeld
    try simp only [Act.put, List.setIfInBounds_toArray, List.set_cons_zero, List.set_cons_succ]
    refine wpAnyH_ready (rs := [10]) (by decide +kernel) (by simp) ?_
    refine AllReadyH.cons rfl (fun K hK => ?_) AllReadyH.nil
    rw [if_pos (by kernel_rfl)]
    refine wp_lit_at (o := ⟨some 38, _, _, _, _, _⟩) _ _ _ rfl #[(0, .agg (wrow (a, l)))] (by simp [Act.eval]) _ _ (hlit.out w6.drew) ?_
    refine hK.out _ (w6.drew.alloc (.cells (wrow (a, l)) 79)) (HS3.out) (fun hHeld => ?_)
    clear hK K hHeld
    try simp only [Act.put, List.setIfInBounds_toArray, List.set_cons_zero, List.set_cons_succ]
    rw [hW8]
    refine wpAnyH_ready (rs := [11]) (by decide +kernel) (by simp) ?_
    refine AllReadyH.cons rfl (fun K hK => ?_) AllReadyH.nil
    rw [if_pos (by kernel_rfl)]
    refine wp_append_at (o := ⟨some 39, _, _, _, _, _⟩) _ _ _ rfl (.slice aw N capw) (.slice (some ⟨w6.heap.size, 0, none⟩) 1 1) rfl rfl (.slice a9 (N + 1) cap9) w9 HRUN9.out ?_
    refine hK.out _ _ (HS4.out) (fun hHeld => ?_)
    clear hK K
    try simp only [Act.put, List.setIfInBounds_toArray, List.set_cons_zero, List.set_cons_succ]
    refine wpAnyH_take (i := 12) (oi := ⟨some 40, _, _, _, _, _⟩) (v := ?_) rfl (by kernel_rfl) (by decide +kernel) (by decide +kernel) (fun _ _ _ h => h) (Or.inl ⟨by rfl, ?_⟩) (by assumption) ?_
    rotate_left 1
    · (intro w' hSw; go_simp; try with_reducible rfl)
    try simp only [Act.put, List.setIfInBounds_toArray, List.set_cons_zero, List.set_cons_succ]
    refine wpAnyH_take (i := 13) (oi := ⟨some 41, _, _, _, _, _⟩) (v := ?_) rfl (by kernel_rfl) (by decide +kernel) (by decide +kernel) (fun _ _ _ h => h) (Or.inl ⟨by rfl, ?_⟩) (by assumption) ?_
    rotate_left 1
    · (intro w' hSw; go_simp; try with_reducible rfl)
    try simp only [Act.put, List.setIfInBounds_toArray, List.set_cons_zero, List.set_cons_succ]
    clear hHeld
    refine wpAnyH_ready (rs := [14]) (by decide +kernel) (by simp) ?_
    refine AllReadyH.cons rfl (fun K hK => ?_) AllReadyH.nil
    have co' := C9.out
    have fo' := F9.out
    go_simp
    refine hK.out _ _ (HS5.out) (fun hHeld => ?_)
    clear hK K co' fo' hHeld
    try simp only [Act.put, List.setIfInBounds_toArray, List.set_cons_zero, List.set_cons_succ]
    refine wpAnyH_done (by decide +kernel) ?_ _
    refine NoPanic.normal ?_
    go_wp2_with fail
    go_ret
    exact ⟨rfl, .slice a9 (N + 1) cap9, HPD.out, HTT.out, HLOC.out⟩
  · rw [if_pos (by kernel_rfl)]
    refine wp_lit_at (o := ⟨some 38, _, _, _, _, _⟩) _ _ _ rfl #[(0, .agg (wrow (a, l)))] (by simp [Act.eval]) _ _ (hlit.out w6.drew) ?_
    refine hK.out _ (w6.drew.alloc (.cells (wrow (a, l)) 79)) (HS3.out) (fun hHeld => ?_)
    clear hK K hHeld
    try simp only [Act.put, List.setIfInBounds_toArray, List.set_cons_zero, List.set_cons_succ]
    rw [hW8]
    refine wpAnyH_ready (rs := [4]) (by decide +kernel) (by simp) ?_
    refine AllReadyH.cons rfl (fun K hK => ?_) AllReadyH.nil
    have co' := C8.out
    go_simp
    refine hK.out _ _ (HS3w.out) (fun hHeld => ?_)
    clear hK K co' hHeld
    try simp only [Act.put, List.setIfInBounds_toArray, List.set_cons_zero, List.set_cons_succ]
    refine wpAnyH_ready (rs := [11]) (by decide +kernel) (by simp) ?_
    refine AllReadyH.cons rfl (fun K hK => ?_) AllReadyH.nil
    rw [if_pos (by kernel_rfl)]
    refine wp_append_at (o := ⟨some 39, _, _, _, _, _⟩) _ _ _ rfl (.slice aw N capw) (.slice (some ⟨w6.heap.size, 0, none⟩) 1 1) rfl rfl (.slice a9 (N + 1) cap9) w9 HRUN9.out ?_
    refine hK.out _ _ (HS4.out) (fun hHeld => ?_)
    clear hK K
    try simp only [Act.put, List.setIfInBounds_toArray, List.set_cons_zero, List.set_cons_succ]
    refine wpAnyH_take (i := 12) (oi := ⟨some 40, _, _, _, _, _⟩) (v := ?_) rfl (by kernel_rfl) (by decide +kernel) (by decide +kernel) (fun _ _ _ h => h) (Or.inl ⟨by rfl, ?_⟩) (by assumption) ?_
    rotate_left 1
    · (intro w' hSw; go_simp; try with_reducible rfl)
    try simp only [Act.put, List.setIfInBounds_toArray, List.set_cons_zero, List.set_cons_succ]
    refine wpAnyH_take (i := 13) (oi := ⟨some 41, _, _, _, _, _⟩) (v := ?_) rfl (by kernel_rfl) (by decide +kernel) (by decide +kernel) (fun _ _ _ h => h) (Or.inl ⟨by rfl, ?_⟩) (by assumption) ?_
    rotate_left 1
    · (intro w' hSw; go_simp; try with_reducible rfl)
    try simp only [Act.put, List.setIfInBounds_toArray, List.set_cons_zero, List.set_cons_succ]
    clear hHeld
    refine wpAnyH_ready (rs := [14]) (by decide +kernel) (by simp) ?_
    refine AllReadyH.cons rfl (fun K hK => ?_) AllReadyH.nil
    have co' := C9.out
    have fo' := F9.out
    go_simp
    refine hK.out _ _ (HS5.out) (fun hHeld => ?_)
    clear hK K co' fo' hHeld
    try simp only [Act.put, List.setIfInBounds_toArray, List.set_cons_zero, List.set_cons_succ]
    refine wpAnyH_done (by decide +kernel) ?_ _
    refine NoPanic.normal ?_
    go_wp2_with fail
    go_ret
    exact ⟨rfl, .slice a9 (N + 1) cap9, HPD.out, HTT.out, HLOC.out⟩
end Go.Proofs.Ytmfpdbmohebodaa
