/-
  The reference of layer 6: Write.
-/
import Derived.Test.YtmfpdbmohebodaaPFill
import Derived.Test.YtmfpdbmohebodaaPWrite
import Derived.Test.YtmfpdbmohebodaaDWrite
namespace Go.Proofs.Ytmfpdbmohebodaa
open Go.RowKit

theorem own_base {B n k : Nat} {e : TypeId} {v : Value} {xs : List Value} {w : World} (h : w.ownsRow B e k v n xs) : w.ownsRow 0 e k v n xs := by
  refine ⟨h.1, ?_⟩
  rcases h.2 with hn | ⟨g, cap, cur, rfl, hb, rest⟩
  · exact .inl hn
  · exact .inr ⟨g, cap, cur, rfl, Nat.zero_le _, rest⟩
theorem lit_none (W : World) : (Instr.buildSlice 46 0 #[]).run Try.prog W = .ok (.slice (some ⟨W.heap.size, 0, none⟩) 0 0) (W.alloc (.cells #[] 73)) := by
  obtain ⟨i, hi, hzz⟩ := Option.map_eq_some_iff.1 info_rwrite
  simp [Instr.buildSlice, run_underlying Try.underlying46, sizeOf, typeInfo, hi, Instr.fill, newRow]
  exact congrArg (fun x => W.alloc (Obj.cells x 73)) (Array.eq_empty_of_size_eq_zero (by simp))
def MX (w6 W : World) (x : Nat) : Prop := w6.heap.size ≤ x ∧ W.heap[x]? = some (.cells #[] 73 (0, 0))
def MY (w6 W : World) (y : Nat) (p : Nat × List (BitVec 8)) : Prop := w6.heap.size ≤ y ∧ W.heap[y]? = some (.cells (wrow p) 73 (0, 0))
def MV (w6 W : World) (v : Value) (N : Nat) (ws : List (Nat × List (BitVec 8))) : Prop := W.ownsRow w6.heap.size 73 513 v N (wcells ws)
theorem mx_below {w6 W W' : World} {x : Nat} (h : MX w6 W x) (b : Below W.heap.size W W') : MX w6 W' x := ⟨h.1, (b.block x (rd_lt h.2)).trans h.2⟩
theorem my_below {w6 W W' : World} {y : Nat} {p : Nat × List (BitVec 8)} (h : MY w6 W y p) (b : Below W.heap.size W W') : MY w6 W' y p := ⟨h.1, (b.block y (rd_lt h.2)).trans h.2⟩
theorem mv_below {w6 W W' : World} {v : Value} {N : Nat} {ws : List (Nat × List (BitVec 8))} (h : MV w6 W v N ws) (b : Below W.heap.size W W') : MV w6 W' v N ws := own_below' h b
theorem step33 (w6 W : World) (hb : Below w6.heap.size w6 W) : ∃ W', (Instr.buildSlice 46 0 #[]).run Try.prog W = .ok (.slice (some ⟨W.heap.size, 0, none⟩) 0 0) W' ∧ MX w6 W' W.heap.size ∧ Below w6.heap.size w6 W' ∧ Below W.heap.size W W' :=
  ⟨_, lit_none W, ⟨hb.size, heap_alloc_new W _⟩, hb.alloc hb.size _, (Below.refl _ _).alloc (Nat.le_refl _) _⟩
theorem step40 (w6 W : World) (hb : Below w6.heap.size w6 W) (p : Nat × List (BitVec 8)) (hp : p.2.length = 512) : ∃ W', (Instr.buildSlice 46 1 #[(0, .agg (wrow p))]).run Try.prog W = .ok (.slice (some ⟨W.heap.size, 0, none⟩) 1 1) W' ∧ MY w6 W' W.heap.size p ∧ Below w6.heap.size w6 W' ∧ Below W.heap.size W W' :=
  ⟨_, lit_rwrite p hp W, ⟨hb.size, heap_alloc_new W _⟩, hb.alloc hb.size _, (Below.refl _ _).alloc (Nat.le_refl _) _⟩
theorem grown_below {s : Nat} {w W W' : World} {row : Option Nat} (hb : Below s w W) (hg : W.grownBy W' row) (hr : ∀ g, row = some g → s ≤ g) (hs : s ≤ W.heap.size) : Below s w W' :=
  hb.trans ⟨hg.os, hg.tape, hg.output, hg.size, fun k hk => hg.block k (by omega) (fun e => by have := hr k e.symm; omega)⟩
theorem own_ge' {B n k : Nat} {e : TypeId} {v : Value} {xs : List Value} {w : World} (h : w.ownsRow B e k v n xs) : ∀ g, v.ownBlock = some g → B ≤ g := by
  rcases h.2 with ⟨rfl, _⟩ | ⟨g', cap, cur, rfl, hb, _⟩
  · intro g hg; simp [Value.ownBlock] at hg
  · intro g hg
    simp only [Value.ownBlock, Option.some.injEq] at hg
    omega
theorem step38 (w6 W : World) (x : Nat) (hb : Below w6.heap.size w6 W) (hx : MX w6 W x) (aw : Option Addr) (N cap : Nat) (ws : List (Nat × List (BitVec 8))) (hN : ws.length = N) (hv : W.ownsRow 0 73 513 (.slice aw N cap) N (wcells ws)) (h1 : ∀ u ∈ wcells ws, u.oneCell' = true) (hsm : N ≤ 1000000) :
    ∃ av lv cv W', (Builtin.append_ #[46, 46] 46 #[.slice (some ⟨x, 0, none⟩) 0 0, .slice aw N cap]).run Try.prog W = .ok (.slice av lv cv) W' ∧ MV w6 W' (.slice av lv cv) N ws ∧ Below w6.heap.size w6 W' ∧ (∀ y p, MY w6 W y p → MY w6 W' y p) := by
  obtain ⟨i, hi, hzz⟩ := Option.map_eq_some_iff.1 info_rwrite
  simp only [Prod.mk.injEq] at hzz
  obtain ⟨hz, hs, hby⟩ := hzz
  have h0 : W.ownsRow w6.heap.size 73 513 (.slice (some ⟨x, 0, none⟩) 0 0) 0 [] :=
    ⟨by simp, .inr ⟨x, 0, #[], rfl, hx.1, hx.2, Nat.le_refl _, by unfold maxLen; omega, by simp, by simp⟩⟩
  rcases hv.2 with ⟨hnil, hn0⟩ | ⟨g, cap', cur, hvv, _⟩
  · have hw : wcells ws = [] := List.eq_nil_of_length_eq_zero (by have := hv.1; omega)
    rw [hnil]
    refine ⟨some ⟨x, 0, none⟩, 0, 0, W, ?_, ?_, hb, fun y p h => h⟩
    · simp [Builtin.append_, run_underlying Try.underlying46, sizeOf, typeInfo, hi, Builtin.lenOf, Builtin.firstCells, loadCells, loadCellsFrom, storeCells]
    · unfold MV; rw [hw, hn0]; exact h0
  · injection hvv with e1 e2 e3
    subst e1
    obtain ⟨v', W', hr, ho, hg, _, _⟩ := run_append_own_at (P := Try.prog) W w6.heap.size 46 46 73 i _ 513 516 Try.underlying46 hi hz hs hby (wrow_size _ zero_len) (by decide)
      _ 0 [] h0 ⟨g, 0, none⟩ N cap (wcells ws) hv.1 (hv.cells (g := g) rfl) h1 (by unfold maxLen; omega) (by omega) hb.size
    obtain ⟨a', c', rfl⟩ : ∃ a c, v' = .slice a (0 + N) c := by
      rcases ho.2 with ⟨h5, h6⟩ | ⟨g', c, cur, h5, _⟩
      · exact ⟨none, 0, by rw [h5, h6]⟩
      · exact ⟨_, _, h5⟩
    rw [Nat.zero_add] at ho hr
    refine ⟨_, _, _, W', hr, ho, grown_below hb hg (fun k hk => by simp only [Value.ownBlock, Option.some.injEq] at hk; rw [← hk]; exact hx.1) hb.size, fun y p h => ⟨h.1, (hg.block y (rd_lt h.2) (fun e => ?_)).trans h.2⟩⟩
    simp only [Value.ownBlock, Option.some.injEq] at e
    have q := h.2
    rw [e, hx.2] at q
    injection q with q
    injection q with q
    have := congrArg Array.size q
    simp [wrow, wcell] at this
theorem step41 (w6 W : World) (y : Nat) (p : Nat × List (BitVec 8)) (N : Nat) (v : Value) (ws : List (Nat × List (BitVec 8))) (hN : ws.length = N) (hb : Below w6.heap.size w6 W) (hv : MV w6 W v N ws) (hy : MY w6 W y p) (hp : p.2.length = 512) (hsm : N ≤ 1000000) :
    ∃ a c W', (Builtin.append_ #[46, 46] 46 #[v, .slice (some ⟨y, 0, none⟩) 1 1]).run Try.prog W = .ok (.slice a (N + 1) c) W' ∧ W'.ownsRow w6.heap.size 73 513 (.slice a (N + 1) c) (N + 1) (wcells (ws ++ [p])) ∧ Below w6.heap.size w6 W' := by
  obtain ⟨i, hi, hzz⟩ := Option.map_eq_some_iff.1 info_rwrite
  simp only [Prod.mk.injEq] at hzz
  obtain ⟨hz, hs, hby⟩ := hzz
  obtain ⟨v', W', hr, ho, hg, _, _⟩ := run_append_own_at (P := Try.prog) W w6.heap.size 46 46 73 i _ 513 516 Try.underlying46 hi hz hs hby (wrow_size _ zero_len) (by decide)
    v N (wcells ws) hv ⟨y, 0, none⟩ 1 1 (wrow p).toList (by rw [Array.length_toList, wrow_size _ hp]) (fun j u hu => by
      rw [Addr.add_mid, cell_of_row _ _ _ _ _ _ hy.2]; simpa using hu) (fun u hu => Array.all_eq_true_iff_forall_mem.1 (wrow_one p) u (by simpa using hu)) (by unfold maxLen; omega) (by omega) hb.size
  obtain ⟨a', c', rfl⟩ : ∃ a c, v' = .slice a (N + 1) c := by
    rcases ho.2 with ⟨h5, h6⟩ | ⟨g', c, cur, h5, _⟩
    · omega
    · exact ⟨_, _, h5⟩
  exact ⟨a', c', W', hr, by rw [wcells_more]; exact ho, grown_below hb hg (fun k hk => own_ge' hv k hk) hb.size⟩
theorem wcells_one (ws : List (Nat × List (BitVec 8))) : ∀ u ∈ wcells ws, u.oneCell' = true := by
  intro u hu
  unfold wcells at hu
  obtain ⟨p, _, hp⟩ := List.mem_flatMap.1 hu
  simp only [wcell, List.mem_cons, List.mem_map] at hp
  rcases hp with rfl | ⟨b, _, rfl⟩ <;> rfl
theorem built_rwrite (parts : List (Nat × Value)) : Try.prog.built 73 parts = Instr.fill (#[(0, 1), (1, 512)][·]?) (wrow (0, zeroY 512)) parts := by kernel_rfl
theorem fill_addr (a : Nat) (Z : List (BitVec 8)) (hz : Z.length = 512) : Instr.fill (#[(0, 1), (1, 512)][·]?) (wrow (0, Z)) [(0, .int .u32 (a : Int))] = some (wrow (a, Z)) := by
  have z1 : (wrow (0, Z)).size = 513 := wrow_size _ hz
  rw [fill_cons _ _ (wrow (a, Z)) #[.int .u32 (a : Int)] (.int .u32 (a : Int)) 0 0 1 _ rfl rfl rfl (by rw [z1]; exact Nat.le_of_ble_eq_true rfl) (fun i => by
    unfold wrow wcell
    cases i with
    | zero => simp
    | succ i => simp)]
  rfl
theorem build_addr (a : Nat) (W : World) : (Instr.build 73 #[(0, .int .u32 (a : Int))]).run Try.prog W = .ok (.agg (wrow (a, zeroY 512))) W :=
  run_build W 73 _ _ (by rw [built_rwrite]; exact fill_addr a _ zero_len)
theorem wpList_build_at {P : Program} {ops : Array Oper} {rest : List Oper} {o : Oper} {a : Act} {w : World} {Q : Exit → Act → World → Prop} (hgd : o.guard = none) (t : TypeId) (parts : Array (Nat × Operand)) (ho : o.op = .build t parts) (vs : Array (Nat × Value)) (v : Value) (hv : (parts.map fun (i, x) => (i, a.eval x)) = vs)
    (hr : ∀ W, (Instr.build t vs).run P W = .ok v W) (h : wpList P ops Q rest (a.put o.dst v) w) : wpList P ops Q (o :: rest) a w := by
  subst hv
  refine wpList_plain hgd fun K hK => ?_
  unfold Oper.wp execOp
  simp only [ho, Sem.run_bind, Sem.run_pure, Result.andThen_ok, hr]
  exact hK _ _ h
theorem copy_cells (a : Nat) (Z l : List (BitVec 8)) (hz : Z.length = 512) (hl : l.length = 512) : (List.take 1 (wcell (a, Z)) ++ ((yvs l).toList ++ List.drop (1 + (yvs l).toList.length) (wcell (a, Z)))).toArray = wrow (a, l) := by
  have e : List.drop (1 + (yvs l).toList.length) (wcell (a, Z)) = [] := List.drop_eq_nil_of_le (by rw [wcell_length _ hz, Array.length_toList, yvs_size, hl]; exact Nat.le_refl _)
  rw [e, List.append_nil]
  simp [wcell, wrow, yvs]
set_option maxRecDepth 100000 in
set_option maxHeartbeats 3200000 in
theorem rwrite_ok (D gl n a bx cap : Nat) (vw : Value) (F l : List (BitVec 8)) (ws : List (Nat × List (BitVec 8))) (lim : Int) (w : World) (h : RD w D gl n vw F ws lim false) (ha : a < n) (hB : ArrY w bx 5 l) (hl : l.length = 512) (hlim : lim ≠ 0) (hws : ws.length ≤ 1000000) :
    Calls Try.prog 29 #[.pointer (some ⟨D, 0, none⟩), .int .u32 (a : Int), .slice (some ⟨bx, 0, none⟩) 512 cap] w fun e w' => e = .returned (.int .i64 0) ∧
      ∃ vw', RD w' D gl n vw' F (ws ++ [(a, l)]) (goM lim false).1 false ∧ Touch [D] w w' ∧ (∀ g, vw'.ownBlock = some g → w.heap.size ≤ g) := by
  have hbig := h.big
  have HT := Lib.hid (show Calls Try.prog 37 #[.pointer (some ⟨D, 0, none⟩), .int .u32 (a : Int)] w fun e w' => e = .returned (.bool true) ∧ w' = w by have q := rthere_any D gl n a vw lim false w h.dev h.big (by omega); rw [show decide (a < n) = true by simp [ha]] at q; exact q)
  obtain ⟨_, _, _, c3⟩ := rd_at h.dev
  have hgo := rgoes_any D gl n vw lim false w h.dev h.lim1
  have hg2 : (goM lim false).2 = false := by unfold goM; simp [hlim]
  have hg1 : (goM lim false).1 ≤ 9223372036854775807 := by have := h.lim1; unfold goM; dsimp only; split <;> omega
  rw [hg2] at hgo
  generalize (goM lim false).1 = lim' at *
  have HG := Lib.hid hgo
  have H := Lib.hid h
  have HL1 := Lib.hid hg1
  have HB := Lib.hid hB
  have HL := Lib.hid hl
  have HAN := Lib.hid ha
  have aI : (a : Int) < 4294967296 := by omega
  have HSM := Lib.hid hws
  have hneD : D ≠ bx := type_ne h.dev hB (by decide)
  have HNE := Lib.hid hneD
  obtain ⟨aw, capv, rfl⟩ : ∃ x c, vw = .slice x ws.length c := by
    rcases h.wai.2 with ⟨hv, h0⟩ | ⟨g, c, cur, hv, _⟩
    · exact ⟨none, 0, by rw [hv, h0]⟩
    · exact ⟨_, c, hv⟩
  have HONE := Lib.hid (wcells_one ws)
  generalize hN : ws.length = N at *
  have HWN := Lib.hid hN
  clear hgo hg1 hg2 hlim h hws hbig hB hl ha hneD hN
  go_enter Try.func29, Try.ntmps29
  go_wp2_with fail
  refine HT.out.mono ?_
  rintro e w1 ⟨rfl, rfl⟩
  go_wp2_with fail
  refine HG.out.mono ?_
  rintro e w2 ⟨rfl, hD2, hO2⟩
  have H2 := Lib.hid (H.out.redev hO2 hD2 HL1.out)
  have HT2 := Lib.hid (show Touch [D] w1 w2 from Touch.of_only hO2 (by simp))
  have HB2 := Lib.hid (hO2.arr HB.out (Ne.symm HNE.out))
  clear hD2 hO2 c3 HG HT
  have hz := zero_write
  have HBA := Lib.hid (build_addr a)
  have SWR := Lib.hid (show (Try.prog.info? 73).map (·.size) = some (wcell (a, zeroY 512)).toArray.size from size_wrow (a, zeroY 512) zero_len)
  have WO := Lib.hid (show (wcell (a, zeroY 512)).toArray.all (·.oneCell') = true from wrow_one (a, zeroY 512))
  have EW := Lib.hid (show (wrow (0, zeroY 512)).size = (wcell (a, zeroY 512)).toArray.size by rw [wrow, List.size_toArray, List.size_toArray, wcell_length _ zero_len, wcell_length _ zero_len])
  have HCC := Lib.hid (copy_cells a (zeroY 512) l zero_len HL.out)
  have HBA2 := Lib.hid (show ∀ W, (Instr.build 73 #[(0, .int .u32 (a : Int))]).run Try.prog W = .ok (.agg (wcell (a, zeroY 512)).toArray) W from HBA.out)
  have HWL := Lib.hid (show (wcell (a, zeroY 512)).length = 513 from wcell_length _ zero_len)
  generalize wcell (a, zeroY 512) = CZ at *
  generalize wrow (0, zeroY 512) = ZW at *
  clear HBA
  go_upto_region 6 with (first
    | (refine wpList_build_at (o := ⟨some 27, _, _, _, _, _⟩) rfl _ _ rfl #[(0, .int .u32 (a : Int))] (.agg CZ.toArray) (by simp [Act.eval]) HBA2.out ?_)
    | (with_reducible refine wpList_store_row (o := ⟨none, .store _ (.tmp 7) _, _, _, _, _⟩) rfl 73 _ _ rfl w2.heap.size CZ.toArray rfl rfl 73 ZW (heap_alloc_new w2 _) SWR.out EW.out WO.out ?_))
  generalize hW4 : World.setRow _ w2.heap.size _ = w4
  have h4 : w4.heap[w2.heap.size]? = some (.cells CZ.toArray 73 (0, 0)) ∧ Below w2.heap.size w2 w4 := by
    obtain ⟨e1, e2, e3⟩ := ygen_row (w := w2) (old := ZW) (cs := CZ.toArray) (T := 73)
    rw [← hW4]
    exact ⟨e1, e3⟩
  have H4 := Lib.hid h4
  have HTN := Lib.hid (zlt HB2.out)
  have HB4 := Lib.hid (HB2.out.below h4.2 (zlt HB2.out))
  have HTZ := Lib.hid (Nat.le_refl w2.heap.size)
  clear hW4 h4 hz HBA2 SWR WO EW
  generalize hT : w2.heap.size = T at *
  have HTT := Lib.hid hT
  clear hT
  have hsl := slice_sec T 1
  have HCP := Lib.hid (show (yvs l).toList.length = Nat.min 512 512 ∧ 1 + (yvs l).toList.length ≤ CZ.length ∧ ∀ v ∈ (yvs l).toList, v.oneCell' = true from
    ⟨by rw [Array.length_toList, yvs_size, HL.out]; rfl, by rw [Array.length_toList, yvs_size, HL.out, HWL.out]; decide, fun v hv => Array.all_eq_true_iff_forall_mem.1 (yvs_one l) v (by simpa using hv)⟩)
  have HSRC := Lib.hid (show ∀ j v, (yvs l).toList[j]? = some v → w4.cell? ((⟨bx, 0, none⟩ : Addr).add j) = some v from fun j v hv => by rw [Addr.add_mid]; exact (arr_range HB4.out) j v hv)
  go_upto_region 7 with (first
    | (refine wpList_copy_y (o := ⟨some 31, _, _, _, _, _⟩) rfl (.tmp 29) (.tmp 30) 36 36 (by rfl) 5 Try.underlying36 yone T 1 512 512 ⟨bx, 0, none⟩ 512 cap (by rfl) (by rfl) CZ 73 H4.out.1 (yvs l).toList HCP.out.1 HSRC.out HCP.out.2.1 HCP.out.2.2 ?_))
  rw [HCC.out]
  generalize hW6 : World.setRow w4 T _ = w6
  have h6 : w6.heap[T]? = some (.cells (wrow (a, l)) 73 (0, 0)) ∧ Below T w2 w6 := by
    rw [← hW6]
    exact ⟨setRow_heap w4 T _ _ _ _ H4.out.1, ybelow_row H4.out.2 (Nat.le_refl _) _⟩
  have hb6 : Below w2.heap.size w2 w6 := by rw [HTT.out]; exact h6.2
  have hR6 := H2.out.below hb6
  have hT6 : Touch [D] w1 w6 := HT2.out.trans (Touch.of_below hb6)
  clear hW6 HSRC HCP hsl H4 HB4 HCC
  obtain ⟨p, hp⟩ : ∃ p, (a, l) = p := ⟨_, rfl⟩
  have HP := Lib.hid (show p.2.length = 512 by rw [← hp]; exact HL.out)
  have HPN := Lib.hid (show p.1 < n by rw [← hp]; exact HAN.out)
  rw [hp] at h6
  have HPE := Lib.hid hp
  have hTl : T < w6.heap.size := rd_lt h6.1
  have hTD : T ≠ D := type_ne h6.1 hR6.dev (by decide)
  have HS := Lib.hid (show ∀ W, Below w6.heap.size w6 W → W.rangeAt T 0 (wcell p) from fun W hW => by
    intro j v hv
    have q := (hW.block T hTl).trans h6.1
    rw [cell_of_row _ _ _ _ _ _ q, wrow, List.getElem?_toArray, Nat.zero_add]
    exact hv)
  have HS2 := Lib.hid (show ∀ W, Below w6.heap.size w6 W → ∀ x : Value, (W.setCell ⟨D, 1, none⟩ x).rangeAt T 0 (wcell p) from fun W hW x => by
    have q := (hW.block T hTl).trans h6.1
    have q2 := (((Only.refl D W).setCell 1 x).rest T hTD).trans q
    intro j v hv
    rw [cell_of_row _ _ _ _ _ _ q2, wrow, List.getElem?_toArray, Nat.zero_add]
    exact hv)
  have HCE := Lib.hid (show ∀ W, Below w6.heap.size w6 W → W.cell? ⟨D, 1, none⟩ = some (.slice aw N capv) from fun W hW => (rd_at (hR6.below hW).dev).2.1)
  have HFE := Lib.hid (show ∀ W, Below w6.heap.size w6 W → W.frozen? ⟨D, 1, none⟩ = false from fun W hW => rd_free (hR6.below hW).dev 1)
  have HWV := Lib.hid (show ∀ W, Below w6.heap.size w6 W → W.ownsRow 0 73 513 (.slice aw N capv) N (wcells ws) from fun W hW => by have q := (hR6.below hW).wai; rwa [HWN.out] at q)
  have SWC := Lib.hid (show (Try.prog.info? 73).map (·.size) = some (wcell p).length by have q := size_wrow p HP.out; rwa [wrow, List.size_toArray] at q)
  have HEND := Lib.hid (show ∀ W, Below w6.heap.size w6 W → ∀ x : Value, W.ownsRow w6.heap.size 73 513 x (N + 1) (wcells (ws ++ [p])) →
      RD (W.setCell ⟨D, 1, none⟩ x) D gl n x F (ws ++ [p]) lim' false ∧ Touch [D] w1 (W.setCell ⟨D, 1, none⟩ x) ∧ (∀ g, x.ownBlock = some g → w1.heap.size ≤ g) from fun W hW x hx => by
    have hR := hR6.below hW
    have hO : Only D W (W.setCell ⟨D, 1, none⟩ x) := (Only.refl _ _).setCell _ _
    refine ⟨⟨heap_setCell_same _ D 1 _ _ x hR.dev, hO.arr hR.lay (type_ne hR.lay hR.dev (by decide)), hR.len, ?_, fun q hq => ?_, hR.big, hR.lim1⟩, (hT6.trans (Touch.of_below hW)).trans (Touch.of_only hO (by simp)), fun g hg => ?_⟩
    · rw [List.length_append, HWN.out]
      exact own_only (own_base hx) hO (own_type (own_base hx) hR.dev (by decide))
    · rcases List.mem_append.1 hq with hq | hq
      · exact hR.wok q hq
      · simp only [List.mem_cons, List.not_mem_nil, or_false] at hq
        subst hq
        exact ⟨HP.out, HPN.out⟩
    · have := own_ge' hx g hg
      have := hT6.size
      omega)
  clear h6 hb6 hR6 hT6 hTl hTD hp H2 HT2 HB2 H
  try simp only [Act.put]
  refine wp_region_noPanic ?_
  refine wp_region_held_drew (S := fun W => W.rangeAt T 0 (wcell p)) (by kernel_rfl) (HS.out _ (Below.refl _ w6).drew) (fun hHeld => ?_)
  refine wpAnyH_take (i := 0) (oi := ⟨some 32, _, _, _, _, _⟩) (v := ?_) rfl (by kernel_rfl) (by decide +kernel) (by decide +kernel) (fun _ _ _ h => h) (Or.inl ⟨by rfl, ?_⟩) (by assumption) ?_
  rotate_left 1
  · (intro w' hSw; go_simp; try with_reducible rfl)
  try simp only [Act.put, List.setIfInBounds_toArray, List.set_cons_zero, List.set_cons_succ]
  refine wpAnyH_take (i := 2) (oi := ⟨some 34, _, _, _, _, _⟩) (v := ?_) rfl (by kernel_rfl) (by decide +kernel) (by decide +kernel) (fun _ _ _ h => h) (Or.inl ⟨by rfl, ?_⟩) (by assumption) ?_
  rotate_left 1
  · (intro w' hSw; go_simp; try with_reducible rfl)
  try simp only [Act.put, List.setIfInBounds_toArray, List.set_cons_zero, List.set_cons_succ]
  refine wpAnyH_take (i := 3) (oi := ⟨some 35, _, _, _, _, _⟩) (v := ?_) rfl (by kernel_rfl) (by decide +kernel) (by decide +kernel) (fun _ _ _ h => h) (Or.inl ⟨by rfl, ?_⟩) (by assumption) ?_
  rotate_left 1
  · (intro w' hSw; go_simp; try with_reducible rfl)
  try simp only [Act.put, List.setIfInBounds_toArray, List.set_cons_zero, List.set_cons_succ]
  refine wpAnyH_take (i := 4) (oi := ⟨some 36, _, _, _, _, _⟩) (v := ?_) rfl (by kernel_rfl) (by decide +kernel) (by decide +kernel) (fun _ _ _ h => h) (Or.inl ⟨by rfl, ?_⟩) (by assumption) ?_
  rotate_left 1
  · (intro w' hSw; go_simp; try with_reducible rfl)
  try simp only [Act.put, List.setIfInBounds_toArray, List.set_cons_zero, List.set_cons_succ]
  refine wpAnyH_take (i := 7) (oi := ⟨some 39, _, _, _, _, _⟩) rfl (by kernel_rfl) (by decide +kernel) (by decide +kernel) (fun _ _ _ h => h) (yieldsIf_load_mid (by rfl) _ _ rfl T 0 rfl (wcell p) _ (fun w' h => h) Try.underlying73 rfl SWC.out) (by assumption) ?_
  try simp only [Act.put, List.setIfInBounds_toArray, List.set_cons_zero, List.set_cons_succ]
  clear hHeld
  have HBZ := Lib.hid (Below.refl w6.heap.size w6).drew
  refine wpAnyH_ready (rs := [1, 5, 8]) (by decide +kernel) (by simp) ?_
  refine AllReadyH.cons rfl (fun K hK => ?_) (AllReadyH.cons rfl (fun K hK => ?_) (AllReadyH.cons rfl (fun K hK => ?_) AllReadyH.nil))
  · obtain ⟨wn1, hrun, hX, hb, hbb⟩ := step33 w6 w6.drew HBZ.out
    have HX1 := Lib.hid hX
    have HB1 := Lib.hid hb
    rw [if_pos (by kernel_rfl)]
    refine wp_lit_at (o := ⟨some 33, _, _, _, _, _⟩) _ _ _ rfl #[] (by simp) _ _ hrun ?_
    refine hK.out _ _ (HS.out _ HB1.out) (fun hHeld => ?_)
    clear hK K hHeld hrun hX hb hbb
    try simp only [Act.put, List.setIfInBounds_toArray, List.set_cons_zero, List.set_cons_succ]
    refine wpAnyH_ready (rs := [5, 8]) (by decide +kernel) (by simp) ?_
    refine AllReadyH.cons rfl (fun K hK => ?_) (AllReadyH.cons rfl (fun K hK => ?_) AllReadyH.nil)
    · have co' := HCE.out _ HB1.out
      go_simp
      refine hK.out _ _ (HS.out _ HB1.out) (fun hHeld => ?_)
      clear hK K co' hHeld
      try simp only [Act.put, List.setIfInBounds_toArray, List.set_cons_zero, List.set_cons_succ]
      refine wpAnyH_ready (rs := [6, 8]) (by decide +kernel) (by simp) ?_
      refine AllReadyH.cons rfl (fun K hK => ?_) (AllReadyH.cons rfl (fun K hK => ?_) AllReadyH.nil)
      · obtain ⟨av3, lv3, cv3, wn3, hrun, hV, hb, hyy⟩ := step38 w6 wn1 _ HB1.out HX1.out _ N capv ws HWN.out (HWV.out _ HB1.out) HONE.out HSM.out
        have HV3 := Lib.hid hV
        have HB3 := Lib.hid hb
        rw [if_pos (by kernel_rfl)]
        refine wp_append_at (o := ⟨some 38, _, _, _, _, _⟩) _ _ _ rfl (.slice (some ⟨(w6.drew).heap.size, 0, none⟩) 0 0) (.slice aw N capv) rfl rfl _ _ hrun ?_
        refine hK.out _ _ (HS.out _ HB3.out) (fun hHeld => ?_)
        clear hK K hHeld hrun hV hb hyy
        try simp only [Act.put, List.setIfInBounds_toArray, List.set_cons_zero, List.set_cons_succ]
        refine wpAnyH_ready (rs := [8]) (by decide +kernel) (by simp) ?_
        refine AllReadyH.cons rfl (fun K hK => ?_) AllReadyH.nil
        obtain ⟨wn4, hrun, hY, hb, hbb⟩ := step40 w6 wn3 HB3.out p HP.out
        have HY4 := Lib.hid hY
        have HV4 := Lib.hid (mv_below HV3.out hbb)
        have HB4 := Lib.hid hb
        rw [if_pos (by kernel_rfl)]
        refine wp_lit_at (o := ⟨some 40, _, _, _, _, _⟩) _ _ _ rfl #[(0, .agg (wrow p))] (by simp [Act.eval, wrow]) _ _ hrun ?_
        refine hK.out _ _ (HS.out _ HB4.out) (fun hHeld => ?_)
        clear hK K hHeld hrun hY hb hbb
        try simp only [Act.put, List.setIfInBounds_toArray, List.set_cons_zero, List.set_cons_succ]
        refine wpAnyH_ready (rs := [9]) (by decide +kernel) (by simp) ?_
        refine AllReadyH.cons rfl (fun K hK => ?_) AllReadyH.nil
        obtain ⟨a9, c9, w9, hrun, hO, hb⟩ := step41 w6 wn4 _ p N (.slice av3 lv3 cv3) ws HWN.out HB4.out HV4.out HY4.out HP.out HSM.out
        have HO9 := Lib.hid hO
        have HB9 := Lib.hid hb
        rw [if_pos (by kernel_rfl)]
        refine wp_append_at (o := ⟨some 41, _, _, _, _, _⟩) _ _ _ rfl (.slice av3 lv3 cv3) (.slice (some ⟨(wn3).heap.size, 0, none⟩) 1 1) rfl rfl _ _ hrun ?_
        refine hK.out _ _ (HS.out _ HB9.out) (fun hHeld => ?_)
        clear hK K hrun hO hb
        try simp only [Act.put, List.setIfInBounds_toArray, List.set_cons_zero, List.set_cons_succ]
        refine wpAnyH_take (i := 10) (oi := ⟨some 42, _, _, _, _, _⟩) (v := ?_) rfl (by kernel_rfl) (by decide +kernel) (by decide +kernel) (fun _ _ _ h => h) (Or.inl ⟨by rfl, ?_⟩) (by assumption) ?_
        rotate_left 1
        · (intro w' hSw; go_simp; try with_reducible rfl)
        try simp only [Act.put, List.setIfInBounds_toArray, List.set_cons_zero, List.set_cons_succ]
        refine wpAnyH_take (i := 11) (oi := ⟨some 43, _, _, _, _, _⟩) (v := ?_) rfl (by kernel_rfl) (by decide +kernel) (by decide +kernel) (fun _ _ _ h => h) (Or.inl ⟨by rfl, ?_⟩) (by assumption) ?_
        rotate_left 1
        · (intro w' hSw; go_simp; try with_reducible rfl)
        try simp only [Act.put, List.setIfInBounds_toArray, List.set_cons_zero, List.set_cons_succ]
        clear hHeld
        refine wpAnyH_ready (rs := [12]) (by decide +kernel) (by simp) ?_
        refine AllReadyH.cons rfl (fun K hK => ?_) AllReadyH.nil
        have co' := HCE.out _ HB9.out
        have fo' := HFE.out _ HB9.out
        go_simp
        refine hK.out _ _ (HS2.out _ HB9.out _) (fun hHeld => ?_)
        clear hK K co' fo' hHeld
        try simp only [Act.put, List.setIfInBounds_toArray, List.set_cons_zero, List.set_cons_succ]
        refine wpAnyH_done (by decide +kernel) ?_ _
        refine NoPanic.normal ?_
        go_wp2_with fail
        go_ret
        exact ⟨rfl, _, by have q := HEND.out _ HB9.out _ HO9.out; rw [← HPE.out] at q; exact q⟩
      · obtain ⟨wn6, hrun, hY, hb, hbb⟩ := step40 w6 wn1 HB1.out p HP.out
        have HY6 := Lib.hid hY
        have HX6 := Lib.hid (mx_below HX1.out hbb)
        have HB6 := Lib.hid hb
        rw [if_pos (by kernel_rfl)]
        refine wp_lit_at (o := ⟨some 40, _, _, _, _, _⟩) _ _ _ rfl #[(0, .agg (wrow p))] (by simp [Act.eval, wrow]) _ _ hrun ?_
        refine hK.out _ _ (HS.out _ HB6.out) (fun hHeld => ?_)
        clear hK K hHeld hrun hY hb hbb
        try simp only [Act.put, List.setIfInBounds_toArray, List.set_cons_zero, List.set_cons_succ]
        refine wpAnyH_ready (rs := [6]) (by decide +kernel) (by simp) ?_
        refine AllReadyH.cons rfl (fun K hK => ?_) AllReadyH.nil
        obtain ⟨av7, lv7, cv7, wn7, hrun, hV, hb, hyy⟩ := step38 w6 wn6 _ HB6.out HX6.out _ N capv ws HWN.out (HWV.out _ HB6.out) HONE.out HSM.out
        have HV7 := Lib.hid hV
        have HY7 := Lib.hid (hyy _ _ HY6.out)
        have HB7 := Lib.hid hb
        rw [if_pos (by kernel_rfl)]
        refine wp_append_at (o := ⟨some 38, _, _, _, _, _⟩) _ _ _ rfl (.slice (some ⟨(w6.drew).heap.size, 0, none⟩) 0 0) (.slice aw N capv) rfl rfl _ _ hrun ?_
        refine hK.out _ _ (HS.out _ HB7.out) (fun hHeld => ?_)
        clear hK K hHeld hrun hV hb hyy
        try simp only [Act.put, List.setIfInBounds_toArray, List.set_cons_zero, List.set_cons_succ]
        refine wpAnyH_ready (rs := [9]) (by decide +kernel) (by simp) ?_
        refine AllReadyH.cons rfl (fun K hK => ?_) AllReadyH.nil
        obtain ⟨a9, c9, w9, hrun, hO, hb⟩ := step41 w6 wn7 _ p N (.slice av7 lv7 cv7) ws HWN.out HB7.out HV7.out HY7.out HP.out HSM.out
        have HO9 := Lib.hid hO
        have HB9 := Lib.hid hb
        rw [if_pos (by kernel_rfl)]
        refine wp_append_at (o := ⟨some 41, _, _, _, _, _⟩) _ _ _ rfl (.slice av7 lv7 cv7) (.slice (some ⟨(wn1).heap.size, 0, none⟩) 1 1) rfl rfl _ _ hrun ?_
        refine hK.out _ _ (HS.out _ HB9.out) (fun hHeld => ?_)
        clear hK K hrun hO hb
        try simp only [Act.put, List.setIfInBounds_toArray, List.set_cons_zero, List.set_cons_succ]
        refine wpAnyH_take (i := 10) (oi := ⟨some 42, _, _, _, _, _⟩) (v := ?_) rfl (by kernel_rfl) (by decide +kernel) (by decide +kernel) (fun _ _ _ h => h) (Or.inl ⟨by rfl, ?_⟩) (by assumption) ?_
        rotate_left 1
        · (intro w' hSw; go_simp; try with_reducible rfl)
        try simp only [Act.put, List.setIfInBounds_toArray, List.set_cons_zero, List.set_cons_succ]
        refine wpAnyH_take (i := 11) (oi := ⟨some 43, _, _, _, _, _⟩) (v := ?_) rfl (by kernel_rfl) (by decide +kernel) (by decide +kernel) (fun _ _ _ h => h) (Or.inl ⟨by rfl, ?_⟩) (by assumption) ?_
        rotate_left 1
        · (intro w' hSw; go_simp; try with_reducible rfl)
        try simp only [Act.put, List.setIfInBounds_toArray, List.set_cons_zero, List.set_cons_succ]
        clear hHeld
        refine wpAnyH_ready (rs := [12]) (by decide +kernel) (by simp) ?_
        refine AllReadyH.cons rfl (fun K hK => ?_) AllReadyH.nil
        have co' := HCE.out _ HB9.out
        have fo' := HFE.out _ HB9.out
        go_simp
        refine hK.out _ _ (HS2.out _ HB9.out _) (fun hHeld => ?_)
        clear hK K co' fo' hHeld
        try simp only [Act.put, List.setIfInBounds_toArray, List.set_cons_zero, List.set_cons_succ]
        refine wpAnyH_done (by decide +kernel) ?_ _
        refine NoPanic.normal ?_
        go_wp2_with fail
        go_ret
        exact ⟨rfl, _, by have q := HEND.out _ HB9.out _ HO9.out; rw [← HPE.out] at q; exact q⟩
    · obtain ⟨wn9, hrun, hY, hb, hbb⟩ := step40 w6 wn1 HB1.out p HP.out
      have HY9 := Lib.hid hY
      have HX9 := Lib.hid (mx_below HX1.out hbb)
      have HB9 := Lib.hid hb
      rw [if_pos (by kernel_rfl)]
      refine wp_lit_at (o := ⟨some 40, _, _, _, _, _⟩) _ _ _ rfl #[(0, .agg (wrow p))] (by simp [Act.eval, wrow]) _ _ hrun ?_
      refine hK.out _ _ (HS.out _ HB9.out) (fun hHeld => ?_)
      clear hK K hHeld hrun hY hb hbb
      try simp only [Act.put, List.setIfInBounds_toArray, List.set_cons_zero, List.set_cons_succ]
      refine wpAnyH_ready (rs := [5]) (by decide +kernel) (by simp) ?_
      refine AllReadyH.cons rfl (fun K hK => ?_) AllReadyH.nil
      have co' := HCE.out _ HB9.out
      go_simp
      refine hK.out _ _ (HS.out _ HB9.out) (fun hHeld => ?_)
      clear hK K co' hHeld
      try simp only [Act.put, List.setIfInBounds_toArray, List.set_cons_zero, List.set_cons_succ]
      refine wpAnyH_ready (rs := [6]) (by decide +kernel) (by simp) ?_
      refine AllReadyH.cons rfl (fun K hK => ?_) AllReadyH.nil
      obtain ⟨av11, lv11, cv11, wn11, hrun, hV, hb, hyy⟩ := step38 w6 wn9 _ HB9.out HX9.out _ N capv ws HWN.out (HWV.out _ HB9.out) HONE.out HSM.out
      have HV11 := Lib.hid hV
      have HY11 := Lib.hid (hyy _ _ HY9.out)
      have HB11 := Lib.hid hb
      rw [if_pos (by kernel_rfl)]
      refine wp_append_at (o := ⟨some 38, _, _, _, _, _⟩) _ _ _ rfl (.slice (some ⟨(w6.drew).heap.size, 0, none⟩) 0 0) (.slice aw N capv) rfl rfl _ _ hrun ?_
      refine hK.out _ _ (HS.out _ HB11.out) (fun hHeld => ?_)
      clear hK K hHeld hrun hV hb hyy
      try simp only [Act.put, List.setIfInBounds_toArray, List.set_cons_zero, List.set_cons_succ]
      refine wpAnyH_ready (rs := [9]) (by decide +kernel) (by simp) ?_
      refine AllReadyH.cons rfl (fun K hK => ?_) AllReadyH.nil
      obtain ⟨a9, c9, w9, hrun, hO, hb⟩ := step41 w6 wn11 _ p N (.slice av11 lv11 cv11) ws HWN.out HB11.out HV11.out HY11.out HP.out HSM.out
      have HO9 := Lib.hid hO
      have HB9 := Lib.hid hb
      rw [if_pos (by kernel_rfl)]
      refine wp_append_at (o := ⟨some 41, _, _, _, _, _⟩) _ _ _ rfl (.slice av11 lv11 cv11) (.slice (some ⟨(wn1).heap.size, 0, none⟩) 1 1) rfl rfl _ _ hrun ?_
      refine hK.out _ _ (HS.out _ HB9.out) (fun hHeld => ?_)
      clear hK K hrun hO hb
      try simp only [Act.put, List.setIfInBounds_toArray, List.set_cons_zero, List.set_cons_succ]
      refine wpAnyH_take (i := 10) (oi := ⟨some 42, _, _, _, _, _⟩) (v := ?_) rfl (by kernel_rfl) (by decide +kernel) (by decide +kernel) (fun _ _ _ h => h) (Or.inl ⟨by rfl, ?_⟩) (by assumption) ?_
      rotate_left 1
      · (intro w' hSw; go_simp; try with_reducible rfl)
      try simp only [Act.put, List.setIfInBounds_toArray, List.set_cons_zero, List.set_cons_succ]
      refine wpAnyH_take (i := 11) (oi := ⟨some 43, _, _, _, _, _⟩) (v := ?_) rfl (by kernel_rfl) (by decide +kernel) (by decide +kernel) (fun _ _ _ h => h) (Or.inl ⟨by rfl, ?_⟩) (by assumption) ?_
      rotate_left 1
      · (intro w' hSw; go_simp; try with_reducible rfl)
      try simp only [Act.put, List.setIfInBounds_toArray, List.set_cons_zero, List.set_cons_succ]
      clear hHeld
      refine wpAnyH_ready (rs := [12]) (by decide +kernel) (by simp) ?_
      refine AllReadyH.cons rfl (fun K hK => ?_) AllReadyH.nil
      have co' := HCE.out _ HB9.out
      have fo' := HFE.out _ HB9.out
      go_simp
      refine hK.out _ _ (HS2.out _ HB9.out _) (fun hHeld => ?_)
      clear hK K co' fo' hHeld
      try simp only [Act.put, List.setIfInBounds_toArray, List.set_cons_zero, List.set_cons_succ]
      refine wpAnyH_done (by decide +kernel) ?_ _
      refine NoPanic.normal ?_
      go_wp2_with fail
      go_ret
      exact ⟨rfl, _, by have q := HEND.out _ HB9.out _ HO9.out; rw [← HPE.out] at q; exact q⟩
  · have co' := HCE.out _ HBZ.out
    go_simp
    refine hK.out _ _ (HS.out _ HBZ.out) (fun hHeld => ?_)
    clear hK K co' hHeld
    try simp only [Act.put, List.setIfInBounds_toArray, List.set_cons_zero, List.set_cons_succ]
    refine wpAnyH_ready (rs := [1, 8]) (by decide +kernel) (by simp) ?_
    refine AllReadyH.cons rfl (fun K hK => ?_) (AllReadyH.cons rfl (fun K hK => ?_) AllReadyH.nil)
    · obtain ⟨wn14, hrun, hX, hb, hbb⟩ := step33 w6 w6.drew HBZ.out
      have HX14 := Lib.hid hX
      have HB14 := Lib.hid hb
      rw [if_pos (by kernel_rfl)]
      refine wp_lit_at (o := ⟨some 33, _, _, _, _, _⟩) _ _ _ rfl #[] (by simp) _ _ hrun ?_
      refine hK.out _ _ (HS.out _ HB14.out) (fun hHeld => ?_)
      clear hK K hHeld hrun hX hb hbb
      try simp only [Act.put, List.setIfInBounds_toArray, List.set_cons_zero, List.set_cons_succ]
      refine wpAnyH_ready (rs := [6, 8]) (by decide +kernel) (by simp) ?_
      refine AllReadyH.cons rfl (fun K hK => ?_) (AllReadyH.cons rfl (fun K hK => ?_) AllReadyH.nil)
      · obtain ⟨av15, lv15, cv15, wn15, hrun, hV, hb, hyy⟩ := step38 w6 wn14 _ HB14.out HX14.out _ N capv ws HWN.out (HWV.out _ HB14.out) HONE.out HSM.out
        have HV15 := Lib.hid hV
        have HB15 := Lib.hid hb
        rw [if_pos (by kernel_rfl)]
        refine wp_append_at (o := ⟨some 38, _, _, _, _, _⟩) _ _ _ rfl (.slice (some ⟨(w6.drew).heap.size, 0, none⟩) 0 0) (.slice aw N capv) rfl rfl _ _ hrun ?_
        refine hK.out _ _ (HS.out _ HB15.out) (fun hHeld => ?_)
        clear hK K hHeld hrun hV hb hyy
        try simp only [Act.put, List.setIfInBounds_toArray, List.set_cons_zero, List.set_cons_succ]
        refine wpAnyH_ready (rs := [8]) (by decide +kernel) (by simp) ?_
        refine AllReadyH.cons rfl (fun K hK => ?_) AllReadyH.nil
        obtain ⟨wn16, hrun, hY, hb, hbb⟩ := step40 w6 wn15 HB15.out p HP.out
        have HY16 := Lib.hid hY
        have HV16 := Lib.hid (mv_below HV15.out hbb)
        have HB16 := Lib.hid hb
        rw [if_pos (by kernel_rfl)]
        refine wp_lit_at (o := ⟨some 40, _, _, _, _, _⟩) _ _ _ rfl #[(0, .agg (wrow p))] (by simp [Act.eval, wrow]) _ _ hrun ?_
        refine hK.out _ _ (HS.out _ HB16.out) (fun hHeld => ?_)
        clear hK K hHeld hrun hY hb hbb
        try simp only [Act.put, List.setIfInBounds_toArray, List.set_cons_zero, List.set_cons_succ]
        refine wpAnyH_ready (rs := [9]) (by decide +kernel) (by simp) ?_
        refine AllReadyH.cons rfl (fun K hK => ?_) AllReadyH.nil
        obtain ⟨a9, c9, w9, hrun, hO, hb⟩ := step41 w6 wn16 _ p N (.slice av15 lv15 cv15) ws HWN.out HB16.out HV16.out HY16.out HP.out HSM.out
        have HO9 := Lib.hid hO
        have HB9 := Lib.hid hb
        rw [if_pos (by kernel_rfl)]
        refine wp_append_at (o := ⟨some 41, _, _, _, _, _⟩) _ _ _ rfl (.slice av15 lv15 cv15) (.slice (some ⟨(wn15).heap.size, 0, none⟩) 1 1) rfl rfl _ _ hrun ?_
        refine hK.out _ _ (HS.out _ HB9.out) (fun hHeld => ?_)
        clear hK K hrun hO hb
        try simp only [Act.put, List.setIfInBounds_toArray, List.set_cons_zero, List.set_cons_succ]
        refine wpAnyH_take (i := 10) (oi := ⟨some 42, _, _, _, _, _⟩) (v := ?_) rfl (by kernel_rfl) (by decide +kernel) (by decide +kernel) (fun _ _ _ h => h) (Or.inl ⟨by rfl, ?_⟩) (by assumption) ?_
        rotate_left 1
        · (intro w' hSw; go_simp; try with_reducible rfl)
        try simp only [Act.put, List.setIfInBounds_toArray, List.set_cons_zero, List.set_cons_succ]
        refine wpAnyH_take (i := 11) (oi := ⟨some 43, _, _, _, _, _⟩) (v := ?_) rfl (by kernel_rfl) (by decide +kernel) (by decide +kernel) (fun _ _ _ h => h) (Or.inl ⟨by rfl, ?_⟩) (by assumption) ?_
        rotate_left 1
        · (intro w' hSw; go_simp; try with_reducible rfl)
        try simp only [Act.put, List.setIfInBounds_toArray, List.set_cons_zero, List.set_cons_succ]
        clear hHeld
        refine wpAnyH_ready (rs := [12]) (by decide +kernel) (by simp) ?_
        refine AllReadyH.cons rfl (fun K hK => ?_) AllReadyH.nil
        have co' := HCE.out _ HB9.out
        have fo' := HFE.out _ HB9.out
        go_simp
        refine hK.out _ _ (HS2.out _ HB9.out _) (fun hHeld => ?_)
        clear hK K co' fo' hHeld
        try simp only [Act.put, List.setIfInBounds_toArray, List.set_cons_zero, List.set_cons_succ]
        refine wpAnyH_done (by decide +kernel) ?_ _
        refine NoPanic.normal ?_
        go_wp2_with fail
        go_ret
        exact ⟨rfl, _, by have q := HEND.out _ HB9.out _ HO9.out; rw [← HPE.out] at q; exact q⟩
      · obtain ⟨wn18, hrun, hY, hb, hbb⟩ := step40 w6 wn14 HB14.out p HP.out
        have HY18 := Lib.hid hY
        have HX18 := Lib.hid (mx_below HX14.out hbb)
        have HB18 := Lib.hid hb
        rw [if_pos (by kernel_rfl)]
        refine wp_lit_at (o := ⟨some 40, _, _, _, _, _⟩) _ _ _ rfl #[(0, .agg (wrow p))] (by simp [Act.eval, wrow]) _ _ hrun ?_
        refine hK.out _ _ (HS.out _ HB18.out) (fun hHeld => ?_)
        clear hK K hHeld hrun hY hb hbb
        try simp only [Act.put, List.setIfInBounds_toArray, List.set_cons_zero, List.set_cons_succ]
        refine wpAnyH_ready (rs := [6]) (by decide +kernel) (by simp) ?_
        refine AllReadyH.cons rfl (fun K hK => ?_) AllReadyH.nil
        obtain ⟨av19, lv19, cv19, wn19, hrun, hV, hb, hyy⟩ := step38 w6 wn18 _ HB18.out HX18.out _ N capv ws HWN.out (HWV.out _ HB18.out) HONE.out HSM.out
        have HV19 := Lib.hid hV
        have HY19 := Lib.hid (hyy _ _ HY18.out)
        have HB19 := Lib.hid hb
        rw [if_pos (by kernel_rfl)]
        refine wp_append_at (o := ⟨some 38, _, _, _, _, _⟩) _ _ _ rfl (.slice (some ⟨(w6.drew).heap.size, 0, none⟩) 0 0) (.slice aw N capv) rfl rfl _ _ hrun ?_
        refine hK.out _ _ (HS.out _ HB19.out) (fun hHeld => ?_)
        clear hK K hHeld hrun hV hb hyy
        try simp only [Act.put, List.setIfInBounds_toArray, List.set_cons_zero, List.set_cons_succ]
        refine wpAnyH_ready (rs := [9]) (by decide +kernel) (by simp) ?_
        refine AllReadyH.cons rfl (fun K hK => ?_) AllReadyH.nil
        obtain ⟨a9, c9, w9, hrun, hO, hb⟩ := step41 w6 wn19 _ p N (.slice av19 lv19 cv19) ws HWN.out HB19.out HV19.out HY19.out HP.out HSM.out
        have HO9 := Lib.hid hO
        have HB9 := Lib.hid hb
        rw [if_pos (by kernel_rfl)]
        refine wp_append_at (o := ⟨some 41, _, _, _, _, _⟩) _ _ _ rfl (.slice av19 lv19 cv19) (.slice (some ⟨(wn14).heap.size, 0, none⟩) 1 1) rfl rfl _ _ hrun ?_
        refine hK.out _ _ (HS.out _ HB9.out) (fun hHeld => ?_)
        clear hK K hrun hO hb
        try simp only [Act.put, List.setIfInBounds_toArray, List.set_cons_zero, List.set_cons_succ]
        refine wpAnyH_take (i := 10) (oi := ⟨some 42, _, _, _, _, _⟩) (v := ?_) rfl (by kernel_rfl) (by decide +kernel) (by decide +kernel) (fun _ _ _ h => h) (Or.inl ⟨by rfl, ?_⟩) (by assumption) ?_
        rotate_left 1
        · (intro w' hSw; go_simp; try with_reducible rfl)
        try simp only [Act.put, List.setIfInBounds_toArray, List.set_cons_zero, List.set_cons_succ]
        refine wpAnyH_take (i := 11) (oi := ⟨some 43, _, _, _, _, _⟩) (v := ?_) rfl (by kernel_rfl) (by decide +kernel) (by decide +kernel) (fun _ _ _ h => h) (Or.inl ⟨by rfl, ?_⟩) (by assumption) ?_
        rotate_left 1
        · (intro w' hSw; go_simp; try with_reducible rfl)
        try simp only [Act.put, List.setIfInBounds_toArray, List.set_cons_zero, List.set_cons_succ]
        clear hHeld
        refine wpAnyH_ready (rs := [12]) (by decide +kernel) (by simp) ?_
        refine AllReadyH.cons rfl (fun K hK => ?_) AllReadyH.nil
        have co' := HCE.out _ HB9.out
        have fo' := HFE.out _ HB9.out
        go_simp
        refine hK.out _ _ (HS2.out _ HB9.out _) (fun hHeld => ?_)
        clear hK K co' fo' hHeld
        try simp only [Act.put, List.setIfInBounds_toArray, List.set_cons_zero, List.set_cons_succ]
        refine wpAnyH_done (by decide +kernel) ?_ _
        refine NoPanic.normal ?_
        go_wp2_with fail
        go_ret
        exact ⟨rfl, _, by have q := HEND.out _ HB9.out _ HO9.out; rw [← HPE.out] at q; exact q⟩
    · obtain ⟨wn21, hrun, hY, hb, hbb⟩ := step40 w6 w6.drew HBZ.out p HP.out
      have HY21 := Lib.hid hY
      have HB21 := Lib.hid hb
      rw [if_pos (by kernel_rfl)]
      refine wp_lit_at (o := ⟨some 40, _, _, _, _, _⟩) _ _ _ rfl #[(0, .agg (wrow p))] (by simp [Act.eval, wrow]) _ _ hrun ?_
      refine hK.out _ _ (HS.out _ HB21.out) (fun hHeld => ?_)
      clear hK K hHeld hrun hY hb hbb
      try simp only [Act.put, List.setIfInBounds_toArray, List.set_cons_zero, List.set_cons_succ]
      refine wpAnyH_ready (rs := [1]) (by decide +kernel) (by simp) ?_
      refine AllReadyH.cons rfl (fun K hK => ?_) AllReadyH.nil
      obtain ⟨wn22, hrun, hX, hb, hbb⟩ := step33 w6 wn21 HB21.out
      have HX22 := Lib.hid hX
      have HY22 := Lib.hid (my_below HY21.out hbb)
      have HB22 := Lib.hid hb
      rw [if_pos (by kernel_rfl)]
      refine wp_lit_at (o := ⟨some 33, _, _, _, _, _⟩) _ _ _ rfl #[] (by simp) _ _ hrun ?_
      refine hK.out _ _ (HS.out _ HB22.out) (fun hHeld => ?_)
      clear hK K hHeld hrun hX hb hbb
      try simp only [Act.put, List.setIfInBounds_toArray, List.set_cons_zero, List.set_cons_succ]
      refine wpAnyH_ready (rs := [6]) (by decide +kernel) (by simp) ?_
      refine AllReadyH.cons rfl (fun K hK => ?_) AllReadyH.nil
      obtain ⟨av23, lv23, cv23, wn23, hrun, hV, hb, hyy⟩ := step38 w6 wn22 _ HB22.out HX22.out _ N capv ws HWN.out (HWV.out _ HB22.out) HONE.out HSM.out
      have HV23 := Lib.hid hV
      have HY23 := Lib.hid (hyy _ _ HY22.out)
      have HB23 := Lib.hid hb
      rw [if_pos (by kernel_rfl)]
      refine wp_append_at (o := ⟨some 38, _, _, _, _, _⟩) _ _ _ rfl (.slice (some ⟨(wn21).heap.size, 0, none⟩) 0 0) (.slice aw N capv) rfl rfl _ _ hrun ?_
      refine hK.out _ _ (HS.out _ HB23.out) (fun hHeld => ?_)
      clear hK K hHeld hrun hV hb hyy
      try simp only [Act.put, List.setIfInBounds_toArray, List.set_cons_zero, List.set_cons_succ]
      refine wpAnyH_ready (rs := [9]) (by decide +kernel) (by simp) ?_
      refine AllReadyH.cons rfl (fun K hK => ?_) AllReadyH.nil
      obtain ⟨a9, c9, w9, hrun, hO, hb⟩ := step41 w6 wn23 _ p N (.slice av23 lv23 cv23) ws HWN.out HB23.out HV23.out HY23.out HP.out HSM.out
      have HO9 := Lib.hid hO
      have HB9 := Lib.hid hb
      rw [if_pos (by kernel_rfl)]
      refine wp_append_at (o := ⟨some 41, _, _, _, _, _⟩) _ _ _ rfl (.slice av23 lv23 cv23) (.slice (some ⟨(w6.drew).heap.size, 0, none⟩) 1 1) rfl rfl _ _ hrun ?_
      refine hK.out _ _ (HS.out _ HB9.out) (fun hHeld => ?_)
      clear hK K hrun hO hb
      try simp only [Act.put, List.setIfInBounds_toArray, List.set_cons_zero, List.set_cons_succ]
      refine wpAnyH_take (i := 10) (oi := ⟨some 42, _, _, _, _, _⟩) (v := ?_) rfl (by kernel_rfl) (by decide +kernel) (by decide +kernel) (fun _ _ _ h => h) (Or.inl ⟨by rfl, ?_⟩) (by assumption) ?_
      rotate_left 1
      · (intro w' hSw; go_simp; try with_reducible rfl)
      try simp only [Act.put, List.setIfInBounds_toArray, List.set_cons_zero, List.set_cons_succ]
      refine wpAnyH_take (i := 11) (oi := ⟨some 43, _, _, _, _, _⟩) (v := ?_) rfl (by kernel_rfl) (by decide +kernel) (by decide +kernel) (fun _ _ _ h => h) (Or.inl ⟨by rfl, ?_⟩) (by assumption) ?_
      rotate_left 1
      · (intro w' hSw; go_simp; try with_reducible rfl)
      try simp only [Act.put, List.setIfInBounds_toArray, List.set_cons_zero, List.set_cons_succ]
      clear hHeld
      refine wpAnyH_ready (rs := [12]) (by decide +kernel) (by simp) ?_
      refine AllReadyH.cons rfl (fun K hK => ?_) AllReadyH.nil
      have co' := HCE.out _ HB9.out
      have fo' := HFE.out _ HB9.out
      go_simp
      refine hK.out _ _ (HS2.out _ HB9.out _) (fun hHeld => ?_)
      clear hK K co' fo' hHeld
      try simp only [Act.put, List.setIfInBounds_toArray, List.set_cons_zero, List.set_cons_succ]
      refine wpAnyH_done (by decide +kernel) ?_ _
      refine NoPanic.normal ?_
      go_wp2_with fail
      go_ret
      exact ⟨rfl, _, by have q := HEND.out _ HB9.out _ HO9.out; rw [← HPE.out] at q; exact q⟩
  · obtain ⟨wn25, hrun, hY, hb, hbb⟩ := step40 w6 w6.drew HBZ.out p HP.out
    have HY25 := Lib.hid hY
    have HB25 := Lib.hid hb
    rw [if_pos (by kernel_rfl)]
    refine wp_lit_at (o := ⟨some 40, _, _, _, _, _⟩) _ _ _ rfl #[(0, .agg (wrow p))] (by simp [Act.eval, wrow]) _ _ hrun ?_
    refine hK.out _ _ (HS.out _ HB25.out) (fun hHeld => ?_)
    clear hK K hHeld hrun hY hb hbb
    try simp only [Act.put, List.setIfInBounds_toArray, List.set_cons_zero, List.set_cons_succ]
    refine wpAnyH_ready (rs := [1, 5]) (by decide +kernel) (by simp) ?_
    refine AllReadyH.cons rfl (fun K hK => ?_) (AllReadyH.cons rfl (fun K hK => ?_) AllReadyH.nil)
    · obtain ⟨wn26, hrun, hX, hb, hbb⟩ := step33 w6 wn25 HB25.out
      have HX26 := Lib.hid hX
      have HY26 := Lib.hid (my_below HY25.out hbb)
      have HB26 := Lib.hid hb
      rw [if_pos (by kernel_rfl)]
      refine wp_lit_at (o := ⟨some 33, _, _, _, _, _⟩) _ _ _ rfl #[] (by simp) _ _ hrun ?_
      refine hK.out _ _ (HS.out _ HB26.out) (fun hHeld => ?_)
      clear hK K hHeld hrun hX hb hbb
      try simp only [Act.put, List.setIfInBounds_toArray, List.set_cons_zero, List.set_cons_succ]
      refine wpAnyH_ready (rs := [5]) (by decide +kernel) (by simp) ?_
      refine AllReadyH.cons rfl (fun K hK => ?_) AllReadyH.nil
      have co' := HCE.out _ HB26.out
      go_simp
      refine hK.out _ _ (HS.out _ HB26.out) (fun hHeld => ?_)
      clear hK K co' hHeld
      try simp only [Act.put, List.setIfInBounds_toArray, List.set_cons_zero, List.set_cons_succ]
      refine wpAnyH_ready (rs := [6]) (by decide +kernel) (by simp) ?_
      refine AllReadyH.cons rfl (fun K hK => ?_) AllReadyH.nil
      obtain ⟨av28, lv28, cv28, wn28, hrun, hV, hb, hyy⟩ := step38 w6 wn26 _ HB26.out HX26.out _ N capv ws HWN.out (HWV.out _ HB26.out) HONE.out HSM.out
      have HV28 := Lib.hid hV
      have HY28 := Lib.hid (hyy _ _ HY26.out)
      have HB28 := Lib.hid hb
      rw [if_pos (by kernel_rfl)]
      refine wp_append_at (o := ⟨some 38, _, _, _, _, _⟩) _ _ _ rfl (.slice (some ⟨(wn25).heap.size, 0, none⟩) 0 0) (.slice aw N capv) rfl rfl _ _ hrun ?_
      refine hK.out _ _ (HS.out _ HB28.out) (fun hHeld => ?_)
      clear hK K hHeld hrun hV hb hyy
      try simp only [Act.put, List.setIfInBounds_toArray, List.set_cons_zero, List.set_cons_succ]
      refine wpAnyH_ready (rs := [9]) (by decide +kernel) (by simp) ?_
      refine AllReadyH.cons rfl (fun K hK => ?_) AllReadyH.nil
      obtain ⟨a9, c9, w9, hrun, hO, hb⟩ := step41 w6 wn28 _ p N (.slice av28 lv28 cv28) ws HWN.out HB28.out HV28.out HY28.out HP.out HSM.out
      have HO9 := Lib.hid hO
      have HB9 := Lib.hid hb
      rw [if_pos (by kernel_rfl)]
      refine wp_append_at (o := ⟨some 41, _, _, _, _, _⟩) _ _ _ rfl (.slice av28 lv28 cv28) (.slice (some ⟨(w6.drew).heap.size, 0, none⟩) 1 1) rfl rfl _ _ hrun ?_
      refine hK.out _ _ (HS.out _ HB9.out) (fun hHeld => ?_)
      clear hK K hrun hO hb
      try simp only [Act.put, List.setIfInBounds_toArray, List.set_cons_zero, List.set_cons_succ]
      refine wpAnyH_take (i := 10) (oi := ⟨some 42, _, _, _, _, _⟩) (v := ?_) rfl (by kernel_rfl) (by decide +kernel) (by decide +kernel) (fun _ _ _ h => h) (Or.inl ⟨by rfl, ?_⟩) (by assumption) ?_
      rotate_left 1
      · (intro w' hSw; go_simp; try with_reducible rfl)
      try simp only [Act.put, List.setIfInBounds_toArray, List.set_cons_zero, List.set_cons_succ]
      refine wpAnyH_take (i := 11) (oi := ⟨some 43, _, _, _, _, _⟩) (v := ?_) rfl (by kernel_rfl) (by decide +kernel) (by decide +kernel) (fun _ _ _ h => h) (Or.inl ⟨by rfl, ?_⟩) (by assumption) ?_
      rotate_left 1
      · (intro w' hSw; go_simp; try with_reducible rfl)
      try simp only [Act.put, List.setIfInBounds_toArray, List.set_cons_zero, List.set_cons_succ]
      clear hHeld
      refine wpAnyH_ready (rs := [12]) (by decide +kernel) (by simp) ?_
      refine AllReadyH.cons rfl (fun K hK => ?_) AllReadyH.nil
      have co' := HCE.out _ HB9.out
      have fo' := HFE.out _ HB9.out
      go_simp
      refine hK.out _ _ (HS2.out _ HB9.out _) (fun hHeld => ?_)
      clear hK K co' fo' hHeld
      try simp only [Act.put, List.setIfInBounds_toArray, List.set_cons_zero, List.set_cons_succ]
      refine wpAnyH_done (by decide +kernel) ?_ _
      refine NoPanic.normal ?_
      go_wp2_with fail
      go_ret
      exact ⟨rfl, _, by have q := HEND.out _ HB9.out _ HO9.out; rw [← HPE.out] at q; exact q⟩
    · have co' := HCE.out _ HB25.out
      go_simp
      refine hK.out _ _ (HS.out _ HB25.out) (fun hHeld => ?_)
      clear hK K co' hHeld
      try simp only [Act.put, List.setIfInBounds_toArray, List.set_cons_zero, List.set_cons_succ]
      refine wpAnyH_ready (rs := [1]) (by decide +kernel) (by simp) ?_
      refine AllReadyH.cons rfl (fun K hK => ?_) AllReadyH.nil
      obtain ⟨wn31, hrun, hX, hb, hbb⟩ := step33 w6 wn25 HB25.out
      have HX31 := Lib.hid hX
      have HY31 := Lib.hid (my_below HY25.out hbb)
      have HB31 := Lib.hid hb
      rw [if_pos (by kernel_rfl)]
      refine wp_lit_at (o := ⟨some 33, _, _, _, _, _⟩) _ _ _ rfl #[] (by simp) _ _ hrun ?_
      refine hK.out _ _ (HS.out _ HB31.out) (fun hHeld => ?_)
      clear hK K hHeld hrun hX hb hbb
      try simp only [Act.put, List.setIfInBounds_toArray, List.set_cons_zero, List.set_cons_succ]
      refine wpAnyH_ready (rs := [6]) (by decide +kernel) (by simp) ?_
      refine AllReadyH.cons rfl (fun K hK => ?_) AllReadyH.nil
      obtain ⟨av32, lv32, cv32, wn32, hrun, hV, hb, hyy⟩ := step38 w6 wn31 _ HB31.out HX31.out _ N capv ws HWN.out (HWV.out _ HB31.out) HONE.out HSM.out
      have HV32 := Lib.hid hV
      have HY32 := Lib.hid (hyy _ _ HY31.out)
      have HB32 := Lib.hid hb
      rw [if_pos (by kernel_rfl)]
      refine wp_append_at (o := ⟨some 38, _, _, _, _, _⟩) _ _ _ rfl (.slice (some ⟨(wn25).heap.size, 0, none⟩) 0 0) (.slice aw N capv) rfl rfl _ _ hrun ?_
      refine hK.out _ _ (HS.out _ HB32.out) (fun hHeld => ?_)
      clear hK K hHeld hrun hV hb hyy
      try simp only [Act.put, List.setIfInBounds_toArray, List.set_cons_zero, List.set_cons_succ]
      refine wpAnyH_ready (rs := [9]) (by decide +kernel) (by simp) ?_
      refine AllReadyH.cons rfl (fun K hK => ?_) AllReadyH.nil
      obtain ⟨a9, c9, w9, hrun, hO, hb⟩ := step41 w6 wn32 _ p N (.slice av32 lv32 cv32) ws HWN.out HB32.out HV32.out HY32.out HP.out HSM.out
      have HO9 := Lib.hid hO
      have HB9 := Lib.hid hb
      rw [if_pos (by kernel_rfl)]
      refine wp_append_at (o := ⟨some 41, _, _, _, _, _⟩) _ _ _ rfl (.slice av32 lv32 cv32) (.slice (some ⟨(w6.drew).heap.size, 0, none⟩) 1 1) rfl rfl _ _ hrun ?_
      refine hK.out _ _ (HS.out _ HB9.out) (fun hHeld => ?_)
      clear hK K hrun hO hb
      try simp only [Act.put, List.setIfInBounds_toArray, List.set_cons_zero, List.set_cons_succ]
      refine wpAnyH_take (i := 10) (oi := ⟨some 42, _, _, _, _, _⟩) (v := ?_) rfl (by kernel_rfl) (by decide +kernel) (by decide +kernel) (fun _ _ _ h => h) (Or.inl ⟨by rfl, ?_⟩) (by assumption) ?_
      rotate_left 1
      · (intro w' hSw; go_simp; try with_reducible rfl)
      try simp only [Act.put, List.setIfInBounds_toArray, List.set_cons_zero, List.set_cons_succ]
      refine wpAnyH_take (i := 11) (oi := ⟨some 43, _, _, _, _, _⟩) (v := ?_) rfl (by kernel_rfl) (by decide +kernel) (by decide +kernel) (fun _ _ _ h => h) (Or.inl ⟨by rfl, ?_⟩) (by assumption) ?_
      rotate_left 1
      · (intro w' hSw; go_simp; try with_reducible rfl)
      try simp only [Act.put, List.setIfInBounds_toArray, List.set_cons_zero, List.set_cons_succ]
      clear hHeld
      refine wpAnyH_ready (rs := [12]) (by decide +kernel) (by simp) ?_
      refine AllReadyH.cons rfl (fun K hK => ?_) AllReadyH.nil
      have co' := HCE.out _ HB9.out
      have fo' := HFE.out _ HB9.out
      go_simp
      refine hK.out _ _ (HS2.out _ HB9.out _) (fun hHeld => ?_)
      clear hK K co' fo' hHeld
      try simp only [Act.put, List.setIfInBounds_toArray, List.set_cons_zero, List.set_cons_succ]
      refine wpAnyH_done (by decide +kernel) ?_ _
      refine NoPanic.normal ?_
      go_wp2_with fail
      go_ret
      exact ⟨rfl, _, by have q := HEND.out _ HB9.out _ HO9.out; rw [← HPE.out] at q; exact q⟩
end Go.Proofs.Ytmfpdbmohebodaa
