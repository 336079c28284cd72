/-
  A hasher is made, asked for its hash, and how many bytes it took; bytes' hash at once.
-/
import Derived.Test.YtpmeiadnikenmaaDoorWrite
import Derived.Laws.ResultCell
import Derived.Laws.NewBlocks
namespace Go.Proofs.YtpmeiadnikenmaaDoor
open Go.RowKit

theorem info_hs : (Tryd.prog.info? 65).map (·.size) = some 73 := by kernel_rfl
theorem size_hs (st : List (BitVec 32)) (rest : List Int) (n : Nat) (h1 : st.length = 8) (h2 : rest.length = 64) : (Tryd.prog.info? 65).map (·.size) = some (hcells st rest n).toArray.size := by
  rw [info_hs, List.size_toArray, hcells_length _ _ _ h1 h2]
theorem hcells_one (st : List (BitVec 32)) (rest : List Int) (n : Nat) : (hcells st rest n).toArray.all (·.oneCell') = true := by
  rw [Array.all_eq_true_iff_forall_mem]
  intro v hv
  simp only [hcells, List.mem_toArray, List.mem_append, List.mem_singleton] at hv
  rcases hv with h | h | h
  · exact (Array.all_eq_true_iff_forall_mem.1 (wvs_one st)) v (by simpa using h)
  · exact (Array.all_eq_true_iff_forall_mem.1 (u8s_one rest)) v (by simpa using h)
  · subst h; rfl
/-- A result of a row in memory and of a slot. -/
theorem results_row_tmp {P : Program} {fn : Func} {p u : Tmp} {ty : TypeId} (h : fn.results = #[.cell p ty, .tmp u]) (tmps : Array Value) (w : World) (g : Nat) (t : TypeId) (cs : Array Value) (fr : Nat × Nat) (d : TypeDesc)
    (hp : tmps.getD p undef = .pointer (some ⟨g, 0, none⟩)) (hg : w.heap[g]? = some (.cells cs t fr))
    (hu : P.underlying ty = some d) (hd : (match d with | .struct _ | .array _ _ => true | _ => false) = true) (hi : (P.info? ty).map (·.size) = some cs.size) :
    (results fn tmps).run P w = .ok (.tuple #[.agg cs, tmps.getD u undef]) w := by
  rw [results_cell_tmp h, hp]
  simp [asAddr, run_loadVar_row w g t ty cs fr d hg hu hd hi]
/-- Two new rows, the second one filled at once. -/
theorem two_rows (w : World) (A : Obj) (old cs : Array Value) (T : TypeId) : ∀ W, W = ((w.alloc A).alloc (.cells old T)).setRow (w.heap.size + 1) cs →
    W.heap[w.heap.size]? = some A ∧ W.heap[w.heap.size + 1]? = some (.cells cs T (0, 0)) ∧ W.heap.size = w.heap.size + 2 ∧ Below w.heap.size w W := by
  rintro W rfl
  refine ⟨?_, setRow_heap _ _ _ cs _ _ (heap_alloc2_new w _ _), by simp, (((Below.refl w.heap.size w).alloc (Nat.le_refl _) _).alloc (by simp) _).trans ⟨rfl, rfl, rfl, by simp, fun k hk => setRow_other _ _ k cs (by omega)⟩⟩
  rw [setRow_other _ _ _ _ (by omega)]
  exact heap_alloc2_old w _ _

set_option maxHeartbeats 400000 in
theorem len_any (b : Nat) (s : List Int) (w : World) (h : Has w b s) : Calls Tryd.prog 22 #[.pointer (some ⟨b, 0, none⟩)] w fun e w' => e = .returned (.int .i64 (s.length : Int)) ∧ w' = w := by
  obtain ⟨st, rest, hB, h1, h2, _⟩ := h
  have c72 := hB.cell h1 h2
  clear hB
  generalize s.length = n at *
  go_enter Tryd.func22, Tryd.ntmps22
  go_wp2
  go_ret
  exact ⟨rfl, rfl⟩

/-- What making a hasher leaves. -/
def Fresh (w : World) (e : Ending) (w' : World) : Prop := ∃ b, e = .returned (.pointer (some ⟨b, 0, none⟩)) ∧ Has w' b [] ∧ w.heap.size ≤ b ∧ Below w.heap.size w w'
def zeroH : List Value := hcells (zeros 8) (List.replicate 64 0) 0
theorem zeroH_length : zeroH.length = 73 := rfl
theorem zero_hasher (W : World) : (zeroValue 65).run Tryd.prog W = .ok (.agg zeroH.toArray) W := by kernel_rfl
theorem has_new (w : World) : Has (w.alloc (.cells zeroH.toArray 65)) w.heap.size [] := by
  refine ⟨zeros 8, List.replicate 64 0, heap_alloc_new w _, rfl, by simp, ?_, .inl rfl⟩
  intro z hz
  obtain ⟨_, rfl⟩ := List.mem_replicate.1 hz
  omega
set_option maxRecDepth 100000 in
set_option maxHeartbeats 800000 in
theorem new_any (w : World) : Calls Tryd.prog 18 #[] w (Fresh w) := by
  have hz := zero_hasher
  go_enter Tryd.func18, Tryd.ntmps18
  go_wp2_with fail
  go_ret
  exact ⟨_, rfl, has_new w, Nat.le_refl _, (Below.refl w.heap.size w).alloc (Nat.le_refl _) _⟩

set_option maxRecDepth 100000 in
set_option maxHeartbeats 1600000 in
theorem sum_any (b : Nat) (s : List Int) (w : World) (h : Has w b s) (hK : KT w) (hn : s.length ≤ 10000000) :
    Calls Tryd.prog 20 #[.pointer (some ⟨b, 0, none⟩)] w fun e w' => e = .returned (.tuple #[.agg (u8s (hashS s)), .int .i64 0]) ∧ Below w.heap.size w w' := by
  obtain ⟨st, rest, hB, h1, h2, h3, h4⟩ := h
  have hlt : b < w.heap.size := lt_of_block hB
  obtain ⟨n, hnn⟩ : ∃ n, n = s.length := ⟨_, rfl⟩
  rw [← hnn] at hB hn
  have HN := Lib.hid hnn
  have HB0 := Lib.hid (show w.heap[b]? = some (.cells (hcells st rest n).toArray 65 (0, 0)) from hB)
  have HST := Lib.hid (And.intro h1 (And.intro h2 (And.intro h3 h4)))
  have SH := Lib.hid (size_hs st rest n h1 h2)
  have HK := Lib.hid hK
  have HLT := Lib.hid hlt
  have n0 : (0 : Int) ≤ (n : Int) := by omega
  have HPAD := Lib.hid (fun w => padding_any n w (by omega))
  have HNL := Lib.hid hn
  have hz := zero_hasher
  have c72 : ∀ (A : Obj) (cs : Array Value), (((w.alloc A).alloc (.cells zeroH.toArray 65)).setRow (w.heap.size + 1) cs).cell? ⟨b, 72, none⟩ = some (.int .i64 (n : Int)) := fun A cs =>
    ((two_rows w A _ cs _ _ rfl).2.2.2.cell (p := ⟨b, 72, none⟩) hlt).trans (hB.cell h1 h2)
  clear hB h1 h2 h3 h4 hK hn hlt hnn
  go_enter Tryd.func20, Tryd.ntmps20
  go_wp2_with (first
    | (with_reducible refine wpList_load_row (o := ⟨some 10, _, _, _, _, _⟩) rfl 65 _ rfl b rfl 65 (hcells st rest n).toArray (0, 0) _ ((Below.heap_alloc w _ b HLT.out).trans HB0.out) Tryd.underlying65 rfl SH.out ?_)
    | (with_reducible refine wpList_store_row (o := ⟨none, .store _ (.tmp 4) _, _, _, _, _⟩) rfl 65 _ _ rfl (w.heap.size + 1) (hcells st rest n).toArray rfl rfl 65 _ (heap_alloc2_new w _ _) SH.out ?c1 (hcells_one st rest n) ?_))
  case c1 => rw [List.size_toArray, List.size_toArray, hcells_length _ _ _ HST.out.1 HST.out.2.1, zeroH_length]
  generalize hW1 : World.setRow _ (w.heap.size + 1) _ = W1
  obtain ⟨r0, r1, rz, rb⟩ := two_rows w (.cells (u8s (List.replicate 32 0)) 24) zeroH.toArray (hcells st rest n).toArray 65 W1 hW1.symm
  clear hW1
  have hB1 : HB W1 (w.heap.size + 1) st rest n := r1
  have hBb : HB W1 b st rest n := (rb.block b HLT.out).trans HB0.out
  have hH1 : Has W1 (w.heap.size + 1) s := ⟨st, rest, by rw [← HN.out]; exact hB1, HST.out⟩
  have HH1 := Lib.hid hH1
  have HR0 := Lib.hid (show ArrB W1 w.heap.size 24 (List.replicate 32 0) from r0)
  have HK1 := Lib.hid (HK.out.below rb HK.out.pos)
  have HB1 := Lib.hid rb
  have HZ1 := Lib.hid rz
  clear r0 r1 rz rb hB1 hBb hH1 c72
  refine (HPAD.out _).mono ?_
  rintro e w2 ⟨v, rfl, hv, hr, ho, hb2⟩
  have hW2 := write_any (w.heap.size + 1) s (pad n) v w2 (by
    obtain ⟨st', rest', h⟩ := HH1.out
    exact ⟨st', rest', (hb2.block _ (by rw [HZ1.out]; omega)).trans h.1, h.2⟩) (HK1.out.below hb2 HK1.out.pos) (by omega) hv hr (ho _ (by rw [HZ1.out]; omega)) (by rw [← HN.out, pad_length]; unfold padZ; have := HNL.out; omega)
  have HW2 := Lib.hid hW2
  have HB2 := Lib.hid (HB1.out.trans (hb2.mono (by rw [HZ1.out]; omega)))
  have HR2 := Lib.hid (HR0.out.below hb2 (by rw [HZ1.out]; omega))
  have HZ2 := Lib.hid (show w.heap.size + 2 ≤ w2.heap.size by rw [← HZ1.out]; exact hb2.size)
  clear hW2 hv hr ho hb2
  go_wp2_with fail
  refine HW2.out.mono ?_
  rintro e w3 ⟨rfl, ⟨st3, rest3, hB3, hT3⟩, hg3⟩
  have HB3 := Lib.hid (HB2.out.grown hg3 (by have := HZ2.out; omega) (fun k hk => by have := Option.some.inj hk; omega))
  have HR3 := Lib.hid (show ArrB w3 w.heap.size 24 (List.replicate 32 0) from (hg3.block _ (by have := HZ2.out; omega) (by intro e; have := Option.some.inj e; omega)).trans HR2.out)
  have hst3 : hashOf st3 = hashS s := by unfold hashS; rw [hT3.1, HN.out]
  have HS3 := Lib.hid hst3
  have HHASH := Lib.hid (fun w => hash_any st3 w hT3.size.1)
  have HRG := Lib.hid (hB3.state hT3.size.1)
  have S8 := Lib.hid (show (Tryd.prog.info? 63).map (·.size) = some (wvs st3).toList.length by rw [Array.length_toList]; exact size_n8 st3 hT3.size.1)
  have HZ3 := Lib.hid (Nat.le_trans HZ2.out hg3.size)
  clear hB3 hT3 hg3 hst3
  go_wp2_with (first
    | (with_reducible refine wpList_load_mid (op := ⟨some 18, _, _, _, _, _⟩) rfl 63 _ rfl (w.heap.size + 1) 0 rfl (wvs st3).toList _ HRG.out Tryd.underlying63 rfl S8.out ?_))
  refine (HHASH.out _).mono ?_
  rintro e w4 ⟨rfl, hb4⟩
  have HR4 := Lib.hid (show w4.heap[w.heap.size]? = some (.cells (u8s (List.replicate 32 0)) 24 (0, 0)) from HR3.out.below hb4 (by have := HZ3.out; omega))
  have HB4 := Lib.hid (HB3.out.trans (hb4.mono (by have := HZ3.out; omega)))
  have SH4 := Lib.hid (size_h32 (hashOf st3) (hashOf_length st3))
  have SE := Lib.hid (show (u8s (List.replicate 32 0)).size = (u8s (hashOf st3)).size by rw [u8s_size, u8s_size, hashOf_length]; rfl)
  clear hb4
  go_wp2_with (first
    | (with_reducible refine wpList_store_row (o := ⟨none, .store _ (.tmp 2) _, _, _, _, _⟩) rfl 24 _ _ rfl w.heap.size (u8s (hashOf st3)) rfl rfl 24 (u8s (List.replicate 32 0)) HR4.out SH4.out SE.out (u8s_one _) ?_))
  refine bodyPost_ret (v := .tuple #[.agg (u8s (hashOf st3)), .int .i64 0]) (results_row_tmp Tryd.results20 _ _ w.heap.size 24 (u8s (hashOf st3)) (0, 0) _ rfl (setRow_heap _ w.heap.size _ (u8s (hashOf st3)) _ _ HR4.out) Tryd.underlying24 rfl SH4.out) rfl ⟨by rw [HS3.out], ?_⟩
  exact HB4.out.trans ⟨rfl, rfl, rfl, by simp, fun k hk => setRow_other _ _ k _ (by omega)⟩

/-- A hasher that nothing has touched is as it was. -/
theorem Has.below {w w' : World} {b B : Nat} {s : List Int} (h : Has w b s) (hb : Below B w w') (hB : b < B) : Has w' b s := by
  obtain ⟨st, rest, h1, h2⟩ := h
  exact ⟨st, rest, (hb.block b hB).trans h1, h2⟩
theorem Has.lt {w : World} {b : Nat} {s : List Int} (h : Has w b s) : b < w.heap.size := by
  obtain ⟨st, rest, h1, _⟩ := h
  exact lt_of_block h1

set_option maxRecDepth 100000 in
set_option maxHeartbeats 1600000 in
theorem shasum_any (l : List Int) (v : Value) (w : World) (hK : KT w) (hv : BS w v l) (hr : Room v) (hn : l.length ≤ 10000000) :
    Calls Tryd.prog 13 #[v] w fun e w' => e = .returned (.agg (u8s (hashS l))) ∧ Below w.heap.size w w' := by
  have HK := Lib.hid hK
  have HV := Lib.hid (And.intro hv hr)
  have HNL := Lib.hid hn
  have hz := zero_hasher
  clear hK hv hr hn
  go_enter Tryd.func13, Tryd.ntmps13
  go_wp2_with fail
  generalize hW1 : (w.alloc _).alloc _ = W1
  have hb1 : Below w.heap.size w W1 := by rw [← hW1]; exact ((Below.refl w.heap.size w).alloc (Nat.le_refl _) _).alloc (by simp) _
  have hz1 : W1.heap.size = w.heap.size + 2 := by rw [← hW1]; simp
  have hh1 : Has W1 (w.heap.size + 1) [] := by
    rw [← hW1]
    have := has_new (w.alloc (.cells (u8s (List.replicate 32 0)) 24))
    rw [World.size_alloc] at this
    exact this
  have hr1 : ArrB W1 w.heap.size 24 (List.replicate 32 0) := by rw [← hW1]; exact heap_alloc2_old w _ _
  clear hW1
  have hw := write_any (w.heap.size + 1) [] l v W1 hh1 (HK.out.below hb1 HK.out.pos) (by omega) (HV.out.1.kept hb1) HV.out.2 (HV.out.1.off_new (by omega)) (by have := HNL.out; simp; omega)
  rw [List.nil_append] at hw
  have HB1 := Lib.hid hb1
  have HZ1 := Lib.hid hz1
  have HR1 := Lib.hid hr1
  have HK1 := Lib.hid (HK.out.below hb1 HK.out.pos)
  have HW := Lib.hid hw
  clear hb1 hz1 hh1 hr1 hw
  refine HW.out.mono ?_
  rintro e w2 ⟨rfl, hr2, hg2⟩
  have HS2 := Lib.hid (sum_any (w.heap.size + 1) l w2 hr2.has (HK1.out.grown hg2 (by omega)) HNL.out)
  have HR2 := Lib.hid (show ArrB w2 w.heap.size 24 (List.replicate 32 0) from (hg2.block _ (by rw [HZ1.out]; omega) (by intro e; have := Option.some.inj e; omega)).trans HR1.out)
  have HB2 := Lib.hid (HB1.out.grown hg2 (by rw [HZ1.out]; omega) (fun k hk => by have := Option.some.inj hk; omega))
  have HZ2 := Lib.hid (show w.heap.size + 2 ≤ w2.heap.size by rw [← HZ1.out]; exact hg2.size)
  clear hr2 hg2
  go_wp2_with fail
  refine HS2.out.mono ?_
  rintro e w3 ⟨rfl, hb3⟩
  have SH := Lib.hid (size_h32 (hashS l) (hashS_length l))
  have SE := Lib.hid (show (u8s (List.replicate 32 0)).size = (u8s (hashS l)).size by rw [u8s_size, u8s_size, hashS_length]; rfl)
  have HR3 := Lib.hid (show w3.heap[w.heap.size]? = some (.cells (u8s (List.replicate 32 0)) 24 (0, 0)) from HR2.out.below hb3 (by have := HZ2.out; omega))
  have HB3 := Lib.hid (HB2.out.trans (hb3.mono (by have := HZ2.out; omega)))
  have HZ3 := Lib.hid (Nat.le_trans HZ2.out hb3.size)
  have HNE := Lib.hid (show w.heap.size ≠ w3.heap.size by have := HZ3.out; omega)
  have HLT := Lib.hid (show w.heap.size < w3.heap.size by have := HZ3.out; omega)
  clear hb3
  go_wp2_with (first
    | (with_reducible refine wpList_store_row (o := ⟨none, .store _ (.tmp 4) _, _, _, _, _⟩) rfl 24 _ _ rfl w3.heap.size (u8s (hashS l)) rfl rfl 24 _ (heap_alloc_new w3 _) SH.out ?c1 (u8s_one _) ?_)
    | (with_reducible refine wpList_load_row (o := ⟨some 12, _, _, _, _, _⟩) rfl 24 _ rfl w3.heap.size rfl 24 (u8s (hashS l)) (0, 0) _ (setRow_heap _ w3.heap.size _ (u8s (hashS l)) _ _ (heap_alloc_new w3 _)) Tryd.underlying24 rfl SH.out ?_)
    | (with_reducible refine wpList_store_row (o := ⟨none, .store _ (.tmp 2) _, _, _, _, _⟩) rfl 24 _ _ rfl w.heap.size (u8s (hashS l)) rfl rfl 24 (u8s (List.replicate 32 0)) ((setRow_other _ _ _ _ HNE.out).trans ((Below.heap_alloc _ _ _ HLT.out).trans HR3.out)) SH.out SE.out (u8s_one _) ?_))
  case c1 => exact SE.out
  have hrow : ∀ W : World, W.heap[w.heap.size]? = some (.cells (u8s (List.replicate 32 0)) 24 (0, 0)) → (W.setRow w.heap.size (u8s (hashS l))).heap[w.heap.size]? = some (.cells (u8s (hashS l)) 24 (0, 0)) := fun W h => setRow_heap W w.heap.size _ _ _ _ h
  refine bodyPost_ret (v := .agg (u8s (hashS l))) (results_cell_row Tryd.results13 _ _ w.heap.size 24 (u8s (hashS l)) (0, 0) _ rfl (hrow _ ((setRow_other _ _ _ _ HNE.out).trans ((Below.heap_alloc _ _ _ HLT.out).trans HR3.out))) Tryd.underlying24 rfl SH.out) rfl ⟨rfl, ?_⟩
  exact below_setRow (below_setRow (HB3.out.alloc (Nat.le_of_lt HLT.out) _) (Nat.le_of_lt HLT.out) _) (Nat.le_refl _) _
end Go.Proofs.YtpmeiadnikenmaaDoor
