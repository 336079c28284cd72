import Derived.Test.YtgckapolpifbkaaGreatDoorWc
import Derived.Defers
namespace Go.Proofs.YtgckapolpifbkaaGreatDoor
open Lib (hid)
set_option maxRecDepth 4000
set_option linter.unusedVariables false
open Go.RowKit
theorem back_same {F : Nat → Bool} {a n : Nat} (ha : F a = true) (h2 : 2 ≤ a) (hn : a < n) : freeA n (updF F a false) a = (0,F) := by
 unfold freeA
 rw [if_neg (by omega),if_neg (by simp [updF])]
 congr 1
 funext x
 unfold updF
 by_cases e : x = a
 ·subst e; simp [ha]
 ·simp [e]
theorem pgive_ok (E X A : Nat) (u : FrameMode) (w : World) (hE : w.cell? ⟨E,0,none⟩ = some (.int .i64 0)) :
 CallsD Tryz.prog 78 #[.pointer (some ⟨E,0,none⟩),.pointer (some ⟨X,0,none⟩),.pointer (some ⟨A,0,none⟩)] u w fun e u' w' => u' = u ∧ (e = .returned (.tuple #[]) ∧ w' = w) := by
 go_enter_d Tryz.func78,Tryz.ntmps78
 go_wp2_with fail
 go_end0
 exact ⟨rfl,rfl⟩
set_option maxHeartbeats 1000000 in
theorem pgive_bad (P D n b a E X A : Nat) (ks : List (BitVec 8)) (F : Nat → Bool) (r : Int) (u : FrameMode) (w : World) (h : PL w P D n ks F b) (hE : w.cell? ⟨E,0,none⟩ = some (.int .i64 r)) (hX : w.cell? ⟨X,0,none⟩ = some (.pointer (some ⟨P,0,none⟩))) (hA : w.cell? ⟨A,0,none⟩ = some (.int .u32 (a : Int))) (hr : r ≠ 0) (hXP : X ≠ P) (hAP : A ≠ P) :
 CallsD Tryz.prog 78 #[.pointer (some ⟨E,0,none⟩),.pointer (some ⟨X,0,none⟩),.pointer (some ⟨A,0,none⟩)] u w fun e u' w' => u' = u ∧ (e = .returned (.tuple #[]) ∧ PL w' P D n ks (freeA n F a).2 b ∧ Touch [P] w w') := by
 have HF := hid (pfree13_any P n a F _ _ w.drew (h.below (Below.refl _ _).drew).sp)
 have HK := hid h.kl
 have HSV := hid (fun (W : World) (hW : Touch [P] w W) => show W.cell? ⟨X,0,none⟩ = some (.pointer (some ⟨P,0,none⟩)) ∧ W.cell? ⟨A,0,none⟩ = some (.int .u32 (a : Int)) from by
  unfold World.cell? at hX hA ⊢
  rw [hW.block X (block_lt_of_cell hX) (by simpa using hXP),hW.block A (block_lt_of_cell hA) (by simpa using hAP)]
  exact ⟨hX,hA⟩)
 have HTD := hid (show Touch [P] w w.drew from Touch.of_below (Below.refl _ _).drew)
 have r0 : (r != 0) = true := by simpa using hr
 clear h hX hA hr
 go_enter_d Tryz.func78,Tryz.ntmps78
 go_upto_region 1 with fail
 try simp only [Act.put]
 refine wp_region_noPanic ?_
 refine wp_region_held_drew (S := fun W => W.cell? ⟨X,0,none⟩ = some (.pointer (some ⟨P,0,none⟩)) ∧ W.cell? ⟨A,0,none⟩ = some (.int .u32 (a : Int))) (by kernel_rfl) (HSV.out _ HTD.out) (fun hHeld => ?_)
 refine wpAnyH_take (i := 0) (oi := ⟨some 5,_,_,_,_,_⟩) (v := ?_) rfl (by kernel_rfl) (by decide +kernel) (by decide +kernel) (fun _ _ _ h => h) (Or.inl ⟨by rfl, ?_⟩) (by assumption) ?_
 rotate_left 1
 ·(intro w' hSw; have hc := hSw.1; clear hSw; go_simp; try with_reducible rfl)
 try simp only [Act.put,List.setIfInBounds_toArray,List.set_cons_zero,List.set_cons_succ]
 refine wpAnyH_take (i := 1) (oi := ⟨some 6,_,_,_,_,_⟩) (v := ?_) rfl (by kernel_rfl) (by decide +kernel) (by decide +kernel) (fun _ _ _ h => h) (Or.inl ⟨by rfl, ?_⟩) (by assumption) ?_
 rotate_left 1
 ·(intro w' hSw; go_simp; try with_reducible rfl)
 try simp only [Act.put,List.setIfInBounds_toArray,List.set_cons_zero,List.set_cons_succ]
 refine wpAnyH_take (i := 2) (oi := ⟨some 7,_,_,_,_,_⟩) (v := ?_) rfl (by kernel_rfl) (by decide +kernel) (by decide +kernel) (fun _ _ _ h => h) (Or.inl ⟨by rfl, ?_⟩) (by assumption) ?_
 rotate_left 1
 ·(intro w' hSw; go_simp; try with_reducible rfl)
 try simp only [Act.put,List.setIfInBounds_toArray,List.set_cons_zero,List.set_cons_succ]
 refine wpAnyH_take (i := 3) (oi := ⟨some 8,_,_,_,_,_⟩) (v := ?_) rfl (by kernel_rfl) (by decide +kernel) (by decide +kernel) (fun _ _ _ h => h) (Or.inl ⟨by rfl, ?_⟩) (by assumption) ?_
 rotate_left 1
 ·(intro w' hSw; have hc := hSw.2; clear hSw; go_simp; try with_reducible rfl)
 try simp only [Act.put,List.setIfInBounds_toArray,List.set_cons_zero,List.set_cons_succ]
 clear hHeld
 refine wpAnyH_ready (rs := [4]) (by decide +kernel) (by simp) ?_
 refine AllReadyH.cons rfl (fun K hK => ?_) AllReadyH.nil
 go_simp
 go_at_call 79
 refine HF.out.mono ?_
 rintro e wt ⟨rfl,hs,ht⟩
 have HQ := hid (show PL wt P D n ks (freeA n F a).2 b ∧ Touch [P] w wt from ⟨⟨hs,HK.out⟩,HTD.out.trans ht⟩)
 clear hs ht HF
 go_wp2_with fail
 refine hK.out _ _ (HSV.out _ HQ.out.2) (fun hHeld => ?_)
 clear hK K hHeld
 try simp only [Act.put,List.setIfInBounds_toArray,List.set_cons_zero,List.set_cons_succ]
 refine wpAnyH_done (by decide +kernel) ?_ _
 refine NoPanic.normal ?_
 go_wp2_with fail
 go_end0
 exact ⟨rfl,HQ.out.1,HQ.out.2⟩
theorem run_loadVar_int (w : World) (e : Nat) (ty : TypeId) (k : IntKind) (v : Value) (hu : Tryz.prog.underlying ty = some (.int k)) (hc : w.cell? ⟨e,0,none⟩ = some v) : (loadVar ty ⟨e,0,none⟩).run Tryz.prog w = .ok v w := by
 simp [loadVar,isAgg,run_underlying hu,go_sem,hc]
theorem results_cells {fn : Func} {p q : Tmp} (h : fn.results = #[.cell p 43,.cell q 47]) (tmps : Array Value) (w : World) (g e : Nat) (t : TypeId) (x : PtrV) (fr : Nat × Nat)
 (hp : tmps.getD p undef = .pointer (some ⟨g,0,none⟩)) (hg : w.heap[g]? = some (.cells (ptrRow x).toArray t fr)) (v : Value) (hq : tmps.getD q undef = .pointer (some ⟨e,0,none⟩)) (hc : w.cell? ⟨e,0,none⟩ = some v) :
 (results fn tmps).run Tryz.prog w = .ok (.tuple #[.agg (ptrRow x).toArray,v]) w := by
 have hp' : tmps[p]?.getD undef = .pointer (some ⟨g,0,none⟩) := by simpa using hp
 have hq' : tmps[q]?.getD undef = .pointer (some ⟨e,0,none⟩) := by simpa using hq
 have r1 := run_loadVar_row (P := Tryz.prog) w g t 43 _ fr _ hg Tryz.underlying43 rfl (size_ptrA x)
 have r2 := run_loadVar_int w e 47 _ v Tryz.underlying47 hc
 simp [results,h,hp',hq',asAddr,r1,r2]
theorem three_new (w : World) (a b c : Obj) : ∀ W,W = ((w.alloc a).alloc b).alloc c → W.heap[w.heap.size]? = some a ∧ W.heap[w.heap.size + 1]? = some b ∧ W.heap[w.heap.size + 1 + 1]? = some c ∧ W.heap.size = w.heap.size + 3 ∧ Below w.heap.size w W := by
 rintro W rfl
 have s1 : (w.alloc a).heap.size = w.heap.size + 1 := by simp
 have s2 : ((w.alloc a).alloc b).heap.size = w.heap.size + 2 := by simp
 refine ⟨?_, ?_, ?_,by simp,((((Below.refl w.heap.size w).alloc (Nat.le_refl _) a).alloc (by omega) b).alloc (by omega) c)⟩
 ·rw [heap_alloc_old _ _ (by omega),heap_alloc_old _ _ (by omega)]; exact heap_alloc_new _ _
 ·rw [heap_alloc_old _ _ (by omega),← s1]; exact heap_alloc_new _ _
 ·rw [← s2]; exact heap_alloc_new _ _
theorem KT.touch13 {w w' : World} {l : List Nat} (h : KT w) (t : Touch l w w') (hg : 0 ∉ l) : KT w' :=
 ⟨Nat.lt_of_lt_of_le h.1 t.size,fun i hi => by
   have := h.2 i hi
   unfold World.cell? at this ⊢
   rw [t.block _ h.1 hg]; exact this⟩
theorem err_world (w : World) (E : Nat) (x u v : Value) (te ta : TypeId) (hE : w.heap[E]? = some (.cells #[u] te (0,0))) : ∀ W,W = (w.alloc (.cells #[x] ta)).setCell ⟨E,0,none⟩ v →
 W.heap[E]? = some (.cells #[v] te (0,0)) ∧ W.heap[w.heap.size]? = some (.cells #[x] ta (0,0)) ∧ Touch [E] w W ∧ W.heap.size = w.heap.size + 1 := by
 rintro W rfl
 have hlt := lt_of_block hE
 have h1 : (w.alloc (.cells #[x] ta)).heap[E]? = some (.cells #[u] te (0,0)) := (heap_alloc_old _ _ hlt).trans hE
 have q := (Only.refl E (w.alloc (.cells #[x] ta))).setCell 0 v
 refine ⟨?_, ?_, ?_, ?_⟩
 ·rw [heap_setCell_same _ _ _ _ _ _ h1]; rfl
 ·rw [q.rest _ (by omega)]; exact heap_alloc_new _ _
 ·exact (Touch.of_below ((Below.refl w.heap.size w).alloc (Nat.le_refl _) _)).trans (Touch.of_only q (List.mem_singleton.2 rfl))
 ·rw [q.size]; simp
theorem res_world (w : World) (Q E : Nat) (R0 R : Array Value) (u v : Value) (tq te : TypeId) (hQ : w.heap[Q]? = some (.cells R0 tq (0,0))) (hE : w.heap[E]? = some (.cells #[u] te (0,0))) (hne : E ≠ Q) : ∀ W,W = (w.setRow Q R).setCell ⟨E,0,none⟩ v →
 W.heap[Q]? = some (.cells R tq (0,0)) ∧ W.heap[E]? = some (.cells #[v] te (0,0)) ∧ Touch [Q,E] w W := by
 rintro W rfl
 have h1 : (w.setRow Q R).heap[E]? = some (.cells #[u] te (0,0)) := (setRow_other _ _ _ _ hne).trans hE
 have q := (Only.refl E (w.setRow Q R)).setCell 0 v
 refine ⟨?_, ?_, ?_⟩
 ·rw [q.rest _ (Ne.symm hne)]; exact setRow_heap _ _ _ _ _ _ hQ
 ·rw [heap_setCell_same _ _ _ _ _ _ h1]; rfl
 ·exact ((setRow_touch w Q R).more (by simp)).trans ((Touch.of_only (l := [E]) q (List.mem_singleton.2 rfl)).more (by simp))
theorem own_cell {w : World} {b t : Nat} {v : Value} (h : w.heap[b]? = some (.cells #[v] t (0,0))) : w.cell? ⟨b,0,none⟩ = some v ∧ w.frozen? ⟨b,0,none⟩ = false := ⟨by rw [cell_of_row _ _ _ _ _ _ h]; rfl,frozen_of_row _ _ _ _ _ h⟩
def PlacePost (P D gl bm n b : Nat) (vw : Value) (V : List (BitVec 8)) (ws : List (Nat × List (BitVec 8))) (lim : Int) (dn : Bool) (a : Nat) (ks : List (BitVec 8)) (F : Nat → Bool) (S : List (BitVec 8)) (PT : PtrV) (w : World) (e : Ending) (w' : World) : Prop :=
 ((goP lim dn).2 = true ∧ e = .returned (.tuple #[.agg (ptrRow zeroPtr).toArray,.int .i64 7]) ∧ PD w' D gl bm n vw V ws (goP lim dn).1 true ∧ PL w' P D n ks F b ∧ Touch (P :: pfp D gl bm vw) w w') ∨
 ((goP lim dn).2 = false ∧ e = .returned (.tuple #[.agg (ptrRow PT).toArray,.int .i64 0]) ∧ PL w' P D n ks (updF F a false) b ∧ ∃ vw',PD w' D gl bm n vw' V (ws ++ [(a,S)]) (goP lim dn).1 false ∧ Touch (P :: pfp D gl bm vw) w w' ∧ ∀ g,vw'.ownBlock = some g → vw.ownBlock = some g ∨ w.heap.size ≤ g)
set_option maxRecDepth 100000 in
set_option maxHeartbeats 3200000 in
theorem pplace_full (P D n b : Nat) (ks : List (BitVec 8)) (F : Nat → Bool) (v : Value) (w : World) (hp : PL w P D n ks F b) (hF : ∀ a,F a = false) :
 Calls Tryz.prog 50 #[.pointer (some ⟨P,0,none⟩),v] w fun e w' => e = .returned (.tuple #[.agg (ptrRow zeroPtr).toArray,.int .i64 6]) ∧ Below w.heap.size w w' := by
 have HPL := hid (fun (W : World) (hW : Below w.heap.size w W) => ptake13_full P n F _ _ W (hp.below hW).sp hF)
 have hz := zero_ptr
 have HBN := hid build_none
 have SZ := hid (size_ptrA zeroPtr)
 have SO := hid (ptrRow_one zeroPtr)
 have hmf : ∀ (fn : Fn) (first cap : Array Value) (w : World),(Instr.makeFunc fn first cap).run Tryz.prog w = .ok (.func fn first cap) w := fun _ _ _ _ => rfl
 obtain ⟨hX,hQ,hE,hsz,hb⟩ := three_new w (.cells #[.pointer (some ⟨P,0,none⟩)] 24) (.cells (ptrRow zeroPtr).toArray 43) (.cells #[.int .i64 0] 47) _ rfl
 clear hp hF
 generalize hPZ : (ptrRow zeroPtr).toArray = PZ at *
 generalize hw3 : ((w.alloc (.cells #[.pointer (some ⟨P,0,none⟩)] 24)).alloc (.cells PZ 43)).alloc (.cells #[.int .i64 0] 47) = w3 at *
 have hcX : w3.cell? ⟨w.heap.size,0,none⟩ = some (.pointer (some ⟨P,0,none⟩)) := by rw [cell_of_row _ _ _ _ _ _ hX]; rfl
 have hcE : w3.cell? ⟨w.heap.size + 1 + 1,0,none⟩ = some (.int .i64 0) := by rw [cell_of_row _ _ _ _ _ _ hE]; rfl
 have hfE : w3.frozen? ⟨w.heap.size + 1 + 1,0,none⟩ = false := frozen_of_row _ _ _ _ _ hE
 have hcA : ∀ o,(w3.alloc o).cell? ⟨w.heap.size + 1 + 1,0,none⟩ = some (.int .i64 0) := fun o => (World.cell?_alloc_past _ _ _ (block_lt_of_cell hcE)).trans hcE
 have hfA : ∀ o,(w3.alloc o).frozen? ⟨w.heap.size + 1 + 1,0,none⟩ = false := fun o => frozen_of_row _ _ _ _ _ ((heap_alloc_old _ _ (Array.getElem?_eq_some_iff.1 hE).1).trans hE)
 have HE := hid hE
 have HQ := hid hQ
 have HSZ := hid hsz
 have HB := hid hb
 have HPZ := hid hPZ
 clear hX hQ hE hsz hb hPZ
 go_enter_defers Tryz.func50,Tryz.ntmps50
 go_upto_region 1 with fail
 try rw [hw3]
 clear hw3 hz
 go_wp2_with fail
 refine (HPL.out w3 HB.out).mono ?_
 rintro e w4 ⟨rfl,rfl⟩
 clear HPL
 go_upto_region 3 with fail
 have hE4 := HE.out
 generalize hw6 : (w4.alloc (.cells #[.int .u32 0] 41)).setCell ⟨w.heap.size + 1 + 1,0,none⟩ (.int .i64 6) = w6
 obtain ⟨he6,_,ht6,_⟩ := err_world w4 _ _ _ _ _ _ hE4 w6 hw6.symm
 have HE6 := hid he6
 have HQ6 := hid ((ht6.block _ (lt_of_block HQ.out) (by simp)).trans HQ.out)
 have HB6 := hid (HB.out.trans (ht6.below HB.out.size (by simp; omega)))
 clear hw6 he6 ht6 hE4 hcX hcE hfE hcA hfA
 have HSV := hid (fun (W : World) (hW : W.heap[w.heap.size + 1 + 1]? = w6.heap[w.heap.size + 1 + 1]?) => own_cell (hW.trans HE6.out))
 try simp only [Act.put]
 refine wp_region_noPanic ?_
 refine wp_region_held_drew (S := fun W => W.cell? ⟨w.heap.size + 1 + 1,0,none⟩ = some (.int .i64 6) ∧ W.frozen? ⟨w.heap.size + 1 + 1,0,none⟩ = false) (by kernel_rfl) (HSV.out w6.drew rfl) (fun hHeld => ?_)
 refine wpAnyH_take (i := 0) (oi := ⟨some 16,_,_,_,_,_⟩) rfl (by kernel_rfl) (by decide +kernel) (by decide +kernel) (fun _ _ _ h => h) (yieldsIf_build6 (by rfl) 43 #[] rfl #[] (.agg PZ) (by simp [Act.eval]) (fun W => HBN.out W)) (by assumption) ?_
 try simp only [Act.put,List.setIfInBounds_toArray,List.set_cons_zero,List.set_cons_succ]
 refine wpAnyH_take (i := 1) (oi := ⟨some 17,_,_,_,_,_⟩) (v := ?_) rfl (by kernel_rfl) (by decide +kernel) (by decide +kernel) (fun _ _ _ h => h) (Or.inl ⟨by rfl, ?_⟩) (by assumption) ?_
 rotate_left 1
 ·(intro w' hSw; have hc := hSw.1; clear hSw; go_simp; try with_reducible rfl)
 try simp only [Act.put,List.setIfInBounds_toArray,List.set_cons_zero,List.set_cons_succ]
 clear hHeld
 refine wpAnyH_ready (rs := [2]) (by decide +kernel) (by simp) ?_
 refine AllReadyH.cons rfl (fun K hK => ?_) AllReadyH.nil
 refine wp_store_row (o := ⟨none,.store _ (.tmp 4) _,_,_,_,_⟩) 43 _ _ rfl (w.heap.size + 1) PZ rfl rfl 43 PZ (show w6.drew.heap[w.heap.size + 1]? = _ from HQ6.out) SZ.out rfl SO.out ?_
 refine hK.out _ _ (HSV.out _ (setRow_other _ _ _ _ (by omega))) (fun hHeld => ?_)
 clear hK K
 simp only [Act.put]
 refine wpAnyH_ready (rs := [3]) (by decide +kernel) (by simp) ?_
 refine AllReadyH.cons rfl (fun K hK => ?_) AllReadyH.nil
 have hc := hHeld.1
 have hf := hHeld.2
 go_simp
 refine hK.out _ _ (own_cell (res_world w6 (w.heap.size + 1) (w.heap.size + 1 + 1) PZ PZ _ (.int .i64 6) _ _ HQ6.out HE6.out (by omega) _ rfl).2.1) (fun hHeld => ?_)
 clear hK K hHeld hc hf
 try simp only [Act.put,List.setIfInBounds_toArray,List.set_cons_zero,List.set_cons_succ]
 refine wpAnyH_done (by decide +kernel) ?_ _
 refine NoPanic.normal ?_
 generalize hw9 : (w6.drew.setRow (w.heap.size + 1) PZ).setCell ⟨w.heap.size + 1 + 1,0,none⟩ (.int .i64 6) = w9
 obtain ⟨hq9,he9,ht9⟩ := res_world w6.drew (w.heap.size + 1) (w.heap.size + 1 + 1) PZ PZ _ (.int .i64 6) _ _ HQ6.out HE6.out (by omega) w9 hw9.symm
 have hb9 : Below w.heap.size w w9 := (HB6.out.trans ((Below.refl _ _).drew)).trans (ht9.below (by have := HB6.out.size; exact this) (by simp; omega))
 clear hw9 ht9
 rw [← HPZ.out] at hq9
 go_wp2_with fail
 refine ⟨_,results_cells Tryz.results50 _ _ _ _ _ zeroPtr _ rfl hq9 _ rfl (own_cell he9).1, ?_,hb9⟩
 rw [HPZ.out]
set_option maxRecDepth 100000 in
set_option maxHeartbeats 3200000 in
theorem pplace_any (P D gl bm n b a cap : Nat) (vw : Value) (V : List (BitVec 8)) (ws : List (Nat × List (BitVec 8))) (lim : Int) (dn : Bool) (k m : List (BitVec 8)) (F : Nat → Bool) (l : List (BitVec 8)) (ad : Option Addr) (w : World)
 (hp : PL w P D n (k ++ m) F b) (hd : PD w D gl bm n vw V ws lim dn) (hne : P ∉ pfp D gl bm vw) (hK : KT w) (hT : TZ w) (hKP : P ≠ 0) (hk : k.length = 32) (hm : m.length = 32) (hl : l.length = 512) (hB : BS w (.slice ad 512 cap) (l.map yv)) (hBP : ∀ W,Touch [P] w W → BS W (.slice ad 512 cap) (l.map yv)) (hb : b < 18446744073709551616) (hb0 : b ≠ 0) (hF : F a = true) (hlow : ∀ x,x < a → F x = false) (hws : ws.length ≤ 1000000) :
 Calls Tryz.prog 50 #[.pointer (some ⟨P,0,none⟩),.slice ad 512 cap] w (PlacePost P D gl bm n b vw V ws lim dn a (k ++ m) F (sealS k b a l) (ptrOf12 b a ((sealS k b a l).map yv)) w) := by
 have hr := hp.sp.own a hF
 have HAN := hid hr
 have HFA := hid hF
 have HPL := hid (fun (W : World) (hW : Below w.heap.size w W) => ptake13_ok P n a F _ _ W (hp.below hW).sp (hT.below hW) hF hlow)
 have HLAY := hid (fun (W : World) (hW : Touch [P] w W) (hq : PL W P D n (k ++ m) (updF F a false) b) => play_any P D gl bm n b a cap vw V ws lim dn k m (updF F a false) l ad W hq (hd.touch hW (fun g hg e => by simp only [List.mem_singleton] at e; exact hne (e ▸ hg))) (hK.touch13 hW (by simpa using fun e => hKP e.symm)) hk hm hl (hBP W hW) hb hb0 hr.1 hr.2 hws)
 have HLD := hid (fun g hg => hd.lt g hg)
 have HNE := hid hne
 have HPLT := hid hp.lt
 have HKL := hid hp.kl
 have hz := zero_ptr
 have hmf : ∀ (fn : Fn) (first cap : Array Value) (w : World),(Instr.makeFunc fn first cap).run Tryz.prog w = .ok (.func fn first cap) w := fun _ _ _ _ => rfl
 have SZ := hid size_ptrA
 have SO := hid ptrRow_one
 have SL := hid (fun x y : PtrV => show (ptrRow x).toArray.size = (ptrRow y).toArray.size by simp [ptrRow_length])
 obtain ⟨hX,hQ,hE,hsz,hb1⟩ := three_new w (.cells #[.pointer (some ⟨P,0,none⟩)] 24) (.cells (ptrRow zeroPtr).toArray 43) (.cells #[.int .i64 0] 47) _ rfl
 clear hp hd hne hK hT hKP hk hm hl hB hBP hb hb0 hF hlow hws hr
 generalize sealS k b a l = S at *
 generalize ptrOf12 b a (S.map yv) = PT at *
 generalize k ++ m = KS at *
 generalize hPZ : (ptrRow zeroPtr).toArray = PZ at *
 generalize hw3 : ((w.alloc (.cells #[.pointer (some ⟨P,0,none⟩)] 24)).alloc (.cells PZ 43)).alloc (.cells #[.int .i64 0] 47) = w3 at *
 have hcX : w3.cell? ⟨w.heap.size,0,none⟩ = some (.pointer (some ⟨P,0,none⟩)) := (own_cell hX).1
 have HX := hid hX
 have HE := hid hE
 have HQ := hid hQ
 have HSZ := hid hsz
 have HB := hid hb1
 have HPZ := hid hPZ
 clear hX hQ hE hsz hb1 hPZ
 go_enter_defers Tryz.func50,Tryz.ntmps50
 go_upto_region 1 with fail
 try rw [hw3]
 clear hw3 hz
 go_wp2_with fail
 refine (HPL.out w3 HB.out).mono ?_
 rintro e w4 ⟨rfl,hs4,ht4⟩
 have HS34 := hid ht4.size
 have HP4 := hid (show PL w4 P D n KS (updF F a false) b from ⟨hs4,HKL.out⟩)
 have HT4 := hid ((Touch.of_below (l := [P]) HB.out).trans ht4)
 have HX4 := hid ((ht4.block _ (lt_of_block HX.out) (by have := HPLT.out; simp; omega)).trans HX.out)
 have HE4 := hid ((ht4.block _ (lt_of_block HE.out) (by have := HPLT.out; simp; omega)).trans HE.out)
 have HQ4 := hid ((ht4.block _ (lt_of_block HQ.out) (by have := HPLT.out; simp; omega)).trans HQ.out)
 have hcA : ∀ o,(w4.alloc o).cell? ⟨w.heap.size + 1 + 1,0,none⟩ = some (.int .i64 0) := fun o => (own_cell ((heap_alloc_old _ _ (Array.getElem?_eq_some_iff.1 HE4.out).1).trans HE4.out)).1
 have hfA : ∀ o,(w4.alloc o).frozen? ⟨w.heap.size + 1 + 1,0,none⟩ = false := fun o => (own_cell ((heap_alloc_old _ _ (Array.getElem?_eq_some_iff.1 HE4.out).1).trans HE4.out)).2
 clear HPL hs4 ht4 hcX HX HE HQ
 go_upto_region 2 with fail
 have hE4 := HE4.out
 generalize hw6 : (w4.alloc (.cells #[.int .u32 (a : Int)] 41)).setCell ⟨w.heap.size + 1 + 1,0,none⟩ (.int .i64 0) = w6
 obtain ⟨he6,ha6,ht6,hs6⟩ := err_world w4 _ _ _ _ _ _ hE4 w6 hw6.symm
 have hge := HT4.out.size
 have h3 := HSZ.out
 have hA3 : w.heap.size + 3 ≤ w4.heap.size := by rw [← h3]; exact HS34.out
 obtain ⟨A,hA⟩ : ∃ A,w4.heap.size = A := ⟨_,rfl⟩
 rw [hA] at ha6 hA3 ⊢
 have HAL := hid hA3
 have HE6 := hid he6
 have HA6 := hid ha6
 have HQ6 := hid ((ht6.block _ (lt_of_block HQ4.out) (by simp)).trans HQ4.out)
 have HX6 := hid ((ht6.block _ (lt_of_block HX4.out) (by simp; omega)).trans HX4.out)
 have HP6 := hid (HP4.out.touch ht6 (by have := HPLT.out; simp; omega))
 have HT6 := hid (HT4.out.trans_new (ht6.below hge (by simp; omega)))
 clear hw6 he6 ha6 ht6 hs6 hE4 hA hA3 hge h3 HE4 HQ4 HX4 HP4 HT4 hcA hfA HSZ HS34
 have hcE := (own_cell HE6.out).1
 have hcA := (own_cell HA6.out).1
 have hcX := (own_cell HX6.out).1
 go_wp2_with fail
 refine (HLAY.out w6 HT6.out HP6.out).mono ?_
 intro e w7 hl
 clear HLAY hcE hcA hcX
 have hpf : ∀ g,w.heap.size ≤ g → g ∉ pfp D gl bm vw := fun g h e => by have := HLD.out g e; omega
 rcases hl with ⟨hg,rfl,hd7,ht7⟩ | ⟨hg,rfl,vw',hd7,ht7,hn7⟩
 ·have HP7 := hid (HP6.out.touch ht7 HNE.out)
  have HE7 := hid ((ht7.block _ (lt_of_block HE6.out) (hpf _ (by omega))).trans HE6.out)
  have HA7 := hid ((ht7.block _ (lt_of_block HA6.out) (hpf _ (by have := HAL.out; omega))).trans HA6.out)
  have HQ7 := hid ((ht7.block _ (lt_of_block HQ6.out) (hpf _ (by omega))).trans HQ6.out)
  have HX7 := hid ((ht7.block _ (lt_of_block HX6.out) (hpf _ (by omega))).trans HX6.out)
  have HT7 := hid ((HT6.out.more (m := P :: pfp D gl bm vw) (by simp)).trans (ht7.more (fun x hx => List.mem_cons_of_mem _ hx)))
  have HD7 := hid hd7
  have HG := hid hg
  have hE8 : (w7.setRow (w.heap.size + 1) PZ).heap[w.heap.size + 1 + 1]? = some (.cells #[.int .i64 0] 47 (0,0)) := (setRow_other _ _ _ _ (by omega)).trans HE7.out
  have hcE8 := (own_cell hE8).1
  have hfE8 := (own_cell hE8).2
  clear hg hd7 ht7 hpf HP6 HE6 HA6 HQ6 HX6 HT6 hE8
  rw [HPZ.out]
  go_wp2_with (first
   | (with_reducible refine wpList_store_row (o := ⟨none,.store _ (.tmp 4) _,_,_,_,_⟩) rfl 43 _ _ rfl (w.heap.size + 1) PZ rfl rfl 43 PZ HQ7.out (by rw [← HPZ.out]; exact SZ.out _) rfl (by rw [← HPZ.out]; exact SO.out _) ?_))
  generalize hw9 : (w7.setRow (w.heap.size + 1) PZ).setCell ⟨w.heap.size + 1 + 1,0,none⟩ (.int .i64 7) = w9
  obtain ⟨hq9,he9,ht9⟩ := res_world w7 (w.heap.size + 1) (w.heap.size + 1 + 1) PZ PZ _ (.int .i64 7) _ _ HQ7.out HE7.out (by omega) w9 hw9.symm
  have hPn : P ∉ [w.heap.size + 1,w.heap.size + 1 + 1] := by have := HPLT.out; simp; omega
  have hX9 := (ht9.block _ (lt_of_block HX7.out) (by simp; omega)).trans HX7.out
  have hA9 := (ht9.block _ (lt_of_block HA7.out) (by have := HAL.out; simp; omega)).trans HA7.out
  have hP9 := HP7.out.touch ht9 hPn
  refine leaves_cons (f := 78) (args := #[.pointer (some ⟨w.heap.size + 1 + 1,0,none⟩),.pointer (some ⟨w.heap.size,0,none⟩),.pointer (some ⟨A,0,none⟩)]) (by simp) (by simp [go_sem]) ?_
  refine (pgive_bad P D n b a (w.heap.size + 1 + 1) w.heap.size A KS (updF F a false) 7 .returning w9 hP9 (own_cell he9).1 (own_cell hX9).1 (own_cell hA9).1 (by decide) (by have := HPLT.out; omega) (by have := HPLT.out; have := HAL.out; omega)).mono ?_
  rintro e u' w10 ⟨rfl,rfl,hp10,ht10⟩
  rw [back_same HFA.out HAN.out.1 HAN.out.2] at hp10
  have hq10 := (ht10.block _ (lt_of_block hq9) (by have := HPLT.out; simp; omega)).trans hq9
  have he10 := (ht10.block _ (lt_of_block he9) (by have := HPLT.out; simp; omega)).trans he9
  have hd10 := (HD7.out.touch ht9 (fun g hg e => by have := HLD.out g hg; simp at e; omega)).touch ht10 (fun g hg e => by simp only [List.mem_singleton] at e; exact HNE.out (e ▸ hg))
  have ht := (HT7.out.trans_new (ht9.below HT7.out.size (by simp; omega))).trans (ht10.more (m := P :: pfp D gl bm vw) (by simp))
  rw [← HPZ.out] at hq10
  exact ⟨_,results_cells Tryz.results50 _ _ _ _ _ zeroPtr _ rfl hq10 _ rfl (own_cell he10).1,.inl ⟨HG.out,rfl,hd10,hp10,ht⟩⟩
 ·have HP7 := hid (HP6.out.touch ht7 HNE.out)
  have HE7 := hid ((ht7.block _ (lt_of_block HE6.out) (hpf _ (by omega))).trans HE6.out)
  have HQ7 := hid ((ht7.block _ (lt_of_block HQ6.out) (hpf _ (by omega))).trans HQ6.out)
  have HT7 := hid ((HT6.out.more (m := P :: pfp D gl bm vw) (by simp)).trans (ht7.more (fun x hx => List.mem_cons_of_mem _ hx)))
  have HD7 := hid hd7
  have HN7 := hid (fun g hg => (hn7 g hg).imp id (fun h => Nat.le_trans (lt_of_block HE6.out) h))
  have HG := hid hg
  obtain ⟨PR,hPR⟩ : ∃ PR,(ptrRow PT).toArray = PR := ⟨_,rfl⟩
  have HPR := hid hPR
  have hE8 : (w7.setRow (w.heap.size + 1) PR).heap[w.heap.size + 1 + 1]? = some (.cells #[.int .i64 0] 47 (0,0)) := (setRow_other _ _ _ _ (by omega)).trans HE7.out
  have hcE8 := (own_cell hE8).1
  have hfE8 := (own_cell hE8).2
  rw [hPR]
  clear hg hd7 ht7 hpf HP6 HE6 HA6 HQ6 HX6 HT6 hE8 hn7 hPR
  go_wp2_with (first
   | (with_reducible refine wpList_store_row (o := ⟨none,.store _ (.tmp 4) _,_,_,_,_⟩) rfl 43 _ _ rfl (w.heap.size + 1) PR rfl rfl 43 PZ HQ7.out (by rw [← HPR.out]; exact SZ.out _) (by rw [← HPR.out,← HPZ.out]; exact SL.out _ _) (by rw [← HPR.out]; exact SO.out _) ?_))
  generalize hw9 : (w7.setRow (w.heap.size + 1) PR).setCell ⟨w.heap.size + 1 + 1,0,none⟩ (.int .i64 0) = w9
  obtain ⟨hq9,he9,ht9⟩ := res_world w7 (w.heap.size + 1) (w.heap.size + 1 + 1) PZ PR _ (.int .i64 0) _ _ HQ7.out HE7.out (by omega) w9 hw9.symm
  have hPn : P ∉ [w.heap.size + 1,w.heap.size + 1 + 1] := by have := HPLT.out; simp; omega
  have hP9 := HP7.out.touch ht9 hPn
  refine leaves_cons (f := 78) (args := #[.pointer (some ⟨w.heap.size + 1 + 1,0,none⟩),.pointer (some ⟨w.heap.size,0,none⟩),.pointer (some ⟨A,0,none⟩)]) (by simp) (by simp [go_sem]) ?_
  refine (pgive_ok (w.heap.size + 1 + 1) w.heap.size A .returning w9 (own_cell he9).1).mono ?_
  rintro e u' w10 ⟨rfl,rfl,rfl⟩
  have hd9 := HD7.out.touch ht9 (fun g hg e => by
   simp only [pfp,List.mem_cons,Option.mem_toList] at hg
   have hl := fun g hg => HLD.out g hg
   simp only [pfp,List.mem_cons,Option.mem_toList] at hl
   have hlt : g < w.heap.size ∨ w.heap.size + 1 + 1 < g := by
    rcases hg with h | h | h | h
    ·exact .inl (hl g (.inl h))
    ·exact .inl (hl g (.inr (.inl h)))
    ·exact .inl (hl g (.inr (.inr (.inl h))))
    ·rcases HN7.out g h with h | h
     ·exact .inl (hl g (.inr (.inr (.inr h))))
     ·exact .inr h
   simp at e
   omega)
  have ht := HT7.out.trans_new (ht9.below HT7.out.size (by simp; omega))
  rw [← HPR.out] at hq9
  refine ⟨_,results_cells Tryz.results50 _ _ _ _ _ PT _ rfl hq9 _ rfl (own_cell he9).1,.inr ⟨HG.out,rfl,hP9,vw',hd9,ht,fun g hg => (HN7.out g hg).imp id (fun h => by omega)⟩⟩
end Go.Proofs.YtgckapolpifbkaaGreatDoor
