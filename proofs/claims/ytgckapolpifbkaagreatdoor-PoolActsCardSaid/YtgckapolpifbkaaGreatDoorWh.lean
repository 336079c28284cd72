import Derived.Test.YtgckapolpifbkaaGreatDoorWg
import Derived.Deep.DeepCutAuto
namespace Go.Proofs.YtgckapolpifbkaaGreatDoor
open Lib (hid)
set_option maxRecDepth 4000
set_option linter.unusedVariables false
open Go.ChangeShapes Go.WideShapes Go.ChangeAt Go.RowKit
theorem results_four {P : Program} {fn : Func} {p q r s : Tmp} {ty : TypeId} (h : fn.results = #[.tmp p,.tmp q,.cell r ty,.tmp s]) (tmps : Array Value) (w : World) (g : Nat) (t : TypeId) (cs : Array Value) (fr : Nat × Nat) (d : TypeDesc)
 (hr : tmps.getD r undef = .pointer (some ⟨g,0,none⟩)) (hg : w.heap[g]? = some (.cells cs t fr))
 (hu : P.underlying ty = some d) (hd : (match d with | .struct _ | .array _ _ => true | _ => false) = true) (hi : (P.info? ty).map (·.size) = some cs.size) (u v x : Value) (hp : tmps.getD p undef = u) (hq : tmps.getD q undef = v) (hs : tmps.getD s undef = x) :
 (results fn tmps).run P w = .ok (.tuple #[u,v,.agg cs,x]) w := by
 have hp' : tmps[p]?.getD undef = u := by simpa using hp
 have hq' : tmps[q]?.getD undef = v := by simpa using hq
 have hr' : tmps[r]?.getD undef = .pointer (some ⟨g,0,none⟩) := by simpa using hr
 have hs' : tmps[s]?.getD undef = x := by simpa using hs
 simp [results,h,hp',hq',hr',hs',asAddr,run_loadVar_row w g t ty cs fr d hg hu hd hi]
theorem fresh13 (w : World) (o1 c1 : Array Value) (T1 : TypeId) : ∀ W,W = (w.alloc (.cells o1 T1)).setRow w.heap.size c1 → W.heap[w.heap.size]? = some (.cells c1 T1 (0,0)) ∧ Below w.heap.size w W := by
 rintro W rfl
 exact ⟨setRow_heap _ _ _ _ _ _ (heap_alloc_new w _),ybelow_row ((Below.refl w.heap.size w).alloc (Nat.le_refl _) _) (Nat.le_refl _) _⟩
section
variable {w0 w w' : World} {P D gl n b : Nat} {ks V : List (BitVec 8)} {F : Nat → Bool} {ws : List (Nat × List (BitVec 8))} {lim : Int} {dn : Bool} {L : List RowE} {M : List Nat}
theorem QL.fresh (h : QL w0 w P D gl n ks F b V ws lim dn L M) (o1 c1 : Array Value) (T1 : TypeId) : ∀ W,W = (w.alloc (.cells o1 T1)).setRow w.heap.size c1 → QL w0 W P D gl n ks F b V ws lim dn ((w.heap.size,c1,T1) :: L) M := fun W hW =>
 h.add (fresh13 w o1 c1 T1 W hW).2 _ _ _ (Nat.le_refl _) (fresh13 w o1 c1 T1 W hW).1
theorem ql_of_po {K : List Nat} (h : PO w0 w K D gl n V ws lim dn) (q : Below w.heap.size w w') (hP : w.heap.size ≤ P) (hp : PL w' P D n ks F b) (hK : KT w0) (hT : TZ w0) : QL w0 w' P D gl n ks F b V ws lim dn [] K := by
 have hlt : ∀ k ∈ K,k < w.heap.size := by obtain ⟨_,_,_,_,a3,_⟩ := h; exact a3
 exact ⟨h.add q P hP hp.lt,hp,Nat.le_trans h.bel.size hP,hK,hT,fun r hr => absurd hr (by simp),fun e => by have := hlt P e; omega⟩
theorem QL.touchM {l : List Nat} (h : QL w0 w P D gl n ks F b V ws lim dn L M) (t : Touch l w w') (hl : ∀ k ∈ l,k ∈ M ∧ w0.heap.size ≤ k) (hr : ∀ r ∈ L,r.1 ∉ l) : QL w0 w' P D gl n ks F b V ws lim dn L M :=
 ⟨h.po.touch t (fun k hk => ⟨List.mem_cons_of_mem _ (List.mem_append_right _ (hl k hk).1),(hl k hk).2⟩),h.pl.touch t (fun e => h.mne (hl P e).1),h.pn,h.kt,h.tz,fun r hm => ⟨(t.block _ (lt_of_block (h.rows r hm).1) (hr r hm)).trans (h.rows r hm).1,(h.rows r hm).2⟩,h.mne⟩
theorem QL.less {L' : List RowE} {M' : List Nat} (h : QL w0 w P D gl n ks F b V ws lim dn L M) (hL : ∀ r ∈ L',r ∈ L) (hM : ∀ k ∈ M',k ∈ M) : QL w0 w P D gl n ks F b V ws lim dn L' M' := by
 have hk : ∀ k ∈ P :: (L'.map (·.1) ++ M'),k ∈ P :: (L.map (·.1) ++ M) := fun k hk => by
  rcases List.mem_cons.1 hk with rfl | hk
  ·exact List.mem_cons_self ..
  ·rcases List.mem_append.1 hk with hk | hk
   ·obtain ⟨r,hr,rfl⟩ := List.mem_map.1 hk
    exact List.mem_cons_of_mem _ (List.mem_append_left _ (List.mem_map_of_mem (hL r hr)))
   ·exact List.mem_cons_of_mem _ (List.mem_append_right _ (hM k hk))
 obtain ⟨bm,vw,a1,a2,a3,a4⟩ := h.po
 exact ⟨⟨bm,vw,a1,fun g hg => ⟨(a2 g hg).1,fun e => (a2 g hg).2 (hk g e)⟩,fun k hm => a3 k (hk k hm),a4⟩,h.pl,h.pn,h.kt,h.tz,fun r hr => h.rows r (hL r hr),fun e => h.mne (hM P e)⟩
end
def macE : List (BitVec 8) := macK masZ
theorem macE_length : macE.length = 32 := macK_length _
theorem keyE_length : keyE.length = 32 := by decide +kernel
theorem yvs_none : ∀ W : World,(zeroValue 30).run Tryz.prog W = .ok (.agg (yvs (zeroY 64))) W := fun W => by kernel_rfl
set_option maxRecDepth 100000 in
set_option maxHeartbeats 3200000 in
theorem made13 (w0 w : World) (n : Nat) (hK : KT w0) (hT : TZ w0) (hb : Below w0.heap.size w0 w) (h0 : 16 ≤ n) (h1 : n ≤ 4096) :
 Calls Tryz.prog 11 #[.int .i64 (n : Int)] w fun e w' => ∃ P D gl,e = .returned (.tuple #[.pointer (some ⟨P,0,none⟩),.pointer (some ⟨D,0,none⟩),.agg (yvs (keyE ++ macE)),.bool true]) ∧ QL w0 w' P D gl n (keyE ++ macE) (allF n) 0 (zeroY (n * 512)) [] (-1) false [] [] ∧ Below w.heap.size w w' := by
 have hz := yvs_none
 have SK := hid (size_keys (keyE ++ macE) (by rw [List.length_append,keyE_length,macE_length]))
 have SE := hid (show (yvs (zeroY 64)).size = (yvs (keyE ++ macE)).size by rw [yvs_size,yvs_size,List.length_append,keyE_length,macE_length]; rfl)
 have HKL := hid (show (keyE ++ macE).length = 64 by rw [List.length_append,keyE_length,macE_length])
 have SO := hid (yvs_one (keyE ++ macE))
 have hb1 := (Below.refl w.heap.size w).alloc (Nat.le_refl _) (.cells (yvs (zeroY 64)) 30)
 have hr1 := heap_alloc_new w (.cells (yvs (zeroY 64)) 30)
 have HD := hid (fun (W : World) => pnew_ok n W h0 h1)
 have HN := hid (And.intro h0 h1)
 have HBW := hid hb
 have HKT := hid (And.intro hK hT)
 generalize hZK : yvs (zeroY 64) = ZK at *
 generalize hw1 : w.alloc (.cells ZK 30) = w1 at *
 have HB1 := hid hb1
 have HR1 := hid hr1
 clear hb hK hT h0 h1 hb1 hr1 hZK
 go_enter Tryz.func11,Tryz.ntmps11
 go_upto_region 1 with fail
 try rw [hw1]
 clear hw1
 go_wp2_with fail
 refine (HD.out w1).mono ?_
 rintro e w2 ⟨rfl,hpd,hb2⟩
 have HPO2 := hid (show PO w0 w2 [w.heap.size] (w1.heap.size + 2) w1.heap.size n (zeroY (n * 512)) [] (-1) false from by
  have hlt := lt_of_block HR1.out
  have h2 := hb2.size
  have h3 := HBW.out.size
  refine ⟨_,_,hpd,fun g hg => ?_,fun k hk => by simp only [List.mem_singleton] at hk; omega,(HBW.out.trans (HB1.out.mono HBW.out.size)).trans (hb2.mono (Nat.le_trans HBW.out.size HB1.out.size))⟩
  simp only [pfp,Value.ownBlock,Option.toList_none,List.mem_cons,List.not_mem_nil,or_false] at hg
  simp only [List.mem_singleton]
  omega)
 have HB2 := hid (HB1.out.trans (hb2.mono HB1.out.size))
 have HR2 := hid ((hb2.block _ (lt_of_block HR1.out)).trans HR1.out)
 clear HD hpd hb2
 generalize w1.heap.size + 2 = D at *
 generalize w1.heap.size = gl at *
 have hcv := conv_const w2 #[.int .u8 109,.int .u8 97,.int .u8 115,.int .u8 116,.int .u8 101,.int .u8 114] 6 6
 have hbl := (Below.refl w2.heap.size w2).alloc (Nat.le_refl _) (.cells #[.int .u8 109,.int .u8 97,.int .u8 115,.int .u8 116,.int .u8 101,.int .u8 114] 5 (6,7))
 have hkt2 : KT (w2.alloc (.cells #[.int .u8 109,.int .u8 97,.int .u8 115,.int .u8 116,.int .u8 101,.int .u8 114] 5 (6,7))) := HKT.out.1.below ((HBW.out.trans (HB2.out.mono HBW.out.size)).trans (hbl.mono (Nat.le_trans HBW.out.size HB2.out.size))) HKT.out.1.pos
 have HDE := hid (pkeysK_any masZ (.slice (some ⟨w2.heap.size,0,none⟩) 6 6) _ (bs_master w2) (room_of _ _ _ (by decide) (by decide)) hkt2 (by decide))
 rw [encK_master,show macK masZ = macE from rfl] at HDE
 have HBL := hid hbl
 clear hbl hkt2 HB1 HR1
 go_wp2_with fail
 refine HDE.out.mono ?_
 rintro e w3 ⟨rfl,hb3⟩
 have HS3 := hid (HBL.out.trans (hb3.mono HBL.out.size))
 clear hcv hb3 HDE HBL
 generalize hKM : keyE ++ macE = KM at *
 have HKM := hid hKM
 generalize hYK : yvs KM = YK at *
 have HYK := hid hYK
 clear hKM hYK
 go_upto_region 3 with (first
  | (with_reducible refine wpList_store_row (o := ⟨none,.store _ (.tmp 8) _,_,_,_,_⟩) rfl 30 _ _ rfl w3.heap.size YK rfl rfl 30 ZK (heap_alloc_new w3 _) SK.out SE.out SO.out ?_))
 generalize hW4 : World.setRow _ w3.heap.size _ = w4
 obtain ⟨r4,b4⟩ := fresh13 w3 ZK YK 30 w4 hW4.symm
 have HS4 := hid (HS3.out.trans (b4.mono HS3.out.size))
 have HPO4 := hid (HPO2.out.below HS4.out)
 have HR4 := hid ((HS4.out.block _ (lt_of_block HR2.out)).trans HR2.out)
 have HX4 := hid r4
 have HXN := hid (show w.heap.size ≠ w3.heap.size from Nat.ne_of_lt (Nat.lt_of_lt_of_le (lt_of_block HR2.out) HS3.out.size))
 have HB4 := hid (HB2.out.trans (HS4.out.mono HB2.out.size))
 clear hW4 r4 b4 HS3 HS4 HB2 HPO2 hz
 generalize w3.heap.size = X at *
 have HNEW := hid (show Calls Tryz.prog 32 #[.pointer (some ⟨D,0,none⟩),.agg YK] w4 fun e w' => ∃ P,w4.heap.size ≤ P ∧ e = .returned (.tuple #[.pointer (some ⟨P,0,none⟩),.int .i64 0]) ∧ PL w' P D n KM (allF n) 0 ∧ Below w4.heap.size w4 w' from by
  obtain ⟨bm,vw,hd,_⟩ := HPO4.out
  rw [← HYK.out]
  exact ppnew_any D gl bm n vw _ _ _ _ KM w4 hd HKL.out HN.out.1 HN.out.2)
 go_wp2_with (first
  | (with_reducible refine wpList_load_row (o := ⟨some 21,_,_,_,_,_⟩) rfl 30 _ rfl X rfl 30 YK (0,0) _ HX4.out Tryz.underlying30 rfl SK.out ?_))
 refine HNEW.out.mono ?_
 rintro e w5 ⟨PP,hP,rfl,hpl,hb5⟩
 have HQ5 := hid (ql_of_po HPO4.out hb5 hP hpl HKT.out.1 HKT.out.2)
 have HB5 := hid (HB4.out.trans (hb5.mono HB4.out.size))
 have HX5 := hid ((hb5.block _ (lt_of_block HX4.out)).trans HX4.out)
 have HR5 := hid ((hb5.block _ (lt_of_block HR4.out)).trans HR4.out)
 have HPG := hid (Nat.lt_of_lt_of_le (lt_of_block HR4.out) hP)
 clear hP hpl hb5 HNEW HPO4 HB4 HX4 HR4
 have HSV := hid (fun (W : World) (hW : W.heap[X]? = w5.heap[X]?) => show W.rangeAt X 0 YK.toList from range_of_row (by rw [Array.toArray_toList]; exact hW.trans HX5.out))
 have SKL := hid (show (Tryz.prog.info? 30).map (·.size) = some YK.toList.length from by rw [Array.length_toList]; exact SK.out)
 go_upto_region 4 with fail
 try simp only [Act.put]
 refine wp_region_noPanic ?_
 refine wp_region_held_drew (S := fun W => W.rangeAt X 0 YK.toList) (by kernel_rfl) (HSV.out w5.drew rfl) (fun hHeld => ?_)
 refine wpAnyH_take (i := 0) (oi := ⟨some 25,_,_,_,_,_⟩) (v := ?_) rfl (by kernel_rfl) (by decide +kernel) (by decide +kernel) (fun _ _ _ h => h) (Or.inl ⟨by rfl, ?_⟩) (by assumption) ?_
 rotate_left 1
 ·(intro w' hSw; go_simp; try with_reducible rfl)
 try simp only [Act.put,List.setIfInBounds_toArray,List.set_cons_zero,List.set_cons_succ]
 refine wpAnyH_take (i := 1) (oi := ⟨some 26,_,_,_,_,_⟩) (v := ?_) rfl (by kernel_rfl) (by decide +kernel) (by decide +kernel) (fun _ _ _ h => h) (Or.inl ⟨by rfl, ?_⟩) (by assumption) ?_
 rotate_left 1
 ·(intro w' hSw; go_simp; try with_reducible rfl)
 try simp only [Act.put,List.setIfInBounds_toArray,List.set_cons_zero,List.set_cons_succ]
 refine wpAnyH_take (i := 2) (oi := ⟨some 27,_,_,_,_,_⟩) rfl (by kernel_rfl) (by decide +kernel) (by decide +kernel) (fun _ _ _ h => h) (yieldsIf_load_mid (by rfl) _ _ rfl X 0 rfl YK.toList _ (fun w' h => h) Tryz.underlying30 rfl SKL.out) (by assumption) ?_
 try simp only [Act.put,List.setIfInBounds_toArray,List.set_cons_zero,List.set_cons_succ,Array.toArray_toList]
 refine wpAnyH_take (i := 3) (oi := ⟨some 28,_,_,_,_,_⟩) (v := ?_) rfl (by kernel_rfl) (by decide +kernel) (by decide +kernel) (fun _ _ _ h => h) (Or.inl ⟨by rfl, ?_⟩) (by assumption) ?_
 rotate_left 1
 ·(intro w' hSw; go_simp; try with_reducible rfl)
 try simp only [Act.put,List.setIfInBounds_toArray,List.set_cons_zero,List.set_cons_succ]
 refine wpAnyH_take (i := 4) (oi := ⟨some 29,_,_,_,_,_⟩) (v := ?_) rfl (by kernel_rfl) (by decide +kernel) (by decide +kernel) (fun _ _ _ h => h) (Or.inl ⟨by rfl, ?_⟩) (by assumption) ?_
 rotate_left 1
 ·(intro w' hSw; go_simp; try with_reducible rfl)
 try simp only [Act.put,List.setIfInBounds_toArray,List.set_cons_zero,List.set_cons_succ]
 refine wpAnyH_take (i := 5) (oi := ⟨some 30,_,_,_,_,_⟩) (v := ?_) rfl (by kernel_rfl) (by decide +kernel) (by decide +kernel) (fun _ _ _ h => h) (Or.inl ⟨by rfl, ?_⟩) (by assumption) ?_
 rotate_left 1
 ·(intro w' hSw; go_simp; try with_reducible rfl)
 try simp only [Act.put,List.setIfInBounds_toArray,List.set_cons_zero,List.set_cons_succ]
 refine wpAnyH_take (i := 6) (oi := ⟨some 31,_,_,_,_,_⟩) (v := ?_) rfl (by kernel_rfl) (by decide +kernel) (by decide +kernel) (fun _ _ _ h => h) (Or.inl ⟨by rfl, ?_⟩) (by assumption) ?_
 rotate_left 1
 ·(intro w' hSw; go_simp; try with_reducible rfl)
 try simp only [Act.put,List.setIfInBounds_toArray,List.set_cons_zero,List.set_cons_succ]
 refine wpAnyH_take (i := 7) (oi := ⟨some 32,_,_,_,_,_⟩) (v := ?_) rfl (by kernel_rfl) (by decide +kernel) (by decide +kernel) (fun _ _ _ h => h) (Or.inl ⟨by rfl, ?_⟩) (by assumption) ?_
 rotate_left 1
 ·(intro w' hSw; go_simp; try with_reducible rfl)
 try simp only [Act.put,List.setIfInBounds_toArray,List.set_cons_zero,List.set_cons_succ]
 refine wpAnyH_take (i := 8) (oi := ⟨some 33,_,_,_,_,_⟩) (v := ?_) rfl (by kernel_rfl) (by decide +kernel) (by decide +kernel) (fun _ _ _ h => h) (Or.inl ⟨by rfl, ?_⟩) (by assumption) ?_
 rotate_left 1
 ·(intro w' hSw; go_simp; try with_reducible rfl)
 try simp only [Act.put,List.setIfInBounds_toArray,List.set_cons_zero,List.set_cons_succ]
 refine wpAnyH_take (i := 9) (oi := ⟨some 34,_,_,_,_,_⟩) (v := ?_) rfl (by kernel_rfl) (by decide +kernel) (by decide +kernel) (fun _ _ _ h => h) (Or.inl ⟨by rfl, ?_⟩) (by assumption) ?_
 rotate_left 1
 ·(intro w' hSw; go_simp; try with_reducible rfl)
 try simp only [Act.put,List.setIfInBounds_toArray,List.set_cons_zero,List.set_cons_succ]
 refine wpAnyH_take (i := 10) (oi := ⟨some 35,_,_,_,_,_⟩) (v := ?_) rfl (by kernel_rfl) (by decide +kernel) (by decide +kernel) (fun _ _ _ h => h) (Or.inl ⟨by rfl, ?_⟩) (by assumption) ?_
 rotate_left 1
 ·(intro w' hSw; go_simp; try with_reducible rfl)
 try simp only [Act.put,List.setIfInBounds_toArray,List.set_cons_zero,List.set_cons_succ]
 refine wpAnyH_take (i := 11) (oi := ⟨some 36,_,_,_,_,_⟩) (v := ?_) rfl (by kernel_rfl) (by decide +kernel) (by decide +kernel) (fun _ _ _ h => h) (Or.inl ⟨by rfl, ?_⟩) (by assumption) ?_
 rotate_left 1
 ·(intro w' hSw; go_simp; try with_reducible rfl)
 try simp only [Act.put,List.setIfInBounds_toArray,List.set_cons_zero,List.set_cons_succ]
 refine wpAnyH_take (i := 12) (oi := ⟨some 37,_,_,_,_,_⟩) (v := ?_) rfl (by kernel_rfl) (by decide +kernel) (by decide +kernel) (fun _ _ _ h => h) (Or.inl ⟨by rfl, ?_⟩) (by assumption) ?_
 rotate_left 1
 ·(intro w' hSw; go_simp; try with_reducible rfl)
 try simp only [Act.put,List.setIfInBounds_toArray,List.set_cons_zero,List.set_cons_succ]
 refine wpAnyH_take (i := 13) (oi := ⟨some 2,_,_,_,_,_⟩) (v := ?_) rfl (by kernel_rfl) (by decide +kernel) (by decide +kernel) (fun _ _ _ h => h) (Or.inl ⟨by rfl, ?_⟩) (by assumption) ?_
 rotate_left 1
 ·(intro w' hSw; go_simp; try with_reducible rfl)
 try simp only [Act.put,List.setIfInBounds_toArray,List.set_cons_zero,List.set_cons_succ]
 refine wpAnyH_take (i := 14) (oi := ⟨some 3,_,_,_,_,_⟩) (v := ?_) rfl (by kernel_rfl) (by decide +kernel) (by decide +kernel) (fun _ _ _ h => h) (Or.inl ⟨by rfl, ?_⟩) (by assumption) ?_
 rotate_left 1
 ·(intro w' hSw; go_simp; try with_reducible rfl)
 try simp only [Act.put,List.setIfInBounds_toArray,List.set_cons_zero,List.set_cons_succ]
 clear hHeld
 refine wpAnyH_ready (rs := [15]) (by decide +kernel) (by simp) ?_
 refine AllReadyH.cons rfl (fun K hK => ?_) AllReadyH.nil
 refine wp_store_row (o := ⟨none,.store _ (.tmp 4) _,_,_,_,_⟩) 30 _ _ rfl w.heap.size YK rfl rfl 30 ZK (show w5.drew.heap[w.heap.size]? = _ from HR5.out) SK.out SE.out SO.out ?_
 refine hK.out _ _ (HSV.out _ (setRow_other _ _ _ _ (Ne.symm HXN.out))) (fun hHeld => ?_)
 clear hK K
 simp only [Act.put]
 refine wpAnyH_take (i := 16) (oi := ⟨some 5,_,_,_,_,_⟩) (v := ?_) rfl (by kernel_rfl) (by decide +kernel) (by decide +kernel) (fun _ _ _ h => h) (Or.inl ⟨by rfl, ?_⟩) (by assumption) ?_
 rotate_left 1
 ·(intro w' hSw; go_simp; try with_reducible rfl)
 try simp only [Act.put,List.setIfInBounds_toArray,List.set_cons_zero,List.set_cons_succ]
 clear hHeld
 refine wpAnyH_done (by decide +kernel) ?_ _
 refine NoPanic.normal ?_
 go_wp2_with fail
 have hrow := setRow_touch w5.drew w.heap.size YK
 have hend := HQ5.out.below ((Below.refl _ _).drew)
 refine bodyPost_ret (v := .tuple #[.pointer (some ⟨PP,0,none⟩),.pointer (some ⟨D,0,none⟩),.agg YK,.bool true]) (results_four Tryz.results11 _ _ w.heap.size 30 YK (0,0) _ rfl (setRow_heap _ w.heap.size _ YK _ _ (show w5.drew.heap[w.heap.size]? = _ from HR5.out)) Tryz.underlying30 rfl SK.out _ _ _ rfl rfl rfl) rfl ?_
 refine ⟨PP,D,gl,by rw [HKM.out,HYK.out], ?_,(HB5.out.trans (Below.refl _ _).drew).trans (hrow.below HB5.out.size (by simp))⟩
 rw [HKM.out]
 exact (hend.touchM hrow (fun k hk => by simp only [List.mem_singleton] at hk; subst hk; exact ⟨List.mem_singleton.2 rfl,HBW.out.size⟩) (fun r hr => absurd hr (by simp))).less (L' := []) (M' := []) (fun r hr => hr) (fun k hk => absurd hk (by simp))
end Go.Proofs.YtgckapolpifbkaaGreatDoor
