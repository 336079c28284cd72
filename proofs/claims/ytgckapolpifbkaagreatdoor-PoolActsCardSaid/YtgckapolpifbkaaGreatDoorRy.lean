import Derived.Test.YtgckapolpifbkaaGreatDoorNo1
import Derived.Test.YtgckapolpifbkaaGreatDoorRf
namespace Go.Proofs.YtgckapolpifbkaaGreatDoor
open Lib (hid)
set_option maxRecDepth 4000
set_option linter.unusedVariables false
open Go.ChangeShapes Go.WideShapes Go.ChangeAt Go.RowKit
def Few9 (n : NodeV) : Prop := n.ks.length ≤ 255 ∧ n.vs.length ≤ 255 ∧ n.ps.length ≤ 256
structure OB (w1 w : World) (v : Value) (l : List Int) : Prop where
 own : w.ownsRow w1.heap.size 5 1 v l.length (l.map (Value.int .u8))
 byt : Byt l
 bel : Below w1.heap.size w1 w
theorem OB.more {w1 w : World} {v : Value} {l m : List Int} (h : OB w1 w v l) (e : l = m) : OB w1 w v m := e ▸ h
theorem ob_lit (w1 w : World) (x y : Int) (hx : 0 ≤ x ∧ x ≤ 255) (hy : 0 ≤ y ∧ y ≤ 255) (hb : Below w1.heap.size w1 w) : OB w1 (w.alloc (.cells #[.int .u8 x,.int .u8 y] 5)) (.slice (some ⟨w.heap.size,0,none⟩) 2 2) [x,y] :=
 ⟨World.ownsRow_lit (base := w1.heap.size) (e := 5) (size := 1) w #[.int .u8 x,.int .u8 y] 2 hb.size (by unfold maxLen; omega) rfl,fun z hz => by
   rcases List.mem_cons.1 hz with rfl | hz
   ·exact hx
   ·rw [List.mem_singleton.1 hz]; exact hy,hb.alloc hb.size _⟩
theorem ob_append {w1 w w' : World} {v vx : Value} {l x : List Int} (h : OB w1 w v l) (hb : Below w.heap.size w w') (hx : BS w' vx x) (h63 : l.length + x.length ≤ 140737488351232) :
 ∃ v' w'',(Builtin.append_ #[62,62] 62 #[v,vx]).run Tryz.prog w' = .ok v' w'' ∧ OB w1 w'' v' (l ++ x) := by
 have hB := h.bel.trans (hb.mono h.bel.size)
 have ho := own_belowP h.own hb
 obtain ⟨v',w'',h1,h2,h3,_⟩ := run_append_BS_at w' w1.heap.size l.length v vx _ x ho hx h63 hB.size
 refine ⟨v',w'',h1,⟨by rw [List.length_append,List.map_append]; exact h2,fun z hz => ?_,hB.trans (grown_below9 h3 hB.size (fun g e => (ho.lt g e).1))⟩⟩
 rcases List.mem_append.1 hz with hz | hz
 ·exact h.byt z hz
 ·exact hx.byt z hz
theorem rkey_any (s : ByteArray) (w : World) (hs : s.size ≤ 255) :
 Calls Tryz.prog 122 #[.string s] w fun e w' => ∃ v,e = .returned v ∧ BS w' v (keyB9 s) ∧ Below w.heap.size w w' := by
 refine (rstr7_any s w hs).mono ?_
 rintro e w' ⟨a,c,rfl,ho,hb⟩
 refine ⟨_,rfl, ?_,hb⟩
 rw [keyB_small hs]
 exact BS.of_own ho (by simp [btxt_length]; omega) (by rw [← keyB_small hs]; exact keyB9_byt s)
theorem own_base {w : World} {B B' n k : Nat} {e : TypeId} {v : Value} {xs : List Value} (h : w.ownsRow B e k v n xs) (hb : B' ≤ B) : w.ownsRow B' e k v n xs := by
 refine ⟨h.1, ?_⟩
 rcases h.2 with q | ⟨g,cap,cur,e1,e2,q⟩
 ·exact .inl q
 ·exact .inr ⟨g,cap,cur,e1,Nat.le_trans hb e2,q⟩
set_option maxRecDepth 100000 in
set_option maxHeartbeats 3200000 in
theorem rbytes_true (k v p : Value) (l m : List ByteArray) (q : List PtrV) (w : World) (h : NR w k v p ⟨true,l,m,q⟩) (hf : formB ⟨true,l,m,q⟩ = true) (hfew : Few9 ⟨true,l,m,q⟩) :
 Calls Tryz.prog 98 #[.agg #[.bool true,k,v,p]] w fun e w' => ∃ vb,e = .returned vb ∧ OB w w' vb (nodeB ⟨true,l,m,q⟩) := by
 have hb1 := (Below.refl w.heap.size w).alloc (Nat.le_refl _) (.cells #[.bool true,k,v,p] 38)
 have hA1 := heap_alloc_new w (.cells #[.bool true,k,v,p] 38)
 have hs1 : w.heap.size < (w.alloc (.cells #[.bool true,k,v,p] 38)).heap.size := by simp
 generalize hw1 : w.alloc (.cells #[.bool true,k,v,p] 38) = w1 at *
 have hh := h.below hb1
 have HKS := hid (fun W (b : Below w1.heap.size w1 W) => (hh.below b).ks)
 have HVS := hid (fun W (b : Below w1.heap.size w1 W) => (hh.below b).vs)
 obtain ⟨ak,ck,hke,_,hk⟩ := hh.ks
 obtain ⟨av,cv,hve,_,hv⟩ := hh.vs
 obtain ⟨ap,cp,hpe,hp⟩ := hh.ps
 dsimp only at hke hve hpe hk hv hp
 subst hke hve hpe
 have HK := hid hk
 have HV := hid hv
 have HP := hid hp
 have hsm := form_small hf
 have HKZ := hid (show ∀ s ∈ l,s.size ≤ 255 from fun s hs => Nat.le_trans (hsm.1 s hs) (by decide))
 have HVZ := hid (show ∀ s ∈ m,s.size ≤ 255 from fun s hs => Nat.le_trans (hsm.2 s hs) (by decide))
 have hcn := counts_leaf rfl (form_counts hf)
 have HVL := hid (show m.length = l.length from hcn.1)
 have HNB := hid (show nodeB ⟨true,l,m,q⟩ = (1 :: (l.length : Int) :: (l.zip m).flatMap pairB) from rfl)
 have HBX := hid (fun i => show (((l.zip m).take i).flatMap pairB).length ≤ i * 512 from Nat.le_trans (flat_length _ 512 _ (fun x _ => pairB_length x)) (Nat.mul_le_mul_right _ (by rw [List.length_take]; omega)))
 have HTK := hid (show ∀ i,l.length ≤ i → ((l.zip m).take i).flatMap pairB = (l.zip m).flatMap pairB from fun i hi => by rw [List.take_of_length_le (by rw [List.length_zip]; omega)])
 clear hcn
 have f1 : l.length ≤ 255 := hfew.1
 have f2 : m.length ≤ 255 := hfew.2.1
 have f3 : q.length ≤ 256 := hfew.2.2
 obtain ⟨N,hN⟩ : ∃ N,l.length = N := ⟨_,rfl⟩
 obtain ⟨M,hM⟩ : ∃ M,m.length = M := ⟨_,rfl⟩
 obtain ⟨Q,hQ⟩ : ∃ Q,q.length = Q := ⟨_,rfl⟩
 have HN := hid hN
 have HM := hid hM
 have HQ := hid hQ
 rw [hN] at hw1 hA1 f1 HNB
 rw [hM] at hw1 hA1 f2
 rw [hQ] at hw1 hA1 f3
 rw [hN,hM,hQ]
 have NI : (N : Int) ≤ 255 := by omega
 have MI : (M : Int) ≤ 255 := by omega
 have QI : (Q : Int) ≤ 256 := by omega
 have N0 : (0 : Int) ≤ (N : Int) := by omega
 have M0 : (0 : Int) ≤ (M : Int) := by omega
 have Q0 : (0 : Int) ≤ (Q : Int) := by omega
 have HLI := hid (And.intro f1 (And.intro f2 f3))
 have xw : IntKind.u8.wrap (N : Int) = (N : Int) := IntWalk.u8_in _ (by omega)
 have HBW := hid hb1
 have HA := hid (fun W (b : Below w1.heap.size w1 W) => (b.block w.heap.size hs1).trans hA1)
 have HS1 := hid hs1
 obtain ⟨c0,c1,c2,c3⟩ := node_at hA1
 have HO0 := hid (fun x (h0 : 0 ≤ x ∧ x ≤ 255) => ob_lit w1 w1 x (N : Int) h0 (by omega) (Below.refl _ _))
 clear h hh hf hfew hsm hk hv hp hN hM hQ hA1 hb1 hs1 f1 f2 f3
 go_enter Tryz.func98,Tryz.ntmps98
 go_upto_region 1 with fail
 try rw [hw1]
 clear hw1
 go_upto_region 3 with fail
 have HO1 := hid (HO0.out 1 (by decide))
 generalize hw2 : w1.alloc (.cells #[.int .u8 1,.int .u8 (N : Int)] 5) = w2 at *
 obtain ⟨d0,d1,d2,d3⟩ := node_at (HA.out w2 HO1.out.bel)
 clear hw2 HO0 c0 c1 c2 c3
 go_wp2_with fail
 clear d0 d1 d2 d3
 go_loopw [3,4,20] (fun v3 _ v20 wr => ∃ i : Nat,i ≤ N ∧ v20 = .int .i64 (i : Int) ∧ OB w1 wr v3 ([1,(N : Int)] ++ ((l.zip m).take i).flatMap pairB)) (fun _ _ v _ => N - (intOf v).toNat)
 case atStart => exact ⟨0,by omega,rfl,HO1.out.more (by simp)⟩
 case round =>
  clear HO1
  obtain ⟨i,hi,rfl,hO⟩ := hrel
  by_cases hlt : i < N
  ·obtain ⟨x,hx⟩ : ∃ x,l[i]? = some x := ⟨_,List.getElem?_eq_getElem (by have := HN.out; omega)⟩
   obtain ⟨y,hy⟩ : ∃ y,m[i]? = some y := ⟨_,List.getElem?_eq_getElem (by have := HN.out; have := HVL.out; omega)⟩
   obtain ⟨bk,ok,rfl,gk⟩ := HK.out i x hx
   obtain ⟨bv,ov,rfl,gv⟩ := HV.out i y hy
   have hix := index_sl bk ok N ck i hlt
   have hiy := index_sl bv ov M cv i (by have := HM.out; have := HN.out; have := HVL.out; omega)
   have gx := (hO.bel.cell (block_lt_of_cell gk)).trans gk
   obtain ⟨d0,d1,d2,d3⟩ := node_at (HA.out _ hO.bel)
   have HLX := hid (show ([1,(N : Int)] ++ ((l.zip m).take i).flatMap pairB).length ≤ 2 + i * 512 by have := HBX.out i; simp only [List.length_append,List.length_cons,List.length_nil]; omega)
   have HNX := hid (show ((l.zip m).take (i + 1)).flatMap pairB = ((l.zip m).take i).flatMap pairB ++ (keyB9 x ++ keyB9 y) from flat_step pairB (l.zip m) i (x,y) (by rw [List.getElem?_zip_eq_some]; exact ⟨hx,hy⟩))
   have HKX := hid (fun W => rkey_any x W (HKZ.out x (List.mem_of_getElem? hx)))
   have HKY := hid (fun W => rkey_any y W (HVZ.out y (List.mem_of_getElem? hy)))
   have HGV := hid gv
   have HLT := hid hlt
   have HI := hid hi
   have HO := hid hO
   have iI : (i : Int) < (N : Int) := by omega
   have iM : (i : Int) < (M : Int) := by have := HM.out; have := HN.out; have := HVL.out; omega
   have i0 : (0 : Int) ≤ (i : Int) := by omega
   clear hi hlt hx hy hO gk gv
   go_wp2_with fail
   refine (HKX.out _).mono ?_
   rintro e w4 ⟨vk,rfl,hbs,hb4⟩
   obtain ⟨v5,w5,hr5,hO5⟩ := ob_append HO.out hb4 hbs (by have := HLX.out; have := keyB9_length x; have := HI.out; have := HLI.out; omega)
   have HR5 := hid hr5
   have HO5 := hid hO5
   have gy := (hO5.bel.cell (block_lt_of_cell HGV.out)).trans HGV.out
   obtain ⟨e0,e1,e2,e3⟩ := node_at (HA.out _ hO5.bel)
   clear hr5 hO5 hbs hb4 HKX HO gx d0 d1 d2 d3
   go_wp2_with (first
    | (at_builtin; refine wpList_append_run (o := ⟨some 30,_,_,_,_,_⟩) rfl _ _ _ _ rfl _ _ _ _ rfl rfl HR5.out ?_))
   refine (HKY.out _).mono ?_
   rintro e w6 ⟨vm,rfl,hbs,hb6⟩
   obtain ⟨v7,w7,hr7,hO7⟩ := ob_append HO5.out hb6 hbs (by have := HLX.out; have := keyB9_length x; have := keyB9_length y; have := HI.out; have := HLI.out; rw [List.length_append]; omega)
   have HR7 := hid hr7
   have HO7 := hid hO7
   clear hr7 hO7 hbs hb6 HKY HO5 gy e0 e1 e2 e3 HR5
   go_wp2_with (first
    | (at_builtin; refine wpList_append_run (o := ⟨some 38,_,_,_,_,_⟩) rfl _ _ _ _ rfl _ _ _ _ rfl rfl HR7.out ?_))
   go_roundw
   case rel => exact ⟨i + 1,by have := HLT.out; omega,by go_num,HO7.out.more (by rw [HNX.out]; simp)⟩
   case measure => simp [intOf]; have := HLT.out; omega
  ·obtain rfl : i = N := by omega
   rw [HTK.out i (by have := HN.out; omega)] at hO
   have HF := hid (hO.more (show _ = nodeB ⟨true,l,m,q⟩ by rw [HNB.out]; rfl))
   clear hi hlt hO
   go_wp2_with fail
   go_ret
   exact ⟨_,rfl,⟨own_base HF.out.own HBW.out.size,HF.out.byt,HBW.out.trans (HF.out.bel.mono HBW.out.size)⟩⟩
set_option maxRecDepth 100000 in
set_option maxHeartbeats 3200000 in
theorem rbytes_false (k v p : Value) (l m : List ByteArray) (q : List PtrV) (w : World) (h : NR w k v p ⟨false,l,m,q⟩) (hf : formB ⟨false,l,m,q⟩ = true) (hfew : Few9 ⟨false,l,m,q⟩) :
 Calls Tryz.prog 98 #[.agg #[.bool false,k,v,p]] w fun e w' => ∃ vb,e = .returned vb ∧ OB w w' vb (nodeB ⟨false,l,m,q⟩) := by
 have hb1 := (Below.refl w.heap.size w).alloc (Nat.le_refl _) (.cells #[.bool false,k,v,p] 38)
 have hA1 := heap_alloc_new w (.cells #[.bool false,k,v,p] 38)
 have hs1 : w.heap.size < (w.alloc (.cells #[.bool false,k,v,p] 38)).heap.size := by simp
 generalize hw1 : w.alloc (.cells #[.bool false,k,v,p] 38) = w1 at *
 have hh := h.below hb1
 have HKS := hid (fun W (b : Below w1.heap.size w1 W) => (hh.below b).ks)
 have HVS := hid (fun W (b : Below w1.heap.size w1 W) => (hh.below b).vs)
 obtain ⟨ak,ck,hke,_,hk⟩ := hh.ks
 obtain ⟨av,cv,hve,_,hv⟩ := hh.vs
 obtain ⟨ap,cp,hpe,hp⟩ := hh.ps
 dsimp only at hke hve hpe hk hv hp
 subst hke hve hpe
 have HK := hid hk
 have HV := hid hv
 have HP := hid hp
 have hsm := form_small hf
 have HKZ := hid (show ∀ s ∈ l,s.size ≤ 255 from fun s hs => Nat.le_trans (hsm.1 s hs) (by decide))
 have HVZ := hid (show ∀ s ∈ m,s.size ≤ 255 from fun s hs => Nat.le_trans (hsm.2 s hs) (by decide))
 have HNB := hid (show nodeB ⟨false,l,m,q⟩ = (2 :: (l.length : Int) :: (l.flatMap keyB9 ++ q.flatMap ptrB)) from rfl)
 have HBX := hid (fun i => show ((l.take i).flatMap keyB9).length ≤ i * 512 from Nat.le_trans (flat_length _ 512 _ (fun x _ => Nat.le_trans (keyB9_length x) (by decide))) (Nat.mul_le_mul_right _ (by rw [List.length_take]; omega)))
 have HBK := hid (fun i => show ((q.take i).flatMap ptrB).length ≤ i * 44 from Nat.le_trans (flat_length _ 44 _ (fun x _ => by rw [ptrB_length]; exact Nat.le_refl _)) (Nat.mul_le_mul_right _ (by rw [List.length_take]; omega)))
 have HTK := hid (show ∀ i,l.length ≤ i → (l.take i).flatMap keyB9 = l.flatMap keyB9 from fun i hi => by rw [List.take_of_length_le hi])
 have HTP := hid (show ∀ i,q.length ≤ i → (q.take i).flatMap ptrB = q.flatMap ptrB from fun i hi => by rw [List.take_of_length_le hi])
 have f1 : l.length ≤ 255 := hfew.1
 have f2 : m.length ≤ 255 := hfew.2.1
 have f3 : q.length ≤ 256 := hfew.2.2
 obtain ⟨N,hN⟩ : ∃ N,l.length = N := ⟨_,rfl⟩
 obtain ⟨M,hM⟩ : ∃ M,m.length = M := ⟨_,rfl⟩
 obtain ⟨Q,hQ⟩ : ∃ Q,q.length = Q := ⟨_,rfl⟩
 have HN := hid hN
 have HM := hid hM
 have HQ := hid hQ
 rw [hN] at hw1 hA1 f1 HNB
 rw [hM] at hw1 hA1 f2
 rw [hQ] at hw1 hA1 f3
 rw [hN,hM,hQ]
 have NI : (N : Int) ≤ 255 := by omega
 have MI : (M : Int) ≤ 255 := by omega
 have QI : (Q : Int) ≤ 256 := by omega
 have N0 : (0 : Int) ≤ (N : Int) := by omega
 have M0 : (0 : Int) ≤ (M : Int) := by omega
 have Q0 : (0 : Int) ≤ (Q : Int) := by omega
 have HLI := hid (And.intro f1 (And.intro f2 f3))
 have xw : IntKind.u8.wrap (N : Int) = (N : Int) := IntWalk.u8_in _ (by omega)
 have HBW := hid hb1
 have HA := hid (fun W (b : Below w1.heap.size w1 W) => (b.block w.heap.size hs1).trans hA1)
 have HS1 := hid hs1
 obtain ⟨c0,c1,c2,c3⟩ := node_at hA1
 have HO0 := hid (fun x (h0 : 0 ≤ x ∧ x ≤ 255) => ob_lit w1 w1 x (N : Int) h0 (by omega) (Below.refl _ _))
 clear h hh hf hfew hsm hk hv hp hN hM hQ hA1 hb1 hs1 f1 f2 f3
 go_enter Tryz.func98,Tryz.ntmps98
 go_upto_region 1 with fail
 try rw [hw1]
 clear hw1
 go_upto_region 11 with fail
 have HO1 := hid (HO0.out 2 (by decide))
 generalize hw2 : w1.alloc (.cells #[.int .u8 2,.int .u8 (N : Int)] 5) = w2 at *
 obtain ⟨d0,d1,d2,d3⟩ := node_at (HA.out w2 HO1.out.bel)
 clear hw2 HO0 c0 c1 c2 c3
 go_wp2_with fail
 clear d0 d1 d2 d3
 go_loopw [5,7,49] (fun v5 _ v49 wr => ∃ i : Nat,i ≤ N ∧ v49 = .int .i64 (i : Int) ∧ OB w1 wr v5 ([2,(N : Int)] ++ (l.take i).flatMap keyB9)) (fun _ _ v _ => N - (intOf v).toNat)
 case atStart => exact ⟨0,by omega,rfl,HO1.out.more (by simp)⟩
 case round =>
  clear HO1
  obtain ⟨i,hi,rfl,hO⟩ := hrel
  by_cases hlt : i < N
  ·obtain ⟨x,hx⟩ : ∃ x,l[i]? = some x := ⟨_,List.getElem?_eq_getElem (by have := HN.out; omega)⟩
   obtain ⟨bk,ok,rfl,gk⟩ := HK.out i x hx
   have hix := index_sl bk ok N ck i hlt
   have gx := (hO.bel.cell (block_lt_of_cell gk)).trans gk
   have HLX := hid (show ([2,(N : Int)] ++ (l.take i).flatMap keyB9).length ≤ 2 + i * 512 by have := HBX.out i; simp only [List.length_append,List.length_cons,List.length_nil]; omega)
   have HNX := hid (show (l.take (i + 1)).flatMap keyB9 = (l.take i).flatMap keyB9 ++ keyB9 x from flat_step keyB9 l i x hx)
   have HKX := hid (fun W => rkey_any x W (HKZ.out x (List.mem_of_getElem? hx)))
   have HLT := hid hlt
   have HI := hid hi
   have HO := hid hO
   have iI : (i : Int) < (N : Int) := by omega
   have i0 : (0 : Int) ≤ (i : Int) := by omega
   clear hi hlt hx hO gk
   go_wp2_with fail
   refine (HKX.out _).mono ?_
   rintro e w4 ⟨vk,rfl,hbs,hb4⟩
   obtain ⟨v6,w6,hr6,hO6⟩ := ob_append HO.out hb4 hbs (by have := HLX.out; have := keyB9_length x; have := HI.out; have := HLI.out; omega)
   have HR6 := hid hr6
   have HO6 := hid hO6
   clear hr6 hO6 hbs hb4 HKX HO gx
   go_wp2_with (first
    | (at_builtin; refine wpList_append_run (o := ⟨some 56,_,_,_,_,_⟩) rfl _ _ _ _ rfl _ _ _ _ rfl rfl HR6.out ?_))
   go_roundw
   case rel => exact ⟨i + 1,by have := HLT.out; omega,by go_num,HO6.out.more (by rw [HNX.out,List.append_assoc])⟩
   case measure => simp [intOf]; have := HLT.out; omega
  ·obtain rfl : i = N := by omega
   rw [HTK.out i (by have := HN.out; omega)] at hO
   have HO := hid hO
   have HLX := hid (show ([2,(i : Int)] ++ l.flatMap keyB9).length ≤ 2 + i * 512 by have := HBX.out i; rw [HTK.out i (by have := HN.out; omega)] at this; simp only [List.length_append,List.length_cons,List.length_nil]; omega)
   obtain ⟨d0,d1,d2,d3⟩ := node_at (HA.out _ hO.bel)
   clear hi hlt hO HK HTK HBX
   go_wp2_with fail
   clear d0 d1 d2 d3
   go_loopw [5,61] (fun v5 v61 wr => ∃ j : Nat,j ≤ Q ∧ v61 = .int .i64 (j : Int) ∧ OB w1 wr v5 (([2,(i : Int)] ++ l.flatMap keyB9) ++ (q.take j).flatMap ptrB)) (fun _ v _ => Q - (intOf v).toNat)
   case atStart => exact ⟨0,by omega,rfl,HO.out.more (by simp)⟩
   case round =>
    clear HO
    obtain ⟨j,hj,rfl,hO⟩ := hrel
    by_cases hlt : j < Q
    ·obtain ⟨x,hx⟩ : ∃ x,q[j]? = some x := ⟨_,List.getElem?_eq_getElem (by have := HQ.out; omega)⟩
     obtain ⟨b1,o1,rfl,g1⟩ := HP.out j x hx
     have hix := index_ptr b1 o1 Q cp j hlt
     have HRG := hid (range_below g1 hO.bel)
     have HLY := hid (show (([2,(i : Int)] ++ l.flatMap keyB9) ++ (q.take j).flatMap ptrB).length ≤ (2 + i * 512) + j * 44 by have := HBK.out j; have := HLX.out; rw [List.length_append]; omega)
     have HNX := hid (flat_step ptrB q j x hx)
     have HPB := hid (fun W => rptrb_any x W)
     have HPL := hid (ptrB_length x)
     have HLT := hid hlt
     have HJ := hid hj
     have jI : (j : Int) < (Q : Int) := by omega
     have j0 : (0 : Int) ≤ (j : Int) := by omega
     have SWC := hid (size_ptr x)
     have SWR := hid (size_ptrA x)
     have EW := hid (show (ptrRow zeroPtr).toArray.size = (ptrRow x).toArray.size by simp [ptrRow_length])
     have WO := hid (ptrRow_one x)
     have hzp := zero_ptr
     obtain ⟨ZA,hZA⟩ : ∃ ZA,(ptrRow zeroPtr).toArray = ZA := ⟨_,rfl⟩
     rw [hZA] at hzp EW
     have HO := hid hO
     clear hj hlt hx g1 hZA hO
     go_upto_region 19 with (first
      | (with_reducible refine wpList_load_mid (op := ⟨some 64,_,_,_,_,_⟩) rfl 43 _ rfl b1 (o1 + j * 34) rfl (ptrRow x) _ HRG.out Tryz.underlying43 rfl SWC.out ?_)
      | (with_reducible refine wpList_store_row (o := ⟨none,.store _ (.tmp 9) _,_,_,_,_⟩) rfl 43 _ _ rfl wr.heap.size (ptrRow x).toArray rfl rfl 43 ZA (heap_alloc_new wr _) SWR.out EW.out WO.out ?_))
     clear hix hzp
     obtain ⟨h7,hb7⟩ := new_row8 wr ZA (ptrRow x).toArray
     generalize World.setRow _ wr.heap.size _ = w7 at *
     have H7 := hid h7
     have HB7 := hid hb7
     clear h7 hb7 HRG SWC EW WO
     generalize (ptrRow x).toArray = AR at *
     go_wp2_with (first
      | (with_reducible refine wpList_load_row (o := ⟨some 66,_,_,_,_,_⟩) rfl 43 _ rfl wr.heap.size rfl 43 AR (0,0) _ H7.out Tryz.underlying43 rfl SWR.out ?_))
     refine (HPB.out _).mono ?_
     rintro e w8 ⟨a8,c8,rfl,_,hbs,hb8⟩
     obtain ⟨v9,w9,hr9,hO9⟩ := ob_append HO.out (HB7.out.trans (hb8.mono HB7.out.size)) hbs (by have := HLY.out; have := HPL.out; have := HJ.out; have := HLI.out; omega)
     have HR9 := hid hr9
     have HO9 := hid hO9
     clear hr9 hO9 hbs hb8 HPB HO HB7 H7
     go_wp2_with (first
      | (at_builtin; refine wpList_append_run (o := ⟨some 68,_,_,_,_,_⟩) rfl _ _ _ _ rfl _ _ _ _ rfl rfl HR9.out ?_))
     go_roundw
     case rel => exact ⟨j + 1,by have := HLT.out; omega,by go_num,HO9.out.more (by rw [HNX.out,List.append_assoc])⟩
     case measure => simp [intOf]; have := HLT.out; omega
    ·obtain rfl : j = Q := by omega
     rw [HTP.out j (by have := HQ.out; omega)] at hO
     have HF := hid (hO.more (show _ = nodeB ⟨false,l,m,q⟩ by rw [HNB.out]; simp))
     clear hj hlt hO
     go_wp2_with fail
     go_ret
     exact ⟨_,rfl,⟨own_base HF.out.own HBW.out.size,HF.out.byt,HBW.out.trans (HF.out.bel.mono HBW.out.size)⟩⟩
theorem rbytes_any9 (k v p : Value) (n : NodeV) (w : World) (h : NR w k v p n) (hf : formB n = true) (hfew : Few9 n) :
 Calls Tryz.prog 98 #[.agg #[.bool n.lf,k,v,p]] w fun e w' => ∃ vb,e = .returned vb ∧ OB w w' vb (nodeB n) := by
 obtain ⟨lf,l,m,q⟩ := n
 cases lf with
 | true => exact rbytes_true k v p l m q w h hf hfew
 | false => exact rbytes_false k v p l m q w h hf hfew
end Go.Proofs.YtgckapolpifbkaaGreatDoor
