import Derived.Test.YtgckapolpifbkaaGreatDoorPt0
import Derived.StillTailTactics
import Derived.Lib.Strings
import Derived.Sort.Walk0
namespace Go.Proofs.YtgckapolpifbkaaGreatDoor
open Lib (hid)
section
set_option maxRecDepth 4000
set_option linter.unusedVariables false
open Go.RowKit
def SameB (a a' : Option Addr) : Prop := ∀ x',a' = some x' → ∃ x,a = some x ∧ x.block = x'.block
theorem SameB.refl (a : Option Addr) : SameB a a := fun x h => ⟨x,h,rfl⟩
theorem SameB.trans {a b c : Option Addr} (h : SameB a b) (k : SameB b c) : SameB a c := fun x e => by
 obtain ⟨y,e1,e2⟩ := k x e
 obtain ⟨z,e3,e4⟩ := h y e1
 exact ⟨z,e3,e4.trans e2⟩
theorem add_block (x : Addr) (k : Nat) : (x.add k).block = x.block := by unfold Addr.add; split <;> rfl
theorem slice_cut_s (W : World) (a : Option Addr) (len cap lo hi : Nat) (l : List Int) (hB : BS W (.slice a len cap) l) (hl : l.length = len) (h1 : lo ≤ hi) (h2 : hi ≤ len) (h3 : len ≤ cap) :
 ∃ a2 : Option Addr,(∀ W',(Instr.slice 62 (.slice a len cap) (some (.int .i64 (lo : Int))) (some (.int .i64 (hi : Int))) none).run Tryz.prog W' = .ok (.slice a2 (hi - lo) (cap - lo)) W') ∧
   (hi = len → ∀ W',(Instr.slice 62 (.slice a len cap) (some (.int .i64 (lo : Int))) none none).run Tryz.prog W' = .ok (.slice a2 (hi - lo) (cap - lo)) W') ∧
   (lo = 0 → ∀ W',(Instr.slice 62 (.slice a len cap) none (some (.int .i64 (hi : Int))) none).run Tryz.prog W' = .ok (.slice a2 (hi - lo) (cap - lo)) W') ∧
   BS W (.slice a2 (hi - lo) (cap - lo)) ((l.drop lo).take (hi - lo)) ∧ SameB a a2 := by
 obtain ⟨a2,e1,e2,e3,hb⟩ := slice_cut W a len cap lo hi l hB hl h1 h2 h3
 refine ⟨a2,e1,e2,e3,hb, ?_⟩
 obtain ⟨i0,hi0,hs⟩ := Option.map_eq_some_iff.1 yone
 have e4 := e1 W
 have b1 := ybound_ok hi cap .sliceAcap (by omega) W
 have b2 := ybound_ok lo hi .sliceB h1 W
 simp [Instr.slice,run_underlying Tryz.underlying62,Instr.sliceBounds,sizeOf,typeInfo,hi0,hs,b1,b2] at e4
 intro x' e
 rw [← e4] at e
 split at e
 ·exact ⟨x',e,rfl⟩
 ·cases a with
  | none => cases e
  | some ad =>
    simp only [Option.map_some,Option.some.injEq] at e
    exact ⟨ad,rfl,by rw [← e,add_block]⟩
theorem rt_of {N : Nat} {w : World} {t R lb cb : Nat} {ab : Option Addr} {l : List Int} (h : RR w t R ab lb cb l) (hR : R < N) (hN : N ≤ w.heap.size) (hd : ∀ x,ab = some x → l ≠ [] → x.block < N) : RT N w t R l := by
 refine ⟨hN,ab,lb,cb,(trunc_heap w hR).trans h.cell, ?_,h.len,h.cap,h.big⟩
 obtain ⟨a',cap',hv,hy,hn,hc⟩ := h.bytes
 refine ⟨a',cap',hv,hy,hn, ?_⟩
 rcases hc with h0 | ⟨b,off,ha,hc⟩
 ·exact .inl h0
 ·by_cases hl : l = []
  ·exact .inl hl
  ·have hb : b < N := hd ⟨b,off,none⟩ (by injection hv with e1 _ _; rw [e1,ha]) hl
   refine .inr ⟨b,off,ha,fun i hi => ?_⟩
   have q0 := hc i hi
   simp only [World.cell?] at q0 ⊢
   rw [trunc_heap w hb]
   exact q0
theorem rt_block {N : Nat} {w : World} {t R lb cb : Nat} {ab : Option Addr} {l : List Int} (h : RT N w t R l) (k : RR w t R ab lb cb l) : ∀ x,ab = some x → l ≠ [] → x.block < N := by
 have hR := h.lt
 obtain ⟨hN,ab',lb',cb',h⟩ := h
 intro x e hl
 have c1 := h.cell
 rw [trunc_heap w hR,k.cell] at c1
 simp only [Option.some.injEq,Obj.cells.injEq] at c1
 have c2 := congrArg (fun x : Array Value => x[0]?) c1.1
 simp at c2
 obtain ⟨e1,e2,e3⟩ := c2
 obtain ⟨a',cap',hv,hy,hn,hc⟩ := h.bytes
 rcases hc with h0 | ⟨b',off',ha,hc⟩
 ·exact absurd h0 hl
 ·injection hv with f1 _ _
  rw [← e1,e,ha] at f1
  injection f1 with f1
  subst f1
  have := block_lt_of_cell (hc 0 (List.length_pos_iff.2 hl))
  rwa [trunc_size hN] at this
theorem rt_below {N : Nat} {w w' : World} {t R : Nat} {l : List Int} (h : RT N w t R l) (b : Below w.heap.size w w') : RT N w' t R l :=
 h.keep (Nat.le_trans h.1 b.size) (fun k hk => b.block k (Nat.lt_of_lt_of_le hk h.1))
set_option maxRecDepth 100000 in
set_option maxHeartbeats 3200000 in
theorem pnext_same (R lb cb : Nat) (ab : Option Addr) (l : List Int) (n : Int) (w : World) (h : RR w 193 R ab lb cb l) (hn : n ≤ 9223372036854775807) :
 Calls Tryz.prog 129 #[.pointer (some ⟨R,0,none⟩),.int .i64 n] w fun e w' => (∃ v,e = .returned (.tuple #[v,.int .i64 (rawA n l).2.1]) ∧ BS w' v (rawA n l).1) ∧ (∃ ab' lb' cb',SameB ab ab' ∧ RR w' 193 R ab' lb' cb' (rawA n l).2.2) ∧ Only R w w' := by
 have H := hid h
 have c0 := h.at
 have hl := h.len
 have hbig := h.big
 have hcap := h.cap
 by_cases h0 : n < 0
 ·rw [show rawA n l = ([],2,l) by unfold rawA; rw [if_pos h0]]
  clear h hl hbig hcap
  go_enter Tryz.func129,Tryz.ntmps129
  go_wp2_with fail
  go_ret2
  exact ⟨⟨_,rfl,bs_nil _⟩,⟨_,_,_,SameB.refl _,H.out⟩,Only.refl _ _⟩
 ·obtain ⟨m,rfl⟩ : ∃ m : Nat,n = (m : Int) := ⟨n.toNat,by omega⟩
  have m0 : (0 : Int) ≤ (m : Int) := by omega
  have lI : (lb : Int) ≤ 140737488351232 := by omega
  by_cases h1 : lb < m
  ·rw [show rawA (m : Int) l = ([],3,l) by unfold rawA; rw [if_neg (by omega),if_pos (by omega)]]
   have h1b : decide (lb < m) = true := by simp [h1]
   have h1c : (lb : Int) < (m : Int) := by omega
   clear h hl hbig hcap h0 h1
   go_enter Tryz.func129,Tryz.ntmps129
   go_wp2_with fail
   go_ret2
   exact ⟨⟨_,rfl,bs_nil _⟩,⟨_,_,_,SameB.refl _,H.out⟩,Only.refl _ _⟩
  ·rw [show rawA (m : Int) l = (l.take m,0,l.drop m) by unfold rawA; rw [if_neg (by omega),if_neg (by omega)]; rfl]
   have h1b : decide (lb < m) = false := by simp; omega
   obtain ⟨a1,_,_,e1,B1⟩ := slice_cut w ab lb cb 0 m l h.bytes hl (Nat.zero_le _) (by omega) hcap
   obtain ⟨a2,_,e2,_,B2,S2⟩ := slice_cut_s w ab lb cb m lb l h.bytes hl (by omega) (Nat.le_refl _) hcap
   have e1 := e1 rfl
   have e2 := e2 rfl
   simp only [Nat.sub_zero] at e1 B1
   have f0 := frozen_of_row w R 0 _ _ h.cell
   have hO : Only R w (w.setCell ⟨R,0,none⟩ (.slice a2 (lb - m) (cb - m))) := (Only.refl _ _).setCell _ _
   have HO := hid hO
   have HB1 := hid (show BS (w.setCell ⟨R,0,none⟩ (.slice a2 (lb - m) (cb - m))) (.slice a1 m cb) (l.take m) from by have q := B1.only h.cell hO; simpa using q)
   have HRR := hid (show RR (w.setCell ⟨R,0,none⟩ (.slice a2 (lb - m) (cb - m))) 193 R a2 (lb - m) (cb - m) (l.drop m) from
    ⟨heap_setCell_same _ _ _ _ _ _ h.cell,by have q := B2.only h.cell hO; rw [List.take_of_length_le (by rw [List.length_drop]; omega)] at q; exact q,by rw [List.length_drop]; omega,by omega,by omega⟩)
   have HS2 := hid S2
   clear h hl hbig hcap h0 h1 B1 B2 hO S2
   go_enter Tryz.func129,Tryz.ntmps129
   go_wp2_with fail
   go_ret2
   exact ⟨⟨_,rfl,HB1.out⟩,by first | exact ⟨_,_,_,HS2.out,HRR.out⟩ | exact ⟨_,HS2.out,_,_,HRR.out⟩,HO.out⟩
set_option maxRecDepth 100000 in
set_option maxHeartbeats 3200000 in
theorem pnum_same (R lb cb : Nat) (ab : Option Addr) (l : List Int) (n : Int) (w : World) (h : RR w 193 R ab lb cb l) (hn : n ≤ 9223372036854775807) :
 Calls Tryz.prog 117 #[.pointer (some ⟨R,0,none⟩),.int .i64 n] w fun e w' => e = .returned (.tuple #[.int .u64 (numA n l).1,.int .i64 (numA n l).2.1]) ∧ (∃ ab' lb' cb',SameB ab ab' ∧ RR w' 193 R ab' lb' cb' (numA n l).2.2) ∧ Only R w w' := by
 have H := hid h
 by_cases h1 : 8 < n
 ·rw [show numA n l = (0,2,l) by unfold numA; rw [if_pos (.inr h1)]]
  clear h
  go_enter Tryz.func117,Tryz.ntmps117
  go_wp2_with fail
  go_ret2
  exact ⟨rfl,⟨_,_,_,SameB.refl _,H.out⟩,Only.refl _ _⟩
 ·have HR := hid (pnext_same R lb cb ab l n w h hn)
  have hs := rawA_short n l (by omega)
  have h11 : n ≤ 8 := by omega
  have hE : ∃ er,(rawA n l).2.1 = er ∧ (er ≠ 0 → (rawA n l).2.1 = er ∧ numA n l = (0,er,(rawA n l).2.2)) ∧ (er = 0 → numA n l = (num (rawA n l).1,0,(rawA n l).2.2)) := by
   refine ⟨_,rfl,fun hne => ⟨rfl, ?_⟩,fun he => ?_⟩
   ·by_cases h0 : n < 0
    ·unfold numA rawA; rw [if_pos (.inl h0),if_pos h0]
    ·unfold numA
     rw [if_neg (by omega)]
     unfold rawA at hne ⊢
     rw [if_neg h0] at hne ⊢
     split
     ·rfl
     ·rename_i hc; rw [if_neg hc] at hne; exact absurd rfl hne
   ·by_cases h0 : n < 0
    ·unfold rawA at he; rw [if_pos h0] at he; simp at he
    ·unfold numA
     rw [if_neg (by omega),he]
  obtain ⟨er,her,hA,hB⟩ := hE
  have HS := hid hs
  generalize rawA n l = Q at *
  obtain ⟨q1,q2,q3⟩ := Q
  dsimp only at her
  subst her
  by_cases h0 : q2 = 0
  ·subst h0
   rw [hB rfl]
   clear h h1 hs hA hB
   go_enter Tryz.func117,Tryz.ntmps117
   go_wp2_with fail
   refine HR.out.mono ?_
   rintro e w1 ⟨⟨v,rfl,hv⟩,hr,hO⟩
   have HN := hid (get_ok w1 v q1 hv HS.out)
   have HRR := hid hr
   have HO := hid hO
   clear hv hr hO HR
   go_wp2_with fail
   refine HN.out.mono ?_
   rintro e w2 ⟨rfl,rfl⟩
   go_wp2_with fail
   go_ret2
   exact ⟨rfl,HRR.out,HO.out⟩
  ·rw [(hA h0).2]
   have hnb : (q2 != 0) = true := by simp [h0]
   clear h h1 hs hA hB
   go_enter Tryz.func117,Tryz.ntmps117
   go_wp2_with fail
   refine HR.out.mono ?_
   rintro e w1 ⟨⟨v,rfl,hv⟩,hr,hO⟩
   have HRR := hid hr
   have HO := hid hO
   clear hv hr hO HR
   go_wp2_with fail
   go_ret2
   exact ⟨rfl,HRR.out,HO.out⟩
set_option maxRecDepth 100000 in
set_option maxHeartbeats 3200000 in
theorem pstr_tt (R lb cb : Nat) (ab : Option Addr) (l : List Int) (N : Nat) (w : World) (hT : RT N w 193 R l) (h : RR w 193 R ab lb cb l) :
 Calls Tryz.prog 118 #[.pointer (some ⟨R,0,none⟩)] w fun e w' => e = .returned (.tuple #[.string (strA l).1,.int .i64 (strA l).2.1]) ∧ RT N w' 193 R (strA l).2.2 ∧ Chg R w w' := by
 have HT0 := hid hT
 have HNW := hid hT.1
 have HBK := hid (rt_block hT h)
 have H := hid h
 have c0 := h.at
 have hz := zero_reader
 have hA : RR (w.alloc (.cells #[.slice ab lb cb] 193)) 193 w.heap.size ab lb cb l :=
  ⟨heap_alloc_new w _,h.bytes.kept ((Below.refl w.heap.size w).alloc (Nat.le_refl _) _),h.len,h.cap,h.big⟩
 have HN := hid (pnum_same w.heap.size lb cb ab l 1 _ hA (by omega))
 rw [numA_one] at HN
 have HB1 := hid ((Below.refl w.heap.size w).alloc (Nat.le_refl _) (.cells #[.slice ab lb cb] 193))
 have HY := hid h.bytes.byt
 have HR := hid (Array.getElem?_eq_some_iff.1 h.cell).1
 cases l with
 | nil =>
   rw [show strA [] = (⟨#[]⟩,3, []) from rfl]
   rw [if_pos rfl] at HN
   clear h hA hT
   go_enter Tryz.func118,Tryz.ntmps118
   go_wp2_with fail
   refine HN.out.mono ?_
   rintro e w2 ⟨rfl,_,hO⟩
   have HB2 := hid (HB1.out.trans (hO.bel _ (Nat.le_refl _)))
   clear hO HN
   go_wp2_with fail
   go_ret2
   exact ⟨rfl,rt_below HT0.out (HB2.out),Chg.of_below HB2.out⟩
 | cons c t =>
   have hcb := h.bytes.byt c (by simp)
   obtain ⟨m,rfl⟩ : ∃ m : Nat,c = (m : Int) := ⟨c.toNat,by omega⟩
   have mI : (m : Int) ≤ 255 := hcb.2
   have m0 : (0 : Int) ≤ (m : Int) := hcb.1
   have HT := hid (show rawA (m : Int) t = if t.length < m then ([],3,t) else (t.take m,0,t.drop m) by
    unfold rawA; rw [if_neg (by omega)]
    by_cases hq : t.length < m
    ·rw [if_pos (by omega),if_pos hq]
    ·rw [if_neg (by omega),if_neg hq]; rfl)
   have HS := hid (show strA ((m : Int) :: t) = if t.length < m then (⟨#[]⟩,3,(m : Int) :: t) else (strOfNums (t.take m),0,t.drop m) by
    unfold strA
    by_cases hq : t.length < m
    ·rw [if_pos (.inr (by simp; omega)),if_pos hq]
    ·rw [if_neg (by simp; omega),if_neg hq]
     simp [Nat.add_comm 1 m])
   rw [if_neg (by simp)] at HN
   simp only [List.getD_cons_zero,List.drop_succ_cons,List.drop_zero] at HN
   clear h hA hcb hT
   by_cases hq : t.length < m
   ·rw [HS.out,if_pos hq]
    rw [if_pos hq] at HT
    clear hq
    go_enter Tryz.func118,Tryz.ntmps118
    go_wp2_with fail
    refine HN.out.mono ?_
    rintro e w2 ⟨rfl,⟨a2,l2,c2,hS2,hR2⟩,hO2⟩
    have HX := hid (pnext_same w.heap.size l2 c2 a2 t (m : Int) w2 hR2 (by omega))
    rw [HT.out] at HX
    have HB2 := hid (HB1.out.trans (hO2.bel _ (Nat.le_refl _)))
    clear hR2 hO2 HN HT HS
    go_wp2_with fail
    refine HX.out.mono ?_
    rintro e w3 ⟨⟨v,rfl,hv⟩,_,hO⟩
    have HB3 := hid (HB2.out.trans (hO.bel _ (Nat.le_refl _)))
    clear hv hO HX
    go_wp2_with fail
    go_ret2
    exact ⟨rfl,rt_below HT0.out (HB3.out),Chg.of_below HB3.out⟩
   ·rw [HS.out,if_neg hq]
    rw [if_neg hq] at HT
    have HLT := hid (show (t.take m).length = m by rw [List.length_take]; omega)
    clear hq
    go_enter Tryz.func118,Tryz.ntmps118
    go_wp2_with fail
    refine HN.out.mono ?_
    rintro e w2 ⟨rfl,⟨a2,l2,c2,hS2,hR2⟩,hO2⟩
    have HX := hid (pnext_same w.heap.size l2 c2 a2 t (m : Int) w2 hR2 (by omega))
    rw [HT.out] at HX
    have HB2 := hid (HB1.out.trans (hO2.bel _ (Nat.le_refl _)))
    clear hR2 hO2 HN HT HS
    go_wp2_with fail
    refine HX.out.mono ?_
    rintro e w3 ⟨⟨v,rfl,hv⟩,⟨a3,l3,c3,hS3,hR3⟩,hO⟩
    have hb3 := HB2.out.trans (hO.bel _ (Nat.le_refl _))
    have d3 := hR3.at
    have hH3 := H.out.below hb3
    have e3 := hH3.at
    have f3 := frozen_of_row w3 R 0 _ _ hH3.cell
    have hO4 := (Only.refl R w3).setCell 0 (.slice a3 l3 c3)
    have hvv : BS (w3.setCell ⟨R,0,none⟩ (.slice a3 l3 c3)) v (t.take m) := hv.only hH3.cell hO4
    obtain ⟨av,cv,rfl⟩ : ∃ av cv,v = .slice av m cv := by
     obtain ⟨av,cv,hve,_⟩ := id hvv
     rw [HLT.out] at hve
     exact ⟨av,cv,hve⟩
    have hcw := conv_BS hvv
    have HRR := hid (show RR (w3.setCell ⟨R,0,none⟩ (.slice a3 l3 c3)) 193 R a3 l3 c3 (t.drop m) from
     ⟨heap_setCell_same _ _ _ _ _ _ hH3.cell,hR3.bytes.only hH3.cell hO4,hR3.len,hR3.cap,hR3.big⟩)
    have HRT := hid (rt_of HRR.out HT0.out.lt (Nat.le_trans HNW.out (Nat.le_trans hb3.size (Nat.le_of_eq (by simp)))) (fun x e _ => by
     obtain ⟨y,e1,f1⟩ := hS3 x e
     obtain ⟨z,e2,f2⟩ := hS2 y e1
     rw [← f1,← f2]
     exact HBK.out z e2 (by simp)))
    have HC := hid ((Chg.of_below (R := R) hb3).trans (Chg.of_only hO4))
    clear hR3 hv hb3 hH3 hO4 hvv hO HX
    go_wp2_with fail
    go_ret2
    exact ⟨rfl,HRT.out,HC.out⟩
set_option maxRecDepth 100000 in
set_option maxHeartbeats 3200000 in
theorem pget_short_t (R lb cb : Nat) (ab : Option Addr) (l : List Int) (N : Nat) (w : World) (hT : RT N w 193 R l) (h : RR w 193 R ab lb cb l) (hs : l.length < 44) :
 Calls Tryz.prog 119 #[.pointer (some ⟨R,0,none⟩)] w fun e w' => e = .returned (.tuple #[.agg (ptrRow zeroPtr).toArray,.int .i64 3]) ∧ RT N w' 193 R l ∧ Chg R w w' := by
 have HT0 := hid hT
 have HNW := hid hT.1
 have HBK := hid (rt_block hT h)
 have hb := (Below.refl w.heap.size w).alloc (Nat.le_refl _) (.cells (ptrRow zeroPtr).toArray 43)
 have hA := heap_alloc_new w (.cells (ptrRow zeroPtr).toArray 43)
 have h1 := h.below hb
 have HN := hid (pleft_any R lb cb ab l _ h1)
 have H0 := hid h
 have hz := zero_ptr
 have hbn := build_none
 have SE := hid (size_ptrA zeroPtr)
 have SO := hid (ptrRow_one zeroPtr)
 have HB := hid hb
 have HA := hid hA
 have hlt : decide ((l.length : Int) < 44) = true := by simp; omega
 clear h hT hb hA h1 hs
 generalize (ptrRow zeroPtr).toArray = ZR at *
 go_enter Tryz.func119,Tryz.ntmps119
 go_wp2_with fail
 refine HN.out.mono ?_
 rintro e w2 ⟨rfl,rfl⟩
 go_wp2_with (first
  | (with_reducible refine wpList_store_row (o := ⟨none,.store _ (.tmp 2) _,_,_,_,_⟩) rfl 43 _ _ rfl w.heap.size ZR rfl rfl 43 ZR HA.out SE.out rfl SO.out ?_))
 have h5 : Below w.heap.size w ((w.alloc (.cells ZR 43)).setRow w.heap.size ZR) := ybelow_row HB.out (Nat.le_refl _) _
 refine bodyPost_ret (v := .tuple #[.agg ZR,.int .i64 3]) (results_cell_two Tryz.results119 _ _ w.heap.size 43 ZR (0,0) _ rfl (setRow_heap _ w.heap.size _ ZR _ _ HA.out) Tryz.underlying43 rfl SE.out _ (by simp)) rfl ⟨rfl,rt_below HT0.out (h5),Chg.of_below h5⟩
set_option maxRecDepth 100000 in
set_option maxHeartbeats 3200000 in
theorem pget_ok_t (R lb cb : Nat) (ab : Option Addr) (l : List Int) (N : Nat) (w : World) (hT : RT N w 193 R l) (h : RR w 193 R ab lb cb l) (hs : 44 ≤ l.length) :
 Calls Tryz.prog 119 #[.pointer (some ⟨R,0,none⟩)] w fun e w' => e = .returned (.tuple #[.agg (ptrRow (ptrOf l)).toArray,.int .i64 0]) ∧ RT N w' 193 R (l.drop 44) ∧ Chg R w w' := by
 have HT0 := hid hT
 have HNW := hid hT.1
 have HBK := hid (rt_block hT h)
 have hb := (Below.refl w.heap.size w).alloc (Nat.le_refl _) (.cells (ptrRow zeroPtr).toArray 43)
 have hA := heap_alloc_new w (.cells (ptrRow zeroPtr).toArray 43)
 have hsz : (w.alloc (.cells (ptrRow zeroPtr).toArray 43)).heap.size = w.heap.size + 1 := by simp
 have h1 := h.below hb
 have hr1 := hT.keep (w' := w.alloc (.cells (ptrRow zeroPtr).toArray 43)) (by have := hT.1; omega) (fun k hk => hb.block k (Nat.lt_of_lt_of_le hk hT.1))
 have hby := h.bytes.byt
 obtain ⟨p4,p8,p32⟩ := ptrOf_parts l hs hby
 have HN := hid (pleft_any R lb cb ab l _ h1)
 have HN1 := hid (pnum_t _ R l 4 _ hr1 (by omega))
 rw [show numA 4 l = (num (l.take 4),0,l.drop 4) from numA_in8 4 l (by omega) (by omega),p4] at HN1
 have HM2 := hid (show numA 8 (l.drop 4) = ((ptrOf l).bi,0,l.drop 12) by
  rw [show numA 8 (l.drop 4) = _ from numA_in8 8 (l.drop 4) (by rw [List.length_drop]; omega) (by omega),p8,List.drop_drop])
 have HM3 := hid (show hashA (l.drop 12) = ((ptrOf l).su,0,l.drop 44) by
  unfold hashA
  rw [if_neg (by rw [List.length_drop]; omega),p32,List.drop_drop])
 have hz := zero_ptr
 have hzh := zero_hash7
 have SE := hid (size_ptrA (ptrOf l))
 have SO := hid (ptrRow_one (ptrOf l))
 have SL := hid (show (ptrRow zeroPtr).toArray.size = (ptrRow (ptrOf l)).toArray.size by simp [ptrRow_length])
 have HBD := hid (build_ptr (ptrOf l))
 have SH := hid (size_hash7 (ptrOf l).su (ptrOf l).s0.1)
 have SHO := hid (i8s_one (ptrOf l).su)
 have SHL := hid (show (i8s (List.replicate 32 0)).size = (i8s (ptrOf l).su).size by rw [i8s_size,i8s_size,(ptrOf l).s0.1]; simp)
 have hwr : IntKind.u32.wrap (ptrOf l).ad = (ptrOf l).ad := IntWalk.u32_in _ (by have := (ptrOf l).a0; omega)
 have HRl := hid (show R < w.heap.size from (Array.getElem?_eq_some_iff.1 h.cell).1)
 have HB := hid hb
 have HA := hid hA
 have HSZ := hid hsz
 have hlt : decide ((l.length : Int) < 44) = false := by simp; omega
 clear h hT hb hA h1 hs hsz hby p4 p8 p32 hr1
 generalize (ptrRow zeroPtr).toArray = ZR at *
 generalize (ptrRow (ptrOf l)).toArray = QR at *
 generalize (ptrOf l).ad = ad at *
 generalize (ptrOf l).bi = bi at *
 generalize (ptrOf l).su = su at *
 generalize i8s (List.replicate 32 0) = ZH at *
 generalize hSU : i8s su = SU at *
 have HSU := hid hSU
 clear hSU
 generalize hW1 : w.alloc (.cells ZR 43) = w1 at *
 go_enter Tryz.func119,Tryz.ntmps119
 go_upto_region 1 with fail
 clear hW1 hz
 go_wp2_with fail
 refine HN.out.mono ?_
 rintro e w2 ⟨rfl,rfl⟩
 clear HN
 go_wp2_with fail
 refine HN1.out.mono ?_
 rintro e w2 ⟨rfl,r2,O2⟩
 have HN2 := hid (pnum_t _ R _ 8 w2 r2 (by omega))
 rw [HM2.out] at HN2
 have HA2 := hid ((O2.rest w.heap.size (by have := HRl.out; omega)).trans HA.out)
 have C2 := hid ((Chg.of_below HB.out).trans (Chg.of_only O2))
 have SZ2 := hid (show w2.heap.size = w.heap.size + 1 by rw [O2.size]; exact HSZ.out)
 clear r2 O2 HN1 HM2 HA HB hlt
 go_wp2_with fail
 refine HN2.out.mono ?_
 rintro e w3 ⟨rfl,r3,O3⟩
 have HN3 := hid (phash_t _ R _ w3 r3)
 rw [HM3.out] at HN3
 have HA3 := hid ((O3.rest w.heap.size (by have := HRl.out; omega)).trans HA2.out)
 have C3 := hid (C2.out.trans (Chg.of_only O3))
 have SZ3 := hid (show w3.heap.size = w.heap.size + 1 by rw [O3.size]; exact SZ2.out)
 clear r3 O3 HN2 HM3 HA2 C2
 go_wp2_with fail
 refine HN3.out.mono ?_
 rintro e w4 ⟨rfl,r4,O4⟩
 have HA4 := hid ((O4.block w.heap.size (by have := SZ3.out; omega) (by have := HRl.out; omega)).trans HA3.out)
 have C4 := hid (C3.out.trans O4)
 have HR4 := hid r4
 have SZ4 := hid (show w.heap.size + 1 ≤ w4.heap.size by have := O4.size; have := SZ3.out; omega)
 clear r4 O4 HN3 HA3 C3
 rw [HSU.out]
 have HH := hid (heap_alloc_new w4 (.cells ZH 28))
 go_upto_region 8 with (first
  | (with_reducible refine wpList_store_row (o := ⟨none,.store _ (.tmp 8) _,_,_,_,_⟩) rfl 28 _ _ rfl w4.heap.size SU rfl rfl 28 ZH HH.out SH.out SHL.out SHO.out ?_))
 have H5 := hid (setRow_heap (w4.alloc (.cells ZH 28)) w4.heap.size _ SU _ _ HH.out)
 have hb5 : Below w4.heap.size w4 ((w4.alloc (.cells ZH 28)).setRow w4.heap.size SU) := ybelow_row ((Below.refl w4.heap.size w4).alloc (Nat.le_refl _) _) (Nat.le_refl _) _
 have HA5 := hid ((hb5.block w.heap.size (by have := SZ4.out; omega)).trans HA4.out)
 have HB5 := hid hb5
 generalize (w4.alloc (.cells ZH 28)).setRow w4.heap.size SU = w5 at *
 clear hb5 HH HA4 hzh
 go_wp2_with (first
  | (with_reducible refine wpList_load_row (o := ⟨some 35,_,_,_,_,_⟩) rfl 28 _ rfl w4.heap.size rfl 28 SU (0,0) _ H5.out Tryz.underlying28 rfl SH.out ?_)
  | (with_reducible refine wpList_build_run (o := ⟨some 36,_,_,_,_,_⟩) rfl 43 _ rfl #[(0,.int .u32 ad),(1,.int .u64 bi),(2,.agg SU)] (by simp [Act.eval,Act.put]) (.agg QR) (HBD.out _) ?_)
  | (with_reducible refine wpList_store_row (o := ⟨none,.store _ (.tmp 2) _,_,_,_,_⟩) rfl 43 _ _ rfl w.heap.size QR rfl rfl 43 ZR HA5.out SE.out SL.out SO.out ?_))
 have hb6 : Below w.heap.size w4 (w5.setRow w.heap.size QR) := ybelow_row (HB5.out.mono (by have := SZ4.out; omega)) (Nat.le_refl _) _
 refine bodyPost_ret (v := .tuple #[.agg QR,.int .i64 0]) (results_cell_two Tryz.results119 _ _ w.heap.size 43 QR (0,0) _ rfl (setRow_heap _ w.heap.size _ QR _ _ HA5.out) Tryz.underlying43 rfl SE.out _ (by simp)) rfl ⟨rfl, ?_, ?_⟩
 ·exact (HR4.out.keep (Nat.le_trans (by have := SZ4.out; have := HNW.out; omega) hb6.size) (fun k hk => hb6.block k (Nat.lt_of_lt_of_le hk HNW.out)))
 ·exact ⟨hb6.os.trans C4.out.os,hb6.tape.trans C4.out.tape,hb6.output.trans C4.out.output,Nat.le_trans C4.out.size (Nat.le_trans HB5.out.size (by simp)),fun k hk hne => (hb6.block k hk).trans (C4.out.block k hk hne)⟩
theorem pget_t (N R : Nat) (l : List Int) (w : World) (h : RT N w 193 R l) :
 Calls Tryz.prog 119 #[.pointer (some ⟨R,0,none⟩)] w fun e w' => e = .returned (.tuple #[.agg (ptrRow (getA l).1).toArray,.int .i64 (getA l).2.1]) ∧ RT N w' 193 R (getA l).2.2 ∧ Chg R w w' := by
 obtain ⟨ab,lb,cb,hr⟩ := h.rr
 by_cases hs : l.length < 44
 ·rw [show getA l = (zeroPtr,3,l) by unfold getA; rw [if_pos hs]]
  exact pget_short_t R lb cb ab l N w h hr hs
 ·rw [show getA l = (ptrOf l,0,l.drop 44) by unfold getA; rw [if_neg hs]]
  exact pget_ok_t R lb cb ab l N w h hr (by omega)
theorem pstr_t (N R : Nat) (l : List Int) (w : World) (h : RT N w 193 R l) :
 Calls Tryz.prog 118 #[.pointer (some ⟨R,0,none⟩)] w fun e w' => e = .returned (.tuple #[.string (strA l).1,.int .i64 (strA l).2.1]) ∧ RT N w' 193 R (strA l).2.2 ∧ Chg R w w' := by
 obtain ⟨ab,lb,cb,hr⟩ := h.rr
 exact (pstr_tt R lb cb ab l N w h hr).mono fun e w' ⟨he,hr,hO⟩ => ⟨he,hr,hO⟩
end
section
set_option maxRecDepth 4000
open Go.ChangeShapes Go.WideShapes Go.ChangeAt Go.RowKit
theorem own_below8 {B n k : Nat} {e : TypeId} {v : Value} {xs : List Value} {w w' : World} (h : w.ownsRow B e k v n xs) (hb : Below w.heap.size w w') : w'.ownsRow B e k v n xs :=
 h.kept (row := none) ⟨hb.os,hb.tape,hb.output,hb.size,fun j hj _ => hb.block j hj⟩ (by by_cases q : v.ownBlock = none; exact .inl q; exact .inr q)
set_option maxHeartbeats 800000 in
theorem rbytes8_any (x : Int) (n : Nat) (w : World) (h2 : n ≤ 8) (h0 : 0 ≤ x) (h1 : x < 18446744073709551616) (h3 : x / 256 ^ n = 0) :
 Calls Tryz.prog 137 #[.int .u64 x,.int .i64 n] w fun e w' => e = .returned (.slice (some ⟨w.heap.size,0,none⟩) n n) ∧ w'.ownsRow w.heap.size 5 1 (.slice (some ⟨w.heap.size,0,none⟩) n n) n ((putI x n).map (.int .u8)) ∧ Below w.heap.size w w' := by
 have HP := hid (rput_loop x n w h2 h0 h1)
 have H3 := hid h3
 clear h0 h1 h2 h3
 go_enter Tryz.func137,Tryz.ntmps137
 go_wp2_with fail
 refine HP.out.mono ?_
 rintro e w' ⟨hb,h | h⟩
 ·obtain ⟨_,rfl,ho⟩ := h
  have HO := hid ho
  clear ho
  go_wp2_with fail
  go_ret
  exact ⟨rfl,HO.out,hb⟩
 ·exact absurd H3.out h.1
set_option maxRecDepth 100000 in
set_option maxHeartbeats 3200000 in
theorem rptrb_any (q : PtrV) (w : World) :
 Calls Tryz.prog 123 #[.agg (ptrRow q).toArray] w fun e w' => ∃ a c,e = .returned (.slice a 44 c) ∧ 44 ≤ c ∧ BS w' (.slice a 44 c) (ptrB q) ∧ Below w.heap.size w w' := by
 have hb := (Below.refl w.heap.size w).alloc (Nat.le_refl _) (.cells (ptrRow q).toArray 43)
 have hA := heap_alloc_new w (.cells (ptrRow q).toArray 43)
 obtain ⟨c0,c1,c2⟩ := ptr_at hA
 have ha := q.a0
 have hq := q.b0
 have HC1 := hid (fun W => rbytes8_any q.ad 4 W (by omega) ha.1 (by omega) (Int.ediv_eq_zero_of_lt ha.1 (by omega)))
 have HC2 := hid (fun W => rbytes8_any q.bi 8 W (by omega) hq.1 (by omega) (Int.ediv_eq_zero_of_lt hq.1 (by omega)))
 have HWR := hid (show IntKind.u64.wrap q.ad = q.ad from IntWalk.u64_in _ (by omega))
 have HPB := hid (show ptrB q = putI q.ad 4 ++ (putI q.bi 8 ++ q.su) from rfl)
 have HPL := hid (And.intro (ptrB_length q) (ptrB_byt q))
 have HSU := hid q.s0
 have HB0 := hid hb
 have hT : w.heap.size < (w.alloc (.cells (ptrRow q).toArray 43)).heap.size := by simp
 have hS : ∀ W : World,Below (w.alloc (.cells (ptrRow q).toArray 43)).heap.size (w.alloc (.cells (ptrRow q).toArray 43)) W → W.cell? ⟨w.heap.size,0,none⟩ = some (.int .u32 q.ad) ∧ W.cell? ⟨w.heap.size,1,none⟩ = some (.int .u64 q.bi) :=
  fun W hb => ⟨(hb.cell hT).trans c0,(hb.cell hT).trans c1⟩
 have HS := hid hS
 have HS2 := hid (show ∀ W : World,Below (w.alloc (.cells (ptrRow q).toArray 43)).heap.size (w.alloc (.cells (ptrRow q).toArray 43)) W → BS W (.slice (some ⟨w.heap.size,2,none⟩) 32 32) q.su from fun W hb =>
  ⟨some ⟨w.heap.size,2,none⟩,32,by rw [q.s0.1],q.s0.2,nofun,.inr ⟨w.heap.size,2,rfl,fun i hi => by
    rw [hb.cell hT]
    exact c2 i _ (by rw [List.getElem?_map,List.getElem?_eq_getElem hi]; simp [List.getD,hi])⟩⟩)
 have hsl := slice_hash_mid w.heap.size 2
 clear hb hA hT hS c0 c1 c2 ha hq
 generalize ptrB q = PB at *
 generalize (ptrRow q).toArray = AR at *
 generalize q.ad = ad at *
 generalize q.bi = bi at *
 generalize q.su = su at *
 go_enter Tryz.func123,Tryz.ntmps123
 go_upto_region 1 with fail
 generalize w.alloc (.cells AR 43) = w1 at *
 try simp only [Act.put]
 refine wp_region_noPanic ?_
 refine wp_region_held_drew (S := fun W => W.cell? ⟨w.heap.size,0,none⟩ = some (.int .u32 ad) ∧ W.cell? ⟨w.heap.size,1,none⟩ = some (.int .u64 bi)) (by kernel_rfl) (HS.out _ (Below.refl _ w1).drew) (fun hHeld => ?_)
 refine wpAnyH_take (i := 0) (oi := ⟨some 4,_,_,_,_,_⟩) (v := ?_) rfl (by kernel_rfl) (by decide +kernel) (by decide +kernel) (fun _ _ _ h => h) (Or.inl ⟨by rfl, ?_⟩) (by assumption) ?_
 rotate_left 1
 ·(intro w' hSw; go_simp; try with_reducible rfl)
 try simp only [Act.put,List.setIfInBounds_toArray,List.set_cons_zero,List.set_cons_succ]
 refine wpAnyH_take (i := 1) (oi := ⟨some 5,_,_,_,_,_⟩) (v := ?_) rfl (by kernel_rfl) (by decide +kernel) (by decide +kernel) (fun _ _ _ h => h) (Or.inl ⟨by rfl, ?_⟩) (by assumption) ?_
 rotate_left 1
 ·(intro w' hSw; obtain ⟨hc0,hc1⟩ := hSw; go_simp; try with_reducible rfl)
 try simp only [Act.put,List.setIfInBounds_toArray,List.set_cons_zero,List.set_cons_succ]
 have hwr := HWR.out
 refine wpAnyH_take (i := 2) (oi := ⟨some 6,_,_,_,_,_⟩) (v := ?_) rfl (by kernel_rfl) (by decide +kernel) (by decide +kernel) (fun _ _ _ h => h) (Or.inl ⟨by rfl, ?_⟩) (by assumption) ?_
 rotate_left 1
 ·(intro w' hSw; go_simp; try with_reducible rfl)
 try simp only [Act.put,List.setIfInBounds_toArray,List.set_cons_zero,List.set_cons_succ]
 clear hwr
 refine wpAnyH_take (i := 4) (oi := ⟨some 8,_,_,_,_,_⟩) (v := ?_) rfl (by kernel_rfl) (by decide +kernel) (by decide +kernel) (fun _ _ _ h => h) (Or.inl ⟨by rfl, ?_⟩) (by assumption) ?_
 rotate_left 1
 ·(intro w' hSw; go_simp; try with_reducible rfl)
 try simp only [Act.put,List.setIfInBounds_toArray,List.set_cons_zero,List.set_cons_succ]
 refine wpAnyH_take (i := 5) (oi := ⟨some 9,_,_,_,_,_⟩) (v := ?_) rfl (by kernel_rfl) (by decide +kernel) (by decide +kernel) (fun _ _ _ h => h) (Or.inl ⟨by rfl, ?_⟩) (by assumption) ?_
 rotate_left 1
 ·(intro w' hSw; obtain ⟨hc0,hc1⟩ := hSw; go_simp; try with_reducible rfl)
 try simp only [Act.put,List.setIfInBounds_toArray,List.set_cons_zero,List.set_cons_succ]
 refine wpAnyH_ready (rs := [3]) (by decide +kernel) (by simp) ?_
 refine AllReadyH.cons rfl (fun K hK => ?_) AllReadyH.nil
 go_simp
 go_at_call 137
 refine (HC1.out _).mono ?_
 rintro e w3 ⟨rfl,ho3,hb3⟩
 have HB3 := hid (show Below w1.heap.size w1 w3 from (Below.refl _ w1).drew.trans hb3)
 have HO3 := hid (show w3.ownsRow w1.heap.size 5 1 (.slice (some ⟨w1.heap.size,0,none⟩) 4 4) 4 ((putI ad 4).map (.int .u8)) from ho3)
 clear ho3 hb3 hHeld
 go_wp2_with fail
 refine hK.out _ _ (HS.out _ HB3.out) (fun hHeld => ?_)
 clear hK K
 try simp only [Act.put,List.setIfInBounds_toArray,List.set_cons_zero,List.set_cons_succ]
 refine wpAnyH_ready (rs := [6]) (by decide +kernel) (by simp) ?_
 refine AllReadyH.cons rfl (fun K hK => ?_) AllReadyH.nil
 go_simp
 go_at_call 137
 refine (HC2.out _).mono ?_
 rintro e w4 ⟨rfl,ho4,hb4⟩
 have HB4 := hid (HB3.out.trans (hb4.mono HB3.out.size))
 have HO4 := hid (own_below8 HO3.out hb4)
 have HX4 := hid (BS.of_own ho4 (putI_length bi 8) (putI_byt bi 8))
 clear ho4 hb4 hHeld
 go_wp2_with fail
 refine hK.out _ _ (HS.out _ HB4.out) (fun hHeld => ?_)
 clear hK K
 try simp only [Act.put,List.setIfInBounds_toArray,List.set_cons_zero,List.set_cons_succ]
 clear hHeld
 obtain ⟨v5,w5,hr5,ho5,hg5,hn5⟩ := run_append_BS_at w4 w1.heap.size 4 _ _ _ _ HO4.out HX4.out (by rw [putI_length]; omega) HB4.out.size
 rw [putI_length,← List.map_append] at ho5
 have HB5 := hid (HB4.out.grown hg5 HB4.out.size (by intro k hk; simp [Value.ownBlock] at hk; omega))
 have HO5 := hid ho5
 have HN5 := hid (show ∀ g,v5.ownBlock = some g → w1.heap.size ≤ g from fun g hg => (ho5.lt g hg).1)
 refine wpAnyH_ready (rs := [7]) (by decide +kernel) (by simp) ?_
 refine AllReadyH.cons rfl (fun K hK => ?_) AllReadyH.nil
 rw [if_pos (by kernel_rfl)]
 refine wp_append_run7 (o := ⟨some 11,_,_,_,_,_⟩) (.tmp 7) (.tmp 10) 62 62 rfl _ _ _ _ rfl rfl hr5 ?_
 clear hr5 ho5 hg5 hn5
 refine hK.out _ _ (HS.out _ HB5.out) (fun hHeld => ?_)
 clear hK K
 try simp only [Act.put,List.setIfInBounds_toArray,List.set_cons_zero,List.set_cons_succ]
 refine wpAnyH_take (i := 8) (oi := ⟨some 3,_,_,_,_,_⟩) (v := ?_) rfl (by kernel_rfl) (by decide +kernel) (by decide +kernel) (fun _ _ _ h => h) (Or.inl ⟨by rfl, ?_⟩) (by assumption) ?_
 rotate_left 1
 ·(intro w' hSw; go_simp; try with_reducible rfl)
 try simp only [Act.put,List.setIfInBounds_toArray,List.set_cons_zero,List.set_cons_succ]
 clear hHeld
 refine wpAnyH_done (by decide +kernel) ?_ _
 refine NoPanic.normal ?_
 have HBS5 := hid (HS2.out _ HB5.out)
 obtain ⟨v6,w6,hr6,ho6,hg6,_⟩ := run_append_BS_at w5 w1.heap.size 12 _ _ _ _ HO5.out HBS5.out (by rw [HSU.out.1]; omega) HB5.out.size
 rw [HSU.out.1,← List.map_append,List.append_assoc,← HPB.out] at ho6
 obtain ⟨a6,c6,rfl,hc6,hb6⟩ := own_bs ho6 HPL.out.1 HPL.out.2
 have HR6 := hid hr6
 have HX6 := hid (And.intro hc6 hb6)
 have HB6 := hid (HB0.out.trans ((HB5.out.grown hg6 HB5.out.size (fun k hk => HN5.out k hk)).mono HB0.out.size))
 obtain ⟨a5,c5,rfl,_,_⟩ := own_bs HO5.out (by rw [List.length_append,putI_length,putI_length]) (fun z hz => by rcases List.mem_append.1 hz with h | h; exact putI_byt _ _ z h; exact putI_byt _ _ z h)
 clear hr6 ho6 hg6 hc6 hb6 HBS5 HO5 HN5 HB5 HB4 HB3 HO3 HO4 HX4 HC1 HC2 HS HS2
 go_wp2_with (first
  | (at_builtin; refine wpList_append_run (o := ⟨some 15,_,_,_,_,_⟩) rfl _ _ _ _ rfl _ _ _ _ rfl rfl HR6.out ?_))
 go_ret
 exact ⟨_,_,rfl,HX6.out.1,HX6.out.2,HB6.out⟩
end
section
set_option maxRecDepth 4000
open Go.ChangeShapes Go.WideShapes Go.ChangeAt Go.RowKit
theorem ptrs_at {w w' : World} {x : List PtrV} {a : Option Addr} {n c i : Nat} (h : Ptrs w x a n c) (hb : Below w.heap.size w w') (hi : i < n) :
 ∃ b off q,a = some ⟨b,off,none⟩ ∧ x[i]? = some q ∧ w'.rangeAt b (off + i * 34) (ptrRow q) := by
 obtain ⟨b,off,cs,h1,h2,_,h5⟩ := h.here i (by rw [h.len]; exact hi)
 obtain rfl : cs = ptrRow _ := h2
 exact ⟨b,off,_,h1,List.getElem?_eq_getElem _,range_below h5 hb⟩
theorem index_ptr (b off len cap i : Nat) (h : i < len) (W : World) : (Instr.indexAt 35 (.slice (some ⟨b,off,none⟩) len cap) (.int .i64 (i : Int))).run Tryz.prog W = .ok (.pointer (some ⟨b,off + i * 34,none⟩)) W := by
 obtain ⟨i0,hi,hs⟩ := Option.map_eq_some_iff.1 (show (Tryz.prog.info? 43).map (·.size) = some 34 by kernel_rfl)
 simp [Instr.indexAt,asIntOf,run_underlying Tryz.underlying35,sizeOf,typeInfo,hi,hs,h,Addr.add_mid]
end
section
set_option maxRecDepth 4000
open Go.ChangeShapes Go.WideShapes Go.ChangeAt Go.RowKit
def rowsP (l : List PtrV) : List Value := l.flatMap ptrRow
theorem rowsP_snoc (l : List PtrV) (q : PtrV) : rowsP (l ++ [q]) = rowsP l ++ ptrRow q := by simp [rowsP]
theorem rowsP_length (l : List PtrV) : (rowsP l).length = l.length * 34 := by
 induction l with
 | nil => rfl
 | cons q l ih =>
   show (ptrRow q ++ rowsP l).length = _
   rw [List.length_append,ih,ptrRow_length,List.length_cons]
   omega
theorem own_belowP {B n k : Nat} {e : TypeId} {v : Value} {xs : List Value} {w w' : World} (h : w.ownsRow B e k v n xs) (hb : Below w.heap.size w w') : w'.ownsRow B e k v n xs :=
 h.kept (row := none) ⟨hb.os,hb.tape,hb.output,hb.size,fun j hj _ => hb.block j hj⟩ (by by_cases q : v.ownBlock = none; exact .inl q; exact .inr q)
theorem lit_ptr (q : PtrV) (W : World) : (Instr.buildSlice 35 1 #[(0,.agg (ptrRow q).toArray)]).run Tryz.prog W = .ok (.slice (some ⟨W.heap.size,0,none⟩) 1 1) (W.alloc (.cells (ptrRow q).toArray 43)) :=
 lit_one Tryz.underlying35 info_ptr (by decide) (by decide) _ (by simp [ptrRow_length]) W
theorem rowsP_at (l : List PtrV) (i : Nat) (q : PtrV) (hi : l[i]? = some q) (j : Nat) (hj : j < 34) : (rowsP l)[i * 34 + j]? = (ptrRow q)[j]? := by
 induction l generalizing i with
 | nil => simp at hi
 | cons p l ih =>
   show (ptrRow p ++ rowsP l)[i * 34 + j]? = _
   cases i with
   | zero =>
     simp at hi
     subst hi
     rw [List.getElem?_append_left (by rw [ptrRow_length]; omega)]
     congr 1
     omega
   | succ i =>
     rw [List.getElem?_append_right (by rw [ptrRow_length]; omega),ptrRow_length]
     rw [← ih i (by simpa using hi)]
     congr 1
     omega
theorem new_row8 (w : World) (Z R : Array Value) : ((w.alloc (.cells Z 43)).setRow w.heap.size R).heap[w.heap.size]? = some (.cells R 43 (0,0)) ∧ Below w.heap.size w ((w.alloc (.cells Z 43)).setRow w.heap.size R) := by
 obtain ⟨e1,e2,e3⟩ := ygen_row (w := w) (old := Z) (cs := R) (T := 43)
 exact ⟨e1,e3⟩
end
section
set_option maxRecDepth 4000
set_option linter.unusedVariables false
open Go.ChangeShapes Go.WideShapes Go.ChangeAt Go.RowKit
def PS (w : World) (v : Value) (l : List PtrV) : Prop :=
 ∃ a c,v = .slice a l.length c ∧ ∀ (i : Nat) (q : PtrV),l[i]? = some q → ∃ b off,a = some ⟨b,off,none⟩ ∧ w.rangeAt b (off + i * 34) (ptrRow q)
theorem PS.below {w w' : World} {v : Value} {l : List PtrV} (h : PS w v l) (hb : Below w.heap.size w w') : PS w' v l := by
 obtain ⟨a,c,e,h⟩ := h
 refine ⟨a,c,e,fun i q hq => ?_⟩
 obtain ⟨b,off,h1,h2⟩ := h i q hq
 exact ⟨b,off,h1,range_below h2 hb⟩
theorem ps_own {w : World} {B : Nat} {v : Value} {n : Nat} {l : List PtrV} (h : w.ownsRow B 43 34 v n (rowsP l)) : PS w v l := by
 have hl := h.1
 rw [rowsP_length] at hl
 obtain rfl : l.length = n := Nat.eq_of_mul_eq_mul_right (by decide) hl
 rcases h.2 with ⟨rfl,h0⟩ | ⟨g,cap,cur,rfl,hbase,hb,h1,h2,h3,h4⟩
 ·have : l = [] := List.length_eq_zero_iff.1 h0
  subst this
  exact ⟨none,0,rfl,fun i q hq => by simp at hq⟩
 ·refine ⟨_,cap,rfl,fun i q hq => ⟨g,0,rfl,fun j u hj => ?_⟩⟩
  have hi : i < l.length := (List.getElem?_eq_some_iff.1 hq).1
  have hj34 : j < 34 := by have := (List.getElem?_eq_some_iff.1 hj).1; rwa [ptrRow_length] at this
  have e := rowsP_at l i q hq j hj34
  rw [hj,← h4,List.getElem?_take_of_lt (by omega),Array.getElem?_toList] at e
  rw [Nat.zero_add]
  simp only [World.cell?,hb]
  simpa using e
theorem ps_in {w : World} {x : List PtrV} {a : Option Addr} {n c : Nat} (h : Ptrs w x a n c) : PS w (.slice a n c) x := by
 refine ⟨a,c,by rw [h.len],fun i q hq => ?_⟩
 obtain ⟨b,off,q',h1,h2,h3⟩ := ptrs_at h (Below.refl _ w) (i := i) (by rw [← h.len]; exact (List.getElem?_eq_some_iff.1 hq).1)
 rw [hq] at h2
 cases h2
 exact ⟨b,off,h1,h3⟩
set_option maxRecDepth 100000 in
set_option maxHeartbeats 1600000 in
theorem peq_any (w : World) (u v : Value) (l m : List PtrV) (h : PS w u l) (k : PS w v m) (hl : l.length ≤ 1000000) (hm : m.length ≤ 1000000) :
 Calls Tryz.prog 63 #[u,v] w fun e w' => e = .returned (.bool (decide (l = m))) ∧ Below w.heap.size w w' := by
 obtain ⟨a1,c1,rfl,h1⟩ := h
 obtain ⟨a2,c2,rfl,h2⟩ := k
 by_cases hn : l.length = m.length
 ·have H1 := hid h1
  have H2 := hid h2
  have HN := hid hn
  have HE := hid (fun i (h : l.take i = m.take i) (hi : l.length ≤ i) => show decide (l = m) = true by
   rw [decide_eq_true_iff]; rw [List.take_of_length_le hi,List.take_of_length_le (by omega)] at h; exact h)
  rw [← hn]
  clear h1 h2 hn hm
  have hlI : (l.length : Int) ≤ 1000000 := by omega
  obtain ⟨n,hnn⟩ : ∃ n,l.length = n := ⟨_,rfl⟩
  rw [hnn] at hlI HE ⊢
  have HNN := hid hnn
  clear hl hnn
  go_enter Tryz.func63,Tryz.ntmps63
  go_wp2_with fail
  go_loopw [5,13] (fun _ v13 wr => ∃ i : Nat,i ≤ n ∧ v13 = .int .i64 (i : Int) ∧ l.take i = m.take i ∧ Below w.heap.size w wr) (fun _ v _ => n - (intOf v).toNat)
  case atStart => exact ⟨0,by omega,rfl,by simp,Below.refl _ _⟩
  case round =>
   obtain ⟨i,hi,rfl,ht,hB⟩ := hrel
   by_cases hlt : i < n
   ·obtain ⟨p,hp⟩ : ∃ p,l[i]? = some p := ⟨_,List.getElem?_eq_getElem (by have := HNN.out; omega)⟩
    obtain ⟨q,hq⟩ : ∃ q,m[i]? = some q := ⟨_,List.getElem?_eq_getElem (by have := HNN.out; have := HN.out; omega)⟩
    obtain ⟨b1,o1,rfl,g1⟩ := H1.out i p hp
    obtain ⟨b2,o2,rfl,g2⟩ := H2.out i q hq
    have hix1 := index_ptr b1 o1 n c1 i hlt
    have hix2 := index_ptr b2 o2 n c2 i hlt
    have HSS := hid (show ∀ W : World,Below wr.heap.size wr W → W.rangeAt b1 (o1 + i * 34) (ptrRow p) ∧ W.rangeAt b2 (o2 + i * 34) (ptrRow q) from
     fun W hW => ⟨range_below g1 (hB.trans (hW.mono hB.size)),range_below g2 (hB.trans (hW.mono hB.size))⟩)
    have SA := hid (size_ptr p)
    have SB := hid (size_ptr q)
    have HEQ := hid (eq_ptr p q)
    have HT := hid (show p = q → l.take (i + 1) = m.take (i + 1) by
     intro e; rw [List.take_add_one,List.take_add_one,hp,hq,ht,e])
    have HF := hid (show p ≠ q → decide (l = m) = false by
     intro e; rw [decide_eq_false_iff_not]; intro e2; rw [e2,hq] at hp; cases hp; exact e rfl)
    have HB := hid hB
    have HLT := hid hlt
    have iI : (i : Int) < (n : Int) := by omega
    have i0 : (0 : Int) ≤ (i : Int) := by omega
    by_cases hpq : p = q
    ·rw [decide_eq_true hpq] at HEQ
     have HT2 := hid (HT.out hpq)
     clear hi hlt ht hB hp hq g1 g2 hpq HT HF
     obtain ⟨AL,hAL⟩ : ∃ AL,ptrRow p = AL := ⟨_,rfl⟩
     obtain ⟨BL,hBL⟩ : ∃ BL,ptrRow q = BL := ⟨_,rfl⟩
     rw [hAL,hBL] at HSS HEQ
     rw [hAL] at SA
     rw [hBL] at SB
     obtain ⟨AR,hAR⟩ : ∃ AR,AL.toArray = AR := ⟨_,rfl⟩
     obtain ⟨BR,hBR⟩ : ∃ BR,BL.toArray = BR := ⟨_,rfl⟩
     rw [hAR,hBR] at HEQ
     have HAL := hid hAR
     have HBL := hid hBR
     clear hAR hBR hAL hBL
     go_upto_region 6 with fail
     try simp only [Act.put]
     refine wp_region_noPanic ?_
     refine wp_region_held_drew (S := fun W => W.rangeAt b1 (o1 + i * 34) AL ∧ W.rangeAt b2 (o2 + i * 34) BL) (by kernel_rfl) (HSS.out _ (Below.refl _ wr).drew) (fun hHeld => ?_)
     refine wpAnyH_take (i := 0) (oi := ⟨some 16,_,_,_,_,_⟩) (v := ?_) rfl (by kernel_rfl) (by decide +kernel) (by decide +kernel) (fun _ _ _ h => h) (Or.inl ⟨by rfl, ?_⟩) (by assumption) ?_
     rotate_left 1
     ·(intro w' hSw; go_simp; try with_reducible rfl)
     try simp only [Act.put,List.setIfInBounds_toArray,List.set_cons_zero,List.set_cons_succ]
     refine wpAnyH_take (i := 1) (oi := ⟨some 17,_,_,_,_,_⟩) (v := ?_) rfl (by kernel_rfl) (by decide +kernel) (by decide +kernel) (fun _ _ _ h => h) (Or.inl ⟨by rfl, ?_⟩) (by assumption) ?_
     rotate_left 1
     ·(intro w' hSw; go_simp; try with_reducible rfl)
     try simp only [Act.put,List.setIfInBounds_toArray,List.set_cons_zero,List.set_cons_succ]
     refine wpAnyH_take (i := 2) (oi := ⟨some 18,_,_,_,_,_⟩) (v := ?_) rfl (by kernel_rfl) (by decide +kernel) (by decide +kernel) (fun _ _ _ h => h) (Or.inl ⟨by rfl, ?_⟩) (by assumption) ?_
     rotate_left 1
     ·(intro w' hSw; go_simp; try with_reducible rfl)
     try simp only [Act.put,List.setIfInBounds_toArray,List.set_cons_zero,List.set_cons_succ]
     refine wpAnyH_take (i := 3) (oi := ⟨some 19,_,_,_,_,_⟩) rfl (by kernel_rfl) (by decide +kernel) (by decide +kernel) (fun _ _ _ h => h) (yieldsIf_load_mid (by rfl) _ _ rfl b1 (o1 + i * 34) rfl AL _ (fun w' h => h.1) Tryz.underlying43 rfl SA.out) (by assumption) ?_
     try simp only [Act.put,List.setIfInBounds_toArray,List.set_cons_zero,List.set_cons_succ]
     rw [HAL.out]
     refine wpAnyH_take (i := 4) (oi := ⟨some 20,_,_,_,_,_⟩) (v := ?_) rfl (by kernel_rfl) (by decide +kernel) (by decide +kernel) (fun _ _ _ h => h) (Or.inl ⟨by rfl, ?_⟩) (by assumption) ?_
     rotate_left 1
     ·(intro w' hSw; go_simp; try with_reducible rfl)
     try simp only [Act.put,List.setIfInBounds_toArray,List.set_cons_zero,List.set_cons_succ]
     refine wpAnyH_take (i := 5) (oi := ⟨some 21,_,_,_,_,_⟩) (v := ?_) rfl (by kernel_rfl) (by decide +kernel) (by decide +kernel) (fun _ _ _ h => h) (Or.inl ⟨by rfl, ?_⟩) (by assumption) ?_
     rotate_left 1
     ·(intro w' hSw; go_simp; try with_reducible rfl)
     try simp only [Act.put,List.setIfInBounds_toArray,List.set_cons_zero,List.set_cons_succ]
     refine wpAnyH_take (i := 6) (oi := ⟨some 22,_,_,_,_,_⟩) (v := ?_) rfl (by kernel_rfl) (by decide +kernel) (by decide +kernel) (fun _ _ _ h => h) (Or.inl ⟨by rfl, ?_⟩) (by assumption) ?_
     rotate_left 1
     ·(intro w' hSw; go_simp; try with_reducible rfl)
     try simp only [Act.put,List.setIfInBounds_toArray,List.set_cons_zero,List.set_cons_succ]
     refine wpAnyH_take (i := 7) (oi := ⟨some 23,_,_,_,_,_⟩) rfl (by kernel_rfl) (by decide +kernel) (by decide +kernel) (fun _ _ _ h => h) (yieldsIf_load_mid (by rfl) _ _ rfl b2 (o2 + i * 34) rfl BL _ (fun w' h => h.2) Tryz.underlying43 rfl SB.out) (by assumption) ?_
     try simp only [Act.put,List.setIfInBounds_toArray,List.set_cons_zero,List.set_cons_succ]
     rw [HBL.out]
     refine wpAnyH_take (i := 8) (oi := ⟨some 24,_,_,_,_,_⟩) (v := ?_) rfl (by kernel_rfl) (by decide +kernel) (by decide +kernel) (fun _ _ _ h => h) (Or.inl ⟨by rfl, ?_⟩) (by assumption) ?_
     rotate_left 1
     ·(intro w' hSw; have heq := HEQ.out; go_simp; try with_reducible rfl)
     try simp only [Act.put,List.setIfInBounds_toArray,List.set_cons_zero,List.set_cons_succ]
     clear hHeld
     refine wpAnyH_done (by decide +kernel) ?_ _
     refine NoPanic.normal ?_
     go_wp2_with fail
     go_roundw
     case rel => exact ⟨i + 1,by have := HLT.out; omega,by go_num,HT2.out,HB.out.drew⟩
     case measure => simp [intOf]; have := HLT.out; omega
    ·rw [decide_eq_false hpq] at HEQ
     have HF2 := hid (HF.out hpq)
     clear hi hlt ht hB hp hq g1 g2 hpq HT HF
     obtain ⟨AL,hAL⟩ : ∃ AL,ptrRow p = AL := ⟨_,rfl⟩
     obtain ⟨BL,hBL⟩ : ∃ BL,ptrRow q = BL := ⟨_,rfl⟩
     rw [hAL,hBL] at HSS HEQ
     rw [hAL] at SA
     rw [hBL] at SB
     obtain ⟨AR,hAR⟩ : ∃ AR,AL.toArray = AR := ⟨_,rfl⟩
     obtain ⟨BR,hBR⟩ : ∃ BR,BL.toArray = BR := ⟨_,rfl⟩
     rw [hAR,hBR] at HEQ
     have HAL := hid hAR
     have HBL := hid hBR
     clear hAR hBR hAL hBL
     go_upto_region 6 with fail
     try simp only [Act.put]
     refine wp_region_noPanic ?_
     refine wp_region_held_drew (S := fun W => W.rangeAt b1 (o1 + i * 34) AL ∧ W.rangeAt b2 (o2 + i * 34) BL) (by kernel_rfl) (HSS.out _ (Below.refl _ wr).drew) (fun hHeld => ?_)
     refine wpAnyH_take (i := 0) (oi := ⟨some 16,_,_,_,_,_⟩) (v := ?_) rfl (by kernel_rfl) (by decide +kernel) (by decide +kernel) (fun _ _ _ h => h) (Or.inl ⟨by rfl, ?_⟩) (by assumption) ?_
     rotate_left 1
     ·(intro w' hSw; go_simp; try with_reducible rfl)
     try simp only [Act.put,List.setIfInBounds_toArray,List.set_cons_zero,List.set_cons_succ]
     refine wpAnyH_take (i := 1) (oi := ⟨some 17,_,_,_,_,_⟩) (v := ?_) rfl (by kernel_rfl) (by decide +kernel) (by decide +kernel) (fun _ _ _ h => h) (Or.inl ⟨by rfl, ?_⟩) (by assumption) ?_
     rotate_left 1
     ·(intro w' hSw; go_simp; try with_reducible rfl)
     try simp only [Act.put,List.setIfInBounds_toArray,List.set_cons_zero,List.set_cons_succ]
     refine wpAnyH_take (i := 2) (oi := ⟨some 18,_,_,_,_,_⟩) (v := ?_) rfl (by kernel_rfl) (by decide +kernel) (by decide +kernel) (fun _ _ _ h => h) (Or.inl ⟨by rfl, ?_⟩) (by assumption) ?_
     rotate_left 1
     ·(intro w' hSw; go_simp; try with_reducible rfl)
     try simp only [Act.put,List.setIfInBounds_toArray,List.set_cons_zero,List.set_cons_succ]
     refine wpAnyH_take (i := 3) (oi := ⟨some 19,_,_,_,_,_⟩) rfl (by kernel_rfl) (by decide +kernel) (by decide +kernel) (fun _ _ _ h => h) (yieldsIf_load_mid (by rfl) _ _ rfl b1 (o1 + i * 34) rfl AL _ (fun w' h => h.1) Tryz.underlying43 rfl SA.out) (by assumption) ?_
     try simp only [Act.put,List.setIfInBounds_toArray,List.set_cons_zero,List.set_cons_succ]
     rw [HAL.out]
     refine wpAnyH_take (i := 4) (oi := ⟨some 20,_,_,_,_,_⟩) (v := ?_) rfl (by kernel_rfl) (by decide +kernel) (by decide +kernel) (fun _ _ _ h => h) (Or.inl ⟨by rfl, ?_⟩) (by assumption) ?_
     rotate_left 1
     ·(intro w' hSw; go_simp; try with_reducible rfl)
     try simp only [Act.put,List.setIfInBounds_toArray,List.set_cons_zero,List.set_cons_succ]
     refine wpAnyH_take (i := 5) (oi := ⟨some 21,_,_,_,_,_⟩) (v := ?_) rfl (by kernel_rfl) (by decide +kernel) (by decide +kernel) (fun _ _ _ h => h) (Or.inl ⟨by rfl, ?_⟩) (by assumption) ?_
     rotate_left 1
     ·(intro w' hSw; go_simp; try with_reducible rfl)
     try simp only [Act.put,List.setIfInBounds_toArray,List.set_cons_zero,List.set_cons_succ]
     refine wpAnyH_take (i := 6) (oi := ⟨some 22,_,_,_,_,_⟩) (v := ?_) rfl (by kernel_rfl) (by decide +kernel) (by decide +kernel) (fun _ _ _ h => h) (Or.inl ⟨by rfl, ?_⟩) (by assumption) ?_
     rotate_left 1
     ·(intro w' hSw; go_simp; try with_reducible rfl)
     try simp only [Act.put,List.setIfInBounds_toArray,List.set_cons_zero,List.set_cons_succ]
     refine wpAnyH_take (i := 7) (oi := ⟨some 23,_,_,_,_,_⟩) rfl (by kernel_rfl) (by decide +kernel) (by decide +kernel) (fun _ _ _ h => h) (yieldsIf_load_mid (by rfl) _ _ rfl b2 (o2 + i * 34) rfl BL _ (fun w' h => h.2) Tryz.underlying43 rfl SB.out) (by assumption) ?_
     try simp only [Act.put,List.setIfInBounds_toArray,List.set_cons_zero,List.set_cons_succ]
     rw [HBL.out]
     refine wpAnyH_take (i := 8) (oi := ⟨some 24,_,_,_,_,_⟩) (v := ?_) rfl (by kernel_rfl) (by decide +kernel) (by decide +kernel) (fun _ _ _ h => h) (Or.inl ⟨by rfl, ?_⟩) (by assumption) ?_
     rotate_left 1
     ·(intro w' hSw; have heq := HEQ.out; go_simp; try with_reducible rfl)
     try simp only [Act.put,List.setIfInBounds_toArray,List.set_cons_zero,List.set_cons_succ]
     clear hHeld
     refine wpAnyH_done (by decide +kernel) ?_ _
     refine NoPanic.normal ?_
     go_wp2_with fail
     go_ret
     exact ⟨congrArg (fun b => Ending.returned (.bool b)) HF2.out.symm,HB.out.drew⟩
   ·obtain rfl : i = n := by omega
    have HT := hid (HE.out i ht (Nat.le_refl _))
    have HB := hid hB
    clear hi hlt ht hB HE
    go_wp2_with fail
    go_ret
    exact ⟨congrArg (fun b => Ending.returned (.bool b)) HT.out.symm,HB.out⟩
 ·have HF := hid (show decide (l = m) = false by rw [decide_eq_false_iff_not]; intro e; exact hn (by rw [e]))
  have hnb : ((l.length : Int) == (m.length : Int)) = false := by simp; omega
  clear h1 h2 hn hl hm
  go_enter Tryz.func63,Tryz.ntmps63
  go_wp2_with fail
  go_ret
  exact ⟨congrArg (fun b => Ending.returned (.bool b)) HF.out.symm,Below.refl _ _⟩
end
section
set_option maxRecDepth 4000
open Go.ChangeShapes Go.WideShapes Go.ChangeAt Go.RowKit
theorem append_ps (w : World) (B n : Nat) (v u : Value) (xs l : List PtrV) (hown : w.ownsRow B 43 34 v n (rowsP xs)) (hu : PS w u l) (h1 : n ≤ 1000000) (h2 : l.length ≤ 1000000) (hB : B ≤ w.heap.size) :
 ∃ a c w',(Builtin.append_ #[35,35] 35 #[v,u]).run Tryz.prog w = .ok (.slice a (n + l.length) c) w' ∧ w'.ownsRow B 43 34 (.slice a (n + l.length) c) (n + l.length) (rowsP (xs ++ l)) ∧ w.grownBy w' v.ownBlock ∧ ((Value.slice a (n + l.length) c).ownBlock = v.ownBlock ∨ (Value.slice a (n + l.length) c).ownBlock = some w.heap.size) := by
 obtain ⟨i0,hi,hz0,hz1,hz2⟩ := info_parts info_ptr
 obtain ⟨ad,cu,rfl,hc⟩ := hu
 have shp : ∀ (v' : Value) (w' : World) (ys : List Value),w'.ownsRow B 43 34 v' (n + l.length) ys → ∃ a c,v' = .slice a (n + l.length) c := fun v' w' ys ho => by
  rcases ho.2 with ⟨rfl,h0⟩ | ⟨g,cap,_,rfl,_⟩
  ·exact ⟨none,0,by rw [h0]⟩
  ·exact ⟨_,_,rfl⟩
 cases ad with
 | none =>
   have hl : l = [] := by
    cases l with
    | nil => rfl
    | cons p l => obtain ⟨b,off,h,_⟩ := hc 0 p rfl; cases h
   subst hl
   have hr : (Builtin.append_ #[35,35] 35 #[v,.slice none 0 cu]).run Tryz.prog w = .ok v w := by
    rcases hown.2 with ⟨rfl,rfl⟩ | ⟨g,cap,cur,rfl,_,_,hnc,_⟩
    ·simp [Builtin.append_,run_underlying Tryz.underlying35,sizeOf,typeInfo,hi,Builtin.lenOf,Builtin.firstCells]
    ·simp [Builtin.append_,run_underlying Tryz.underlying35,sizeOf,typeInfo,hi,Builtin.lenOf,Builtin.firstCells,hnc,storeCells]
   obtain ⟨a,c,rfl⟩ := shp v w _ hown
   exact ⟨a,c,w,hr,by simpa using hown,⟨rfl,rfl,rfl,Nat.le_refl _,fun _ _ _ => rfl⟩,.inl rfl⟩
 | some ad =>
   obtain ⟨v',w',hr,ho,hg,_,hnb⟩ := run_append_own_at (P := Tryz.prog) w B 35 35 43 i0 _ 34 48 Tryz.underlying35 hi hz0 hz1 hz2 (by simp [Value.cells,ptrRow_length]) (by decide) v n (rowsP xs) hown ad l.length cu (rowsP l) (rowsP_length l) (fun j u hj => by
    have hjl : j < l.length * 34 := by have := (List.getElem?_eq_some_iff.1 hj).1; rwa [rowsP_length] at this
    have hd : j / 34 < l.length := by omega
    obtain ⟨b,off,he,hrg⟩ := hc (j / 34) l[j / 34] (List.getElem?_eq_getElem hd)
    obtain rfl := Option.some.inj he
    have e := rowsP_at l (j / 34) l[j / 34] (List.getElem?_eq_getElem hd) (j % 34) (by omega)
    rw [show j / 34 * 34 + j % 34 = j by omega,hj] at e
    have h3 := hrg (j % 34) u e.symm
    rw [Addr.add_mid]
    rw [show off + j / 34 * 34 + j % 34 = off + j by omega] at h3
    exact h3) (fun u hu => by
    obtain ⟨q,_,hq⟩ := List.mem_flatMap.1 hu
    exact ptrRow_cells1 q u hq) (by unfold maxLen; omega) (by omega) hB
   obtain ⟨a,c,rfl⟩ := shp v' w' _ ho
   exact ⟨a,c,w',hr,by rw [show rowsP (xs ++ l) = rowsP xs ++ rowsP l by simp [rowsP]]; exact ho,hg,hnb⟩
end
section
set_option maxRecDepth 4000
set_option linter.unusedVariables false
open Go.ChangeShapes Go.WideShapes Go.ChangeAt Go.RowKit
theorem str_inj {p q : ByteArray} (h : p.toList = q.toList) : p = q := by
 rw [Lib.toList_data,Lib.toList_data] at h
 exact ByteArray.ext (Array.toList_inj.1 h)
theorem str_beq (p q : ByteArray) : (p.toList == q.toList) = decide (p = q) := by
 by_cases h : p = q
 ·rw [h,decide_eq_true rfl]; simp
 ·rw [decide_eq_false h,beq_eq_false_iff_ne]
  exact fun e => h (str_inj e)
def lo (a b : ByteArray) : Bool := Op.bytesLess a.toList b.toList
theorem lo_lt (a b : ByteArray) : lo a b = decide (a.toList < b.toList) := bytesLess_eq _ _
theorem lo_irr (a : ByteArray) : lo a a = false := by rw [lo_lt,decide_eq_false_iff_not]; exact List.lt_irrefl _
theorem lo_trans {a b c : ByteArray} (h : lo a b = true) (k : lo b c = true) : lo a c = true := by
 rw [lo_lt,decide_eq_true_iff] at *
 exact List.lt_trans h k
theorem lo_asymm {a b : ByteArray} (h : lo a b = true) : lo b a = false := by
 cases e : lo b a with
 | false => rfl
 | true => have := lo_trans h e; rw [lo_irr] at this; cases this
theorem lo_tri (a b : ByteArray) : lo a b = true ∨ a = b ∨ lo b a = true := by
 rw [lo_lt,lo_lt,decide_eq_true_iff,decide_eq_true_iff]
 by_cases h : a.toList < b.toList
 ·exact .inl h
 ·by_cases k : b.toList < a.toList
  ·exact .inr (.inr k)
  ·exact .inr (.inl (str_inj (List.le_antisymm k h)))
def SS (w : World) (v : Value) (l : List ByteArray) : Prop :=
 ∃ a c,v = .slice a l.length c ∧ l.length ≤ c ∧ ∀ (i : Nat) (s : ByteArray),l[i]? = some s → ∃ b off,a = some ⟨b,off,none⟩ ∧ w.cell? ⟨b,off + i,none⟩ = some (.string s)
theorem SS.below {w w' : World} {v : Value} {l : List ByteArray} (h : SS w v l) (hb : Below w.heap.size w w') : SS w' v l := by
 obtain ⟨a,c,e,hc,h⟩ := h
 refine ⟨a,c,e,hc,fun i q hq => ?_⟩
 obtain ⟨b,off,h1,h2⟩ := h i q hq
 exact ⟨b,off,h1,(hb.cell (p := ⟨b,off + i,none⟩) (block_lt_of_cell h2)).trans h2⟩
theorem ss_nil (w : World) : SS w (.slice none 0 0) [] := ⟨none,0,rfl,Nat.le_refl _,fun i q hq => by simp at hq⟩
theorem ss_own {w : World} {B : Nat} {v : Value} {n : Nat} {l : List ByteArray} (h : w.ownsRow B 9 1 v n (l.map Value.string)) : SS w v l := by
 have hl := h.1
 rw [List.length_map,Nat.mul_one] at hl
 subst hl
 rcases h.2 with ⟨rfl,h0⟩ | ⟨g,cap,cur,rfl,hbase,hb,h1,h2,h3,h4⟩
 ·have : l = [] := List.length_eq_zero_iff.1 h0
  subst this
  exact ⟨none,0,rfl,Nat.le_refl _,fun i q hq => by simp at hq⟩
 ·refine ⟨_,cap,rfl,h1,fun i q hq => ⟨g,0,rfl, ?_⟩⟩
  have hi : i < l.length := (List.getElem?_eq_some_iff.1 hq).1
  have e : (l.map Value.string)[i]? = some (.string q) := by rw [List.getElem?_map,hq]; rfl
  rw [← h4,List.getElem?_take_of_lt (by omega),Array.getElem?_toList] at e
  rw [Nat.zero_add]
  simp only [World.cell?,hb]
  simpa using e
theorem index_sl (b off len cap i : Nat) (h : i < len) (W : World) : (Instr.indexAt 36 (.slice (some ⟨b,off,none⟩) len cap) (.int .i64 (i : Int))).run Tryz.prog W = .ok (.pointer (some ⟨b,off + i,none⟩)) W := by
 obtain ⟨i0,hi,hs⟩ := Option.map_eq_some_iff.1 (show (Tryz.prog.info? 9).map (·.size) = some 1 by kernel_rfl)
 simp [Instr.indexAt,asIntOf,run_underlying Tryz.underlying36,sizeOf,typeInfo,hi,hs,h,Addr.add_mid]
set_option maxRecDepth 100000 in
set_option maxHeartbeats 1600000 in
theorem seq_any (w : World) (u v : Value) (l m : List ByteArray) (h : SS w u l) (k : SS w v m) (hl : l.length ≤ 140737488351232) (hm : m.length ≤ 140737488351232) :
 Calls Tryz.prog 62 #[u,v] w fun e w' => e = .returned (.bool (decide (l = m))) ∧ Below w.heap.size w w' := by
 obtain ⟨a1,c1,rfl,hc1,h1⟩ := h
 obtain ⟨a2,c2,rfl,hc2,h2⟩ := k
 clear hc1 hc2
 by_cases hn : l.length = m.length
 ·have H1 := hid h1
  have H2 := hid h2
  have HN := hid hn
  have HE := hid (fun i (h : l.take i = m.take i) (hi : l.length ≤ i) => show decide (l = m) = true by
   rw [decide_eq_true_iff]; rw [List.take_of_length_le hi,List.take_of_length_le (by omega)] at h; exact h)
  rw [← hn]
  clear h1 h2 hn hm
  have hlI : (l.length : Int) ≤ 140737488351232 := by omega
  obtain ⟨n,hnn⟩ : ∃ n,l.length = n := ⟨_,rfl⟩
  rw [hnn] at hlI HE ⊢
  have HNN := hid hnn
  clear hl hnn
  go_enter Tryz.func62,Tryz.ntmps62
  go_wp2_with fail
  go_loopw [5,13] (fun _ v13 wr => ∃ i : Nat,i ≤ n ∧ v13 = .int .i64 (i : Int) ∧ l.take i = m.take i ∧ Below w.heap.size w wr) (fun _ v _ => n - (intOf v).toNat)
  case atStart => exact ⟨0,by omega,rfl,by simp,Below.refl _ _⟩
  case round =>
   obtain ⟨i,hi,rfl,ht,hB⟩ := hrel
   by_cases hlt : i < n
   ·obtain ⟨p,hp⟩ : ∃ p,l[i]? = some p := ⟨_,List.getElem?_eq_getElem (by have := HNN.out; omega)⟩
    obtain ⟨q,hq⟩ : ∃ q,m[i]? = some q := ⟨_,List.getElem?_eq_getElem (by have := HNN.out; have := HN.out; omega)⟩
    obtain ⟨b1,o1,rfl,g1⟩ := H1.out i p hp
    obtain ⟨b2,o2,rfl,g2⟩ := H2.out i q hq
    have hix1 := index_sl b1 o1 n c1 i hlt
    have hix2 := index_sl b2 o2 n c2 i hlt
    have g1' := (hB.cell (p := ⟨b1,o1 + i,none⟩) (block_lt_of_cell g1)).trans g1
    have g2' := (hB.cell (p := ⟨b2,o2 + i,none⟩) (block_lt_of_cell g2)).trans g2
    have HT := hid (show p = q → l.take (i + 1) = m.take (i + 1) by
     intro e; rw [List.take_add_one,List.take_add_one,hp,hq,ht,e])
    have HF := hid (show p ≠ q → decide (l = m) = false by
     intro e; rw [decide_eq_false_iff_not]; intro e2; rw [e2,hq] at hp; cases hp; exact e rfl)
    have HB := hid hB
    have HLT := hid hlt
    have iI : (i : Int) < (n : Int) := by omega
    have i0 : (0 : Int) ≤ (i : Int) := by omega
    clear hi hlt ht hB hp hq g1 g2
    go_upto_region 6 with fail
    go_quiet (fail)
    by_cases hpq : p = q
    ·have HT2 := hid (HT.out hpq)
     have e1 : (p.toList == q.toList) = true := by rw [hpq]; simp
     rw [e1]
     clear HT HF hpq e1
     go_wp2_with fail
     go_roundw
     case rel => exact ⟨i + 1,by have := HLT.out; omega,by go_num,HT2.out,ybelow_drewN HB.out nq⟩
     case measure => simp [intOf]; have := HLT.out; omega
    ·have HF2 := hid (HF.out hpq)
     have e1 : (p.toList == q.toList) = false := by rw [str_beq,decide_eq_false hpq]
     rw [e1]
     clear HT HF hpq e1
     go_wp2_with fail
     go_ret
     exact ⟨congrArg (fun b => Ending.returned (.bool b)) HF2.out.symm,ybelow_drewN HB.out nq⟩
   ·obtain rfl : i = n := by omega
    have HT := hid (HE.out i ht (Nat.le_refl _))
    have HB := hid hB
    clear hi hlt ht hB HE
    go_wp2_with fail
    go_ret
    exact ⟨congrArg (fun b => Ending.returned (.bool b)) HT.out.symm,HB.out⟩
 ·have HF := hid (show decide (l = m) = false by rw [decide_eq_false_iff_not]; intro e; exact hn (by rw [e]))
  have hnb : ((l.length : Int) == (m.length : Int)) = false := by simp; omega
  have hlI : (l.length : Int) ≤ 140737488351232 := by omega
  have hmI : (m.length : Int) ≤ 140737488351232 := by omega
  clear h1 h2 hn hl hm
  go_enter Tryz.func62,Tryz.ntmps62
  go_wp2_with fail
  go_ret
  exact ⟨congrArg (fun b => Ending.returned (.bool b)) HF.out.symm,Below.refl _ _⟩
end
end Go.Proofs.YtgckapolpifbkaaGreatDoor
