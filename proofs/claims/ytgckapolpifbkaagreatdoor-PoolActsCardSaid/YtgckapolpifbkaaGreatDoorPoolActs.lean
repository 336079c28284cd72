/-
 'PoolActs' returns true at every input,and each argument reads behind the call as it read before. Conditions: the package-level variable that the row lists starts as the program's text lays it (the card ties that).
-/
import Derived.Test.YtgckapolpifbkaaGreatDoorLb
import Derived.Test.YtgckapolpifbkaaGreatDoorCards
import Derived.Test.YtgckapolpifbkaaGreatDoorTie
import Derived.Test.YtgckapolpifbkaaGreatDoorWi
import Derived.Test.YtgckapolpifbkaaGreatDoorWs
import Derived.Deep.MidRow
import Derived.Deep.DeepCutAuto
import Derived.Deep.CutBlock
namespace Go.Proofs.YtgckapolpifbkaaGreatDoor.poolActs
open Go.ChangeShapes Go.WideShapes Go.ChangeAt Go.RowKit
set_option linter.unusedVariables false

theorem size_ptrLen (x : PtrV) : (Tryz.prog.info? 43).map (·.size) = some (ptrRow x).length := size_ptrL x

set_option maxRecDepth 100000 in
set_option maxHeartbeats 6400000 in
theorem walk (w : World) (z0 : Int) (za0 : 0 ≤ z0) (zb0 : z0 ≤ 255) (a1 : Option Addr) (len1 cap1 : Nat) (x1 : List ActP) (sl1 : SlR RActP 43 w x1 a1 len1 cap1) (hK : KT w) (hT : TZ w) :
 Calls Tryz.prog 3 #[.int .u8 z0,.slice a1 len1 cap1] w fun e w' => e = .returned (.bool true) ∧ Below w.heap.size w w' := by
 have HA := Lib.hid (alive13_any w hK hT)
 have HKT := Lib.hid (And.intro hK hT)
 have hk0 := yvs_none
 have hp0 := zero_ptr
 have hn0 := zero_node0
 have hkl : (keyE ++ macE).length = 64 := by rw [List.length_append,keyE_length,macE_length]
 have SK := Lib.hid (size_keys (keyE ++ macE) hkl)
 have SE := Lib.hid (show (yvs (zeroY 64)).size = (yvs (keyE ++ macE)).size by rw [yvs_size,yvs_size,hkl]; rfl)
 have SO := Lib.hid (yvs_one (keyE ++ macE))
 have SP1 := Lib.hid size_ptrA
 have SP2 := Lib.hid (fun x : PtrV => show (ptrRow zeroPtr).toArray.size = (ptrRow x).toArray.size by simp [ptrRow_length])
 have SP3 := Lib.hid ptrRow_one
 have SN1 := Lib.hid size_node
 have SN2 := Lib.hid (fun (x : Bool) (k v p : Value) => show nzero.size = (#[.bool x,k,v,p] : Array Value).size from rfl)
 obtain ⟨YK,hYK⟩ : ∃ z,yvs (keyE ++ macE) = z := ⟨_,rfl⟩
 obtain ⟨ZK,hZK⟩ : ∃ z,yvs (zeroY 64) = z := ⟨_,rfl⟩
 obtain ⟨ZP,hZP⟩ : ∃ z,(ptrRow zeroPtr).toArray = z := ⟨_,rfl⟩
 obtain ⟨ZN,hZN⟩ : ∃ z,nzero = z := ⟨_,rfl⟩
 have HMD := Lib.hid (fun (n : Nat) (W : World) (hb : Below w.heap.size w W) (h0 : 16 ≤ n) (h1 : n ≤ 4096) (L : List RowE) (M : List Nat) (hL : ∀ r ∈ L,W.heap[r.1]? = some (.cells r.2.1 r.2.2 (0,0)) ∧ w.heap.size ≤ r.1) (hM : ∀ k ∈ M,k < W.heap.size) => made13L w W n hK hT hb h0 h1 L M hL hM)
 rw [hYK] at HMD SK SE SO
 rw [hZK] at hk0 SE
 rw [hZP] at hp0 SP2
 rw [hZN] at hn0 SN2
 have HZP := Lib.hid hZP
 have HZN := Lib.hid hZN
 have HYL := Lib.hid hYK
 clear hYK hZK hZP hZN hkl hK hT
 have HSL := Lib.hid sl1
 have lI : (len1 : Int) ≤ 140737488351232 := by have := sl1.big; have := sl1.cap; omega
 clear sl1
 by_cases hbig : 40 < len1
 ·have bI : (40 : Int) < (len1 : Int) := by omega
  clear hbig za0 zb0
  go_enter Tryz.func3,Tryz.ntmps3
  go_wp2_with fail
  refine HA.out.mono ?_
  rintro e w1 ⟨rfl,hb1⟩
  have HB1 := Lib.hid hb1
  clear hb1 HA
  go_wp2_with fail
  go_ret
  exact ⟨rfl,HB1.out⟩
 ·have bI : (len1 : Int) ≤ 40 := by omega
  have HLN := Lib.hid (show len1 ≤ 40 by omega)
  obtain ⟨n,hn⟩ : ∃ n : Nat,16 + z0 % 20 = (n : Int) := ⟨(16 + z0 % 20).toNat,by omega⟩
  have HN := Lib.hid (show 16 ≤ n ∧ n ≤ 35 by omega)
  have nI0 : (16 : Int) ≤ (n : Int) := by omega
  have nI1 : (n : Int) ≤ 35 := by omega
  clear hbig
  go_enter Tryz.func3,Tryz.ntmps3
  go_wp2_with fail
  refine HA.out.mono ?_
  rintro e w3 ⟨rfl,hb1⟩
  have HB3 := Lib.hid hb1
  clear hb1 HA
  go_wp2_with fail
  clear hn za0 zb0
  refine (HMD.out n w3 HB3.out HN.out.1 (by have := HN.out.2; omega) [] [] (fun r hr => absurd hr (by simp)) (fun k hk => absurd hk (by simp))).mono ?_
  rintro e w4 ⟨P,D,gl,rfl,hq,_⟩
  have HQ4 := Lib.hid hq
  clear hq HMD HB3
  go_upto_region 7 with (first
   | (with_reducible refine wpList_store_row (o := ⟨none,.store _ (.tmp 8) _,_,_,_,_⟩) rfl 30 _ _ rfl w4.heap.size YK rfl rfl 30 ZK (heap_alloc_new w4 _) SK.out SE.out SO.out ?_))
  generalize hWs : World.setRow _ w4.heap.size _ = w5
  have hqs := HQ4.out.fresh ZK YK 30 w5 hWs.symm
  have hbs := (fresh13 w4 ZK YK 30 w5 hWs.symm).2
  have HQ5 := Lib.hid hqs
  have HSw5 := Lib.hid hbs
  clear hWs hqs hbs HQ4
  generalize w4.heap.size = X8 at *
  have HRN := Lib.hid (rnew13 n w5 HN.out.1 (by have := HN.out.2; omega))
  go_wp2_with fail
  refine HRN.out.mono ?_
  rintro e w6 ⟨R,MS,G0,Mb,rfl,hr6,hge,hb6⟩
  have HA6 := Lib.hid (show AS w w6 P D gl n (allF n) 0 (zeroY (n * 512)) [] (-1) false [] R MS G0 Mb 0 (allF n) 0 (fun _ => zeroBlk) (.slice none 0 0) 0 [] from ⟨⟨_,(HQ5.out.addMs hb6 [R,MS,G0,Mb] (fun k hk => by
   simp only [List.mem_cons,List.not_mem_nil,or_false] at hk
   rcases hk with rfl | rfl | rfl | rfl
   ·exact ⟨hge.1,hr6.lt⟩
   ·exact ⟨hge.2.1,hr6.sp.ltM⟩
   ·exact ⟨hge.2.2.1,hr6.sp.ltG⟩
   ·exact ⟨hge.2.2.2,hr6.mp.lt⟩)).less (L' := []) (M' := [R,MS,G0,Mb]) (fun r hr => absurd hr (by simp)) (fun k hk => List.mem_append_left _ hk),fun k hk => hk,fun g hg => by cases hg⟩,hr6,World.ownsRow_nil _ _ _ _,fun r hr => absurd hr (by simp),fun k hk => by
   have hs := HQ5.out.bel.size
   simp only [List.mem_cons,List.not_mem_nil,or_false] at hk
   rcases hk with rfl | rfl | rfl | rfl
   ·exact Nat.le_trans hs hge.1
   ·exact Nat.le_trans hs hge.2.1
   ·exact Nat.le_trans hs hge.2.2.1
   ·exact Nat.le_trans hs hge.2.2.2⟩)
  clear hr6 hge hb6 HRN HQ5
  go_wp2_with fail
  go_loopw [11,13,14,15,16,17,18,19,20,21,44] (fun v11 _ _ _ _ _ _ _ _ _ v44 wr => ∃ (i m : Nat) (F : Nat → Bool) (b : Nat) (V : List (BitVec 8)) (ws : List (Nat × List (BitVec 8))) (lim : Int) (dn : Bool) (G c : Nat) (B : Nat → Blk) (a11 : Option Addr) (c11 : Nat) (X : List PtrV),i ≤ len1 ∧ v44 = .int .i64 (i : Int) ∧ v11 = .slice a11 m c11 ∧ m ≤ i ∧ c ≤ i ∧ ws.length ≤ i ∧ b < 18446744073709551616 ∧ LIE w n V ws B ∧ WOK n ws ∧ AS w wr P D gl n F b V ws lim dn [] R MS G Mb c F b B (.slice a11 m c11) m X) (fun _ _ _ _ _ _ _ _ _ _ v _ => len1 - (intOf v).toNat)
  case atStart => exact ⟨0,0,_,0,_, [],_,_,G0,0,_,none,0, [],by omega,rfl,rfl,Nat.le_refl _,Nat.le_refl _,Nat.le_refl _,by decide,lie_start _ _ _ _,(fun p hp => absurd hp (by simp)),HA6.out⟩
  case round =>
   clear HA6
   obtain ⟨i,m,F,b,V,ws,lim,dn,G,c,B,a11,c11,X,hi,rfl,rfl,hm,hc,hws,hb,hli,hwo,has⟩ := hrel
   by_cases hlt : i < len1
   ·obtain ⟨bk,off,x,rfl,hrg,hok⟩ := acts13_at HSL.out has.bel hlt
    have hix := index_act13 bk off len1 cap1 i hlt
    have HK := Lib.hid (And.intro hlt (And.intro hm (And.intro hc (And.intro hws (And.intro hb (And.intro hli hwo))))))
    have HRG := Lib.hid hrg
    have HAS := Lib.hid has
    have HOK := Lib.hid hok
    have iI : (i : Int) < (len1 : Int) := by omega
    have i0 : (0 : Int) ≤ (i : Int) := by omega
    have SWC := Lib.hid (size_act13 x)
    have SWR := Lib.hid (size_act13A x)
    have WO := Lib.hid (act13_one x w hok)
    have hza := zero_act13
    obtain ⟨ZA,hZA⟩ : ∃ z,(actRowP zeroActP).toArray = z := ⟨_,rfl⟩
    have SEA := Lib.hid (show ZA.size = (actRowP x).toArray.size by rw [← hZA]; simp [actRowP_length])
    rw [hZA] at hza
    clear hZA hi hlt hm hc hws hb hli hwo has hrg hok
    obtain ⟨AR,hAR⟩ : ∃ z,actRowP x = z := ⟨_,rfl⟩
    have HAR := Lib.hid hAR
    rw [hAR] at HRG SWC SWR WO SEA
    clear hAR
    go_upto_region 14 with (first
     | (with_reducible refine wpList_load_mid (op := ⟨some 47,_,_,_,_,_⟩) rfl 45 _ rfl bk (off + i * 43) rfl AR _ HRG.out Tryz.underlying45 rfl SWC.out ?_)
     | (with_reducible refine wpList_store_row (o := ⟨none,.store _ (.tmp 13) _,_,_,_,_⟩) rfl 45 _ _ rfl wr.heap.size AR.toArray rfl rfl 45 ZA (heap_alloc_new wr _) SWR.out SEA.out WO.out ?_))
    generalize hWs : World.setRow _ wr.heap.size _ = w7
    have hgs := HAS.out.fresh ZA AR.toArray 45 w7 hWs.symm
    have HA7 := Lib.hid hgs
    clear hWs hgs HAS hix HRG SWC SWR WO SEA hza
    generalize wr.heap.size = T at *
    have hrow := HA7.out.row 0 _ rfl
    rw [← HAR.out] at hrow
    obtain ⟨k0,k1,k2,rN,k7,k8,rP⟩ := act13_at hrow
    have HROW := Lib.hid hrow
    have HRN := Lib.hid rN
    have SNN := Lib.hid (show (Tryz.prog.info? 38).map (·.size) = some (nrow x.e).length from size_node x.e.1.lf x.e.2.1 x.e.2.2.1 x.e.2.2.2)
    clear hrow rN rP k0 k1 k2 k7 k8
    have HHV := Lib.hid (show Calls Tryz.prog 13 #[.agg (nrow x.e).toArray] w7 fun e w' => ∃ h,e = .returned (.bool h) ∧ (h = false → x.e.1.ks.length ≤ 200 ∧ x.e.1.vs.length ≤ 200 ∧ x.e.1.ps.length ≤ 68) ∧ Below w7.heap.size w7 w' from heavyF_any x.e.2.1 x.e.2.2.1 x.e.2.2.2 x.e.1 w7 (HOK.out.nr.below HA7.out.bel) HOK.out.nb)
    go_wp2_with (first
     | (with_reducible refine wpList_load_mid (op := ⟨some 49,_,_,_,_,_⟩) rfl 38 _ rfl T 3 rfl (nrow x.e) _ HRN.out Tryz.underlying38 rfl SNN.out ?_))
    refine HHV.out.mono ?_
    rintro e w8 ⟨hv,rfl,hfew,hb8⟩
    have HA8 := Lib.hid (HA7.out.below hb8)
    have hrow8 := (hb8.block _ (lt_of_block HROW.out)).trans HROW.out
    have HFW := Lib.hid hfew
    have HROW8 := Lib.hid hrow8
    obtain ⟨k0,k1,k2,rN,k7,k8,rP⟩ := act13_at hrow8
    clear hb8 hrow8 HHV HROW HRN HA7 hfew
    cases hv with
    | true =>
      go_wp2_with fail
      go_ret
      exact ⟨rfl,HA8.out.bel⟩
    | false =>
      obtain ⟨kd,wh,ct,⟨nd,nk,nv,np⟩,bi,ab,ln,cp,l,pq⟩ := x
      have HARR := HAR
      clear HAR
      have HFEW := Lib.hid (HFW.out rfl)
      clear HFW
      have lnI : (ln : Int) ≤ 140737488351232 := by have h : ln ≤ 140737488351232 := HOK.out.big; omega
      have ln0 : (0 : Int) ≤ (ln : Int) := by omega
      by_cases hl5 : 100 < ln
      ·have l5 : (100 : Int) < (ln : Int) := by omega
       clear hl5
       go_wp2_with fail
       go_ret
       exact ⟨rfl,HA8.out.bel⟩
      ·have l5 : (ln : Int) ≤ 100 := by omega
       have HL5 := Lib.hid (show ln ≤ 100 by omega)
       clear hl5
       go_upto_block 2 with fail
       clear k8 lnI ln0 l5
       go_cut [11,14,15,16,17,18,19,20,21] from 59 to 219 (fun v11 _ _ _ _ _ _ _ _ wx => ∃ (m : Nat) (F : Nat → Bool) (b : Nat) (V : List (BitVec 8)) (ws : List (Nat × List (BitVec 8))) (lim : Int) (dn : Bool) (G c : Nat) (B : Nat → Blk) (a11 : Option Addr) (c11 : Nat) (X : List PtrV),v11 = .slice a11 m c11 ∧ m ≤ (i + 1) ∧ c ≤ (i + 1) ∧ ws.length ≤ (i + 1) ∧ b < 18446744073709551616 ∧ LIE w n V ws B ∧ WOK n ws ∧ AS w wx P D gl n F b V ws lim dn [] R MS G Mb c F b B (.slice a11 m c11) m X)
       case first =>
        by_cases h1 : kd = 1
        ·subst h1
         as_aux_lemma =>
          clear rN rP
          have HP := Lib.hid (AS.callsP HA8.out (fun M hq => ql_begin bi hq))
          by_cases hbi : bi = 0
          ·rw [if_pos hbi,if_pos hbi] at HP
           subst hbi
           go_wp2_with fail
           refine HP.out.mono ?_
           rintro e w9 ⟨rfl,ha9⟩
           have HA9 := Lib.hid ha9
           clear ha9 HP HA8 k0 k1 k2 k7
           have hrw := (show w9.heap[T]? = some (.cells AR.toArray 45 (0,0)) from HA9.out.row 0 _ rfl)
           rw [← HARR.out] at hrw
           obtain ⟨k0,k1,k2,_,k7,_,_⟩ := act13_at hrw
           clear hrw k0 k1 k2
           go_wp2_with fail
           go_meet
           case rel => exact ⟨m,F,b,V,ws,lim,dn,G,c,B,a11,c11,X,rfl,by have := HK.out; omega,by have := HK.out; omega,by have := HK.out; omega,HK.out.2.2.2.2.1,HK.out.2.2.2.2.2.1,HK.out.2.2.2.2.2.2,(HA9.out.less (fun r hr => absurd hr (by simp)))⟩
          ·rw [if_neg hbi,if_neg hbi] at HP
           have hb1 : (0 : Int) < (bi : Int) := by omega
           have HBI := Lib.hid hbi
           clear hbi
           go_wp2_with fail
           refine HP.out.mono ?_
           rintro e w9 ⟨rfl,ha9⟩
           have HA9 := Lib.hid ha9
           clear HP HA8 k0 k1 k2 k7
           have hrw := (show w9.heap[T]? = some (.cells AR.toArray 45 (0,0)) from HA9.out.row 0 _ rfl)
           rw [← HARR.out] at hrw
           obtain ⟨k0,k1,k2,_,k7,_,_⟩ := act13_at hrw
           clear hrw k0 k1 k2
           have cR := ha9.r.parts.2.2.1
           have fR := ha9.r.free 2
           have HSB := Lib.hid (ha9.r.setb bi)
           clear ha9
           go_wp2_with fail
           have HA10 := Lib.hid (HA9.out.ref HSB.out.2 (fun k hk => by simp only [List.mem_singleton] at hk; subst hk; simp) HSB.out.1)
           go_meet
           case rel => exact ⟨m,F,bi,V,ws,lim,dn,G,c,B,a11,c11,X,rfl,by have := HK.out; omega,by have := HK.out; omega,by have := HK.out; omega,HOK.out.b0,HK.out.2.2.2.2.2.1,HK.out.2.2.2.2.2.2,(HA10.out.less (fun r hr => absurd hr (by simp)))⟩
        ·by_cases h2 : kd = 2
         ·subst h2
          clear h1
          as_aux_lemma =>
           obtain ⟨ok,hok⟩ : ∃ ok,inB n l = ok := ⟨_,rfl⟩
           have hiff : ok = true ↔ allIn n l := by rw [← hok]; exact inB_iff n l
           obtain ⟨mv,hmv⟩ : ∃ mv,(setA n F l ok).1 = mv := ⟨_,rfl⟩
           obtain ⟨F3,hF3⟩ : ∃ F3,(setA n F l ok).2 = F3 := ⟨_,rfl⟩
           have HSS := Lib.hid (fun (W : World) (F' : Nat → Bool) (G' : Nat) (F2' : Nat → Bool) (h : AS w W P D gl n F' b V ws lim dn [(T,AR.toArray,45)] R MS G' Mb c F2' b B (.slice a11 m c11) m X) => show W.cell? ⟨T,8,none⟩ = some (.slice ab ln cp) ∧ W.cell? ⟨R,1,none⟩ = some (.pointer (some ⟨MS,0,none⟩)) from by
            have hrw := (show W.heap[T]? = some (.cells AR.toArray 45 (0,0)) from h.row 0 _ rfl)
            rw [← HARR.out] at hrw
            obtain ⟨_,_,_,_,_,q8,_⟩ := act13_at hrw
            exact ⟨q8,h.r.parts.2.1⟩)
           have HAD := Lib.hid (HA8.out.below (Below.refl w8.heap.size w8).drew)
           have HUSW := Lib.hid (fun (W : World) (hW : Below w.heap.size w W) => HOK.out.us.below hW)
           have hp := AS.callsP HAD.out (fun M hq => ql_keep ln cp ab l hq (HUSW.out _ HAD.out.bel) (by have := HL5.out; omega) ok hiff)
           rw [hmv,hF3] at hp
           have HP := Lib.hid hp
           have HRR := Lib.hid (fun (W : World) (h : AS w W P D gl n F3 b V ws lim dn [(T,AR.toArray,45)] R MS G Mb c F b B (.slice a11 m c11) m X) => show Calls Tryz.prog 16 #[.pointer (some ⟨MS,0,none⟩),.slice ab ln cp] W fun e w' => ∃ G',e = .returned (.int .i64 mv) ∧ AS w w' P D gl n F3 b V ws lim dn [(T,AR.toArray,45)] R MS G' Mb c F3 b B (.slice a11 m c11) m X from by
            have q := rset11_any MS G n ln cp ab F l W h.r.sp (HUSW.out _ h.bel) (by have := HL5.out; omega) ok hiff
            rw [hmv,hF3] at q
            refine q.mono ?_
            rintro e w' ⟨G',he,hs,ht,hG⟩
            have hap := h.r.apart
            refine ⟨G',he,h.refG ht (fun k hk => by simp only [List.mem_singleton] at hk; subst hk; simp) ⟨?_,hs,h.r.mp.move (ht.block Mb h.r.mp.lt (by simpa using Ne.symm hap.2.2.2.2.1))⟩ hG⟩
            exact (ht.block R h.r.lt (by simpa using hap.1)).trans h.r.cell)
           clear hp hmv hF3 hok hiff HA8 HROW8 k0 k1 k2 k7 rN rP
           go_upto_region 38 with fail
           try simp only [Act.put]
           refine wp_region_noPanic ?_
           refine wp_region_held_drew (S := fun W => W.cell? ⟨T,8,none⟩ = some (.slice ab ln cp) ∧ W.cell? ⟨R,1,none⟩ = some (.pointer (some ⟨MS,0,none⟩))) (by kernel_rfl) (HSS.out _ _ _ _ HAD.out) (fun hHeld => ?_)
           refine wpAnyH_take (i := 0) (oi := ⟨some 171,_,_,_,_,_⟩) (v := ?_) rfl (by kernel_rfl) (by decide +kernel) (by decide +kernel) (fun _ _ _ h => h) (Or.inl ⟨by rfl, ?_⟩) (by assumption) ?_
           rotate_left 1
           ·(intro w' hSw; go_simp; try with_reducible rfl)
           try simp only [Act.put,List.setIfInBounds_toArray,List.set_cons_zero,List.set_cons_succ]
           refine wpAnyH_take (i := 1) (oi := ⟨some 172,_,_,_,_,_⟩) (v := ?_) rfl (by kernel_rfl) (by decide +kernel) (by decide +kernel) (fun _ _ _ h => h) (Or.inl ⟨by rfl, ?_⟩) (by assumption) ?_
           rotate_left 1
           ·(intro w' hSw; go_simp; try with_reducible rfl)
           try simp only [Act.put,List.setIfInBounds_toArray,List.set_cons_zero,List.set_cons_succ]
           refine wpAnyH_take (i := 2) (oi := ⟨some 173,_,_,_,_,_⟩) (v := ?_) rfl (by kernel_rfl) (by decide +kernel) (by decide +kernel) (fun _ _ _ h => h) (Or.inl ⟨by rfl, ?_⟩) (by assumption) ?_
           rotate_left 1
           ·(intro w' hSw; have hc := hSw.1; go_simp; try with_reducible rfl)
           try simp only [Act.put,List.setIfInBounds_toArray,List.set_cons_zero,List.set_cons_succ]
           refine wpAnyH_take (i := 4) (oi := ⟨some 175,_,_,_,_,_⟩) (v := ?_) rfl (by kernel_rfl) (by decide +kernel) (by decide +kernel) (fun _ _ _ h => h) (Or.inl ⟨by rfl, ?_⟩) (by assumption) ?_
           rotate_left 1
           ·(intro w' hSw; go_simp; try with_reducible rfl)
           try simp only [Act.put,List.setIfInBounds_toArray,List.set_cons_zero,List.set_cons_succ]
           refine wpAnyH_take (i := 5) (oi := ⟨some 176,_,_,_,_,_⟩) (v := ?_) rfl (by kernel_rfl) (by decide +kernel) (by decide +kernel) (fun _ _ _ h => h) (Or.inl ⟨by rfl, ?_⟩) (by assumption) ?_
           rotate_left 1
           ·(intro w' hSw; go_simp; try with_reducible rfl)
           try simp only [Act.put,List.setIfInBounds_toArray,List.set_cons_zero,List.set_cons_succ]
           refine wpAnyH_take (i := 6) (oi := ⟨some 177,_,_,_,_,_⟩) (v := ?_) rfl (by kernel_rfl) (by decide +kernel) (by decide +kernel) (fun _ _ _ h => h) (Or.inl ⟨by rfl, ?_⟩) (by assumption) ?_
           rotate_left 1
           ·(intro w' hSw; go_simp; try with_reducible rfl)
           try simp only [Act.put,List.setIfInBounds_toArray,List.set_cons_zero,List.set_cons_succ]
           refine wpAnyH_take (i := 7) (oi := ⟨some 178,_,_,_,_,_⟩) (v := ?_) rfl (by kernel_rfl) (by decide +kernel) (by decide +kernel) (fun _ _ _ h => h) (Or.inl ⟨by rfl, ?_⟩) (by assumption) ?_
           rotate_left 1
           ·(intro w' hSw; have hc := hSw.2; go_simp; try with_reducible rfl)
           try simp only [Act.put,List.setIfInBounds_toArray,List.set_cons_zero,List.set_cons_succ]
           refine wpAnyH_take (i := 8) (oi := ⟨some 179,_,_,_,_,_⟩) (v := ?_) rfl (by kernel_rfl) (by decide +kernel) (by decide +kernel) (fun _ _ _ h => h) (Or.inl ⟨by rfl, ?_⟩) (by assumption) ?_
           rotate_left 1
           ·(intro w' hSw; go_simp; try with_reducible rfl)
           try simp only [Act.put,List.setIfInBounds_toArray,List.set_cons_zero,List.set_cons_succ]
           refine wpAnyH_take (i := 9) (oi := ⟨some 180,_,_,_,_,_⟩) (v := ?_) rfl (by kernel_rfl) (by decide +kernel) (by decide +kernel) (fun _ _ _ h => h) (Or.inl ⟨by rfl, ?_⟩) (by assumption) ?_
           rotate_left 1
           ·(intro w' hSw; have hc := hSw.1; go_simp; try with_reducible rfl)
           try simp only [Act.put,List.setIfInBounds_toArray,List.set_cons_zero,List.set_cons_succ]
           clear hHeld
           refine wpAnyH_ready (rs := [3]) (by decide +kernel) (by simp) ?_
           refine AllReadyH.cons rfl (fun K hK => ?_) AllReadyH.nil
           go_simp
           go_at_call 15
           refine HP.out.mono ?_
           rintro e wt ⟨rfl,hc⟩
           have HC1 := Lib.hid hc
           clear hc
           go_wp2_with fail
           refine hK.out _ _ (HSS.out _ _ _ _ HC1.out) (fun hHeld => ?_)
           clear hK K hHeld
           try simp only [Act.put,List.setIfInBounds_toArray,List.set_cons_zero,List.set_cons_succ]
           refine wpAnyH_ready (rs := [10]) (by decide +kernel) (by simp) ?_
           refine AllReadyH.cons rfl (fun K hK => ?_) AllReadyH.nil
           go_simp
           go_at_call 16
           refine (HRR.out _ HC1.out).mono ?_
           rintro e wt2 ⟨G',rfl,hc⟩
           have HC2 := Lib.hid hc
           clear hc
           go_wp2_with fail
           refine hK.out _ _ (HSS.out _ _ _ _ HC2.out) (fun hHeld => ?_)
           clear hK K
           try simp only [Act.put,List.setIfInBounds_toArray,List.set_cons_zero,List.set_cons_succ]
           refine wpAnyH_take (i := 11) (oi := ⟨some 182,_,_,_,_,_⟩) (v := ?_) rfl (by kernel_rfl) (by decide +kernel) (by decide +kernel) (fun _ _ _ h => h) (Or.inl ⟨by rfl, ?_⟩) (by assumption) ?_
           rotate_left 1
           ·(intro w' hSw; go_simp; try with_reducible rfl)
           try simp only [Act.put,List.setIfInBounds_toArray,List.set_cons_zero,List.set_cons_succ]
           clear hHeld
           refine wpAnyH_done (by decide +kernel) ?_ _
           refine NoPanic.normal ?_
           go_wp2_with fail
           go_meet
           case rel => exact ⟨m,_,b,V,ws,lim,dn,_,c,B,a11,c11,X,rfl,by have := HK.out; omega,by have := HK.out; omega,by have := HK.out; omega,HK.out.2.2.2.2.1,HK.out.2.2.2.2.2.1,HK.out.2.2.2.2.2.2,(HC2.out.less (fun r hr => absurd hr (by simp)))⟩
         ·by_cases h3 : kd = 3
          ·subst h3
           clear h1 h2
           as_aux_lemma =>
            have HRP := Lib.hid rP
            have SPL := Lib.hid (size_ptrLen pq)
            obtain ⟨PL0,hPL0⟩ : ∃ z,ptrRow pq = z := ⟨_,rfl⟩
            have HPL0 := Lib.hid hPL0
            have sa1 := SP1.out pq
            have sa2 := SP2.out pq
            have sa3 := SP3.out pq
            rw [show (ptrRow pq) = PL0 from hPL0] at HRP SPL sa1 sa2 sa3
            have SA1 := Lib.hid sa1
            have SA2 := Lib.hid sa2
            have SA3 := Lib.hid sa3
            clear hPL0 sa1 sa2 sa3 rP rN
            go_upto_region 43 with (first
             | (with_reducible refine wpList_load_mid (op := ⟨some 187,_,_,_,_,_⟩) rfl 43 _ rfl T 9 rfl PL0 _ HRP.out Tryz.underlying43 rfl SPL.out ?_)
             | (with_reducible refine wpList_store_row (o := ⟨none,.store _ (.tmp 15) _,_,_,_,_⟩) rfl 43 _ _ rfl w8.heap.size PL0.toArray rfl rfl 43 ZP (heap_alloc_new w8 _) SA1.out SA2.out SA3.out ?_))
            generalize hWs : World.setRow _ w8.heap.size _ = w9
            have hgs := HA8.out.fresh ZP PL0.toArray 43 w9 hWs.symm
            have HA9 := Lib.hid hgs
            clear hWs hgs HA8 HRP HROW8 k0 k1 k2 k7
            generalize w8.heap.size = X15 at *
            have hrw := (show w9.heap[T]? = some (.cells AR.toArray 45 (0,0)) from HA9.out.row 1 _ rfl)
            rw [← HARR.out] at hrw
            obtain ⟨k0,k1,k2,rN,k7,k8,rP⟩ := act13_at hrw
            clear hrw rN rP
            by_cases hmz : m = 0
            ·have HMZ := Lib.hid hmz
             subst hmz
             go_wp2_with fail
             go_roundw
             case rel => exact ⟨i + 1,0,F,b,V,ws,lim,dn,G,c,B,a11,c11,X,by have := HK.out.1; omega,by go_num,rfl,by have := HK.out; omega,by have := HK.out; omega,by have := HK.out; omega,HK.out.2.2.2.2.1,HK.out.2.2.2.2.2.1,HK.out.2.2.2.2.2.2,(HA9.out.less (fun r hr => absurd hr (by simp)))⟩
             case measure => simp [intOf]; have := HK.out.1; omega
            ·have mI : (0 : Int) < (m : Int) := by omega
             have mI2 : (m : Int) ≤ 40 := by have := HK.out; have := HLN.out; omega
             have hdz : ((m : Int) == 0) = false := by simp; omega
             have htl := Int.tmod_lt_of_pos wh mI
             obtain ⟨j,hj⟩ : ∃ j : Nat,max 0 (wh.tmod (m : Int)) = (j : Int) := ⟨(max 0 (wh.tmod (m : Int))).toNat,by omega⟩
             have hjm : j < m := by omega
             obtain ⟨g9,c9,p9,hv9,hr9⟩ := HA9.out.at j hjm
             cases hv9
             have hix := fun W => index_ptr g9 0 m c11 j hjm W
             simp only [Nat.zero_add] at hix
             rw [← hj] at hix
             obtain ⟨PL1,hPL1⟩ : ∃ z,ptrRow p9 = z := ⟨_,rfl⟩
             have HPL1 := Lib.hid hPL1
             rw [hPL1] at hr9
             have HR9 := Lib.hid hr9
             have SQ0 := Lib.hid (show (Tryz.prog.info? 43).map (·.size) = some PL1.length by rw [← hPL1]; exact size_ptrL p9)
             have SQ1 := Lib.hid (show (Tryz.prog.info? 43).map (·.size) = some PL1.toArray.size by rw [← hPL1]; exact SP1.out p9)
             have SQ2 := Lib.hid (show PL0.toArray.size = PL1.toArray.size by rw [← hPL1,← HPL0.out]; simp [ptrRow_length])
             have SQ3 := Lib.hid (show PL1.toArray.all (·.oneCell') = true by rw [← hPL1]; exact SP3.out p9)
             have HRX0 := Lib.hid (show w9.heap[X15]? = some (.cells PL0.toArray 43 (0,0)) from HA9.out.row 0 _ rfl)
             have HTX := Lib.hid (show T ≠ X15 from fun e => by
              have h1 := HA9.out.row 0 _ rfl
              have h2 := HA9.out.row 1 _ rfl
              simp only at h1 h2
              rw [e,h1] at h2
              injection h2 with h2
              injection h2 with _ h2
              exact absurd h2 (by decide))
             clear hPL1 hr9 htl hj hjm
             go_upto_region 46 with (first
              | (with_reducible refine wpList_load_mid (op := ⟨some 202,_,_,_,_,_⟩) rfl 43 _ rfl g9 (j * 34) rfl PL1 _ HR9.out Tryz.underlying43 rfl SQ0.out ?_)
              | (with_reducible refine wpList_store_row (o := ⟨none,.store _ (.tmp 15) _,_,_,_,_⟩) rfl 43 _ _ rfl X15 PL1.toArray rfl rfl 43 PL0.toArray HRX0.out SQ1.out SQ2.out SQ3.out ?_))
             have hup := HA9.out.upd (setRow_touch w9 X15 PL1.toArray) (setRow_heap w9 X15 PL0.toArray PL1.toArray 43 (0,0) HRX0.out) (fun r hr => by rw [List.mem_singleton] at hr; subst hr; exact HTX.out)
             generalize hWs : World.setRow w9 X15 _ = w10 at *
             have HA10 := Lib.hid hup
             clear hup hWs HRX0 HA9 HR9 hix
             have HRX := Lib.hid (show w10.heap[X15]? = some (.cells PL1.toArray 43 (0,0)) from HA10.out.row 0 _ rfl)
             have HRD := Lib.hid (HA10.out.reads HK.out.2.2.2.2.2.1 HK.out.2.2.2.2.2.2 p9)
             rw [HPL1.out] at HRD
             go_wp2_with (first
              | (with_reducible refine wpList_load_row (o := ⟨some 207,_,_,_,_,_⟩) rfl 43 _ rfl X15 rfl 43 PL1.toArray (0,0) _ HRX.out Tryz.underlying43 rfl SQ1.out ?_))
             refine HRD.out.mono ?_
             rintro e w11 ⟨rfl,ha10⟩
             have HAE := Lib.hid ha10
             clear ha10 HRD HRX HA10
             go_wp2_with fail
             go_meet
             case rel => exact ⟨m,F,b,V,ws,lim,dn,G,c,B,_,c11,X,rfl,by have := HK.out; omega,by have := HK.out; omega,by have := HK.out; omega,HK.out.2.2.2.2.1,HK.out.2.2.2.2.2.1,HK.out.2.2.2.2.2.2,(HAE.out.less (fun r hr => absurd hr (by simp)))⟩
          ·by_cases h6 : kd = 6
           ·subst h6
            clear h1 h2 h3
            as_aux_lemma =>
             have HRP := Lib.hid rP
             have SPL := Lib.hid (size_ptrLen pq)
             obtain ⟨PL0,hPL0⟩ : ∃ z,ptrRow pq = z := ⟨_,rfl⟩
             have HPL0 := Lib.hid hPL0
             have sa1 := SP1.out pq
             have sa2 := SP2.out pq
             have sa3 := SP3.out pq
             rw [show (ptrRow pq) = PL0 from hPL0] at HRP SPL sa1 sa2 sa3
             have SA1 := Lib.hid sa1
             have SA2 := Lib.hid sa2
             have SA3 := Lib.hid sa3
             clear hPL0 sa1 sa2 sa3 rP rN
             go_upto_region 43 with (first
              | (with_reducible refine wpList_load_mid (op := ⟨some 187,_,_,_,_,_⟩) rfl 43 _ rfl T 9 rfl PL0 _ HRP.out Tryz.underlying43 rfl SPL.out ?_)
              | (with_reducible refine wpList_store_row (o := ⟨none,.store _ (.tmp 15) _,_,_,_,_⟩) rfl 43 _ _ rfl w8.heap.size PL0.toArray rfl rfl 43 ZP (heap_alloc_new w8 _) SA1.out SA2.out SA3.out ?_))
             generalize hWs : World.setRow _ w8.heap.size _ = w9
             have hgs := HA8.out.fresh ZP PL0.toArray 43 w9 hWs.symm
             have HA9 := Lib.hid hgs
             clear hWs hgs HA8 HRP HROW8 k0 k1 k2 k7
             generalize w8.heap.size = X15 at *
             have hrw := (show w9.heap[T]? = some (.cells AR.toArray 45 (0,0)) from HA9.out.row 1 _ rfl)
             rw [← HARR.out] at hrw
             obtain ⟨k0,k1,k2,rN,k7,k8,rP⟩ := act13_at hrw
             clear hrw rN rP
             have HRX := Lib.hid (show w9.heap[X15]? = some (.cells PL0.toArray 43 (0,0)) from HA9.out.row 0 _ rfl)
             have HRD := Lib.hid (HA9.out.reads HK.out.2.2.2.2.2.1 HK.out.2.2.2.2.2.2 pq)
             rw [HPL0.out] at HRD
             go_wp2_with (first
              | (with_reducible refine wpList_load_row (o := ⟨some 207,_,_,_,_,_⟩) rfl 43 _ rfl X15 rfl 43 PL0.toArray (0,0) _ HRX.out Tryz.underlying43 rfl SA1.out ?_))
             refine HRD.out.mono ?_
             rintro e w10 ⟨rfl,ha10⟩
             have HAE := Lib.hid ha10
             clear ha10 HRD HRX HA9
             go_wp2_with fail
             go_meet
             case rel => exact ⟨m,F,b,V,ws,lim,dn,G,c,B,_,c11,X,rfl,by have := HK.out; omega,by have := HK.out; omega,by have := HK.out; omega,HK.out.2.2.2.2.1,HK.out.2.2.2.2.2.1,HK.out.2.2.2.2.2.2,(HAE.out.less (fun r hr => absurd hr (by simp)))⟩
           ·by_cases h4 : kd = 4
            ·subst h4
             clear h1 h2 h3 h6
             as_aux_lemma =>
              clear rN rP
              have HP := Lib.hid (AS.calls HA8.out (fun M hq => ql_limit ct hq HOK.out.c0.2))
              generalize (if ct < 0 then (-1 : Int) else ct) = lim' at *
              go_wp2_with fail
              refine HP.out.mono ?_
              rintro e w9 ⟨rfl,ha9⟩
              have HA9 := Lib.hid ha9
              clear ha9 HP HA8 k0 k1 k2 k7
              go_wp2_with fail
              go_meet
              case rel => exact ⟨m,F,b,V,ws,lim',dn,G,c,B,a11,c11,X,rfl,by have := HK.out; omega,by have := HK.out; omega,by have := HK.out; omega,HK.out.2.2.2.2.1,HK.out.2.2.2.2.2.1,HK.out.2.2.2.2.2.2,(HA9.out.less (fun r hr => absurd hr (by simp)))⟩
            ·by_cases h5 : kd = 5
             ·subst h5
              clear h1 h2 h3 h4 h6
              as_aux_lemma =>
               clear rN rP
               have HP := Lib.hid (AS.calls HA8.out (fun M hq => ql_crash 18446744073709551615 (-1) hq (by have := HK.out; have := HLN.out; omega) (by decide)))
               have HVL := Lib.hid (show V.length = n * 512 from by obtain ⟨M,hq,_⟩ := HA8.out.q; exact hq.len)
               go_wp2_with fail
               refine HP.out.mono ?_
               rintro e w9 ⟨rfl,ha9⟩
               have HA9 := Lib.hid ha9
               clear ha9 HP HA8 k0 k1 k2 k7
               go_wp2_with fail
               go_meet
               case rel => exact ⟨m,F,b,_, [],_,_,G,c,B,a11,c11,X,rfl,by have := HK.out; omega,by have := HK.out; omega,Nat.zero_le _,HK.out.2.2.2.2.1,HK.out.2.2.2.2.2.1.crash HVL.out HK.out.2.2.2.2.2.2,(fun p hp => absurd hp (by simp)),(HA9.out.less (fun r hr => absurd hr (by simp)))⟩
             ·have q1 : (kd == 1) = false := by simpa using h1
              have q2 : (kd == 2) = false := by simpa using h2
              have q3 : (kd == 3) = false := by simpa using h3
              have q4 : (kd == 4) = false := by simpa using h4
              have q5 : (kd == 5) = false := by simpa using h5
              have q6 : (kd == 6) = false := by simpa using h6
              clear h1 h2 h3 h4 h5 h6
              as_aux_lemma =>
               have HNR := Lib.hid (fun (W : World) (hW : Below w.heap.size w W) => show NR W nk nv np nd from HOK.out.nr.below hW)
               have HNBD := Lib.hid (show NB nd from HOK.out.nb)
               have HF9 := Lib.hid (show Few9 nd from by have h := HFEW.out; exact ⟨Nat.le_trans h.1 (by decide),Nat.le_trans h.2.1 (by decide),Nat.le_trans h.2.2 (by decide)⟩)
               have HRN := Lib.hid (show w8.rangeAt T 3 (nrow (nd,nk,nv,np)) from rN)
               have SNN' := Lib.hid (show (Tryz.prog.info? 38).map (·.size) = some (nrow (nd,nk,nv,np)).length from SNN.out)
               clear rN rP HFEW
               by_cases hb0 : b = 0
               ·as_aux_lemma =>
                 have HB0' := Lib.hid hb0
                 clear hb0
                 have HRW := Lib.hid (show Calls Tryz.prog 20 #[.pointer (some ⟨R,0,none⟩),.agg (nrow (nd,nk,nv,np)).toArray] w8 fun e w' => e = .returned (.tuple #[.int .u32 0,.int .i64 2]) ∧ Below w8.heap.size w8 w' from rw13_zero HA8.out.r (nd,nk,nv,np) HB0'.out)
                 go_wp2_with (first
                  | (with_reducible refine wpList_load_mid (op := ⟨some 62,_,_,_,_,_⟩) rfl 38 _ rfl T 3 rfl (nrow (nd,nk,nv,np)) _ HRN.out Tryz.underlying38 rfl SNN'.out ?_))
                 refine HRW.out.mono ?_
                 rintro e w9 ⟨rfl,hb9⟩
                 have HA9 := Lib.hid (HA8.out.below hb9)
                 clear hb9 HRW HA8 HROW8 HRN k0 k1 k2 k7
                 have hrw := (show w9.heap[T]? = some (.cells AR.toArray 45 (0,0)) from HA9.out.row 0 _ rfl)
                 rw [← HARR.out] at hrw
                 have HRN2 := Lib.hid (show w9.rangeAt T 3 (nrow (nd,nk,nv,np)) from (act13_at hrw).2.2.2.1)
                 clear hrw
                 have HPW := Lib.hid (show Calls Tryz.prog 21 #[.pointer (some ⟨P,0,none⟩),.agg (nrow (nd,nk,nv,np)).toArray] w9 fun e w' => e = .returned (.tuple #[.agg (ptrRow zeroPtr).toArray,.int .i64 2]) ∧ Below w9.heap.size w9 w' from by
                  obtain ⟨M,hq,_⟩ := HA9.out.q
                  exact ql_wzero nk nv np nd hq (HNR.out w9 HA9.out.bel) HNBD.out HB0'.out)
                 have SAZ1 := SP1.out zeroPtr
                 have SAZ3 := SP3.out zeroPtr
                 rw [HZP.out] at SAZ1 SAZ3 HPW
                 have SAZ1 := Lib.hid SAZ1
                 have SAZ3 := Lib.hid SAZ3
                 go_wp2_with (first
                  | (with_reducible refine wpList_load_mid (op := ⟨some 69,_,_,_,_,_⟩) rfl 38 _ rfl T 3 rfl (nrow (nd,nk,nv,np)) _ HRN2.out Tryz.underlying38 rfl SNN'.out ?_))
                 refine HPW.out.mono ?_
                 rintro e w10 ⟨rfl,hb10⟩
                 have HA10 := Lib.hid (HA9.out.below hb10)
                 clear hb10 HPW HA9 HRN2
                 go_upto_region 19 with (first
                  | (with_reducible refine wpList_store_row (o := ⟨none,.store _ (.tmp 18) _,_,_,_,_⟩) rfl 43 _ _ rfl w10.heap.size ZP rfl rfl 43 ZP (heap_alloc_new w10 _) SAZ1.out rfl SAZ3.out ?_))
                 generalize hWs : World.setRow _ w10.heap.size _ = w11
                 have hgs := HA10.out.fresh ZP ZP 43 w11 hWs.symm
                 have HA11 := Lib.hid hgs
                 clear hWs hgs HA10
                 generalize w10.heap.size = X18 at *
                 go_wp2_with fail
                 go_meet
                 case rel => exact ⟨m,F,b,V,ws,lim,dn,G,c,B,a11,c11,X,rfl,by have := HK.out; omega,by have := HK.out; omega,by have := HK.out; omega,HK.out.2.2.2.2.1,HK.out.2.2.2.2.2.1,HK.out.2.2.2.2.2.2,(HA11.out.less (fun r hr => absurd hr (by simp)))⟩
               ·have HB0' := Lib.hid hb0
                clear hb0
                by_cases hc : checkN nd = 0
                ·have HC := Lib.hid hc
                 clear hc
                 rcases low_or_none F n HA8.out.own with hnone | ⟨y,hy,hlow⟩
                 ·as_aux_lemma =>
                   have HNO := Lib.hid hnone
                   clear hnone
                   have HRW := Lib.hid (show Calls Tryz.prog 20 #[.pointer (some ⟨R,0,none⟩),.agg (nrow (nd,nk,nv,np)).toArray] w8 fun e w' => e = .returned (.tuple #[.int .u32 0,.int .i64 6]) ∧ Below w8.heap.size w8 w' from rw13_full HA8.out.r (nd,nk,nv,np) HB0'.out (HNR.out w8 HA8.out.bel) HNBD.out HF9.out HC.out HNO.out)
                   go_wp2_with (first
                    | (with_reducible refine wpList_load_mid (op := ⟨some 62,_,_,_,_,_⟩) rfl 38 _ rfl T 3 rfl (nrow (nd,nk,nv,np)) _ HRN.out Tryz.underlying38 rfl SNN'.out ?_))
                   refine HRW.out.mono ?_
                   rintro e w9 ⟨rfl,hb9⟩
                   have HA9 := Lib.hid (HA8.out.below hb9)
                   clear hb9 HRW HA8 HROW8 HRN k0 k1 k2 k7
                   have hrw := (show w9.heap[T]? = some (.cells AR.toArray 45 (0,0)) from HA9.out.row 0 _ rfl)
                   rw [← HARR.out] at hrw
                   have HRN2 := Lib.hid (show w9.rangeAt T 3 (nrow (nd,nk,nv,np)) from (act13_at hrw).2.2.2.1)
                   clear hrw
                   have HPW := Lib.hid (show Calls Tryz.prog 21 #[.pointer (some ⟨P,0,none⟩),.agg (nrow (nd,nk,nv,np)).toArray] w9 fun e w' => e = .returned (.tuple #[.agg (ptrRow zeroPtr).toArray,.int .i64 6]) ∧ Below w9.heap.size w9 w' from by
                    obtain ⟨M,hq,_⟩ := HA9.out.q
                    exact ql_wfull nk nv np nd hq (HNR.out w9 HA9.out.bel) HNBD.out HB0'.out HC.out HNO.out)
                   have SAZ1 := SP1.out zeroPtr
                   have SAZ3 := SP3.out zeroPtr
                   rw [HZP.out] at SAZ1 SAZ3 HPW
                   have SAZ1 := Lib.hid SAZ1
                   have SAZ3 := Lib.hid SAZ3
                   go_wp2_with (first
                    | (with_reducible refine wpList_load_mid (op := ⟨some 69,_,_,_,_,_⟩) rfl 38 _ rfl T 3 rfl (nrow (nd,nk,nv,np)) _ HRN2.out Tryz.underlying38 rfl SNN'.out ?_))
                   refine HPW.out.mono ?_
                   rintro e w10 ⟨rfl,hb10⟩
                   have HA10 := Lib.hid (HA9.out.below hb10)
                   clear hb10 HPW HA9 HRN2
                   go_upto_region 19 with (first
                    | (with_reducible refine wpList_store_row (o := ⟨none,.store _ (.tmp 18) _,_,_,_,_⟩) rfl 43 _ _ rfl w10.heap.size ZP rfl rfl 43 ZP (heap_alloc_new w10 _) SAZ1.out rfl SAZ3.out ?_))
                   generalize hWs : World.setRow _ w10.heap.size _ = w11
                   have hgs := HA10.out.fresh ZP ZP 43 w11 hWs.symm
                   have HA11 := Lib.hid hgs
                   clear hWs hgs HA10
                   generalize w10.heap.size = X18 at *
                   go_wp2_with fail
                   go_meet
                   case rel => exact ⟨m,F,b,V,ws,lim,dn,G,c,B,a11,c11,X,rfl,by have := HK.out; omega,by have := HK.out; omega,by have := HK.out; omega,HK.out.2.2.2.2.1,HK.out.2.2.2.2.2.1,HK.out.2.2.2.2.2.2,(HA11.out.less (fun r hr => absurd hr (by simp)))⟩
                 ·as_aux_lemma =>
                   have HY := Lib.hid (And.intro (HA8.out.own y hy) (And.intro hy hlow))
                   have y0 : (2 : Int) ≤ (y : Int) := by have := HA8.out.own y hy; omega
                   have y1 : (y : Int) < 4096 := by have := HA8.out.own y hy; have := HN.out.2; omega
                   clear hy hlow
                   have HRW := Lib.hid (rw13_ok HA8.out.r (nd,nk,nv,np) HB0'.out (HNR.out w8 HA8.out.bel) HNBD.out HF9.out HC.out y HY.out.2.1 HY.out.1 HY.out.2.2)
                   go_wp2_with (first
                    | (with_reducible refine wpList_load_mid (op := ⟨some 62,_,_,_,_,_⟩) rfl 38 _ rfl T 3 rfl (nrow (nd,nk,nv,np)) _ HRN.out Tryz.underlying38 rfl SNN'.out ?_))
                   refine HRW.out.mono ?_
                   rintro e w9 ⟨rfl,hr9,ht9⟩
                   have HA9 := Lib.hid (HA8.out.ref ht9 (fun k hk => by simp only [List.mem_singleton] at hk; subst hk; simp) hr9)
                   clear hr9 ht9 HRW HA8 HROW8 HRN k0 k1 k2 k7
                   have hrw := (show w9.heap[T]? = some (.cells AR.toArray 45 (0,0)) from HA9.out.row 0 _ rfl)
                   rw [← HARR.out] at hrw
                   have HRN2 := Lib.hid (show w9.rangeAt T 3 (nrow (nd,nk,nv,np)) from (act13_at hrw).2.2.2.1)
                   clear hrw
                   obtain ⟨gq,hgq⟩ : ∃ gq,goP lim dn = gq := ⟨_,rfl⟩
                   obtain ⟨lim',dd⟩ := gq
                   cases dd with
                   | true =>
                     as_aux_lemma =>
                      have HPW := Lib.hid (AS.calls HA9.out (fun M hq => show Calls Tryz.prog 21 #[.pointer (some ⟨P,0,none⟩),.agg (nrow (nd,nk,nv,np)).toArray] w9 fun e w' => e = .returned (.tuple #[.agg (ptrRow zeroPtr).toArray,.int .i64 7]) ∧ QL w w' P D gl n (keyE ++ macE) F b V ws lim' true [(T,AR.toArray,45)] M ∧ Stay M w9 w' from by
                       have h := ql_wdown y keyE macE nk nv np nd hq keyE_length macE_length (HNR.out w9 HA9.out.bel) HNBD.out HK.out.2.2.2.2.1 HB0'.out HC.out HY.out.2.1 HY.out.2.2 (by have := HK.out; have := HLN.out; omega) (by rw [hgq])
                       rw [hgq] at h
                       exact h))
                      clear hgq
                      have SAZ1 := SP1.out zeroPtr
                      have SAZ3 := SP3.out zeroPtr
                      have hez := fun W => eq_ptr zeroPtr zeroPtr W
                      rw [decide_eq_true rfl] at hez
                      rw [HZP.out] at SAZ1 SAZ3 HPW hez
                      have SAZ1 := Lib.hid SAZ1
                      have SAZ3 := Lib.hid SAZ3
                      go_wp2_with (first
                       | (with_reducible refine wpList_load_mid (op := ⟨some 69,_,_,_,_,_⟩) rfl 38 _ rfl T 3 rfl (nrow (nd,nk,nv,np)) _ HRN2.out Tryz.underlying38 rfl SNN'.out ?_))
                      refine HPW.out.mono ?_
                      rintro e w10 ⟨rfl,ha10⟩
                      have HA10 := Lib.hid ha10
                      clear ha10 HPW HA9 HRN2
                      go_upto_region 19 with (first
                       | (with_reducible refine wpList_store_row (o := ⟨none,.store _ (.tmp 18) _,_,_,_,_⟩) rfl 43 _ _ rfl w10.heap.size ZP rfl rfl 43 ZP (heap_alloc_new w10 _) SAZ1.out rfl SAZ3.out ?_))
                      generalize hWs : World.setRow _ w10.heap.size _ = w11
                      have hgs := HA10.out.fresh ZP ZP 43 w11 hWs.symm
                      have HA11 := Lib.hid hgs
                      clear hWs hgs HA10
                      generalize w10.heap.size = X18 at *
                      have cR := HA11.out.r.parts.2.1
                      have HFR := Lib.hid (show Calls Tryz.prog 22 #[.pointer (some ⟨MS,0,none⟩),.int .u32 (y : Int)] w11 fun e w' => ∃ q,e = .returned (.int .i64 q) ∧ AS w w' P D gl n F b V ws lim' true [(X18,ZP,43),(T,AR.toArray,45)] R MS G Mb c F b B (.slice a11 m c11) m X from by
                       have q := rfree11_any MS G n y (updF F y false) w11 HA11.out.r.sp (by have := HY.out.1; have := HN.out.2; omega)
                       rw [show freeA n (updF F y false) y = (0,F) from by
                        unfold freeA
                        rw [if_neg (by have := HY.out.1; omega),if_neg (by rw [updF_same]; simp)]
                        rw [updF_back F y HY.out.2.1]] at q
                       refine q.mono ?_
                       rintro e w' ⟨he,hs,ht⟩
                       have h2 := HA11.out.r
                       have hne := h2.apart
                       exact ⟨0,he,HA11.out.ref ht (fun k hk => by simp only [List.mem_singleton] at hk; subst hk; simp) ⟨(ht.block R h2.lt (by simpa using hne.2.1)).trans h2.cell,hs,h2.mp.move (ht.block Mb h2.mp.lt (by simpa using Ne.symm hne.2.2.2.2.2))⟩⟩)
                      go_wp2_with fail
                      refine HFR.out.mono ?_
                      rintro e w12 ⟨q0,rfl,ha12⟩
                      have HA12 := Lib.hid ha12
                      clear ha12 HFR HA11 cR
                      have HDN := Lib.hid (show Calls Tryz.prog 23 #[.pointer (some ⟨D,0,none⟩)] w12 fun e w' => e = .returned (.bool true) ∧ w' = w12 from by obtain ⟨M,hq,_⟩ := HA12.out.q; exact ql_down hq)
                      have HX18 := Lib.hid (show w12.heap[X18]? = some (.cells ZP 43 (0,0)) from HA12.out.row 0 _ rfl)
                      go_wp2_with fail
                      refine HDN.out.mono ?_
                      rintro e w13 ⟨rfl,hw⟩
                      subst w13
                      clear HDN
                      go_wp2_with (first
                       | (with_reducible refine wpList_load_guarded (o := ⟨some 89,_,_,_,_,_⟩) (by kernel_rfl) 43 _ rfl X18 rfl 43 ZP (0,0) _ HX18.out Tryz.underlying43 rfl SAZ1.out ?_))
                      go_meet
                      case rel => exact ⟨m,F,b,V,ws,lim',true,G,c,B,a11,c11,X,rfl,by have := HK.out; omega,by have := HK.out; omega,by have := HK.out; omega,HK.out.2.2.2.2.1,HK.out.2.2.2.2.2.1,HK.out.2.2.2.2.2.2,(HA12.out.less (fun r hr => absurd hr (by simp)))⟩
                   | false =>
                     as_aux_lemma =>
                      have HPW := Lib.hid (AS.calls HA9.out (fun M hq => show Calls Tryz.prog 21 #[.pointer (some ⟨P,0,none⟩),.agg (nrow (nd,nk,nv,np)).toArray] w9 fun e w' => e = .returned (.tuple #[.agg (ptrRow (ptrQ keyE b y nd)).toArray,.int .i64 0]) ∧ QL w w' P D gl n (keyE ++ macE) (updF F y false) b V (ws ++ [(y,sealQ keyE b y nd)]) lim' false [(T,AR.toArray,45)] M ∧ Stay M w9 w' from by
                       have h := ql_wok y keyE macE nk nv np nd hq keyE_length macE_length (HNR.out w9 HA9.out.bel) HNBD.out HK.out.2.2.2.2.1 HB0'.out HC.out HY.out.2.1 HY.out.2.2 (by have := HK.out; have := HLN.out; omega) (by rw [hgq])
                       rw [hgq] at h
                       exact h))
                      clear hgq
                      go_wp2_with (first
                       | (with_reducible refine wpList_load_mid (op := ⟨some 69,_,_,_,_,_⟩) rfl 38 _ rfl T 3 rfl (nrow (nd,nk,nv,np)) _ HRN2.out Tryz.underlying38 rfl SNN'.out ?_))
                      refine HPW.out.mono ?_
                      rintro e w10 ⟨rfl,ha10⟩
                      have HA10 := Lib.hid ha10
                      clear ha10 HPW HA9 HRN2
                      obtain ⟨PX,hPX⟩ : ∃ z,ptrQ keyE b y nd = z := ⟨_,rfl⟩
                      obtain ⟨RX,hRX⟩ : ∃ z,(ptrRow PX).toArray = z := ⟨_,rfl⟩
                      have HPX := Lib.hid hPX
                      have HRX := Lib.hid hRX
                      have sa1 := SP1.out PX
                      have sa2 := SP2.out PX
                      have sa3 := SP3.out PX
                      rw [hRX] at sa1 sa2 sa3
                      have SAPX1 := Lib.hid sa1
                      have SAPX2 := Lib.hid sa2
                      have SAPX3 := Lib.hid sa3
                      rw [hPX,hRX]
                      clear hPX hRX sa1 sa2 sa3
                      go_upto_region 19 with (first
                       | (with_reducible refine wpList_store_row (o := ⟨none,.store _ (.tmp 18) _,_,_,_,_⟩) rfl 43 _ _ rfl w10.heap.size RX rfl rfl 43 ZP (heap_alloc_new w10 _) SAPX1.out SAPX2.out SAPX3.out ?_))
                      generalize hWs : World.setRow _ w10.heap.size _ = w11
                      have hgs := HA10.out.fresh ZP RX 43 w11 hWs.symm
                      have HA11 := Lib.hid hgs
                      clear hWs hgs HA10
                      generalize w10.heap.size = X18 at *
                      have hx := (show w11.heap[X18]? = some (.cells RX 43 (0,0)) from HA11.out.row 0 _ rfl)
                      have HX11 := Lib.hid hx
                      rw [← HRX.out] at hx
                      obtain ⟨x0,x1',_⟩ := ptr_at hx
                      obtain ⟨gx0,gx1,gx2⟩ := ptrQ_parts (kk := keyE) (b := b) (a := y) (nd := nd) (by have := HY.out.1; have := HN.out.2; omega) HK.out.2.2.2.2.1
                      have HGX := Lib.hid (And.intro gx0 (And.intro gx1 gx2))
                      rw [HPX.out] at gx0
                      rw [gx0] at x0
                      clear hx gx0 gx1 gx2 x1'
                      have HRS := Lib.hid (show Calls Tryz.prog 24 #[.pointer (some ⟨D,0,none⟩),.int .u32 (y : Int)] w11 (Fresh6 w11 (readM V (ws ++ [(y,sealQ keyE b y nd)]) y)) from by obtain ⟨M,hq,_⟩ := HA11.out.q; exact ql_dread y hq HY.out.1.2)
                      go_wp2_with fail
                      refine HRS.out.mono ?_
                      rintro e w12 ⟨rfl,hs12,hl12,hb12⟩
                      have HA12 := Lib.hid (HA11.out.below hb12)
                      have HS12 := Lib.hid (show ArrY w12 w11.heap.size 117 (sealQ keyE b y nd) from by rw [readM_more,if_pos rfl] at hs12; exact hs12)
                      have HSL := Lib.hid (sealQ_length (kk := keyE) (b := b) (a := y) HC.out)
                      clear hs12 hl12 hb12 HRS HA11 x0 HX11
                      generalize w11.heap.size = X20 at *
                      have hx := (show w12.heap[X18]? = some (.cells RX 43 (0,0)) from HA12.out.row 0 _ rfl)
                      have HX12 := Lib.hid hx
                      rw [← HRX.out] at hx
                      obtain ⟨x0,x1',x2⟩ := ptr_at hx
                      obtain ⟨gx0,gx1,gx2⟩ := HGX.out
                      rw [HPX.out] at gx0 gx1 gx2
                      rw [gx0] at x0
                      rw [gx1] at x1'
                      have HXH := Lib.hid (by_range x2)
                      have SH1 := Lib.hid (size_hashL PX)
                      have cB := HA12.out.r.parts.2.2.1
                      have hc0 := fun p : BelowBy w12 => by_cell x0 p
                      have hc1 := fun p : BelowBy w12 => by_cell x1' p
                      have hcb := fun p : BelowBy w12 => by_cell cB p
                      obtain ⟨HHL,hHHL⟩ : ∃ z,PX.su.map (Value.int .u8) = z := ⟨_,rfl⟩
                      have hu8 : u8s PX.su = HHL.toArray := by rw [← hHHL]; rfl
                      rw [hHHL] at HXH SH1
                      have hes := fun W => eq_hash_same PX.su PX.s0.1 PX.s0.2 W
                      rw [hu8] at hes
                      have HSU := Lib.hid (show ∀ pp : BelowBy w12,Calls Tryz.prog 25 #[.slice (some ⟨X20,0,none⟩) 512 512] pp.now (fun e w' => e = .returned (.agg HHL.toArray) ∧ Below pp.now.heap.size pp.now w') from fun pp => by
                       obtain ⟨M,hq,_⟩ := (HA12.out.below pp.bel).q
                       have z := shasum_any ((sealQ keyE b y nd).map yv) (.slice (some ⟨X20,0,none⟩) 512 512) pp.now hq.ktn ((BS.of_arr0 HS12.out HSL.out).kept pp.bel) (room_of _ _ _ (Nat.le_refl _) (by decide)) (by rw [List.length_map,HSL.out]; decide)
                       rw [← gx2,hu8] at z
                       exact z)
                      clear hx gx0 gx1 gx2 x0 x1' x2 cB hHHL hu8
                      go_upto_region 27 with fail
                      refine wp_region_below (by kernel_rfl) (by kernel_rfl) ?_
                      repeat (first
                       | (with_reducible refine quiet_load_row (o := ⟨some 124,_,_,_,_,_⟩) (by kernel_rfl) 28 _ rfl X18 2 rfl HHL _ HXH.out Tryz.underlying28 rfl SH1.out ?_
                          simp only [Act.put,List.setIfInBounds_toArray,List.set_cons_zero,List.set_cons_succ])
                       | (go_big_quiet_step (first | (go_at_call 25; exact calls_below (HSU.out _)))))
                      refine wpQuiet_nil ?_
                      intro _ hw'
                      obtain ⟨pp,hw''⟩ := hw'
                      subst hw''
                      have HA13 := Lib.hid (HA12.out.below pp.bel)
                      clear hc0 hc1 hcb hes HSU HXH SH1 HS12 HX12 HA12
                      generalize pp.now = w13 at *
                      have hr13 := (HA13.out.below (Below.refl w13.heap.size w13).drew).r
                      obtain ⟨w14,hup,hbm,ht14⟩ := bm_put hr13.mp (by have := HK.out; have := HLN.out; omega) y (by have := HY.out.1; have := HN.out.2; omega) (PX,(nd,nk,nv,np))
                      have HAD := Lib.hid (HA13.out.below (Below.refl w13.heap.size w13).drew)
                      have HA14 := Lib.hid (HAD.out.ref ht14 (fun k hk => by simp only [List.mem_singleton] at hk; subst hk; simp) (show R13 w14 R MS G Mb n (c + 1) (updF F y false) b (fun j => if j = y then (PX,(nd,nk,nv,np)) else B j) from ⟨(ht14.block R hr13.lt (by simpa using hr13.apart.2.2.1)).trans hr13.cell,hr13.sp.touch ht14 (by simpa using hr13.apart.2.2.2.2.1) (by simpa using hr13.apart.2.2.2.2.2),hbm⟩))
                      have HS := Lib.hid (fun (W : World) (c' : Nat) (B' : Nat → Blk) (h : AS w W P D gl n (updF F y false) b V (ws ++ [(y,sealQ keyE b y nd)]) lim' false [(X18,RX,43),(T,AR.toArray,45)] R MS G Mb c' (updF F y false) b B' (.slice a11 m c11) m X) => show W.cell? ⟨R,3,none⟩ = some (.map (some Mb)) ∧ W.rangeAt X18 0 RX.toList ∧ W.rangeAt T 3 (nrow (nd,nk,nv,np)) from by
                       have hrw := (show W.heap[T]? = some (.cells AR.toArray 45 (0,0)) from h.row 1 _ rfl)
                       rw [← HARR.out] at hrw
                       exact ⟨h.r.parts.2.2.2,rowR (h.row 0 _ rfl),(act13_at hrw).2.2.2.1⟩)
                      have HBB := Lib.hid (show ∀ W : World,(Instr.build 67 #[(0,.agg RX),(1,.agg (nrow (nd,nk,nv,np)).toArray)]).run Tryz.prog W = .ok (.agg (blkRow (PX,(nd,nk,nv,np))).toArray) W from by rw [← HRX.out]; exact build_blk PX (nd,nk,nv,np))
                      have SXL := Lib.hid (show (Tryz.prog.info? 43).map (·.size) = some RX.toList.length by rw [Array.length_toList]; exact SAPX1.out)
                      clear hbm ht14 hr13 HA13
                      go_upto_region 29 with fail
                      try simp only [Act.put]
                      refine wp_region_noPanic ?_
                      refine wp_region_held_drew (S := fun W => W.cell? ⟨R,3,none⟩ = some (.map (some Mb)) ∧ W.rangeAt X18 0 RX.toList ∧ W.rangeAt T 3 (nrow (nd,nk,nv,np))) (by kernel_rfl) (HS.out _ _ _ HAD.out) (fun hHeld => ?_)
                      refine wpAnyH_take (i := 0) (oi := ⟨some 129,_,_,_,_,_⟩) (v := ?_) rfl (by kernel_rfl) (by decide +kernel) (by decide +kernel) (fun _ _ _ h => h) (Or.inl ⟨by rfl, ?_⟩) (by assumption) ?_
                      rotate_left 1
                      ·(intro w' hSw; go_simp; try with_reducible rfl)
                      try simp only [Act.put,List.setIfInBounds_toArray,List.set_cons_zero,List.set_cons_succ]
                      refine wpAnyH_take (i := 1) (oi := ⟨some 130,_,_,_,_,_⟩) (v := ?_) rfl (by kernel_rfl) (by decide +kernel) (by decide +kernel) (fun _ _ _ h => h) (Or.inl ⟨by rfl, ?_⟩) (by assumption) ?_
                      rotate_left 1
                      ·(intro w' hSw; go_simp; try with_reducible rfl)
                      try simp only [Act.put,List.setIfInBounds_toArray,List.set_cons_zero,List.set_cons_succ]
                      refine wpAnyH_take (i := 2) (oi := ⟨some 131,_,_,_,_,_⟩) (v := ?_) rfl (by kernel_rfl) (by decide +kernel) (by decide +kernel) (fun _ _ _ h => h) (Or.inl ⟨by rfl, ?_⟩) (by assumption) ?_
                      rotate_left 1
                      ·(intro w' hSw; go_simp; try with_reducible rfl)
                      try simp only [Act.put,List.setIfInBounds_toArray,List.set_cons_zero,List.set_cons_succ]
                      refine wpAnyH_take (i := 3) (oi := ⟨some 132,_,_,_,_,_⟩) (v := ?_) rfl (by kernel_rfl) (by decide +kernel) (by decide +kernel) (fun _ _ _ h => h) (Or.inl ⟨by rfl, ?_⟩) (by assumption) ?_
                      rotate_left 1
                      ·(intro w' hSw; have hc := hSw.1; go_simp; try with_reducible rfl)
                      try simp only [Act.put,List.setIfInBounds_toArray,List.set_cons_zero,List.set_cons_succ]
                      refine wpAnyH_take (i := 4) (oi := ⟨some 133,_,_,_,_,_⟩) (v := ?_) rfl (by kernel_rfl) (by decide +kernel) (by decide +kernel) (fun _ _ _ h => h) (Or.inl ⟨by rfl, ?_⟩) (by assumption) ?_
                      rotate_left 1
                      ·(intro w' hSw; go_simp; try with_reducible rfl)
                      try simp only [Act.put,List.setIfInBounds_toArray,List.set_cons_zero,List.set_cons_succ]
                      refine wpAnyH_take (i := 5) (oi := ⟨some 134,_,_,_,_,_⟩) rfl (by kernel_rfl) (by decide +kernel) (by decide +kernel) (fun _ _ _ h => h) (yieldsIf_load_mid (by rfl) _ _ rfl (X18) 0 rfl (RX.toList) _ (fun w' h => h.2.1) Tryz.underlying43 rfl SXL.out) (by assumption) ?_
                      try simp only [Act.put,List.setIfInBounds_toArray,List.set_cons_zero,List.set_cons_succ,Array.toArray_toList]
                      refine wpAnyH_take (i := 6) (oi := ⟨some 135,_,_,_,_,_⟩) (v := ?_) rfl (by kernel_rfl) (by decide +kernel) (by decide +kernel) (fun _ _ _ h => h) (Or.inl ⟨by rfl, ?_⟩) (by assumption) ?_
                      rotate_left 1
                      ·(intro w' hSw; go_simp; try with_reducible rfl)
                      try simp only [Act.put,List.setIfInBounds_toArray,List.set_cons_zero,List.set_cons_succ]
                      refine wpAnyH_take (i := 7) (oi := ⟨some 136,_,_,_,_,_⟩) rfl (by kernel_rfl) (by decide +kernel) (by decide +kernel) (fun _ _ _ h => h) (yieldsIf_load_mid (by rfl) _ _ rfl (T) 3 rfl (nrow (nd,nk,nv,np)) _ (fun w' h => h.2.2) Tryz.underlying38 rfl SNN'.out) (by assumption) ?_
                      try simp only [Act.put,List.setIfInBounds_toArray,List.set_cons_zero,List.set_cons_succ]
                      refine wpAnyH_take (i := 8) (oi := ⟨some 137,_,_,_,_,_⟩) rfl (by kernel_rfl) (by decide +kernel) (by decide +kernel) (fun _ _ _ h => h) (yieldsIf_build6 (by rfl) _ _ rfl #[(0,.agg RX),(1,.agg (nrow (nd,nk,nv,np)).toArray)] _ (by simp [Act.eval]) HBB.out) (by assumption) ?_
                      try simp only [Act.put,List.setIfInBounds_toArray,List.set_cons_zero,List.set_cons_succ]
                      clear hHeld
                      refine wpAnyH_ready (rs := [9]) (by decide +kernel) (by simp) ?_
                      refine AllReadyH.cons rfl (fun K hK => ?_) AllReadyH.nil
                      go_simp
                      refine hK.out _ _ (HS.out _ _ _ HA14.out) (fun hHeld => ?_)
                      clear hK K hHeld
                      try simp only [Act.put,List.setIfInBounds_toArray,List.set_cons_zero,List.set_cons_succ]
                      refine wpAnyH_done (by decide +kernel) ?_ _
                      refine NoPanic.normal ?_
                      clear hup HS HBB HAD
                      have hlit := lit_ptr PX w14
                      rw [HRX.out] at hlit
                      have HLIT := Lib.hid hlit
                      clear hlit
                      obtain ⟨a15,k15,w15,hap,has15⟩ := HA14.out.app PX RX HRX.out (by have := HK.out; have := HLN.out; omega)
                      have HAP := Lib.hid hap
                      have HA15 := Lib.hid has15
                      have HX14 := Lib.hid (show w14.heap[X18]? = some (.cells RX 43 (0,0)) from HA14.out.row 0 _ rfl)
                      clear hap has15 HA14
                      go_wp2_with (first
                       | (with_reducible refine wpList_load_row (o := ⟨some 139,_,_,_,_,_⟩) rfl 43 _ rfl X18 rfl 43 RX (0,0) _ HX14.out Tryz.underlying43 rfl SAPX1.out ?_)
                       | (refine wpList_lit_run (o := ⟨some 140,_,_,_,_,_⟩) rfl _ _ _ rfl #[(0,.agg RX)] (by simp [Act.eval,Act.put]) _ _ HLIT.out ?_)
                       | (at_builtin; refine wpList_append_run (o := ⟨some 141,_,_,_,_,_⟩) rfl _ _ _ _ rfl _ _ _ _ rfl rfl HAP.out ?_))
                      have HLW := Lib.hid (LIE.write HK.out.2.2.2.2.2.1 y b (nd,nk,nv,np) HB0'.out HK.out.2.2.2.2.1 HC.out HOK.out.nr)
                      rw [HPX.out] at HLW
                      go_meet
                      case rel => exact ⟨m + 1,_,b,V,_,_,_,G,c + 1,_,_,_,_,rfl,by have := HK.out; omega,by have := HK.out; omega,by rw [List.length_append]; have := HK.out; simp; omega,HK.out.2.2.2.2.1,HLW.out,HK.out.2.2.2.2.2.2.write y b nd HY.out.1.2 HC.out,(HA15.out.less (fun r hr => absurd hr (by simp)))⟩
                ·as_aux_lemma =>
                  have HC := Lib.hid hc
                  have c0 : (checkN nd == 0) = false := by simpa using hc
                  have c1 : (checkN nd != 0) = true := by simpa using hc
                  clear hc
                  have HRW := Lib.hid (show Calls Tryz.prog 20 #[.pointer (some ⟨R,0,none⟩),.agg (nrow (nd,nk,nv,np)).toArray] w8 fun e w' => e = .returned (.tuple #[.int .u32 0,.int .i64 (checkN nd)]) ∧ Below w8.heap.size w8 w' from rw13_bad HA8.out.r (nd,nk,nv,np) HB0'.out (HNR.out w8 HA8.out.bel) HNBD.out HF9.out HC.out)
                  go_wp2_with (first
                   | (with_reducible refine wpList_load_mid (op := ⟨some 62,_,_,_,_,_⟩) rfl 38 _ rfl T 3 rfl (nrow (nd,nk,nv,np)) _ HRN.out Tryz.underlying38 rfl SNN'.out ?_))
                  refine HRW.out.mono ?_
                  rintro e w9 ⟨rfl,hb9⟩
                  have HA9 := Lib.hid (HA8.out.below hb9)
                  clear hb9 HRW HA8 HROW8 HRN k0 k1 k2 k7
                  have hrw := (show w9.heap[T]? = some (.cells AR.toArray 45 (0,0)) from HA9.out.row 0 _ rfl)
                  rw [← HARR.out] at hrw
                  have HRN2 := Lib.hid (show w9.rangeAt T 3 (nrow (nd,nk,nv,np)) from (act13_at hrw).2.2.2.1)
                  clear hrw
                  have HPW := Lib.hid (show Calls Tryz.prog 21 #[.pointer (some ⟨P,0,none⟩),.agg (nrow (nd,nk,nv,np)).toArray] w9 fun e w' => e = .returned (.tuple #[.agg (ptrRow zeroPtr).toArray,.int .i64 (checkN nd)]) ∧ Below w9.heap.size w9 w' from by
                   obtain ⟨M,hq,_⟩ := HA9.out.q
                   exact ql_wbad nk nv np nd hq (HNR.out w9 HA9.out.bel) HNBD.out HB0'.out HC.out)
                  have SAZ1 := SP1.out zeroPtr
                  have SAZ3 := SP3.out zeroPtr
                  rw [HZP.out] at SAZ1 SAZ3 HPW
                  have SAZ1 := Lib.hid SAZ1
                  have SAZ3 := Lib.hid SAZ3
                  go_wp2_with (first
                   | (with_reducible refine wpList_load_mid (op := ⟨some 69,_,_,_,_,_⟩) rfl 38 _ rfl T 3 rfl (nrow (nd,nk,nv,np)) _ HRN2.out Tryz.underlying38 rfl SNN'.out ?_))
                  refine HPW.out.mono ?_
                  rintro e w10 ⟨rfl,hb10⟩
                  have HA10 := Lib.hid (HA9.out.below hb10)
                  clear hb10 HPW HA9 HRN2
                  go_upto_region 19 with (first
                   | (with_reducible refine wpList_store_row (o := ⟨none,.store _ (.tmp 18) _,_,_,_,_⟩) rfl 43 _ _ rfl w10.heap.size ZP rfl rfl 43 ZP (heap_alloc_new w10 _) SAZ1.out rfl SAZ3.out ?_))
                  generalize hWs : World.setRow _ w10.heap.size _ = w11
                  have hgs := HA10.out.fresh ZP ZP 43 w11 hWs.symm
                  have HA11 := Lib.hid hgs
                  clear hWs hgs HA10
                  generalize w10.heap.size = X18 at *
                  go_wp2_with fail
                  go_meet
                  case rel => exact ⟨m,F,b,V,ws,lim,dn,G,c,B,a11,c11,X,rfl,by have := HK.out; omega,by have := HK.out; omega,by have := HK.out; omega,HK.out.2.2.2.2.1,HK.out.2.2.2.2.2.1,HK.out.2.2.2.2.2.2,(HA11.out.less (fun r hr => absurd hr (by simp)))⟩
       case rest =>
        as_aux_lemma =>
         obtain ⟨m,F,b,V,ws,lim,dn,G,c,B,a11,c11,X,rfl,hm,hc,hws,hb,hli,hwo,has⟩ := hcut
         have HK2 := Lib.hid (And.intro hm (And.intro hc (And.intro hws (And.intro hb (And.intro hli hwo)))))
         have HASC := Lib.hid has
         obtain ⟨k,hk⟩ : ∃ k,(tkn F n).length = k := ⟨_,rfl⟩
         obtain ⟨z,hz⟩ : ∃ z,cnt F n = z := ⟨_,rfl⟩
         have zE : (z : Int) = (n : Int) - 2 - (k : Int) := by have := has.count; omega
         have kI : (k : Int) ≤ 4096 := by have := has.count; have := HN.out.2; omega
         have k0' : (0 : Int) ≤ (k : Int) := by omega
         have HKK := Lib.hid hk
         have HZ := Lib.hid hz
         have HS := Lib.hid (show ∀ W,Below wc.heap.size wc W → W.cell? ⟨R,1,none⟩ = some (.pointer (some ⟨MS,0,none⟩)) from fun W hW => (has.below hW).r.parts.2.1)
         have HB0 := Lib.hid (Below.refl wc.heap.size wc).drew
         clear has hm hc hws hb hli hwo hk hz HA8 HROW8 k0 k1 k2 k7
         go_upto_region 52 with fail
         try simp only [Act.put]
         refine wp_region_noPanic ?_
         refine wp_region_held_drew (S := fun W => W.cell? ⟨R,1,none⟩ = some (.pointer (some ⟨MS,0,none⟩))) (by kernel_rfl) (HS.out _ HB0.out) (fun hHeld => ?_)
         refine wpAnyH_take (i := 0) (oi := ⟨some 220,_,_,_,_,_⟩) (v := ?_) rfl (by kernel_rfl) (by decide +kernel) (by decide +kernel) (fun _ _ _ h => h) (Or.inl ⟨by rfl, ?_⟩) (by assumption) ?_
         rotate_left 1
         ·(intro w' hSw; go_simp; try with_reducible rfl)
         try simp only [Act.put,List.setIfInBounds_toArray,List.set_cons_zero,List.set_cons_succ]
         refine wpAnyH_take (i := 2) (oi := ⟨some 222,_,_,_,_,_⟩) (v := ?_) rfl (by kernel_rfl) (by decide +kernel) (by decide +kernel) (fun _ _ _ h => h) (Or.inl ⟨by rfl, ?_⟩) (by assumption) ?_
         rotate_left 1
         ·(intro w' hSw; go_simp; try with_reducible rfl)
         try simp only [Act.put,List.setIfInBounds_toArray,List.set_cons_zero,List.set_cons_succ]
         refine wpAnyH_take (i := 3) (oi := ⟨some 223,_,_,_,_,_⟩) (v := ?_) rfl (by kernel_rfl) (by decide +kernel) (by decide +kernel) (fun _ _ _ h => h) (Or.inl ⟨by rfl, ?_⟩) (by assumption) ?_
         rotate_left 1
         ·(intro w' hSw; go_simp; try with_reducible rfl)
         try simp only [Act.put,List.setIfInBounds_toArray,List.set_cons_zero,List.set_cons_succ]
         refine wpAnyH_take (i := 4) (oi := ⟨some 224,_,_,_,_,_⟩) (v := ?_) rfl (by kernel_rfl) (by decide +kernel) (by decide +kernel) (fun _ _ _ h => h) (Or.inl ⟨by rfl, ?_⟩) (by assumption) ?_
         rotate_left 1
         ·(intro w' hSw; go_simp; try with_reducible rfl)
         try simp only [Act.put,List.setIfInBounds_toArray,List.set_cons_zero,List.set_cons_succ]
         refine wpAnyH_take (i := 5) (oi := ⟨some 225,_,_,_,_,_⟩) (v := ?_) rfl (by kernel_rfl) (by decide +kernel) (by decide +kernel) (fun _ _ _ h => h) (Or.inl ⟨by rfl, ?_⟩) (by assumption) ?_
         rotate_left 1
         ·(intro w' hSw; have hc := hSw; go_simp; try with_reducible rfl)
         try simp only [Act.put,List.setIfInBounds_toArray,List.set_cons_zero,List.set_cons_succ]
         clear hHeld
         refine wpAnyH_ready (rs := [1]) (by decide +kernel) (by simp) ?_
         refine AllReadyH.cons rfl (fun K hK => ?_) AllReadyH.nil
         go_simp
         go_at_call 27
         refine ((HASC.out.below HB0.out).takenP k HKK.out).mono ?_
         rintro e wt1 ⟨ax1,cx1,rfl,hu1,hbn⟩
         have HB1t := Lib.hid (HB0.out.trans (hbn.mono HB0.out.size))
         have HU1 := Lib.hid hu1
         clear hu1
         clear hbn
         go_wp2_with fail
         refine hK.out _ _ (HS.out _ HB1t.out) (fun hHeld => ?_)
         clear hK K
         try simp only [Act.put,List.setIfInBounds_toArray,List.set_cons_zero,List.set_cons_succ]
         clear hHeld
         refine wpAnyH_ready (rs := [6]) (by decide +kernel) (by simp) ?_
         refine AllReadyH.cons rfl (fun K hK => ?_) AllReadyH.nil
         go_simp
         go_at_call 28
         refine ((HASC.out.below HB1t.out).takenR k HKK.out).mono ?_
         rintro e wt2 ⟨ax2,cx2,rfl,hu2,hbn⟩
         have HB2t := Lib.hid (HB1t.out.trans (hbn.mono HB1t.out.size))
         have HU2 := Lib.hid hu2
         have HU1b := Lib.hid (HU1.out.below hbn)
         clear hu2 HU1
         clear hbn
         go_wp2_with fail
         refine hK.out _ _ (HS.out _ HB2t.out) (fun hHeld => ?_)
         clear hK K
         try simp only [Act.put,List.setIfInBounds_toArray,List.set_cons_zero,List.set_cons_succ]
         clear hHeld
         refine wpAnyH_ready (rs := [7]) (by decide +kernel) (by simp) ?_
         refine AllReadyH.cons rfl (fun K hK => ?_) AllReadyH.nil
         go_simp
         go_at_call 26
         refine ((show Calls Tryz.prog 26 #[.slice ax1 k cx1,.slice ax2 k cx2] wt2 fun e w' => e = .returned (.bool true) ∧ Below wt2.heap.size wt2 w' from by (have q := rsame11_any ax1 ax2 k k cx1 cx2 _ _ wt2 HU1b.out HU2.out (by omega) (by omega)); rw [decide_eq_true rfl] at q; exact q)).mono ?_
         rintro e wt3 ⟨rfl,hbn⟩
         have HB3t := Lib.hid (HB2t.out.trans (hbn.mono HB2t.out.size))
         clear HU1b HU2
         clear hbn
         go_wp2_with fail
         refine hK.out _ _ (HS.out _ HB3t.out) (fun hHeld => ?_)
         clear hK K
         try simp only [Act.put,List.setIfInBounds_toArray,List.set_cons_zero,List.set_cons_succ]
         refine wpAnyH_take (i := 8) (oi := ⟨some 228,_,_,_,_,_⟩) (v := ?_) rfl (by kernel_rfl) (by decide +kernel) (by decide +kernel) (fun _ _ _ h => h) (Or.inl ⟨by rfl, ?_⟩) (by assumption) ?_
         rotate_left 1
         ·(intro w' hSw; go_simp; try with_reducible rfl)
         try simp only [Act.put,List.setIfInBounds_toArray,List.set_cons_zero,List.set_cons_succ]
         refine wpAnyH_take (i := 9) (oi := ⟨some 229,_,_,_,_,_⟩) (v := ?_) rfl (by kernel_rfl) (by decide +kernel) (by decide +kernel) (fun _ _ _ h => h) (Or.inl ⟨by rfl, ?_⟩) (by assumption) ?_
         rotate_left 1
         ·(intro w' hSw; go_simp; try with_reducible rfl)
         try simp only [Act.put,List.setIfInBounds_toArray,List.set_cons_zero,List.set_cons_succ]
         refine wpAnyH_take (i := 10) (oi := ⟨some 230,_,_,_,_,_⟩) (v := ?_) rfl (by kernel_rfl) (by decide +kernel) (by decide +kernel) (fun _ _ _ h => h) (Or.inl ⟨by rfl, ?_⟩) (by assumption) ?_
         rotate_left 1
         ·(intro w' hSw; go_simp; try with_reducible rfl)
         try simp only [Act.put,List.setIfInBounds_toArray,List.set_cons_zero,List.set_cons_succ]
         refine wpAnyH_take (i := 12) (oi := ⟨some 232,_,_,_,_,_⟩) (v := ?_) rfl (by kernel_rfl) (by decide +kernel) (by decide +kernel) (fun _ _ _ h => h) (Or.inl ⟨by rfl, ?_⟩) (by assumption) ?_
         rotate_left 1
         ·(intro w' hSw; go_simp; try with_reducible rfl)
         try simp only [Act.put,List.setIfInBounds_toArray,List.set_cons_zero,List.set_cons_succ]
         refine wpAnyH_take (i := 13) (oi := ⟨some 233,_,_,_,_,_⟩) (v := ?_) rfl (by kernel_rfl) (by decide +kernel) (by decide +kernel) (fun _ _ _ h => h) (Or.inl ⟨by rfl, ?_⟩) (by assumption) ?_
         rotate_left 1
         ·(intro w' hSw; go_simp; try with_reducible rfl)
         try simp only [Act.put,List.setIfInBounds_toArray,List.set_cons_zero,List.set_cons_succ]
         refine wpAnyH_take (i := 14) (oi := ⟨some 234,_,_,_,_,_⟩) (v := ?_) rfl (by kernel_rfl) (by decide +kernel) (by decide +kernel) (fun _ _ _ h => h) (Or.inl ⟨by rfl, ?_⟩) (by assumption) ?_
         rotate_left 1
         ·(intro w' hSw; go_simp; try with_reducible rfl)
         try simp only [Act.put,List.setIfInBounds_toArray,List.set_cons_zero,List.set_cons_succ]
         refine wpAnyH_take (i := 15) (oi := ⟨some 235,_,_,_,_,_⟩) (v := ?_) rfl (by kernel_rfl) (by decide +kernel) (by decide +kernel) (fun _ _ _ h => h) (Or.inl ⟨by rfl, ?_⟩) (by assumption) ?_
         rotate_left 1
         ·(intro w' hSw; go_simp; try with_reducible rfl)
         try simp only [Act.put,List.setIfInBounds_toArray,List.set_cons_zero,List.set_cons_succ]
         refine wpAnyH_take (i := 16) (oi := ⟨some 236,_,_,_,_,_⟩) (v := ?_) rfl (by kernel_rfl) (by decide +kernel) (by decide +kernel) (fun _ _ _ h => h) (Or.inl ⟨by rfl, ?_⟩) (by assumption) ?_
         rotate_left 1
         ·(intro w' hSw; go_simp; try with_reducible rfl)
         try simp only [Act.put,List.setIfInBounds_toArray,List.set_cons_zero,List.set_cons_succ]
         refine wpAnyH_take (i := 17) (oi := ⟨some 237,_,_,_,_,_⟩) (v := ?_) rfl (by kernel_rfl) (by decide +kernel) (by decide +kernel) (fun _ _ _ h => h) (Or.inl ⟨by rfl, ?_⟩) (by assumption) ?_
         rotate_left 1
         ·(intro w' hSw; have hc := hSw; go_simp; try with_reducible rfl)
         try simp only [Act.put,List.setIfInBounds_toArray,List.set_cons_zero,List.set_cons_succ]
         clear hHeld
         refine wpAnyH_ready (rs := [11]) (by decide +kernel) (by simp) ?_
         refine AllReadyH.cons rfl (fun K hK => ?_) AllReadyH.nil
         go_simp
         go_at_call 29
         refine ((HASC.out.below HB3t.out).left).mono ?_
         rintro e wt4 ⟨rfl,hw⟩
         subst wt4
         go_wp2_with fail
         refine hK.out _ _ (HS.out _ HB3t.out) (fun hHeld => ?_)
         clear hK K
         try simp only [Act.put,List.setIfInBounds_toArray,List.set_cons_zero,List.set_cons_succ]
         clear hHeld
         refine wpAnyH_ready (rs := [18]) (by decide +kernel) (by simp) ?_
         refine AllReadyH.cons rfl (fun K hK => ?_) AllReadyH.nil
         go_simp
         go_at_call 28
         refine ((HASC.out.below HB3t.out).takenR k HKK.out).mono ?_
         rintro e wt5 ⟨ax5,cx5,rfl,_,hbn⟩
         have HB5t := Lib.hid (HB3t.out.trans (hbn.mono HB3t.out.size))
         clear hbn
         go_wp2_with fail
         refine hK.out _ _ (HS.out _ HB5t.out) (fun hHeld => ?_)
         clear hK K
         try simp only [Act.put,List.setIfInBounds_toArray,List.set_cons_zero,List.set_cons_succ]
         refine wpAnyH_take (i := 19) (oi := ⟨some 239,_,_,_,_,_⟩) (v := ?_) rfl (by kernel_rfl) (by decide +kernel) (by decide +kernel) (fun _ _ _ h => h) (Or.inl ⟨by rfl, ?_⟩) (by assumption) ?_
         rotate_left 1
         ·(intro w' hSw; go_simp; try with_reducible rfl)
         try simp only [Act.put,List.setIfInBounds_toArray,List.set_cons_zero,List.set_cons_succ]
         refine wpAnyH_take (i := 20) (oi := ⟨some 240,_,_,_,_,_⟩) (v := ?_) rfl (by kernel_rfl) (by decide +kernel) (by decide +kernel) (fun _ _ _ h => h) (Or.inl ⟨by rfl, ?_⟩) (by assumption) ?_
         rotate_left 1
         ·(intro w' hSw; go_simp; try with_reducible rfl)
         try simp only [Act.put,List.setIfInBounds_toArray,List.set_cons_zero,List.set_cons_succ]
         refine wpAnyH_take (i := 21) (oi := ⟨some 241,_,_,_,_,_⟩) (v := ?_) rfl (by kernel_rfl) (by decide +kernel) (by decide +kernel) (fun _ _ _ h => h) (Or.inl ⟨by rfl, ?_⟩) (by assumption) ?_
         rotate_left 1
         ·(intro w' hSw; go_simp; try with_reducible rfl)
         try simp only [Act.put,List.setIfInBounds_toArray,List.set_cons_zero,List.set_cons_succ]
         refine wpAnyH_take (i := 22) (oi := ⟨some 242,_,_,_,_,_⟩) (v := ?_) rfl (by kernel_rfl) (by decide +kernel) (by decide +kernel) (fun _ _ _ h => h) (Or.inl ⟨by rfl, ?_⟩) (by assumption) ?_
         rotate_left 1
         ·(intro w' hSw; go_simp; try with_reducible rfl)
         try simp only [Act.put,List.setIfInBounds_toArray,List.set_cons_zero,List.set_cons_succ]
         clear hHeld
         refine wpAnyH_done (by decide +kernel) ?_ _
         refine NoPanic.normal ?_
         have HAF := Lib.hid (HASC.out.below HB5t.out)
         rw [HZ.out]
         have hdd : ((z : Int) != IntKind.i64.wrap (IntKind.i64.wrap ((n : Int) - 2) - (k : Int))) = false := by rw [IntWalk.i64_in ((n : Int) - 2) (by omega),IntWalk.i64_in ((n : Int) - 2 - (k : Int)) (by omega),← zE]; simp
         clear HS HB0 HB1t HB2t HB3t HB5t
         go_wp2_with fail
         go_roundw
         case rel => exact ⟨i + 1,m,F,b,V,ws,lim,dn,G,c,B,a11,c11,X,by have := HK.out.1; omega,by go_num,rfl,HK2.out.1,HK2.out.2.1,HK2.out.2.2.1,HK2.out.2.2.2.1,HK2.out.2.2.2.2.1,HK2.out.2.2.2.2.2,HAF.out⟩
         case measure => simp [intOf]; have := HK.out.1; omega
   ·obtain rfl : i = len1 := by omega
    have HB := Lib.hid has.bel
    clear hi hlt hm hc hws hb hli hwo has
    go_wp2_with fail
    go_ret
    exact ⟨rfl,HB.out⟩
set_option maxRecDepth 100000 in
theorem lifted (os : Os) (started : os.Started) (H : Type) (enc : TypeId × Value → H) :
 ReturnsInHanded {} Tryz.checked os 3 .any (fun w args => (Rows.poolActsSpec.pre enc Tryz.prog Tryz.f3 [] false w args ∧ laidMetH Tryz.prog [("banyan/sha.roundNumbers", Rows.laid_banyan_sha_roundNumbers), ("math/bits.deBruijn64tab", Rows.laid_math_bits_deBruijn64tab)] w) ∧ sizedMet enc Tryz.prog Tryz.f3 (OpenSpec.ofChange Rows.poolActsSpec) false w args)
  (Rows.poolActsSpec.post enc Tryz.prog Tryz.f3 false true false false) := by
 refine returnsInHanded_of_change_and (C := Tryz.checked) (X := fun w _ => laidMetH Tryz.prog [("banyan/sha.roundNumbers", Rows.laid_banyan_sha_roundNumbers), ("math/bits.deBruijn64tab", Rows.laid_math_bits_deBruijn64tab)] w) (fun _ _ _ hh h => h.of_heap hh) own2 started (by kernel_rfl) Tryz.func3
  (ChangeSpec.witness_shaped (enc := enc) (C := Tryz.checked) (os := os) (X := fun w _ => laidMetH Tryz.prog [("banyan/sha.roundNumbers", Rows.laid_banyan_sha_roundNumbers), ("math/bits.deBruijn64tab", Rows.laid_math_bits_deBruijn64tab)] w) false (World.doorLaid Tryz.prog 400 os) #[.int .u8 0, .slice none 0 0] 8 rfl (World.shaped_of_RefB (by kernel_rfl) (by kernel_rfl)) (by kernel_rfl) (by kernel_rfl) (by kernel_rfl) (both_door os _)) ?_
 intro W base args ds gs before hval0 hW _ hsz0 hL _
 have hval : ∀ (j : Nat) t v,Tryz.f3.params[j]? = some t → args[j]? = some v → Value.okWide Tryz.prog W .any base t v := hval0
 have hsz : (DataW.weightsEach Tryz.prog (Tryz.f3.params.toList ++ Rows.poolActsSpec.plain.varTypes Tryz.prog) (ds ++ gs)).all (· ≤ reachBytes) = true := hsz0
 clear hsz0
 have hW' := hW
 obtain ⟨p,q,hA0,hV,rfl,hfz,hnd⟩ := hW
 have hA : DataW.TrodAll enc Tryz.prog W 0 (fun _ => true) true Tryz.f3.params.toList args.toList ds p := hA0
 rw [Tryz.params3] at hA hval hsz
 obtain ⟨v0,vs0,d0,ds0,p0,q0,hargs,rfl,rfl,h0,r0⟩ := trodAll_cons hA
 obtain ⟨v1,vs1,d1,ds1,p1,q1,rfl,rfl,rfl,h1,r1⟩ := trodAll_cons r0
 obtain ⟨rfl,rfl,rfl⟩ := trodAll_nil r1
 obtain rfl : args = #[v0,v1] := by cases args; simp_all
 obtain ⟨rfl,rfl⟩ := trodVars_none hV
 have k0 := h0
 have lt0 : ∀ x ∈ p0,x.block < W.heap.size := by obtain ⟨m,hm⟩ := k0; exact DataW.trod_lt m _ _ _ hm
 have k1 := h1
 have lt1 : ∀ x ∈ p1,x.block < W.heap.size := by obtain ⟨m,hm⟩ := k1; exact DataW.trod_lt m _ _ _ hm
 obtain ⟨z0,rfl,za0,zb0⟩ := par_int (j := 0) .u8 _ _ Tryz.underlying5 wf_u8 (hval 0 5 v0 rfl rfl) h0 hsz rfl rfl
 obtain ⟨x1,a1,len1,cap1,rfl,sl1⟩ := par_slice (j := 1) Tryz.underlying22 opn_acts13 (hval 1 22 v1 rfl rfl) h1 hsz rfl rfl
 have hKT := both_of_laid hL
 clear hA0 hval0
 refine (walk W z0 za0 zb0 a1 len1 cap1 x1 sl1 hKT.1 hKT.2).mono fun e W' ⟨he,bel⟩ => ?_
 subst he
 exact ⟨_,rfl,_,_,_, [],_, [],hW',trodAll_mk1 (shut_bool Tryz.underlying4 _),(trodAll_cons_mk (Below.trod laidOut2 (by kernel_rfl) (of_decide_eq_true (by kernel_rfl)) k0 bel lt0) (trodAll_cons_mk (Below.trod laidOut2 (by kernel_rfl) (of_decide_eq_true (by kernel_rfl)) k1 bel lt1) trodAll_mk0)),rfl,bel.frame _,fun h => by cases h⟩

theorem over : Rows.PoolActsSaid :=
 OpenClaim.holds_of_wide 3 Tryz.f3 rfl rfl rfl rfl rfl rfl rfl ⟨rfl,rfl,rfl,rfl,rfl⟩ rfl rfl rfl rfl rfl (by kernel_rfl) Tryz.func3 (by kernel_rfl)
  (of_decide_eq_true (by kernel_rfl)) (by unfold Func.isWrapper; first | (rw [if_pos (by decide +kernel)]; kernel_rfl) | (rw [if_neg (by decide +kernel)]; exact ⟨rfl,rfl⟩))
  (fun os started H enc _ => lifted os started H enc)

/-- The statement. -/
theorem proved : Rows.PoolActsCardSaid :=
 Claim7.holds_tied_plain_at .later [] [.data, .data] true (true, "5b78e827fed50dbb0ffe988080043bf673c046d943e7f5f2a589e3d6361558c0") false
  over (fun _ h => by cases h) (by kernel_rfl) (fun _ h => by cases h) poolActs_row_tie rfl ⟨rfl,rfl⟩ (by kernel_rfl) rfl
  (fun f fn hf hfn => by
    obtain rfl : f = 3 := Option.some.inj ((show Tryz.prog.funcNamed "banyan/banyanlaw13.PoolActs" = some 3 by kernel_rfl).symm.trans hf) |>.symm
    obtain rfl : fn = Tryz.f3 := (Option.some.inj (Tryz.func3.symm.trans hfn)).symm
    exact ⟨by kernel_rfl,fun j t ht => by
     rw [Tryz.params3] at ht
     have hm : t ∈ [5,22] := by simpa using Array.mem_of_getElem? ht
     have hall : ([5,22].all fun u => !Tryz.prog.wantsStandIn u) = true := by kernel_rfl
     exact (show Tryz.prog.wantsStandIn t = false by simpa using List.all_eq_true.1 hall t hm)⟩)
  (by kernel_rfl)
#print axioms proved
end Go.Proofs.YtgckapolpifbkaaGreatDoor.poolActs
