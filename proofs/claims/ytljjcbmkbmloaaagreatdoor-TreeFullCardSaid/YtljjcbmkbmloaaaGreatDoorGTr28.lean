import Derived.Test.YtljjcbmkbmloaaaGreatDoorGTr9
import Derived.Test.YtljjcbmkbmloaaaGreatDoorGTrA
namespace Go.Proofs.YtljjcbmkbmloaaaGreatDoor
set_option maxHeartbeats 3200000
set_option maxRecDepth 100000
set_option linter.unusedVariables false
open Lib (hid)
open Go.RowKit
def SB (w:World)(b t:Nat)(pre:List Value)(F:Nat→Bool)(post:List Value):Prop:=w.heap[b]? = some (.cells (pre++(aZ F++post)).toArray t (0,0))
theorem SB.lt {w:World}{b t:Nat}{pre post:List Value}{F:Nat→Bool}(h:SB w b t pre F post):b<w.heap.size:=(Array.getElem?_eq_some_iff.1 h).1
theorem SB.cell {w:World}{b t o:Nat}{pre post:List Value}{F:Nat→Bool}(h:SB w b t pre F post)(ho:pre.length=o)(i:Nat)(hi:i<64):w.cell? ⟨b,o+i,none⟩=some (.int .u64 (xv (bJ F i))):=by
 subst ho
 rw [cell_of_row w b _ _ _ _ h,List.getElem?_toArray,List.getElem?_append_right (by omega),Nat.add_sub_cancel_left,List.getElem?_append_left (by rw [aQ]; exact hi),lX _ _ hi]
theorem SB.free {w:World}{b t:Nat}{pre post:List Value}{F:Nat→Bool}(h:SB w b t pre F post)(k:Nat):w.frozen? ⟨b,k,none⟩=false:=frozen_of_row w b k _ _ h
theorem SB.set {w:World}{b t o:Nat}{pre post:List Value}{F:Nat→Bool}(h:SB w b t pre F post)(ho:pre.length=o)(a:Nat)(v:Bool)(ha:a<4096):SB (w.setCell ⟨b,o+a / 64,none⟩ (.int .u64 (xv (bJ (dJ F a v) (a / 64))))) b t pre (dJ F a v) post:=by
 subst ho
 unfold SB
 rw [heap_setCell_same w b _ _ _ _ h]
 congr 2
 rw [List.setIfInBounds_toArray,List.set_append_right _ _ (by omega),Nat.add_sub_cancel_left,List.set_append_left _ _ (by rw [aQ]; omega),Ez _ _ _ ha]
theorem SB.range {w:World}{b t o:Nat}{pre post:List Value}{F:Nat→Bool}(h:SB w b t pre F post)(ho:pre.length=o):w.rangeAt b o (aZ F):=by
 subst ho
 intro j v hv
 have hj:j<(aZ F).length:=(List.getElem?_eq_some_iff.1 hv).1
 rw [cell_of_row w b _ _ _ _ h,List.getElem?_toArray,List.getElem?_append_right (by omega),Nat.add_sub_cancel_left,List.getElem?_append_left hj]; exact hv
theorem SB.touch {w w':World}{b t:Nat}{pre post:List Value}{F:Nat→Bool}{l:List Nat}(h:SB w b t pre F post)(q:Touch l w w')(hb:b ∉ l):SB w' b t pre F post:=(q.block b h.lt hb).trans h
theorem SB.below {w w':World}{b t:Nat}{pre post:List Value}{F:Nat→Bool}(h:SB w b t pre F post)(q:Below w.heap.size w w'):SB w' b t pre F post:=(q.block b h.lt).trans h
theorem tV {b t:Nat}:∀ (new old pre post:List Value) (w:World) (o:Nat),pre.length=o→old.length=new.length→w.heap[b]? = some (.cells (pre++(old++post)).toArray t (0,0)) →
 (w.setCells b o new).heap[b]? = some (.cells (pre++(new++post)).toArray t (0,0))∧Only b w (w.setCells b o new)
 | [],old,pre,post,w,o,_,hl,h=>by
   obtain rfl:old=[]:=List.eq_nil_of_length_eq_zero hl
   exact ⟨h,Only.refl b w⟩
 | v::vs,u::us,pre,post,w,o,ho,hl,h=>by
   subst ho
   have h1:(w.setCell ⟨b,pre.length,none⟩ v).heap[b]? = some (.cells ((pre++[v])++(us++post)).toArray t (0,0)):=by
    rw [heap_setCell_same w b _ _ _ _ h]
    congr 2
    rw [List.setIfInBounds_toArray,List.set_append_right _ _ (by omega),Nat.sub_self,List.cons_append,List.set_cons_zero,List.append_assoc]; rfl
   obtain ⟨h2,h3⟩:=tV vs us (pre++[v]) post _ (pre.length+1) (by simp) (by simpa using hl) h1
   refine ⟨?_, ?_⟩
   ·rw [List.append_assoc] at h2; exact h2
   ·have q:=(Only.refl b w).setCell pre.length v
    exact ⟨h3.size.trans q.size,fun k hk=>(h3.rest k hk).trans (q.rest k hk),fun B hB=>(q.bel B hB).trans (h3.bel B hB)⟩
theorem Yq (b t o a:Nat)(pre post:List Value)(F:Nat→Bool)(w:World)(h:SB w b t pre F post)(ho:pre.length=o)(ha:a<4096) :
 Calls Tryz.prog 135 #[.pointer (some ⟨b,o,none⟩),.int .u32 (a:Int)] w fun e w'=>e = .returned (.bool (F a))∧Below w.heap.size w w':=by
 have hc:=h.cell ho (a / 64) (by omega)
 have hbit:=fun W=>zg a W (by omega)
 have hne:(bits .and .u64 (xv (bJ F (a / 64))) (xv (nM (a % 64))) != 0)=F a:=by
  rw [ahw,agu,Xt]; simp
 have hidx:((a:Int) / 64).toNat=a / 64:=by omega
 have hlt:(a:Int) / 64<64:=by omega
 have hge:(0:Int)≤(a:Int) / 64:=by omega
 generalize xv (bJ F (a / 64))=x at *
 rw [← hidx] at hc
 generalize xv (nM (a % 64))=y at *
 generalize F a=r at *
 have HB:=hid hbit
 clear h hidx hbit ha
 go_enter Tryz.func135,Tryz.ntmps135
 go_wp2_with fail
 go_quiet ((go_at_call 89; exact Calls.quiet_of_same (HB.out _)))
 go_wp2_with fail
 go_ret
 exact ⟨rfl,jE (Below.refl _ _) _⟩
theorem Yr (b t o a:Nat)(pre post:List Value)(F:Nat→Bool)(w:World)(h:SB w b t pre F post)(ho:pre.length=o)(ha:a<4096) :
 Calls Tryz.prog 80 #[.pointer (some ⟨b,o,none⟩),.int .u32 (a:Int)] w fun e w'=>e = .returned (.tuple #[])∧SB w' b t pre (dJ F a true) post∧Touch [b] w w':=by
 have hc:=h.cell ho (a / 64) (by omega)
 have hf:=h.free (o+a / 64)
 have hbit:=fun W=>zg a W (by omega)
 have hop:bits .or .u64 (xv (bJ F (a / 64))) (xv (nM (a % 64)))=xv (bJ (dJ F a true) (a / 64)):=by
  rw [agv,IE]
 have hidx:((a:Int) / 64).toNat=a / 64:=by omega
 have hlt:(a:Int) / 64<64:=by omega
 have hge:(0:Int)≤(a:Int) / 64:=by omega
 have HST:=hid (show SB (w.setCell ⟨b,o+a / 64,none⟩ (.int .u64 (xv (bJ (dJ F a true) (a / 64))))) b t pre (dJ F a true) post∧Touch [b] w (w.setCell ⟨b,o+a / 64,none⟩ (.int .u64 (xv (bJ (dJ F a true) (a / 64))))) from
  ⟨h.set ho a true ha,Touch.dQ ((Only.refl b w).setCell _ _) (by simp)⟩)
 generalize xv (bJ (dJ F a true) (a / 64))=z at *
 generalize xv (bJ F (a / 64))=x at *
 generalize xv (nM (a % 64))=y at *
 rw [← hidx] at hc hf HST
 have HB:=hid hbit
 clear h hidx hbit ha
 go_enter Tryz.func80,Tryz.ntmps80
 go_wp2_with fail
 refine wp_region_still_tail 11 (by kernel_rfl) (by kernel_rfl) ?_
 simp only [List.take_succ_cons,List.take_zero,List.drop_succ_cons,List.drop_zero]
 iterate 7 still_step
 still_call (HB.out _)
 iterate 3 still_step
 refine wpStill_nil ?_
 change wpList _ _ _ _ _ w.drew
 go_wp2_with fail
 go_end0
 exact ⟨rfl,HST.out.1,HST.out.2.trans (Touch.of_below (Below.refl _ _).drew)⟩
theorem Ul (b t o a:Nat)(pre post:List Value)(F:Nat→Bool)(w:World)(h:SB w b t pre F post)(ho:pre.length=o)(ha:a<4096) :
 Calls Tryz.prog 67 #[.pointer (some ⟨b,o,none⟩),.int .u32 (a:Int)] w fun e w'=>e = .returned (.tuple #[])∧SB w' b t pre (dJ F a false) post∧Touch [b] w w':=by
 have hc:=h.cell ho (a / 64) (by omega)
 have hf:=h.free (o+a / 64)
 have hbit:=fun W=>zg a W (by omega)
 have hop:bits .andNot .u64 (xv (bJ F (a / 64))) (xv (nM (a % 64)))=xv (bJ (dJ F a false) (a / 64)):=by
  rw [IB,Ey]
 have hidx:((a:Int) / 64).toNat=a / 64:=by omega
 have hlt:(a:Int) / 64<64:=by omega
 have hge:(0:Int)≤(a:Int) / 64:=by omega
 have HST:=hid (show SB (w.setCell ⟨b,o+a / 64,none⟩ (.int .u64 (xv (bJ (dJ F a false) (a / 64))))) b t pre (dJ F a false) post∧Touch [b] w (w.setCell ⟨b,o+a / 64,none⟩ (.int .u64 (xv (bJ (dJ F a false) (a / 64))))) from
  ⟨h.set ho a false ha,Touch.dQ ((Only.refl b w).setCell _ _) (by simp)⟩)
 generalize xv (bJ (dJ F a false) (a / 64))=z at *
 generalize xv (bJ F (a / 64))=x at *
 generalize xv (nM (a % 64))=y at *
 rw [← hidx] at hc hf HST
 have HB:=hid hbit
 clear h hidx hbit ha
 go_enter Tryz.func67,Tryz.ntmps67
 go_wp2_with fail
 refine wp_region_still_tail 11 (by kernel_rfl) (by kernel_rfl) ?_
 simp only [List.take_succ_cons,List.take_zero,List.drop_succ_cons,List.drop_zero]
 iterate 7 still_step
 still_call (HB.out _)
 iterate 3 still_step
 refine wpStill_nil ?_
 change wpList _ _ _ _ _ w.drew
 go_wp2_with fail
 go_end0
 exact ⟨rfl,HST.out.1,HST.out.2.trans (Touch.of_below (Below.refl _ _).drew)⟩
structure SG (w:World)(S n:Nat)(F:Nat→Bool)(pre post:List Value):Prop where
 arr:SB w S 110 (pre++[.int .u32 (n:Int)]) F post
 pl:pre.length=65
 lo:16≤n
 hi:n≤4096
 own:∀ a,F a=true→2≤a∧a<n
theorem SG.VY {w:World}{S n:Nat}{F:Nat→Bool}{pre post:List Value}(h:SG w S n F pre post):(pre++[Value.int .u32 (n:Int)]).length=66:=by rw [List.length_append,h.pl]; rfl
theorem SG.size {w:World}{S n:Nat}{F:Nat→Bool}{pre post:List Value}(h:SG w S n F pre post):w.cell? ⟨S,65,none⟩=some (.int .u32 (n:Int)):=by
 rw [cell_of_row w S _ _ _ _ h.arr,List.getElem?_toArray,List.getElem?_append_left (by rw [h.VY]; decide),List.getElem?_append_right (by rw [h.pl]; exact Nat.le_refl _),h.pl]; rfl
theorem SG.touch {w w':World}{S n:Nat}{F:Nat→Bool}{pre post:List Value}{l:List Nat}(h:SG w S n F pre post)(q:Touch l w w')(hb:S ∉ l):SG w' S n F pre post:=⟨h.arr.touch q hb,h.pl,h.lo,h.hi,h.own⟩
theorem SG.below {w w':World}{S n:Nat}{F:Nat→Bool}{pre post:List Value}(h:SG w S n F pre post)(q:Below w.heap.size w w'):SG w' S n F pre post:=⟨h.arr.below q,h.pl,h.lo,h.hi,h.own⟩
theorem Cj (S n a:Nat)(F:Nat→Bool)(pre post:List Value)(w:World)(h:SG w S n F pre post):Calls Tryz.prog 66 #[.pointer (some ⟨S,65,none⟩),.int .u32 (a:Int)] w fun e w'=>e = .returned (.int .i64 (IL n a))∧w'=w:=by
 have hc:=h.size
 clear h
 unfold IL
 by_cases h1:a<2
 ·rw [if_pos (.inl h1)]
  have h2:(a:Int)<2:=by omega
  go_enter Tryz.func66,Tryz.ntmps66
  go_wp2
  go_ret
  exact ⟨rfl,rfl⟩
 ·have h2:(2:Int)≤(a:Int):=by omega
  by_cases h3:n≤a
  ·rw [if_pos (.inr h3)]
   have h4:(n:Int)≤(a:Int):=by omega
   clear h1 h3
   go_enter Tryz.func66,Tryz.ntmps66
   go_wp2
   go_ret
   exact ⟨rfl,rfl⟩
  ·rw [if_neg (by omega)]
   have h4:(a:Int)<(n:Int):=by omega
   clear h1 h3
   go_enter Tryz.func66,Tryz.ntmps66
   go_wp2
   go_ret
   exact ⟨rfl,rfl⟩
theorem Yt (S n:Nat)(w:World)(hc:w.cell? ⟨S,65,none⟩=some (.int .u32 (n:Int)))(hlo:16≤n)(hhi:n≤4096) :
 Calls Tryz.prog 60 #[.pointer (some ⟨S,65,none⟩)] w fun e w'=>e = .returned (.agg (aZ (dE n)).toArray)∧Below w.heap.size w w':=by
 have HC:=hid hc
 have ML:=hid (show S<w.heap.size from block_lt_of_cell hc)
 clear hc
 go_enter Tryz.func60,Tryz.ntmps60
 go_wp2_with fail
 refine Va fun W0 hW=>?_
 obtain ⟨h0,h1,hsz,hbel⟩:=hW
 have HR:=hid (show W0.heap[w.heap.size]? = some (.cells (List.replicate 64 (.int .u64 0)).toArray 106 (0,0)) from h0)
 have HX0:=hid (show SA W0 (w.heap.size+1) 106 [] (dE 2) by
  unfold SA
  rw [II,uS]
  exact h1)
 have HB:=hid hbel
 clear h0 h1 hsz hbel
 generalize hP0:w.heap.size=P0 at *
 have wY:=hid hP0
 clear hP0
 go_loopw [4] (fun v4 wr=>∃ a:Nat,2≤a∧a≤n∧v4 = .int .u32 (a:Int)∧SA wr (P0+1) 106 [] (dE a)∧wr.heap[P0]? = some (.cells (List.replicate 64 (.int .u64 0)).toArray 106 (0,0))∧Below P0 w wr) (fun v _=>n - (intOf v).toNat)
 case atStart=>exact ⟨2,by omega,by omega,rfl,HX0.out,HR.out,HB.out⟩
 case round =>
  clear HX0 HR HB
  obtain ⟨a,ha2,G7,rfl,hA,hR,hb⟩:=hrel
  have hc:=(hb.cell (p:=⟨S,65,none⟩) ML.out).trans HC.out
  by_cases hlt:a<n
  ·have aaO:=hid (IG (P0+1) 106 0 a [] (dE a) wr hA rfl (by omega))
   have HR2:=hid hR
   have HB2:=hid hb
   have bz:=hid (And.intro ha2 (And.intro hlt hhi))
   have iI:(a:Int)<(n:Int):=by omega
   have i0:(0:Int)≤(a:Int):=by omega
   have nI:(n:Int)≤4096:=by omega
   clear hA hR hb ha2 G7 hlt
   go_wp2_with fail
   refine aaO.out.mono ?_
   rintro e w2 ⟨rfl,hA2,hT⟩
   have HA2:=hid hA2
   have HT:=hid hT
   clear hA2 hT aaO hc
   go_wp2_with fail
   go_roundw
   case rel =>
    have q:=bz.out
    refine ⟨a+1,by omega,by omega,by go_num,by rw [← IJ a q.1]; exact HA2.out, ?_, ?_⟩
    ·exact (HT.out.block P0 (Array.getElem?_eq_some_iff.1 HR2.out).1 (by simp)).trans HR2.out
    ·exact HB2.out.trans (HT.out.below (by have:=HB2.out.size; have:=wY.out; omega) (by simp))
   case measure=>simp [intOf]; have:=bz.out; omega
  ·obtain rfl:n=a:=by omega
   have HA:=hid (show wr.heap[P0+1]? = some (.cells (aZ (dE n)).toArray 106 (0,0)) from hA)
   have HR2:=hid hR
   have HB2:=hid hb
   have SH:=hid (jF (dE n))
   have SE:=hid (show (List.replicate 64 (Value.int .u64 0)).toArray.size=(aZ (dE n)).toArray.size by rw [List.size_toArray,List.size_toArray,aQ,List.length_replicate])
   have ONE:=hid (show (aZ (dE n)).toArray.all (·.oneCell')=true from all_oneCell_toArray (lY _))
   clear hA hR hb hlt
   obtain ⟨R,hRR⟩:∃ R,(aZ (dE n)).toArray=R:=⟨_,rfl⟩
   rw [hRR] at HA SH SE ONE
   have HRR:=hid hRR
   clear hRR
   go_wp2_with (first
    | (with_reducible refine wpList_load_row (o:=⟨some 15,_,_,_,_,_⟩) rfl 106 _ rfl (P0+1) rfl 106 R (0,0) _ HA.out Tryz.underlying106 rfl SH.out ?_)
    | (with_reducible refine wpList_store_row (o:=⟨none,.store _ (.tmp 2) _,_,_,_,_⟩) rfl 106 _ _ rfl P0 R rfl rfl 106 (List.replicate 64 (.int .u64 0)).toArray HR2.out SH.out SE.out ONE.out ?_))
   refine bodyPost_ret (v := .agg R) (results_cell_row Tryz.results60 _ _ P0 106 R (0,0) _ rfl (setRow_heap _ P0 _ R _ _ HR2.out) Tryz.underlying106 rfl SH.out) rfl ⟨by rw [HRR.out], ?_⟩
   rw [wY.out]
   exact aF HB2.out (by omega) _
theorem PK (S n a:Nat)(F:Nat→Bool)(pre post:List Value)(w:World)(h:SG w S n F pre post) :
 Calls Tryz.prog 107 #[.pointer (some ⟨S,65,none⟩),.int .u32 (a:Int)] w fun e w'=>e = .returned (.int .i64 (ED n F a).1)∧SG w' S n (ED n F a).2 pre post∧Touch [S] w w':=by
 have hl:=Cj S n a F pre post w h
 unfold ED
 by_cases hb:a<2∨n≤a
 ·rw [if_pos hb]
  rw [IM hb] at hl
  have HL:=hid hl
  have HH:=hid h
  clear hl h hb
  go_enter Tryz.func107,Tryz.ntmps107
  go_wp2_with fail
  refine HL.out.mono ?_
  rintro e w2 ⟨rfl,rfl⟩
  clear HL
  go_wp2_with fail
  go_ret
  exact ⟨rfl,HH.out,Touch.refl _ _⟩
 ·rw [if_neg hb]
  rw [NU hb] at hl
  have hhi:=h.hi
  have Yu:=hid (Yq S 110 66 a (pre++[.int .u32 (n:Int)]) post F w h.arr h.VY (by omega))
  have HL:=hid hl
  have HH:=hid h
  cases hF:F a with
  | true =>
    rw [hF] at Yu
    rw [if_pos rfl]
    clear hl h hb hhi hF
    go_enter Tryz.func107,Tryz.ntmps107
    go_wp2_with fail
    refine HL.out.mono ?_
    rintro e w2 ⟨rfl,rfl⟩
    clear HL
    go_wp2_with fail
    refine Yu.out.mono ?_
    rintro e w3 ⟨rfl,hb3⟩
    have HB3:=hid hb3
    clear Yu hb3
    go_wp2_with fail
    go_ret
    exact ⟨rfl,HH.out.below HB3.out,Touch.of_below HB3.out⟩
  | false =>
    rw [hF] at Yu
    rw [if_neg (by simp)]
    have HD:=hid (fun (W:World) (hB:Below w.heap.size w W)=>Yr S 110 66 a (pre++[.int .u32 (n:Int)]) post F W (h.below hB).arr h.VY (by omega))
    have ji:=hid (SP.add h.own (by omega):∀ x,dJ F a true x=true→2≤x∧x<n)
    clear hl h hb hhi hF
    go_enter Tryz.func107,Tryz.ntmps107
    go_wp2_with fail
    refine HL.out.mono ?_
    rintro e w2 ⟨rfl,rfl⟩
    clear HL
    go_wp2_with fail
    refine Yu.out.mono ?_
    rintro e w3 ⟨rfl,hb3⟩
    have HB3:=hid hb3
    clear Yu hb3
    go_wp2_with fail
    refine (HD.out _ HB3.out).mono ?_
    rintro e w4 ⟨rfl,hs4,MP⟩
    have HQ:=hid (And.intro hs4 ((Touch.of_below HB3.out).trans MP))
    clear HD hs4 MP
    go_wp2_with fail
    go_ret
    exact ⟨rfl,⟨HQ.out.1,HH.out.pl,HH.out.lo,HH.out.hi,ji.out⟩,HQ.out.2⟩
theorem LD (S n:Nat)(F:Nat→Bool)(pre post:List Value)(w:World)(h:SG w S n F pre post)(hF:∀ a,F a=false) :
 Calls Tryz.prog 105 #[.pointer (some ⟨S,65,none⟩)] w fun e w'=>e = .returned (.tuple #[.int .u32 0,.int .i64 6])∧w'=w:=by
 have HR:=hid (h.arr.range (o:=66) h.VY)
 have SZ:=hid (qw F)
 have Z4:=hid (uU F)
 have HZ:=hid (fun i=>(nX F i).2 fun j _=>hF _)
 clear h hF
 generalize hW:aZ F=WS at *
 clear hW
 go_enter Tryz.func105,Tryz.ntmps105
 go_wp2_with (first
  | (with_reducible refine wpList_load_mid (op:=⟨some 12,_,_,_,_,_⟩) rfl 106 _ rfl S 66 rfl WS _ HR.out Tryz.underlying106 rfl SZ.out ?_))
 go_loopw [4,5,6,13] (fun _ _ _ v13 wr=>∃ i:Nat,i≤64∧v13 = .int .i64 (i:Int)∧wr=w) (fun _ _ _ v _=>64 - (intOf v).toNat)
 case atStart=>exact ⟨0,by omega,rfl,rfl⟩
 case round =>
  obtain ⟨i,hi,rfl,rfl⟩:=hrel
  by_cases hlt:i<64
  ·have hix:=Z4.out i hlt
   rw [HZ.out i,Kr] at hix
   have iI:(i:Int)<64:=by omega
   have i0:(0:Int)≤(i:Int):=by omega
   go_wp2_with fail
   go_roundw
   case rel=>exact ⟨i+1,by omega,by go_num,trivial⟩
   case measure=>simp [intOf]; omega
  ·obtain rfl:i=64:=by omega
   go_wp2_with fail
   go_ret2
   exact ⟨rfl,rfl⟩
theorem Um (S n a:Nat)(F:Nat→Bool)(pre post:List Value)(w:World)(h:SG w S n F pre post)(hT:TZ w)(ha:F a=true)(hlow:∀ x,x<a→F x=false) :
 Calls Tryz.prog 105 #[.pointer (some ⟨S,65,none⟩)] w fun e w'=>e = .returned (.tuple #[.int .u32 (a:Int),.int .i64 0])∧SG w' S n (dJ F a false) pre post∧Touch [S] w w':=by
 have hown:=h.own a ha
 have hhi:=h.hi
 have HH:=hid h
 have HR:=hid (h.arr.range (o:=66) h.VY)
 have SZ:=hid (qw F)
 have Z4:=hid (uU F)
 have HZ:=hid (fun i (hi:i<a / 64)=>(nX F i).2 fun j hj=>hlow _ (by omega))
 have HNZ:=hid (show bJ F (a / 64) ≠ 0#64 from fun e=>by
  have:=(nX F (a / 64)).1 e (a % 64) (by omega)
  rw [show 64 * (a / 64)+a % 64=a by omega,ha] at this
  cases this)
 have HK:=hid (show Lib.ctz 64 (bJ F (a / 64)).toNat=a % 64 by
  obtain ⟨k,hk,e,h1,h2⟩:=aaF F (a / 64) HNZ.out
  rw [e]
  by_cases q:k<a % 64
  ·rw [hlow _ (by omega)] at h1; cases h1
  ·by_cases q2:k=a % 64
   ·exact q2
   ·have:=h2 (a % 64) (by omega)
    rw [show 64 * (a / 64)+a % 64=a by omega,ha] at this
    cases this)
 have HTZ:=hid (ahA (bJ F (a / 64)) w hT)
 rw [HK.out] at HTZ
 have HDR:=hid (Ul S 110 66 a (pre++[.int .u32 (n:Int)]) post F w h.arr h.VY (by omega))
 have bz:=hid (show a<4096 by omega)
 have uF:=hid (show (xv (bJ F (a / 64)) != 0)=true by rw [agu,decide_eq_false HNZ.out]; rfl)
 clear h hown hhi hT ha hlow HK
 generalize hW:aZ F=WS at *
 clear hW
 go_enter Tryz.func105,Tryz.ntmps105
 go_wp2_with (first
  | (with_reducible refine wpList_load_mid (op:=⟨some 12,_,_,_,_,_⟩) rfl 106 _ rfl S 66 rfl WS _ HR.out Tryz.underlying106 rfl SZ.out ?_))
 go_loopw [4,5,6,13] (fun _ _ _ v13 wr=>∃ i:Nat,i≤a / 64∧v13 = .int .i64 (i:Int)∧wr=w) (fun _ _ _ v _=>64 - (intOf v).toNat)
 case atStart=>exact ⟨0,by omega,rfl,rfl⟩
 case round =>
  obtain ⟨i,hi,rfl,rfl⟩:=hrel
  have h64:=bz.out
  have hix:=Z4.out i (by omega)
  have iI:(i:Int)<64:=by omega
  have i0:(0:Int)≤(i:Int):=by omega
  by_cases hlt:i<a / 64
  ·rw [HZ.out i hlt,Kr] at hix
   go_wp2_with fail
   go_roundw
   case rel=>exact ⟨i+1,by omega,by go_num,trivial⟩
   case measure=>simp [intOf]; omega
  ·obtain rfl:i=a / 64:=by omega
   have hne:=uF.out
   obtain ⟨x,hx⟩:∃ x,xv (bJ F (a / 64))=x:=⟨_,rfl⟩
   rw [hx] at hix HTZ hne
   obtain ⟨k,hk⟩:∃ k,a % 64=k:=⟨_,rfl⟩
   rw [hk] at HTZ
   obtain ⟨q,hq⟩:∃ q,a / 64=q:=⟨_,rfl⟩
   rw [hq] at hix iI i0 ⊢
   have e1:IntKind.u32.wrap ((q:Int) * 64+(k:Int))=(a:Int):=by rw [IntWalk.u32_in _ (by omega)]; omega
   have kI:(k:Int)<64:=by omega
   have k0:(0:Int)≤(k:Int):=by omega
   clear hi hlt hx hk hq h64 uF HNZ HZ Z4
   go_wp2_with fail
   refine HTZ.out.mono ?_
   rintro e w2 ⟨rfl,rfl⟩
   clear HTZ
   go_wp2_with fail
   refine HDR.out.mono ?_
   rintro e w3 ⟨rfl,hs3,ht3⟩
   have HQ:=hid (And.intro hs3 ht3)
   clear HDR hs3 ht3
   go_wp2_with fail
   go_ret2
   exact ⟨rfl,⟨HQ.out.1,HH.out.pl,HH.out.lo,HH.out.hi,SP.drop HH.out.own⟩,HQ.out.2⟩
theorem PN (S n:Nat)(F:Nat→Bool)(pre post:List Value)(w:World)(h:SG w S n F pre post) :
 Calls Tryz.prog 47 #[.pointer (some ⟨S,65,none⟩)] w fun e w'=>e = .returned (.int .i64 (cnt F n:Nat))∧w'=w:=by
 have HE:=hid (aaQ F n h.own 4096 h.hi)
 have HR:=hid (h.arr.range (o:=66) h.VY)
 have SZ:=hid (qw F)
 have Z4:=hid (uU F)
 have HC:=hid (fun k=>cnt_le F k)
 have HW:=hid (aaM F)
 clear h
 generalize hW:aZ F=WS at *
 clear hW
 rw [← HE.out]
 go_enter Tryz.func47,Tryz.ntmps47
 go_wp2_with (first
  | (with_reducible refine wpList_load_mid (op:=⟨some 11,_,_,_,_,_⟩) rfl 106 _ rfl S 66 rfl WS _ HR.out Tryz.underlying106 rfl SZ.out ?_))
 go_loopw [3,5,12] (fun v3 _ v12 wr=>∃ i:Nat,i≤64∧v12 = .int .i64 (i:Int)∧v3 = .int .i64 (cnt F (64 * i):Nat)∧wr=w) (fun _ _ v _=>64 - (intOf v).toNat)
 case atStart=>exact ⟨0,by omega,rfl,rfl,rfl⟩
 case round =>
  obtain ⟨i,hi,rfl,rfl,rfl⟩:=hrel
  by_cases hlt:i<64
  ·have hix:=Z4.out i hlt
   have HON:=hid (aaN (bJ F i) wr)
   have hw:=HW.out i
   have l1:=HC.out (64 * i)
   have l2:=HC.out (64 * (i+1))
   generalize hq:cnt F (64 * (i+1))=q at *
   generalize cnt F (64 * i)=p at *
   generalize cnt (fun j=>(bJ F i).getLsbD j) 64=c at *
   generalize bJ F i=x at *
   have iI:(i:Int)<64:=by omega
   have i0:(0:Int)≤(i:Int):=by omega
   have pI:(p:Int)≤4096:=by omega
   have cI:(c:Int)≤4096:=by omega
   have HQ:=hid hq
   have HWW:=hid hw
   clear hq hw l1 l2 hi
   go_wp2_with fail
   refine HON.out.mono ?_
   rintro e w2 ⟨rfl,rfl⟩
   clear HON
   go_wp2_with fail
   go_roundw
   case rel=>exact ⟨i+1,by omega,by go_num,by rw [HQ.out,HWW.out]; simp,trivial⟩
   case measure=>simp [intOf]; omega
  ·obtain rfl:i=64:=by omega
   go_wp2_with fail
   go_ret
   exact ⟨rfl,rfl⟩
theorem Un (S n len cap:Nat)(a:bO)(F:Nat→Bool)(pre post:List Value)(l:List Nat)(w:World)(h:SG w S n F pre post)(hl:US w a len cap l)(hlen:len≤100000000)(ok:Bool)(hok:ok=true↔allIn n l) :
 Calls Tryz.prog 46 #[.pointer (some ⟨S,65,none⟩),.slice a len cap] w fun e w'=>e = .returned (.int .i64 (Kw n F l ok).1)∧SG w' S n (Kw n F l ok).2 pre post∧Touch [S] w w':=by
 have aaP:=hid (Yt S n w h.size h.lo h.hi)
 have HH:=hid h
 have HU:=hid hl
 have hhi:=h.hi
 have lI:(len:Int)≤100000000:=by omega
 obtain ⟨M,HM,HMI⟩:∃ M,M≤len∧(∀ i,i<M→2≤l.getD i 0∧l.getD i 0<n)∧(ok=true→M=len)∧(ok=false→M<len∧¬ (2≤l.getD M 0∧l.getD M 0<n)):=by
  have hll:=hl.len
  rcases Xy n l with h1 | ⟨m,h1,h2,h3⟩
  ·exact ⟨len,Nat.le_refl _,fun i hi=>N7 h1 i (by omega),fun _=>rfl,fun e=>by rw [hok.2 h1] at e; cases e⟩
  ·refine ⟨m,by omega,h3,fun e=>?_,fun _=>⟨by omega,h2⟩⟩
   exact absurd (N7 (hok.1 e) m h1) h2
 have HMI:=hid HMI
 have HM:=hid HM
 clear hl h hlen
 have hz:=Kv
 go_enter Tryz.func46,Tryz.ntmps46
 go_wp2_with fail
 refine aaP.out.mono ?_
 rintro e w2 ⟨rfl,hb2⟩
 have HB2:=hid hb2
 clear aaP hb2
 obtain ⟨RR,hRR⟩:∃ R,(aZ (dE n)).toArray=R:=⟨_,rfl⟩
 have SZ:=hid (jF (dE n))
 have SE:=hid (show (List.replicate 64 (Value.int .u64 0)).toArray.size=(aZ (dE n)).toArray.size by rw [List.size_toArray,List.size_toArray,aQ,List.length_replicate])
 have ONE:=hid (show (aZ (dE n)).toArray.all (·.oneCell')=true from all_oneCell_toArray (lY _))
 rw [hRR] at SZ SE ONE ⊢
 go_wp2_with (first
  | (with_reducible refine wpList_store_row (o:=⟨none,.store _ (.tmp 5) _,_,_,_,_⟩) rfl 106 _ _ rfl w2.heap.size RR rfl rfl 106 (List.replicate 64 (.int .u64 0)).toArray (heap_alloc_new w2 _) SZ.out SE.out ONE.out ?_))
 obtain ⟨e1,_,e3⟩:=qU (w:=w2) (old:=#[Value.int .u64 0,Value.int .u64 0,Value.int .u64 0,Value.int .u64 0,Value.int .u64 0,Value.int .u64 0,Value.int .u64 0,Value.int .u64 0,Value.int .u64 0,Value.int .u64 0,Value.int .u64 0,Value.int .u64 0,Value.int .u64 0,Value.int .u64 0,Value.int .u64 0,Value.int .u64 0,Value.int .u64 0,Value.int .u64 0,Value.int .u64 0,Value.int .u64 0,Value.int .u64 0,Value.int .u64 0,Value.int .u64 0,Value.int .u64 0,Value.int .u64 0,Value.int .u64 0,Value.int .u64 0,Value.int .u64 0,Value.int .u64 0,Value.int .u64 0,Value.int .u64 0,Value.int .u64 0,Value.int .u64 0,Value.int .u64 0,Value.int .u64 0,Value.int .u64 0,Value.int .u64 0,Value.int .u64 0,Value.int .u64 0,Value.int .u64 0,Value.int .u64 0,Value.int .u64 0,Value.int .u64 0,Value.int .u64 0,Value.int .u64 0,Value.int .u64 0,Value.int .u64 0,Value.int .u64 0,Value.int .u64 0,Value.int .u64 0,Value.int .u64 0,Value.int .u64 0,Value.int .u64 0,Value.int .u64 0,Value.int .u64 0,Value.int .u64 0,Value.int .u64 0,Value.int .u64 0,Value.int .u64 0,Value.int .u64 0,Value.int .u64 0,Value.int .u64 0,Value.int .u64 0,Value.int .u64 0]) (cs:=RR) (T:=106)
 generalize World.setRow _ w2.heap.size _=w3 at *
 have HX0:=hid (show SA w3 w2.heap.size 106 [] (pM n []) by
  unfold SA
  rw [NZ,List.nil_append,hRR]; exact e1)
 have HB3:=hid (HB2.out.trans (e3.mono HB2.out.size))
 have xh:=hid (show w.heap.size≤w2.heap.size from HB2.out.size)
 clear e1 e3 hRR SZ SE ONE hz HB2
 generalize hP:w2.heap.size=P at *
 clear hP
 go_wp2_with fail
 go_loopw [7,8,15] (fun _ _ v15 wr=>∃ i:Nat,i≤M∧v15 = .int .i64 (i:Int)∧SA wr P 106 [] (pM n (l.take i))∧Below w.heap.size w wr) (fun _ _ v _=>len - (intOf v).toNat)
 case atStart=>exact ⟨0,by omega,rfl,by rw [List.take_zero]; exact HX0.out,HB3.out⟩
 case round =>
  clear HX0 HB3
  obtain ⟨i,hi,rfl,hA,hb⟩:=hrel
  have hM:=HM.out
  by_cases hlt:i<len
  ·obtain ⟨b,off,rfl,hx⟩:=(HU.out.below hb).at hlt
   have hix:=Xx b off len cap i hlt
   have hxs:=HU.out.small (l.getD i 0) (by
    have e:l.getD i 0=l[i]'(by rw [HU.out.len]; exact hlt):=by simp [List.getD,show i<l.length by rw [HU.out.len]; exact hlt]
    rw [e]; exact List.getElem_mem _)
   have hS:=HH.out.below hb
   have HLK:=hid (Cj S n (l.getD i 0) F pre post wr hS)
   have HAA:=hid hA
   have HB:=hid hb
   have bz:=hid hlt
   have iI:(i:Int)<(len:Int):=by omega
   have i0:(0:Int)≤(i:Int):=by omega
   by_cases hiM:i<M
   ·have hin:=HMI.out.1 i hiM
    have uF:=hid (Xw n l i (by rw [HU.out.len]; exact hlt))
    have HDR:=hid (Sl P 106 0 (l.getD i 0) [] (pM n (l.take i)) wr hA rfl (by omega))
    rw [NU (by omega)] at HLK
    rw [← uF.out] at HDR
    have HIM:=hid hiM
    clear hA hb hlt hi hiM hM hin hS
    generalize l.getD i 0=x at *
    go_wp2_with fail
    refine HLK.out.mono ?_
    rintro e w5 ⟨rfl,rfl⟩
    clear HLK
    go_wp2_with fail
    refine HDR.out.mono ?_
    rintro e w6 ⟨rfl,hA6,QQ⟩
    have HA6:=hid hA6
    have KP:=hid QQ
    clear HDR hA6 QQ hx hix
    go_wp2_with fail
    go_roundw
    case rel=>exact ⟨i+1,by have:=HIM.out; omega,by go_num,HA6.out,HB.out.trans (KP.out.below HB.out.size (by simp; exact xh.out))⟩
    case measure=>simp [intOf]; omega
   ·obtain rfl:i=M:=by omega
    cases ok with
    | true=>have:=HMI.out.2.1 rfl; omega
    | false =>
      have hout:=(HMI.out.2.2 rfl).2
      rw [IM (by omega)] at HLK
      clear hA hb hlt hi hiM hM hout hS
      generalize l.getD i 0=x at *
      go_wp2_with fail
      refine HLK.out.mono ?_
      rintro e w5 ⟨rfl,rfl⟩
      clear HLK hx hix
      go_wp2_with fail
      go_ret
      exact ⟨rfl,HH.out.below HB.out,Touch.of_below HB.out⟩
  ·have hil:i=len:=by omega
   cases ok with
   | false=>have:=(HMI.out.2.2 rfl).1; omega
   | true =>
     have hall:=hok.1 rfl
     have HAA:=hid (show wr.heap[P]? = some (.cells (aZ (pM n l)).toArray 106 (0,0)) by
      have e:l.take i=l:=List.take_of_length_le (by rw [HU.out.len]; omega)
      rw [e] at hA; exact hA)
     have hS:=HH.out.below hb
     have hs2:wr.heap[S]? = some (.cells ((pre++[Value.int .u32 (n:Int)])++(aZ F++post)).toArray 110 (0,0)):=hS.arr
     obtain ⟨q1,q2⟩:=tV (aZ (pM n l)) (aZ F) (pre++[Value.int .u32 (n:Int)]) post wr 66 hS.VY (by rw [aQ,aQ]) hs2
     have TH:=hid (show wr.there S 66 (aZ (pM n l)).toArray.size from fun j hj=>by
      rw [List.size_toArray,aQ] at hj
      refine ⟨?_,frozen_of_row wr S _ _ _ hs2⟩
      rw [hS.arr.cell (o:=66) hS.VY j hj]
      rfl)
     have SZ:=hid (jF (pM n l))
     have ONE:=hid (show (aZ (pM n l)).toArray.all (·.oneCell')=true from all_oneCell_toArray (lY _))
     have ji:=hid (show SG (wr.setCells S 66 (aZ (pM n l)).toArray.toList) S n (pM n l) pre post∧Touch [S] w (wr.setCells S 66 (aZ (pM n l)).toArray.toList) from by
      refine ⟨⟨q1,HH.out.pl,HH.out.lo,HH.out.hi,fun a ha=>by unfold pM dE at ha; simp at ha; exact ha.1⟩, ?_⟩
      exact (Touch.of_below hb).trans (Touch.dQ q2 (by simp)))
     clear q1 q2 hs2 hS hA hi hM
     obtain ⟨R,hR⟩:∃ R,(aZ (pM n l)).toArray=R:=⟨_,rfl⟩
     rw [hR] at TH SZ ONE ji HAA
     have iI:(len:Int)≤(i:Int):=by omega
     clear hR hlt hil
     go_wp2_with (first
      | (with_reducible refine wpList_load_row (o:=⟨some 29,_,_,_,_,_⟩) rfl 106 _ rfl P rfl 106 R (0,0) _ HAA.out Tryz.underlying106 rfl SZ.out ?_)
      | (with_reducible refine wpList_store_mid (op:=⟨none,.store _ (.tmp 31) _,_,_,_,_⟩) rfl 106 _ _ rfl S 66 R rfl rfl TH.out SZ.out ONE.out ?_))
     go_ret
     exact ⟨rfl,ji.out.1,ji.out.2⟩
end Go.Proofs.YtljjcbmkbmloaaaGreatDoor
