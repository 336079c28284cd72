import Derived.Test.YtljjcbmkbmloaaaGreatDoorGTu9
namespace Go.Proofs.YtljjcbmkbmloaaaGreatDoor
set_option maxHeartbeats 1600000
set_option maxRecDepth 100000
set_option linter.unusedVariables false
open Lib (hid)
open Go.RowKit
def SB (w:World)(b t:Nat)(pre:List Value)(F:Nat→Bool)(post:List Value):Prop:=w.heap[b]? = some (.cells (pre++(bQ F++post)).toArray t (0,0))
theorem SB.lt {w:World}{b t:Nat}{pre post:List Value}{F:Nat→Bool}(h:SB w b t pre F post):b<w.heap.size:=(Array.getElem?_eq_some_iff.1 h).1
theorem SB.cell {w:World}{b t o:Nat}{pre post:List Value}{F:Nat→Bool}(h:SB w b t pre F post)(ho:pre.length=o)(i:Nat)(hi:i<64):w.cell? ⟨b,o+i,none⟩=some (.int .u64 (xv (bU F i))):=by
 subst ho;rw [cell_of_row w b _ _ _ _ h,List.getElem?_toArray,List.getElem?_append_right (by omega),Nat.add_sub_cancel_left,List.getElem?_append_left (by rw [aZ]; exact hi),mD _ _ hi]
theorem SB.free {w:World}{b t:Nat}{pre post:List Value}{F:Nat→Bool}(h:SB w b t pre F post)(k:Nat):w.frozen? ⟨b,k,none⟩=false:=frozen_of_row w b k _ _ h
theorem SB.set {w:World}{b t o:Nat}{pre post:List Value}{F:Nat→Bool}(h:SB w b t pre F post)(ho:pre.length=o)(a:Nat)(v:Bool)(ha:a<4096):SB (w.setCell ⟨b,o+a / 64,none⟩ (.int .u64 (xv (bU (eG F a v) (a / 64))))) b t pre (eG F a v) post:=by
 subst ho;unfold SB;rw [heap_setCell_same w b _ _ _ _ h];congr 2;rw [List.setIfInBounds_toArray,List.set_append_right _ _ (by omega),Nat.add_sub_cancel_left,List.set_append_left _ _ (by rw [aZ]; omega),EY _ _ _ ha]
theorem SB.range {w:World}{b t o:Nat}{pre post:List Value}{F:Nat→Bool}(h:SB w b t pre F post)(ho:pre.length=o):w.rangeAt b o (bQ F):=by
 subst ho;intro j v hv;have hj:j<(bQ F).length:=(List.getElem?_eq_some_iff.1 hv).1;rw [cell_of_row w b _ _ _ _ h,List.getElem?_toArray,List.getElem?_append_right (by omega),Nat.add_sub_cancel_left,List.getElem?_append_left hj]; exact hv
theorem SB.touch {w w':World}{b t:Nat}{pre post:List Value}{F:Nat→Bool}{l:List Nat}(h:SB w b t pre F post)(q:Touch l w w')(hb:b ∉ l):SB w' b t pre F post:=(q.block b h.lt hb).trans h
theorem SB.below {w w':World}{b t:Nat}{pre post:List Value}{F:Nat→Bool}(h:SB w b t pre F post)(q:Below w.heap.size w w'):SB w' b t pre F post:=(q.block b h.lt).trans h
theorem zV {b t:Nat}:∀ (new old pre post:List Value) (w:World) (o:Nat),pre.length=o→old.length=new.length→w.heap[b]? = some (.cells (pre++(old++post)).toArray t (0,0)) →
 (w.setCells b o new).heap[b]? = some (.cells (pre++(new++post)).toArray t (0,0))∧Only b w (w.setCells b o new)
 | [],old,pre,post,w,o,_,hl,h=>by
   obtain rfl:old=[]:=List.eq_nil_of_length_eq_zero hl;exact ⟨h,Only.refl b w⟩
 | v::vs,u::us,pre,post,w,o,ho,hl,h=>by
   subst ho;have h1:(w.setCell ⟨b,pre.length,none⟩ v).heap[b]? = some (.cells ((pre++[v])++(us++post)).toArray t (0,0)):=by
    rw [heap_setCell_same w b _ _ _ _ h];congr 2;rw [List.setIfInBounds_toArray,List.set_append_right _ _ (by omega),Nat.sub_self,List.cons_append,List.set_cons_zero,List.append_assoc]; rfl
   obtain ⟨h2,h3⟩:=zV vs us (pre++[v]) post _ (pre.length+1) (by simp) (by simpa using hl) h1;refine ⟨?_, ?_⟩
   ·rw [List.append_assoc] at h2; exact h2
   have q:=(Only.refl b w).setCell pre.length v;exact ⟨h3.size.trans q.size,fun k hk=>(h3.rest k hk).trans (q.rest k hk),fun B hB=>(q.bel B hB).trans (h3.bel B hB)⟩
theorem YR (b t o a:Nat)(pre post:List Value)(F:Nat→Bool)(w:World)(h:SB w b t pre F post)(ho:pre.length=o)(ha:a<4096) :
 Calls Tryz.prog 135 #[.pointer (some ⟨b,o,none⟩),.int .u32 (a:Int)] w fun e w'=>e = .returned (.bool (F a))∧Below w.heap.size w w':=by
 have hc:=h.cell ho (a / 64) (by omega)
 have hbit:=fun W=>DV a W (by omega)
 have hne:(bits .and .u64 (xv (bU F (a / 64))) (xv (pq (a % 64))) != 0)=F a:=by
  rw [aia,agW,XR]; simp
 have hidx:((a:Int) / 64).toNat=a / 64:=by omega
 have hlt:(a:Int) / 64<64:=by omega
 have hge:(0:Int)≤(a:Int) / 64:=by omega
 generalize xv (bU F (a / 64))=x at *
 rw [← hidx] at hc
 generalize xv (pq (a % 64))=y at *
 generalize F a=r at *
 have HB:=hid hbit
 clear h hidx hbit ha
 go_in
 go_wp2_with fail
 go_quiet ((go_at_call 89; exact Calls.quiet_of_same (HB.out _)))
 go_wp2_with fail
 go_ret
 exact ⟨rfl,jL (Below.refl _ _) _⟩
theorem YS (b t o a:Nat)(pre post:List Value)(F:Nat→Bool)(w:World)(h:SB w b t pre F post)(ho:pre.length=o)(ha:a<4096) :
 Calls Tryz.prog 80 #[.pointer (some ⟨b,o,none⟩),.int .u32 (a:Int)] w fun e w'=>e = .returned (.tuple #[])∧SB w' b t pre (eG F a true) post∧Touch [b] w w':=by
 have hc:=h.cell ho (a / 64) (by omega)
 have hf:=h.free (o+a / 64)
 have hbit:=fun W=>DV a W (by omega)
 have hop:bits .or .u64 (xv (bU F (a / 64))) (xv (pq (a % 64)))=xv (bU (eG F a true) (a / 64)):=by
  rw [agX,Jh]
 have hidx:((a:Int) / 64).toNat=a / 64:=by omega
 have hlt:(a:Int) / 64<64:=by omega
 have hge:(0:Int)≤(a:Int) / 64:=by omega
 have HST:=hid (show SB (w.setCell ⟨b,o+a / 64,none⟩ (.int .u64 (xv (bU (eG F a true) (a / 64))))) b t pre (eG F a true) post∧Touch [b] w (w.setCell ⟨b,o+a / 64,none⟩ (.int .u64 (xv (bU (eG F a true) (a / 64))))) from
  ⟨h.set ho a true ha,Touch.dC ((Only.refl b w).setCell _ _) (by simp)⟩)
 generalize xv (bU (eG F a true) (a / 64))=z at *
 generalize xv (bU F (a / 64))=x at *
 generalize xv (pq (a % 64))=y at *
 rw [← hidx] at hc hf HST
 have HB:=hid hbit
 clear h hidx hbit ha
 go_in
 go_wp2_with fail
 refine wp_region_still_tail 11 (by kernel_rfl) (by kernel_rfl) ?_
 simp only [List.take_succ_cons,List.take_zero,List.drop_succ_cons,List.drop_zero]
 iterate 7 still_step
 still_call (HB.out _)
 iterate 3 still_step
 refine wpStill_nil ?_
 change wpList _ _ _ _ _ w.drew
 go_wp2_with fail
 go_end0
 exact ⟨rfl,HST.out.1,HST.out.2.trans (Touch.of_below (Below.refl _ _).drew)⟩
theorem UF (b t o a:Nat)(pre post:List Value)(F:Nat→Bool)(w:World)(h:SB w b t pre F post)(ho:pre.length=o)(ha:a<4096) :
 Calls Tryz.prog 67 #[.pointer (some ⟨b,o,none⟩),.int .u32 (a:Int)] w fun e w'=>e = .returned (.tuple #[])∧SB w' b t pre (eG F a false) post∧Touch [b] w w':=by
 have hc:=h.cell ho (a / 64) (by omega)
 have hf:=h.free (o+a / 64)
 have hbit:=fun W=>DV a W (by omega)
 have hop:bits .andNot .u64 (xv (bU F (a / 64))) (xv (pq (a % 64)))=xv (bU (eG F a false) (a / 64)):=by
  rw [XP,Tq]
 have hidx:((a:Int) / 64).toNat=a / 64:=by omega
 have hlt:(a:Int) / 64<64:=by omega
 have hge:(0:Int)≤(a:Int) / 64:=by omega
 have HST:=hid (show SB (w.setCell ⟨b,o+a / 64,none⟩ (.int .u64 (xv (bU (eG F a false) (a / 64))))) b t pre (eG F a false) post∧Touch [b] w (w.setCell ⟨b,o+a / 64,none⟩ (.int .u64 (xv (bU (eG F a false) (a / 64))))) from
  ⟨h.set ho a false ha,Touch.dC ((Only.refl b w).setCell _ _) (by simp)⟩)
 generalize xv (bU (eG F a false) (a / 64))=z at *
 generalize xv (bU F (a / 64))=x at *
 generalize xv (pq (a % 64))=y at *
 rw [← hidx] at hc hf HST
 have HB:=hid hbit
 clear h hidx hbit ha
 go_in
 go_wp2_with fail
 refine wp_region_still_tail 11 (by kernel_rfl) (by kernel_rfl) ?_
 simp only [List.take_succ_cons,List.take_zero,List.drop_succ_cons,List.drop_zero]
 iterate 7 still_step
 still_call (HB.out _)
 iterate 3 still_step
 refine wpStill_nil ?_
 change wpList _ _ _ _ _ w.drew
 go_wp2_with fail
 go_end0
 exact ⟨rfl,HST.out.1,HST.out.2.trans (Touch.of_below (Below.refl _ _).drew)⟩
structure SG (w:World)(S n:Nat)(F:Nat→Bool)(pre post:List Value):Prop where
 arr:SB w S 110 (pre++[.int .u32 (n:Int)]) F post
 pl:pre.length=65
 lo:16≤n
 hi:n≤4096
 own:∀ a,F a=true→2≤a∧a<n
theorem SG.ZZ {w:World}{S n:Nat}{F:Nat→Bool}{pre post:List Value}(h:SG w S n F pre post):(pre++[Value.int .u32 (n:Int)]).length=66:=by rw [List.length_append,h.pl]; rfl
theorem SG.size {w:World}{S n:Nat}{F:Nat→Bool}{pre post:List Value}(h:SG w S n F pre post):w.cell? ⟨S,65,none⟩=some (.int .u32 (n:Int)):=by
 rw [cell_of_row w S _ _ _ _ h.arr,List.getElem?_toArray,List.getElem?_append_left (by rw [h.ZZ]; decide),List.getElem?_append_right (by rw [h.pl]; exact Nat.le_refl _),h.pl]; rfl
theorem SG.touch {w w':World}{S n:Nat}{F:Nat→Bool}{pre post:List Value}{l:List Nat}(h:SG w S n F pre post)(q:Touch l w w')(hb:S ∉ l):SG w' S n F pre post:=⟨h.arr.touch q hb,h.pl,h.lo,h.hi,h.own⟩
theorem SG.below {w w':World}{S n:Nat}{F:Nat→Bool}{pre post:List Value}(h:SG w S n F pre post)(q:Below w.heap.size w w'):SG w' S n F pre post:=⟨h.arr.below q,h.pl,h.lo,h.hi,h.own⟩
theorem Qe (S n a:Nat)(F:Nat→Bool)(pre post:List Value)(w:World)(h:SG w S n F pre post):Calls Tryz.prog 66 #[.pointer (some ⟨S,65,none⟩),.int .u32 (a:Int)] w fun e w'=>e = .returned (.int .i64 (Ji n a))∧w'=w:=by
 have hc:=h.size;clear h;unfold Ji;by_cases h1:a<2
 ·rw [if_pos (.inl h1)]
  have h2:(a:Int)<2:=by omega
  go_in;go_wp2
  go_ret;exact ⟨rfl,rfl⟩
 have h2:(2:Int)≤(a:Int):=by omega
 by_cases h3:n≤a
 ·rw [if_pos (.inr h3)]
  have h4:(n:Int)≤(a:Int):=by omega
  clear h1 h3;go_in;go_wp2
  go_ret;exact ⟨rfl,rfl⟩
 rw [if_neg (by omega)];have h4:(a:Int)<(n:Int):=by omega
 clear h1 h3;go_in;go_wp2
 go_ret;exact ⟨rfl,rfl⟩
theorem Qg (S n a:Nat)(F:Nat→Bool)(pre post:List Value)(w:World)(h:SG w S n F pre post) :
 Calls Tryz.prog 107 #[.pointer (some ⟨S,65,none⟩),.int .u32 (a:Int)] w fun e w'=>e = .returned (.int .i64 (E8 n F a).1)∧SG w' S n (E8 n F a).2 pre post∧Touch [S] w w':=by
 have hl:=Qe S n a F pre post w h
 unfold E8
 by_cases hb:a<2∨n≤a
 ·rw [if_pos hb]
  rw [XX hb] at hl;have HL:=hid hl;have HH:=hid h;clear hl h hb;go_in;go_wp2_with fail;refine HL.out.mono ?_;rintro e w2 ⟨rfl,rfl⟩;clear HL;go_wp2_with fail;go_ret;exact ⟨rfl,HH.out,Touch.refl _ _⟩
 ·rw [if_neg hb]
  rw [aa7 hb] at hl;have hhi:=h.hi;have YT:=hid (YR S 110 66 a (pre++[.int .u32 (n:Int)]) post F w h.arr h.ZZ (by omega));have HL:=hid hl;have HH:=hid h;cases hF:F a with
  | true =>
    rw [hF] at YT;rw [if_pos rfl];clear hl h hb hhi hF;go_in;go_wp2_with fail;refine HL.out.mono ?_;rintro e w2 ⟨rfl,rfl⟩;clear HL;go_wp2_with fail;refine YT.out.mono ?_;rintro e w3 ⟨rfl,hb3⟩;have HB3:=hid hb3;clear YT hb3;go_wp2_with fail;go_ret;exact ⟨rfl,HH.out.below HB3.out,Touch.of_below HB3.out⟩
  | false =>
    rw [hF] at YT;rw [if_neg (by simp)];have HD:=hid (fun (W:World) (hB:Below w.heap.size w W)=>YS S 110 66 a (pre++[.int .u32 (n:Int)]) post F W (h.below hB).arr h.ZZ (by omega));have jM:=hid (SP.add h.own (by omega):∀ x,eG F a true x=true→2≤x∧x<n);clear hl h hb hhi hF;go_in;go_wp2_with fail;refine HL.out.mono ?_;rintro e w2 ⟨rfl,rfl⟩;clear HL;go_wp2_with fail;refine YT.out.mono ?_;rintro e w3 ⟨rfl,hb3⟩;have HB3:=hid hb3;clear YT hb3;go_wp2_with fail;refine (HD.out _ HB3.out).mono ?_;rintro e w4 ⟨rfl,hs4,UG⟩;have HQ:=hid (And.intro hs4 ((Touch.of_below HB3.out).trans UG));clear HD hs4 UG;go_wp2_with fail;go_ret;exact ⟨rfl,⟨HQ.out.1,HH.out.pl,HH.out.lo,HH.out.hi,jM.out⟩,HQ.out.2⟩
theorem MQ (S n:Nat)(F:Nat→Bool)(pre post:List Value)(w:World)(h:SG w S n F pre post)(hF:∀ a,F a=false) :
 Calls Tryz.prog 105 #[.pointer (some ⟨S,65,none⟩)] w fun e w'=>e = .returned (.tuple #[.int .u32 0,.int .i64 6])∧w'=w:=by
 have HR:=hid (h.arr.range (o:=66) h.ZZ)
 have SZ:=hid (qL F)
 have HIX:=hid (vg F)
 have HZ:=hid (fun i=>(oI F i).2 fun j _=>hF _)
 clear h hF
 generalize hW:bQ F=WS at *
 clear hW
 go_in
 go_wp2_with (first
  | (with_reducible refine wpList_load_mid (op:=⟨some 12,_,_,_,_,_⟩) rfl 106 _ rfl S 66 rfl WS _ HR.out Tryz.underlying106 rfl SZ.out ?_))
 go_loopw [4,5,6,13] (fun _ _ _ v13 wr=>∃ i:Nat,i≤64∧v13 = .int .i64 (i:Int)∧wr=w) (fun _ _ _ v _=>64 - (intOf v).toNat)
 case atStart=>exact ⟨0,by omega,rfl,rfl⟩
 case round =>
  obtain ⟨i,hi,rfl,rfl⟩:=hrel;by_cases hlt:i<64
  ·have hix:=HIX.out i hlt
   rw [HZ.out i,Lc] at hix;have iI:(i:Int)<64:=by omega
   have i0:(0:Int)≤(i:Int):=by omega
   go_wp2_with fail;go_roundw
   case rel=>exact ⟨i+1,by omega,by go_num,trivial⟩
   case measure=>simp [intOf]; omega
  obtain rfl:i=64:=by omega
  go_wp2_with fail;go_ret2;exact ⟨rfl,rfl⟩
theorem UH (S n a:Nat)(F:Nat→Bool)(pre post:List Value)(w:World)(h:SG w S n F pre post)(hT:TZ w)(ha:F a=true)(hlow:∀ x,x<a→F x=false) :
 Calls Tryz.prog 105 #[.pointer (some ⟨S,65,none⟩)] w fun e w'=>e = .returned (.tuple #[.int .u32 (a:Int),.int .i64 0])∧SG w' S n (eG F a false) pre post∧Touch [S] w w':=by
 have hown:=h.own a ha
 have hhi:=h.hi
 have HH:=hid h
 have HR:=hid (h.arr.range (o:=66) h.ZZ)
 have SZ:=hid (qL F)
 have HIX:=hid (vg F)
 have HZ:=hid (fun i (hi:i<a / 64)=>(oI F i).2 fun j hj=>hlow _ (by omega))
 have HNZ:=hid (show bU F (a / 64) ≠ 0#64 from fun e=>by
  have:=(oI F (a / 64)).1 e (a % 64) (by omega);rw [show 64 * (a / 64)+a % 64=a by omega,ha] at this;cases this)
 have HK:=hid (show Lib.ctz 64 (bU F (a / 64)).toNat=a % 64 by
  obtain ⟨k,hk,e,h1,h2⟩:=aaY F (a / 64) HNZ.out;rw [e];by_cases q:k<a % 64
  ·rw [hlow _ (by omega)] at h1; cases h1
  by_cases q2:k=a % 64
  ·exact q2
  have:=h2 (a % 64) (by omega);rw [show 64 * (a / 64)+a % 64=a by omega,ha] at this;cases this)
 have HTZ:=hid (aie (bU F (a / 64)) w hT)
 rw [HK.out] at HTZ
 have HDR:=hid (UF S 110 66 a (pre++[.int .u32 (n:Int)]) post F w h.arr h.ZZ (by omega))
 have bn:=hid (show a<4096 by omega)
 have xB:=hid (show (xv (bU F (a / 64)) != 0)=true by rw [agW,decide_eq_false HNZ.out]; rfl)
 clear h hown hhi hT ha hlow HK
 generalize hW:bQ F=WS at *
 clear hW
 go_in
 go_wp2_with (first
  | (with_reducible refine wpList_load_mid (op:=⟨some 12,_,_,_,_,_⟩) rfl 106 _ rfl S 66 rfl WS _ HR.out Tryz.underlying106 rfl SZ.out ?_))
 go_loopw [4,5,6,13] (fun _ _ _ v13 wr=>∃ i:Nat,i≤a / 64∧v13 = .int .i64 (i:Int)∧wr=w) (fun _ _ _ v _=>64 - (intOf v).toNat)
 case atStart=>exact ⟨0,by omega,rfl,rfl⟩
 case round =>
  obtain ⟨i,hi,rfl,rfl⟩:=hrel;have h64:=bn.out;have hix:=HIX.out i (by omega);have iI:(i:Int)<64:=by omega
  have i0:(0:Int)≤(i:Int):=by omega
  by_cases hlt:i<a / 64
  ·rw [HZ.out i hlt,Lc] at hix
   go_wp2_with fail;go_roundw
   case rel=>exact ⟨i+1,by omega,by go_num,trivial⟩
   case measure=>simp [intOf]; omega
  obtain rfl:i=a / 64:=by omega
  have hne:=xB.out;obtain ⟨x,hx⟩:∃ x,xv (bU F (a / 64))=x:=⟨_,rfl⟩
  rw [hx] at hix HTZ hne;obtain ⟨k,hk⟩:∃ k,a % 64=k:=⟨_,rfl⟩
  rw [hk] at HTZ;obtain ⟨q,hq⟩:∃ q,a / 64=q:=⟨_,rfl⟩
  rw [hq] at hix iI i0 ⊢;have e1:IntKind.u32.wrap ((q:Int) * 64+(k:Int))=(a:Int):=by rw [IntWalk.u32_in _ (by omega)]; omega
  have kI:(k:Int)<64:=by omega
  have k0:(0:Int)≤(k:Int):=by omega
  clear hi hlt hx hk hq h64 xB HNZ HZ HIX;go_wp2_with fail;refine HTZ.out.mono ?_;rintro e w2 ⟨rfl,rfl⟩;clear HTZ;go_wp2_with fail;refine HDR.out.mono ?_;rintro e w3 ⟨rfl,hs3,ht3⟩;have HQ:=hid (And.intro hs3 ht3);clear HDR hs3 ht3;go_wp2_with fail;go_ret2;exact ⟨rfl,⟨HQ.out.1,HH.out.pl,HH.out.lo,HH.out.hi,SP.drop HH.out.own⟩,HQ.out.2⟩
theorem Qh (S n:Nat)(F:Nat→Bool)(pre post:List Value)(w:World)(h:SG w S n F pre post) :
 Calls Tryz.prog 47 #[.pointer (some ⟨S,65,none⟩)] w fun e w'=>e = .returned (.int .i64 (cnt F n:Nat))∧w'=w:=by
 have HE:=hid (aa8 F n h.own 4096 h.hi)
 have HR:=hid (h.arr.range (o:=66) h.ZZ)
 have SZ:=hid (qL F)
 have HIX:=hid (vg F)
 have HC:=hid (fun k=>cnt_le F k)
 have HW:=hid (aa5 F)
 clear h
 generalize hW:bQ F=WS at *
 clear hW
 rw [← HE.out]
 go_in
 go_wp2_with (first
  | (with_reducible refine wpList_load_mid (op:=⟨some 11,_,_,_,_,_⟩) rfl 106 _ rfl S 66 rfl WS _ HR.out Tryz.underlying106 rfl SZ.out ?_))
 go_loopw [3,5,12] (fun v3 _ v12 wr=>∃ i:Nat,i≤64∧v12 = .int .i64 (i:Int)∧v3 = .int .i64 (cnt F (64 * i):Nat)∧wr=w) (fun _ _ v _=>64 - (intOf v).toNat)
 case atStart=>exact ⟨0,by omega,rfl,rfl,rfl⟩
 case round =>
  obtain ⟨i,hi,rfl,rfl,rfl⟩:=hrel;by_cases hlt:i<64
  ·have hix:=HIX.out i hlt
   have HON:=hid (aa6 (bU F i) wr);have hw:=HW.out i;have l1:=HC.out (64 * i);have l2:=HC.out (64 * (i+1));generalize hq:cnt F (64 * (i+1))=q at *;generalize cnt F (64 * i)=p at *;generalize cnt (fun j=>(bU F i).getLsbD j) 64=c at *;generalize bU F i=x at *;have iI:(i:Int)<64:=by omega
   have i0:(0:Int)≤(i:Int):=by omega
   have pI:(p:Int)≤4096:=by omega
   have cI:(c:Int)≤4096:=by omega
   have HQ:=hid hq;have HWW:=hid hw;clear hq hw l1 l2 hi;go_wp2_with fail;refine HON.out.mono ?_;rintro e w2 ⟨rfl,rfl⟩;clear HON;go_wp2_with fail;go_roundw
   case rel=>exact ⟨i+1,by omega,by go_num,by rw [HQ.out,HWW.out]; simp,trivial⟩
   case measure=>simp [intOf]; omega
  obtain rfl:i=64:=by omega
  go_wp2_with fail;go_ret;exact ⟨rfl,rfl⟩
end Go.Proofs.YtljjcbmkbmloaaaGreatDoor
