import Derived.Test.YtljjcbmkbmloaaaGreatDoorGTu31
import Derived.Laws.EntriesVeiled
import Derived.Lib.ConvBytes
import Derived.Test.YtljjcbmkbmloaaaGreatDoorGTuA
namespace Go.Proofs.YtljjcbmkbmloaaaGreatDoor
set_option maxHeartbeats 3200000
set_option maxRecDepth 100000
set_option linter.unusedVariables false
open Lib (hid)
section
open Go.RowKit
def keyS (l:bI):bI:=if 64<l.length then di l else l
def nU (l:bI):bI:=keyS l++List.replicate (64 - (keyS l).length) 0
theorem CY (l:bI):(keyS l).length≤64:=by
 unfold keyS;split
 ·rw [dO]; omega
 omega
theorem kU (l:bI):(nU l).length=64:=by
 have:=CY l;simp [nU]; omega
theorem acW (l:bI)(h:gm l):gm (keyS l):=by
 unfold keyS;split
 ·exact oO l
 exact h
theorem af1 {a b:bI}(h1:gm a)(h2:gm b):gm (a++b):=fun z hz=>(List.mem_append.1 hz).elim (h1 z) (h2 z)
theorem UQ (n:Nat):gm (List.replicate n 0):=fun z hz=>by obtain ⟨_,rfl⟩:=List.mem_replicate.1 hz; omega
theorem Qv (l:bI)(h:gm l):gm (nU l):=af1 (acW l h) (UQ _)
theorem MX (k:bI)(n:Nat):splice (bg (List.replicate n 0)).toList 0 (bg k).toList=(bg (k++List.replicate (n - k.length) 0)).toList:=by
 unfold splice bg;simp
theorem CZ (g:Nat)(W:World):(Instr.sliceAt 49 (.pointer (some ⟨g,0,none⟩)) none none none).run Tryz.prog W = .ok (.slice (some ⟨g,0,none⟩) 32 32) W:=by
 obtain ⟨i0,hi,_⟩:=Option.map_eq_some_iff.1 xR;simp [Instr.sliceAt,run_underlying Tryz.underlying49,Instr.sureAddr,Instr.sliceBounds,sizeOf,typeInfo,hi,Addr.add_mid]
theorem BS.source {w:World}{a:bO}{n c:Nat}{l:bI}(h:BS w (.slice a n c) l):0<(bg l).toList.length→∃ ad,a=some ad∧∀ j v,(bg l).toList[j]? = some v→w.cell? (ad.add j)=some v:=by
 intro hp;rw [Array.length_toList,aT] at hp;obtain ⟨a',cap',he,hy,hn,hc⟩:=h;injection he with e1 e2 e3;subst e1;rcases hc with hc | ⟨b,off,rfl,hc⟩
 ·subst hc; simp at hp
 refine ⟨⟨b,off,none⟩,rfl,fun j v hv=>?_⟩;have hj:j<l.length:=by
  have:=(List.getElem?_eq_some_iff.1 hv).1;rwa [Array.length_toList,aT] at this
 rw [Array.getElem?_toList,Az l j hj] at hv;rw [Addr.add_mid,hc j hj]; exact hv
theorem acX (l:bI):∀ v ∈ (bg l).toList,v.oneCell'=true:=fun v hv=>(Array.all_eq_true_iff_forall_mem.1 (gK l)) v (by simpa using hv)
theorem MZ (l:bI)(v:Value)(w:World)(hK:KT w)(hv:BS w v l)(hr:Room v)(hn:l.length≤281474976710656) :
 Calls Tryz.prog 109 #[v] w fun e w'=>e = .returned (.agg (bg (nU l)))∧Below w.heap.size w w':=by
 have HV:=hid (And.intro hv hr)
 obtain ⟨a,cap,rfl,_,_,_⟩:=hv
 have apZ:=hid (fun (W:World) (hb:Below w.heap.size w W)=>xU l (.slice a l.length cap) W (hK.below hb hK.pos) (HV.out.1.kept hb) hr hn)
 have Ap:=hid (CY l)
 have nI:(l.length:Int)≤281474976710656:=by omega
 have AL:=hid hn
 have sa:=CZ
 have sb:=BN
 clear hr hK hn
 go_in
 go_upto_if 7 with (fail)
 have h1:((w.alloc (.cells (bg (List.replicate 64 0)) 196)).alloc (.cells (bg (List.replicate 64 0)) 196)).heap[w.heap.size]? = some (.cells (bg (List.replicate 64 0)) 196 (0,0)):=heap_alloc2_old w _ _
 have h2:((w.alloc (.cells (bg (List.replicate 64 0)) 196)).alloc (.cells (bg (List.replicate 64 0)) 196)).heap[w.heap.size+1]? = some (.cells (bg (List.replicate 64 0)) 196 (0,0)):=heap_alloc2_new w _ _
 have hb1:Below w.heap.size w ((w.alloc (.cells (bg (List.replicate 64 0)) 196)).alloc (.cells (bg (List.replicate 64 0)) 196)):=((Below.refl w.heap.size w).alloc (Nat.le_refl _) _).alloc (by simp) _
 have hz1:((w.alloc (.cells (bg (List.replicate 64 0)) 196)).alloc (.cells (bg (List.replicate 64 0)) 196)).heap.size=w.heap.size+2:=by simp
 obtain ⟨W1,hW1⟩:∃ W1,W1=((w.alloc (.cells (bg (List.replicate 64 0)) 196)).alloc (.cells (bg (List.replicate 64 0)) 196)):=⟨_,rfl⟩
 rw [← hW1] at h1 h2 hb1 hz1
 have HW1:=hid h1
 have HW2:=hid h2
 have HB1:=hid hb1
 have HZ1:=hid hz1
 refine (show ∀ W2:World,W2=W1→_ from ?_) _ hW1.symm
 intro W2 e2
 subst e2
 clear hW1 h1 h2 hb1 hz1
 go_cut [0] (fun v0 w1=>BS w1 v0 (keyS l)∧Room v0∧Below w.heap.size w w1∧w1.heap[w.heap.size]? = some (.cells (bg (List.replicate 64 0)) 196 (0,0))∧w1.heap[w.heap.size+1]? = some (.cells (bg (List.replicate 64 0)) 196 (0,0)))
 case first =>
  by_cases h64:64<l.length
  ·have hI:(64:Int)<(l.length:Int):=by omega
   have HE:=hid (show keyS l=di l from if_pos h64);clear h64;go_wp2_with fail;refine (apZ.out _ HB1.out).mono ?_;rintro e w2 ⟨rfl,hb2⟩;have SH:=hid (lh (di l) (dO l));have SE:=hid (show (bg (List.replicate 32 0)).size=(bg (di l)).size by rw [aT,aT,dO]; rfl);have HB2:=hid hb2;clear hb2;go_wp2_with (first
    | (with_reducible refine wpList_store_row (o:=⟨none,.store _ (.tmp 4) _,_,_,_,_⟩) rfl 49 _ _ rfl w2.heap.size (bg (di l)) rfl rfl 49 _ (heap_alloc_new w2 _) SH.out ?c1 (gK _) ?_))
   case c1=>exact SE.out
   generalize hW3:World.setRow _ w2.heap.size _=W3;obtain ⟨r3,z3,b3⟩:=BC w2 (bg (List.replicate 32 0)) (bg (di l)) 49 W3 hW3.symm;clear hW3;have hbs:=BS.KJ (show iU W3 w2.heap.size 49 (di l) from r3) (oO l);rw [dO] at hbs;have HBS:=hid hbs;have B13:=hid (HB2.out.trans (b3.mono HB2.out.size));clear r3 z3 b3 hbs;go_meet;have z:=HZ1.out;refine ⟨by rw [HE.out]; exact HBS.out,qG _ _ _ (by omega) (by omega),HB1.out.trans (B13.out.mono HB1.out.size),(B13.out.block _ (by omega)).trans HW1.out,(B13.out.block _ (by omega)).trans HW2.out⟩
  have hI:(l.length:Int)≤64:=by omega
  have HE:=hid (show keyS l=l from if_neg h64);clear h64;go_wp2_with fail;go_meet;exact ⟨by rw [HE.out]; exact HV.out.1.kept HB1.out,HV.out.2,HB1.out,HW1.out,HW2.out⟩
 case rest =>
  obtain ⟨hB,hR,hbel,hz2,hz3⟩:=hcut;rename_i v0 w5
  obtain ⟨a0,cap0,hv0,_,_,_⟩:=id hB;subst hv0;have X6:=hid hB.source;have ap1:=hid hbel;have HZ2:=hid hz2;have HZ3:=hid hz3;have hlc:(keyS l).length≤cap0:=(hR _ _ _ rfl).1;have hkl:=Ap.out;have S64:=hid (uQ (nU l) (kU l));have Hz:=hid (show w.heap.size ≠ w.heap.size+1 by omega);clear hB hR hbel hz2 hz3;generalize hk:keyS l=k at *;go_wp2_with (first
   | (with_reducible refine wpList_copy_splice (o:=⟨some 13,_,_,_,_,_⟩) rfl (.tmp 11) (.tmp 12) 62 62 rfl 5 Tryz.underlying62 xR (some ⟨w.heap.size+1,0,none⟩) a0 64 64 k.length cap0 rfl rfl (w.heap.size+1) 0 (bg (List.replicate 64 0)).toList 196 HZ3.out (bg k).toList ?c1 ?c2 ?c3 (acX _) (w.heap.size+1) wc (Below.refl _ _) (Nat.le_refl _) ?_))
  case c1=>rw [Array.length_toList,aT]; exact (Nat.min_eq_left Ap.out).symm
  case c2 =>
   intro hp;obtain ⟨ad,h1,h2⟩:=X6.out (by simpa using hp);exact ⟨ad,h1,fun j v hv=>h2 j v (by rw [Array.getElem?_toList]; exact hv)⟩
  case c3=>rw [Array.length_toList,Array.length_toList,aT,aT,List.length_replicate]; have:=Ap.out; omega
  intro w6 hrow GR;have hrow:w6.heap[w.heap.size+1]? = some (.cells (splice (bg (List.replicate 64 0)).toList 0 (bg k).toList).toArray 196 (0,0)):=hrow.out;rw [MX,Array.toArray_toList] at hrow;have hkb:nU l=k++List.replicate (64 - k.length) 0:=by unfold nU; rw [hk]
  rw [← hkb] at hrow;have mP:=hid (show w6.heap[w.heap.size+1]? = some (.cells (bg (nU l)) 196 (0,0)) from hrow);have lu:=hid (ap1.out.trans (GR.mono (Nat.le_succ _)));have Ew:=hid (show w6.heap[w.heap.size]? = some (.cells (bg (List.replicate 64 0)) 196 (0,0)) from (GR.block _ (Nat.lt_succ_self _)).trans HZ2.out);clear hrow GR hkb;go_wp2_with (first
   | (with_reducible refine wpList_load_row (o:=⟨some 14,_,_,_,_,_⟩) rfl 196 _ rfl (w.heap.size+1) rfl 196 (bg (nU l)) (0,0) _ mP.out Tryz.underlying196 rfl S64.out ?_)
   | (with_reducible refine wpList_store_row (o:=⟨none,.store _ (.tmp 2) _,_,_,_,_⟩) rfl 196 _ _ rfl w.heap.size (bg (nU l)) rfl rfl 196 (bg (List.replicate 64 0)) Ew.out S64.out ?c5 (gK _) ?_))
  case c5=>rw [aT,aT,kU,List.length_replicate]
  refine bodyPost_ret (v := .agg (bg (nU l))) (results_cell_row Tryz.results109 _ _ w.heap.size 196 (bg (nU l)) (0,0) _ rfl (setRow_heap _ w.heap.size _ _ _ _ Ew.out) Tryz.underlying196 rfl S64.out) rfl ⟨rfl, ?_⟩;exact below_setRow lu.out (Nat.le_refl _) _
end
section
open Go.RowKit
def xb (c p:Int):Int:=bits BinOp.xor IntKind.u8 c p
theorem ai1 (c p:Int)(h0:0≤c)(h1:c≤255)(p0:0≤p)(p1:p≤255):0≤xb c p∧xb c p≤255:=by
 obtain ⟨m,rfl⟩:=Int.eq_ofNat_of_zero_le h0;obtain ⟨n,rfl⟩:=Int.eq_ofNat_of_zero_le p0;have e:IntKind.u8.bits=8:=rfl;unfold xb;rw [yX,e];have h:(m % 2 ^ 8) ^^^ (n % 2 ^ 8)<2 ^ 8:=Nat.xor_lt_two_pow (Nat.mod_lt _ (by decide)) (Nat.mod_lt _ (by decide));rw [Ei _ (by simpa using h)];omega
def qR (b:bI)(p:Int):bI:=b.map fun c=>xb c p
theorem qH (b:bI)(p:Int):(qR b p).length=b.length:=by simp [qR]
theorem acY (b:bI)(p:Int)(h:gm b)(p0:0≤p)(p1:p≤255):gm (qR b p):=by
 intro z hz;simp only [qR,List.mem_map] at hz;obtain ⟨c,hc,rfl⟩:=hz;exact ai1 c p (h c hc).1 (h c hc).2 p0 p1
def yP (b:bI)(p:Int)(n:Nat):bI:=(List.range b.length).map fun j=>if j<n then xb (b.getD j 0) p else b.getD j 0
theorem Qw (b:bI)(p:Int)(n:Nat):(yP b p n).length=b.length:=by simp [yP]
theorem Y4 (b:bI)(p:Int):yP b p 0=b:=by
 apply List.ext_getElem (by simp [yP]);intro j h1 h2;simp [yP,h2]
theorem Y5 (b:bI)(p:Int):yP b p b.length=qR b p:=by
 apply List.ext_getElem (by simp [yP,qR]);intro j h1 h2;have:j<b.length:=by simpa [qR] using h2
 simp [yP,qR,this]
theorem af2 (b:bI)(p:Int)(n:Nat)(h:n<b.length):(yP b p n).getD n 0=b.getD n 0:=by simp [yP,h]
theorem acZ (b:bI)(p:Int)(n:Nat):(yP b p n).set n (xb (b.getD n 0) p)=yP b p (n+1):=by
 apply List.ext_getElem (by simp [yP]);intro j h1 h2;rw [List.getElem_set];simp only [yP,List.getElem_map,List.getElem_range];by_cases hj:n=j
 ·subst hj; simp
 rw [if_neg hj];by_cases hl:j<n
 ·rw [if_pos hl,if_pos (by omega)]
 rw [if_neg hl,if_neg (by omega)]
def gJ (key msg:bI):bI:=di (qR (nU key) 92++di (qR (nU key) 54++msg))
theorem dU (key msg:bI):(gJ key msg).length=32:=dO _
theorem Qx (key msg:bI):gm (gJ key msg):=oO _
structure Parts (w:World)(P:Nat)(vs:Nat→Value)(ls:List (bI)):Prop where
 cell:∀ i,i<ls.length→w.cell? ⟨P,i,none⟩=some (vs i)
 bs:∀ i,i<ls.length→BS w (vs i) (ls.getD i [])
 room:∀ i,i<ls.length→Room (vs i)
theorem Parts.kept {w w':World}{P:Nat}{vs:Nat→Value}{ls:List (bI)}(h:Parts w P vs ls)(hb:Below w.heap.size w w'):Parts w' P vs ls :=
 ⟨fun i hi=>(hb.cell (block_lt_of_cell (h.cell i hi))).trans (h.cell i hi),fun i hi=>(h.bs i hi).kept hb,h.room⟩
theorem JS (ls:List (bI))(k:Nat)(h:k<ls.length):(ls.take (k+1)).flatten=(ls.take k).flatten++ls.getD k []:=by
 rw [List.take_succ_eq_append_getElem h,List.flatten_append];simp [h]
theorem af4 (ls:List (bI))(k:Nat):(ls.take k).flatten.length≤ls.flatten.length:=by
 conv=>rhs; rw [← List.take_append_drop k ls,List.flatten_append,List.length_append]
 omega
theorem GU (kb:bI)(p:Int)(ls:List (bI))(P cap:Nat)(vs:Nat→Value)(B:Nat)(w:World)(hK:KT w)(hk:kb.length=64)(hky:gm kb)(p0:0≤p)(p1:p≤255)
 (hB:iU w B 196 kb) (hP:Parts w P vs ls) (hn:ls.flatten.length≤140737488355328) (hl:ls.length≤1000) :
 Calls Tryz.prog 110 #[.int .u8 p,.slice (some ⟨P,0,none⟩) ls.length cap,.pointer (some ⟨B,0,none⟩)] w fun e w'=>e = .returned (.agg (bg (di (qR kb p++ls.flatten))))∧Below w.heap.size w w':=by
 have S64:=hid (uQ kb hk)
 have HK:=hid hK
 have HB:=hid (show w.heap[B]? = some (.cells (bg kb) 196 (0,0)) from hB)
 have HP:=hid hP
 have HN:=hid (And.intro hn hl)
 have HKB:=hid (And.intro hk hky)
 have hBlt:=hB.lt
 have EH:=hid hBlt
 have nI:(ls.length:Int)≤1000:=by omega
 have n0:(0:Int)≤(ls.length:Int):=by omega
 have sb:=BN
 clear hK hB hP hn hl hk hBlt
 go_in
 go_wp2_with (first
  | (with_reducible refine wpList_load_row (o:=⟨some 13,_,_,_,_,_⟩) rfl 196 _ rfl B rfl 196 (bg kb) (0,0) _ ((Below.heap_alloc w _ B EH.out).trans HB.out) Tryz.underlying196 rfl S64.out ?_)
  | (with_reducible refine wpList_store_row (o:=⟨none,.store _ (.tmp 6) _,_,_,_,_⟩) rfl 196 _ _ rfl (w.heap.size+1) (bg kb) rfl rfl 196 _ (heap_alloc2_new w _ _) S64.out ?c1 (gK _) ?_))
 case c1=>rw [aT,HKB.out.1]; rfl
 generalize hW1:World.setRow _ (w.heap.size+1) _=W1
 obtain ⟨r0,r1,rz,rb⟩:=Ey w (.cells (bg (List.replicate 32 0)) 49) (bg (List.replicate 64 0)) (bg kb) 196 W1 hW1.symm
 clear hW1
 have HR0:=hid (show iU W1 w.heap.size 49 (List.replicate 32 0) from r0)
 have HR1:=hid (show iU W1 (w.heap.size+1) 196 kb from r1)
 have HB1:=hid rb
 have HZ1:=hid rz
 have hZ1:w.heap.size+1<W1.heap.size:=by omega
 clear r0 r1 rz rb
 obtain ⟨S,hS⟩:∃ S,S=w.heap.size+1:=⟨_,rfl⟩
 rw [← hS] at HR1 hZ1 ⊢
 have HS:=hid hS
 clear hS
 go_loopw [14] (fun v14 wr=>∃ i:Nat,i≤64∧v14 = .int .i64 (i:Nat)∧iU wr S 196 (yP kb p i)∧Below S W1 wr) (fun v _=>64 - (intOf v).toNat)
 case atStart=>exact ⟨0,by omega,rfl,by rw [Y4]; exact HR1.out,Below.refl _ _⟩
 case round =>
  obtain ⟨i,hi,rfl,hA,hbe⟩:=hrel;by_cases h64:i<64
  ·have hiI:(i:Int)<64:=by omega
   have hi0:(0:Int)≤(i:Int):=by omega
   have anc:=HKB.out.1;have c1:=hA.cell (k:=i) (by rw [Qw,anc]; exact h64);rw [af2 kb p i (by omega)] at c1;have f1:=hA.free i;have hset:=acZ kb p i;unfold xb at hset;have aat:=hid hset;have HA:=hid hA;generalize kb.getD i 0=c at *;clear hset hA anc;go_wp2_with fail;go_roundw
   case rel=>exact ⟨i+1,by omega,by go_num,by rw [← aat.out]; exact HA.out.set i _,hbe.setCell (p:=⟨S,i,none⟩) (Nat.le_refl _) _⟩
   case measure=>simp [intOf]; omega
  obtain rfl:i=64:=by omega
  have hA2:iU wr S 196 (qR kb p):=by
   have:=Y5 kb p;rw [HKB.out.1] at this;rw [← this]; exact hA
  have HA:=hid hA2;have HBE:=hid hbe;clear hA hA2 hbe h64 hi;go_wp2_with fail;refine (new_any _).mono ?_;rintro e w6 ⟨h,rfl,hh,hhl,hb6⟩;have hbel0:=HB1.out.trans (HBE.out.mono (by have:=HS.out; omega));have hzr:S<wr.heap.size:=Nat.lt_of_lt_of_le hZ1 HBE.out.size;have GR:=hbel0.trans (hb6.mono hbel0.size);have OL:=hid (show One w w6 h [] from ⟨GR,HK.out.below GR HK.out.pos,hh,Nat.le_trans hbel0.size hhl⟩);have HA6:=hid (HA.out.below hb6 hzr);have Hz:=hid (show h ≠ S∧h ≠ w.heap.size∧w.heap.size<w6.heap.size by have:=HS.out; have:=hb6.size; omega);have Ew:=hid ((HR0.out.below HBE.out (by have:=HS.out; omega)).below hb6 (by have:=HS.out; omega));clear hh hhl hb6 hbel0 GR hzr;have hbs:=BS.KJ HA6.out (acY kb p HKB.out.2 p0 p1);rw [qH,HKB.out.1] at hbs;have hw:=write_any h [] (qR kb p) (.slice (some ⟨S,0,none⟩) 64 64) w6 OL.out.hh OL.out.kt (OL.out.pos HK.out.pos) hbs (qG _ _ _ (by omega) (by omega))
   (by intro a n c e _; injection e with e1 _ _; injection e1 with e1; rw [← e1]; exact fun e2=>Hz.out.1 e2.symm) (by rw [qH,HKB.out.1]; simp)
  rw [List.nil_append] at hw;have HW:=hid hw;clear hbs hw;go_wp2_with fail;refine HW.out.mono ?_;rintro e w7 ⟨rfl,hr7,hg7⟩;have HT7:=hid (OL.out.put HK.out.pos hg7 hr7.has);have HR7:=hid (Ew.out.grown hg7 (fun e=>Hz.out.2.1 e.symm));clear hr7 hg7;go_wp2_with fail;go_loopw [30] (fun v30 wr=>∃ k:Nat,k≤ls.length∧v30 = .int .i64 (k:Nat)∧One w wr h (qR kb p++(ls.take k).flatten)∧iU wr w.heap.size 49 (List.replicate 32 0)) (fun v _=>ls.length - (intOf v).toNat)
  case atStart=>exact ⟨0,by omega,rfl,by simpa using HT7.out,HR7.out⟩
  case round =>
   obtain ⟨k,hk,rfl,hT,hR⟩:=hrel;by_cases hlt:k<ls.length
   ·have hP:=HP.out.kept hT.bel
    have c1:=hP.cell k hlt;have hw:=write_any h (qR kb p++(ls.take k).flatten) (ls.getD k []) (vs k) wr hT.hh hT.kt (hT.pos HK.out.pos) (hP.bs k hlt) (hP.room k hlt) ((HP.out.bs k hlt).Vw hT.hl)
     (by rw [List.length_append,qH,HKB.out.1]
         have h1:=af4 ls (k+1)
         rw [JS ls k hlt,List.length_append] at h1
         have:=HN.out.1
         omega)
    rw [List.append_assoc,← JS ls k hlt] at hw;have HW:=hid hw;have Y0:=hid hT;have HRR:=hid hR;have hkI:(k:Int)<(ls.length:Int):=by omega
    have hk0:(0:Int)≤(k:Int):=by omega
    clear hw hP hT hR;generalize vs k=vk at *;go_wp2_with fail;refine HW.out.mono ?_;rintro e w8 ⟨rfl,LU,hg8⟩;have HT8:=hid (Y0.out.put HK.out.pos hg8 LU.has);have HR8:=hid (HRR.out.grown hg8 (fun e=>Hz.out.2.1 e.symm));clear LU hg8;go_wp2_with fail;go_roundw
    case rel=>exact ⟨k+1,by omega,by go_num,HT8.out,HR8.out⟩
    case measure=>simp [intOf]; omega
   obtain rfl:k=ls.length:=by omega
   rw [List.take_length] at hT;have HT9:=hid hT;have TJ:=hid hR;have HS9:=hid (sum_any h _ wr hT.hh hT.kt (by rw [List.length_append,qH,HKB.out.1]; have:=HN.out.1; omega));clear hT hR hlt hk;generalize hL:qR kb p++ls.flatten=L at *;have HL:=hid hL;clear hL;go_wp2_with fail;refine HS9.out.mono ?_;rintro e w10 ⟨rfl,Dx⟩;have SH:=hid (lh (di L) (dO L));have SE:=hid (show (bg (List.replicate 32 0)).size=(bg (di L)).size by rw [aT,aT,dO]; rfl);have ap4:=hid (HT9.out.below Dx);have ac0:=hid (show w.heap.size<w10.heap.size from Nat.lt_of_lt_of_le TJ.out.lt Dx.size);have anf:=hid (show w10.heap[w.heap.size]? = some (.cells (bg (List.replicate 32 0)) 49 (0,0)) from TJ.out.below Dx TJ.out.lt);have ang:=hid (show w.heap.size ≠ w10.heap.size by have:=ac0.out; omega);clear Dx;go_wp2_with (first
    | (with_reducible refine wpList_store_row (o:=⟨none,.store _ (.tmp 11) _,_,_,_,_⟩) rfl 49 _ _ rfl w10.heap.size (bg (di L)) rfl rfl 49 _ (heap_alloc_new w10 _) SH.out ?c3 (gK _) ?_)
    | (with_reducible refine wpList_load_row (o:=⟨some 43,_,_,_,_,_⟩) rfl 49 _ rfl w10.heap.size rfl 49 (bg (di L)) (0,0) _ (setRow_heap _ w10.heap.size _ (bg (di L)) _ _ (heap_alloc_new w10 _)) Tryz.underlying49 rfl SH.out ?_)
    | (with_reducible refine wpList_store_row (o:=⟨none,.store _ (.tmp 5) _,_,_,_,_⟩) rfl 49 _ _ rfl w.heap.size (bg (di L)) rfl rfl 49 (bg (List.replicate 32 0)) ((setRow_other _ _ _ _ ang.out).trans ((Below.heap_alloc _ _ _ ac0.out).trans anf.out)) SH.out SE.out (gK _) ?_))
   case c3=>exact SE.out
   have hrow:∀ W:World,W.heap[w.heap.size]? = some (.cells (bg (List.replicate 32 0)) 49 (0,0))→(W.setRow w.heap.size (bg (di L))).heap[w.heap.size]? = some (.cells (bg (di L)) 49 (0,0)):=fun W h=>setRow_heap W w.heap.size _ _ _ _ h;refine bodyPost_ret (v := .agg (bg (di L))) (results_cell_row Tryz.results110 _ _ w.heap.size 49 (bg (di L)) (0,0) _ rfl (hrow _ ((setRow_other _ _ _ _ ang.out).trans ((Below.heap_alloc _ _ _ ac0.out).trans anf.out))) Tryz.underlying49 rfl SH.out) rfl ⟨by rw [HL.out], ?_⟩;exact below_setRow (below_setRow (ap4.out.bel.alloc (Nat.le_of_lt ac0.out) _) (Nat.le_of_lt ac0.out) _) (Nat.le_refl _) _
structure Qy (w:World)(v:Value)(key:bI)(B D F:Nat):Prop where
 val:v = .func (.func 114) #[] #[.pointer (some ⟨F,0,none⟩),.pointer (some ⟨D,0,none⟩)]
 block:iU w B 196 (nU key)
 Y6:w.heap[D]? = some (.cells (bg [54,92]) 198 (0,0))
 fn:w.heap[F]? = some (.cells #[.func (.func 110) #[] #[.pointer (some ⟨B,0,none⟩)]] 205 (0,0))
 DK:gm key
theorem Qy.kept {w w':World}{v:Value}{key:bI}{B D F:Nat}(h:Qy w v key B D F)(hb:Below w.heap.size w w'):Qy w' v key B D F :=
 ⟨h.val,h.block.below hb h.block.lt,(hb.block _ (lt_of_block h.Y6)).trans h.Y6,(hb.block _ (lt_of_block h.fn)).trans h.fn,h.DK⟩
theorem Y7 (l:bI)(v:Value)(w:World)(hK:KT w)(hv:BS w v l)(hr:Room v)(hn:l.length≤281474976710656) :
 Calls Tryz.prog 81 #[v] w fun e w'=>(∃ f B D F,e = .returned f∧Qy w' f l B D F)∧Below w.heap.size w w':=by
 have HB:=hid (fun W (hb:Below w.heap.size w W)=>MZ l v W (hK.below hb hK.pos) (hv.kept hb) hr hn)
 have HY:=hid hv.DK
 obtain ⟨a,cap,rfl,_,_,_⟩:=hv
 clear hr hK
 go_in
 go_wp2_with fail
 refine (HB.out _ (Below.refl _ _)).mono ?_
 rintro e w1 ⟨rfl,hb1⟩
 have S64:=hid (uQ (nU l) (kU l))
 have HB1:=hid hb1
 clear hb1
 go_upto_region 2 with (first
  | (with_reducible refine wpList_store_row (o:=⟨none,.store _ (.tmp 3) _,_,_,_,_⟩) rfl 196 _ _ rfl w1.heap.size (bg (nU l)) rfl rfl 196 _ (heap_alloc_new w1 _) S64.out ?c1 (gK _) ?_))
 case c1=>rw [aT,kU]; rfl
 generalize hW2:World.setRow _ w1.heap.size _=W2
 obtain ⟨r2,z2,b2⟩:=BC w1 (bg (List.replicate 64 0)) (bg (nU l)) 196 W2 hW2.symm
 clear hW2
 have HR2:=hid (show iU W2 w1.heap.size 196 (nU l) from r2)
 have HB2:=hid (HB1.out.trans (b2.mono HB1.out.size))
 have HZ2:=hid z2
 clear r2 z2 b2
 generalize w1.heap.size=B at *
 go_upto_region 3 with (fail)
 have r3:=heap_alloc_new W2 (.cells (bg [54,92]) 198)
 have b3:=(Below.refl W2.heap.size W2).alloc (Nat.le_refl _) (.cells (bg [54,92]) 198)
 refine (show ∀ W3:World,W3=W2.alloc (.cells (bg [54,92]) 198)→_ from ?_) _ rfl
 intro W3 hW3
 rw [← hW3] at r3 b3
 have z3:W3.heap.size=W2.heap.size+1:=by rw [hW3]; simp
 clear hW3
 have HR3:=hid (HR2.out.below b3 HR2.out.lt)
 have HD3:=hid r3
 have HB3:=hid (HB2.out.trans (b3.mono HB2.out.size))
 have HZ3:=hid z3
 clear r3 b3 z3
 generalize W2.heap.size=D at *
 go_wp2_with fail
 go_ret
 refine ⟨⟨_,B,D,W3.heap.size,rfl,rfl, ?_, ?_, ?_,HY.out⟩, ?_⟩
 ·exact (Below.heap_alloc _ _ _ HR3.out.lt).trans HR3.out
 ·exact (Below.heap_alloc _ _ _ (lt_of_block HD3.out)).trans HD3.out
 ·exact heap_alloc_new _ _
 ·exact HB3.out.alloc HB3.out.size _
theorem UR (key:bI)(ls:List (bI))(P cap:Nat)(vs:Nat→Value)(v:Value)(B D F:Nat)(w:World)(hK:KT w)(hC:Qy w v key B D F)(hP:Parts w P vs ls)(hn:ls.flatten.length≤140737488355328)(hl:ls.length≤1000) :
 Calls Tryz.prog 114 #[.slice (some ⟨P,0,none⟩) ls.length cap,.pointer (some ⟨F,0,none⟩),.pointer (some ⟨D,0,none⟩)] w fun e w'=>e = .returned (.agg (bg (gJ key ls.flatten)))∧Below w.heap.size w w':=by
 have H1:=hid (fun W (hb:Below w.heap.size w W)=>GU (nU key) 54 ls P cap vs B W (hK.below hb hK.pos) (kU key) (Qv key hC.DK) (by omega) (by omega) (hC.kept hb).block (hP.kept hb) hn hl)
 have HK:=hid hK
 have HC:=hid hC
 have cF:∀ A:Obj,(w.alloc A).cell? ⟨F,0,none⟩=some (.func (.func 110) #[] #[.pointer (some ⟨B,0,none⟩)]):=fun A=>cell_of_row _ F 0 _ _ _ ((Below.heap_alloc w A F (lt_of_block hC.fn)).trans hC.fn)
 have cD:∀ A:Obj,(w.alloc A).cell? ⟨D,0,none⟩=some (.int .u8 54):=fun A=>cell_of_row _ D 0 _ _ _ ((Below.heap_alloc w A D (lt_of_block hC.Y6)).trans hC.Y6)
 clear hK hC hP hn hl
 go_in
 go_wp2_with fail
 refine (H1.out _ ((Below.refl _ _).alloc (Nat.le_refl _) _)).mono ?_
 rintro e w1 ⟨rfl,hb1⟩
 have hL1:=dO (qR (nU key) 54++ls.flatten)
 have hY1:=oO (qR (nU key) 54++ls.flatten)
 have HM:=hid (show gJ key ls.flatten=di (qR (nU key) 92++[di (qR (nU key) 54++ls.flatten)].flatten) by simp [gJ])
 generalize di (qR (nU key) 54++ls.flatten)=L1 at *
 have SH:=hid (lh L1 hL1)
 have SE:=hid (show (bg (List.replicate 32 0)).size=(bg L1).size by rw [aT,aT,hL1]; rfl)
 have HB1:=hid (((Below.refl w.heap.size w).alloc (Nat.le_refl _) _).trans (hb1.mono (by simp)))
 have HR1:=hid ((hb1.block w.heap.size (by simp)).trans (heap_alloc_new w _))
 have HZ1:=hid (show w.heap.size<w1.heap.size by have:=hb1.size; simp at this; omega)
 have HL1:=hid (And.intro hL1 hY1)
 clear hb1 hL1 hY1 cF cD
 go_upto_region 2 with (first
  | (with_reducible refine wpList_store_row (o:=⟨none,.store _ (.tmp 5) _,_,_,_,_⟩) rfl 49 _ _ rfl w1.heap.size (bg L1) rfl rfl 49 _ (heap_alloc_new w1 _) SH.out ?c1 (gK _) ?_))
 case c1=>exact SE.out
 generalize hW2:World.setRow _ w1.heap.size _=W2
 obtain ⟨r2,z2,b2⟩:=BC w1 (bg (List.replicate 32 0)) (bg L1) 49 W2 hW2.symm
 clear hW2
 have HI2:=hid (show iU W2 w1.heap.size 49 L1 from r2)
 have HR2:=hid (show W2.heap[w.heap.size]? = some (.cells (bg (List.replicate 32 0)) 49 (0,0)) from (b2.block _ HZ1.out).trans HR1.out)
 have HB2:=hid (HB1.out.trans (b2.mono HB1.out.size))
 have HC2:=hid (HC.out.kept HB2.out)
 have cF2:=cell_of_row _ F 0 _ _ _ HC2.out.fn
 have cD2:=cell_of_row _ D 1 _ _ _ HC2.out.Y6
 have HZ2:=hid (show w.heap.size<W2.heap.size by have:=HZ1.out; omega)
 clear r2 z2 b2
 generalize w1.heap.size=I at *
 have sa:=CZ
 refine wp_region_noPanic ?_
 refine wp_region_held_drew (S:=fun w'=>w'.cell? ⟨F,0,none⟩=some (.func (.func 110) #[] #[.pointer (some ⟨B,0,none⟩)])∧w'.cell? ⟨D,1,none⟩=some (.int .u8 92)) (by kernel_rfl) ⟨cF2,cD2⟩ (fun hHeld=>?_)
 refine tK 0 11 ?_ rfl (Or.inl ⟨by rfl, ?_⟩) ?_
 rotate_left 1
 ·(intro w' hSw; obtain ⟨sF,sD⟩:=hSw; go_simp; try with_reducible rfl)
 try simp only [Act.put,pZ]
 refine tK 1 12 ?_ rfl (Or.inl ⟨by rfl, ?_⟩) ?_
 rotate_left 1
 ·(intro w' hSw; obtain ⟨sF,sD⟩:=hSw; go_simp; try with_reducible rfl)
 try simp only [Act.put,pZ]
 refine tK 2 13 ?_ rfl (Or.inl ⟨by rfl, ?_⟩) ?_
 rotate_left 1
 ·(intro w' hSw; obtain ⟨sF,sD⟩:=hSw; go_simp; try with_reducible rfl)
 try simp only [Act.put,pZ]
 refine tK 3 14 ?_ rfl (Or.inl ⟨by rfl, ?_⟩) ?_
 rotate_left 1
 ·(intro w' hSw; obtain ⟨sF,sD⟩:=hSw; go_simp; try with_reducible rfl)
 try simp only [Act.put,pZ]
 refine rD 4 rfl fun K hK=>?_
 go_simp
 have hbd:Below W2.heap.size W2 (World.alloc W2.drew (.cells #[.slice (some ⟨I,0,none⟩) 32 32] 62)):=(Below.refl W2.heap.size W2).drew.alloc (Nat.le_refl _) _
 have hPN:=heap_alloc_new W2.drew (.cells #[.slice (some ⟨I,0,none⟩) 32 32] 62)
 refine hK.out _ _ ⟨(hbd.cell (p:=⟨F,0,none⟩) (block_lt_of_cell cF2)).trans cF2,(hbd.cell (p:=⟨D,1,none⟩) (block_lt_of_cell cD2)).trans cD2⟩ (fun hHeld=>?_)
 clear hK K
 try simp only [Act.put,pZ]
 have hP3:Parts (World.alloc W2.drew (.cells #[.slice (some ⟨I,0,none⟩) 32 32] 62)) W2.heap.size (fun _ => .slice (some ⟨I,0,none⟩) 32 32) [L1]:=by
  refine ⟨fun i hi=>?_,fun i hi=>?_,fun i hi=>qG _ _ _ (by omega) (by omega)⟩
  ·obtain rfl:i=0:=by simpa using hi
   exact cell_of_row _ _ 0 _ _ _ hPN
  obtain rfl:i=0:=by simpa using hi
  have hbs:=BS.KJ HI2.out HL1.out.2;rw [HL1.out.1] at hbs;exact hbs.kept hbd
 have H3:=hid (GU (nU key) 92 [L1] W2.heap.size 1 (fun _ => .slice (some ⟨I,0,none⟩) 32 32) B _ ((HK.out.below HB2.out HK.out.pos).below hbd (HK.out.below HB2.out HK.out.pos).pos) (kU key) (Qv key HC2.out.DK) (by omega) (by omega) (HC2.out.kept hbd).block hP3 (by simp [HL1.out.1]) (by simp))
 have Iz:=hid hbd
 clear hbd hPN hP3
 refine rD 5 rfl fun K hK=>?_
 go_simp
 refine H3.out.mono ?_
 rintro e w4 ⟨rfl,hb4⟩
 have HB4:=hid (Iz.out.trans (hb4.mono (show W2.heap.size≤_ by simp)))
 rw [← HM.out]
 go_wp2_with fail
 refine hK.out _ _ ⟨(HB4.out.cell (p:=⟨F,0,none⟩) (block_lt_of_cell cF2)).trans cF2,(HB4.out.cell (p:=⟨D,1,none⟩) (block_lt_of_cell cD2)).trans cD2⟩ (fun hHeld=>?_)
 clear hK K
 try simp only [Act.put,pZ]
 have HR4:=hid ((HB4.out.block _ HZ2.out).trans HR2.out)
 have HBE:=hid (HB2.out.trans (HB4.out.mono HB2.out.size))
 have SH4:=hid (lh (gJ key ls.flatten) (dU _ _))
 have SE4:=hid (show (bg (List.replicate 32 0)).size=(bg (gJ key ls.flatten)).size by rw [aT,aT,dU]; rfl)
 clear hb4
 refine rD 6 rfl fun K hK=>?_
 rw [if_pos (by kernel_rfl)]
 refine wp_store_row 49 (.tmp 4) (.tmp 16) rfl w.heap.size (bg (gJ key ls.flatten)) rfl rfl 49 (bg (List.replicate 32 0)) HR4.out SH4.out SE4.out (gK _) ?_
 refine hK.out _ _ ⟨(cell_setRow_other _ _ _ ⟨F,0,none⟩ (Nat.ne_of_lt (lt_of_block HC.out.fn))).trans ((HB4.out.cell (p:=⟨F,0,none⟩) (block_lt_of_cell cF2)).trans cF2),(cell_setRow_other _ _ _ ⟨D,1,none⟩ (Nat.ne_of_lt (lt_of_block HC.out.Y6))).trans ((HB4.out.cell (p:=⟨D,1,none⟩) (block_lt_of_cell cD2)).trans cD2)⟩ (fun hHeld=>?_)
 refine wpAnyH_done (by decide +kernel) ?_ _
 refine NoPanic.normal ?_
 clear hK K
 go_wp2_with fail
 refine bodyPost_ret (v := .agg (bg (gJ key ls.flatten))) (results_cell_row Tryz.results114 _ _ w.heap.size 49 (bg (gJ key ls.flatten)) (0,0) _ rfl (setRow_heap _ w.heap.size _ _ _ _ HR4.out) Tryz.underlying49 rfl SH4.out) rfl ⟨rfl, ?_⟩
 exact below_setRow HBE.out (Nat.le_refl _) _
end
section
open Go.RowKit
theorem af5 (k m:bI)(v u:Value)(w:World)(hK:KT w)(hv:BS w v k)(hr:Room v)(hu:BS w u m)(hs:Room u)(hn:k.length≤140737488355328)(hm:m.length≤140737488355328) :
 Calls Tryz.prog 61 #[v,u] w fun e w'=>e = .returned (.agg (bg (gJ k m)))∧Below w.heap.size w w':=by
 have HC:=hid (fun W (hb:Below w.heap.size w W)=>Y7 k v W (hK.below hb hK.pos) (hv.kept hb) hr (by omega))
 have HK:=hid hK
 have HU:=hid (And.intro hu hs)
 have HN:=hid hm
 obtain ⟨au,cu,rfl,_,_,_⟩:=id hu
 clear hv hr hu hs hn hm hK
 go_in
 go_wp2_with fail
 refine (HC.out _ ((Below.refl _ _).alloc (Nat.le_refl _) _)).mono ?_
 rintro e w1 ⟨⟨f,B,D,F,rfl,hC⟩,hb1⟩
 obtain rfl:=hC.val
 have Y8:=((Below.refl w.heap.size w).alloc (Nat.le_refl _) (.cells (bg (List.replicate 32 0)) 49)).trans (hb1.mono (by simp))
 have HR1:=hid ((hb1.block w.heap.size (by simp)).trans (heap_alloc_new w _))
 have HZ1:=hid (show w.heap.size<w1.heap.size by have:=hb1.size; simp at this; omega)
 have hbd:=(Below.refl w1.heap.size w1).alloc (Nat.le_refl _) (.cells #[.slice au m.length cu] 62)
 have hP:Parts (w1.alloc (.cells #[.slice au m.length cu] 62)) w1.heap.size (fun _ => .slice au m.length cu) [m]:=by
  refine ⟨fun i hi=>?_,fun i hi=>?_,fun i hi=>HU.out.2⟩
  ·obtain rfl:i=0:=by simpa using hi
   exact cell_of_row _ _ 0 _ _ _ (heap_alloc_new w1 _)
  obtain rfl:i=0:=by simpa using hi
  exact (HU.out.1.kept Y8).kept hbd
 have ai6:=UR k [m] w1.heap.size 1 (fun _ => .slice au m.length cu) _ B D F _ ((HK.out.below Y8 HK.out.pos).below hbd (HK.out.below Y8 HK.out.pos).pos) (hC.kept hbd) hP (by simpa using HN.out) (by simp)
 rw [show [m].flatten=m by simp] at ai6
 have HM:=hid ai6
 have Iz:=hid (Y8.trans (hbd.mono Y8.size))
 have HW:=hid hbd
 clear hC hb1 Y8 hbd hP ai6
 go_wp2_with fail
 refine HM.out.mono ?_
 rintro e w2 ⟨rfl,hb2⟩
 have HR2:=hid (show w2.heap[w.heap.size]? = some (.cells (bg (List.replicate 32 0)) 49 (0,0)) from (hb2.block _ (by simp; have:=HZ1.out; omega)).trans ((HW.out.block _ HZ1.out).trans HR1.out))
 have HB2:=hid (Iz.out.trans (hb2.mono Iz.out.size))
 have SH:=hid (lh (gJ k m) (dU _ _))
 have SE:=hid (show (bg (List.replicate 32 0)).size=(bg (gJ k m)).size by rw [aT,aT,dU]; rfl)
 clear hb2
 go_wp2_with (first
  | (with_reducible refine wpList_store_row (o:=⟨none,.store _ (.tmp 4) _,_,_,_,_⟩) rfl 49 _ _ rfl w.heap.size (bg (gJ k m)) rfl rfl 49 (bg (List.replicate 32 0)) HR2.out SH.out SE.out (gK _) ?_))
 refine bodyPost_ret (v := .agg (bg (gJ k m))) (results_cell_row Tryz.results61 _ _ w.heap.size 49 (bg (gJ k m)) (0,0) _ rfl (setRow_heap _ w.heap.size _ _ _ _ HR2.out) Tryz.underlying49 rfl SH.out) rfl ⟨rfl, ?_⟩
 exact below_setRow HB2.out (Nat.le_refl _) _
theorem af6 {a b:bI}(h:bg a=bg b):a=b:=by
 unfold bg at h;have h2:=congrArg Array.toList h;simp only at h2;refine List.map_inj_right (fun x y e=>?_) |>.1 h2;injection e
theorem af7 (x y:bI)(hx:x.length=32)(hy:y.length=32)(bx:gm x)(by':gm y)(w:World):(Op.equalIn 10000 49 (.agg (bg x)) (.agg (bg y))).run Tryz.prog w = .ok (decide (x=y)) w:=by
 obtain ⟨i0,hi,hs⟩:=Option.map_eq_some_iff.1 xR;have key:∀ l:bI,gm l→bg l=((l.map fun n=>UInt8.ofNat n.toNat).map Extern.Stop.cell).toArray:=by
  intro l hl;unfold bg;rw [List.map_map];congr 1;apply List.map_congr_left;intro z hz;have:=hl z hz;simp only [Function.comp,Extern.Stop.cell];congr 1;simp;omega
 rw [key x bx,key y by',run_equalIn_bytes w 9998 49 5 32 Tryz.underlying49 Tryz.underlying5 (fun w=>by simp [sizeOf,typeInfo,hi,hs]) _ _ (by simpa using hx) (by simpa using hy)];by_cases h:x=y
 ·subst h; simp
 have hne:¬ (x.map fun n=>UInt8.ofNat n.toNat)=y.map fun n=>UInt8.ofNat n.toNat:=by
  intro e;apply h;have h2:bg x=bg y:=by rw [key x bx,key y by',e]
  exact af6 h2
 simp [h,hne]
def txt (s:ByteArray):bI:=s.data.toList.map fun b=>(b.toNat:Int)
theorem yQ (s:ByteArray):(txt s).length=s.size:=by rw [txt,List.length_map]; rfl
theorem af8 (s:ByteArray):gm (txt s):=by
 intro z hz;simp only [txt,List.mem_map] at hz;obtain ⟨b,_,rfl⟩:=hz;have:=b.toNat_lt;omega
theorem vX (w:World)(s:ByteArray):Below w.heap.size w (Lib.bytesWorld w 5 s):=by
 have h:∀ (W:World) (a:Addr) (n:Nat),(W.freeze a n).os=W.os∧(W.freeze a n).tape=W.tape∧(W.freeze a n).output=W.output:=by
  intro W a n;unfold World.freeze;split <;> exact ⟨rfl,rfl,rfl⟩
 exact ⟨(h _ _ _).1,(h _ _ _).2.1,(h _ _ _).2.2,by rw [Lib.bytesWorld_size]; omega,fun k hk=>Lib.bytesWorld_at_old w _ s k hk⟩
theorem ac1 (w:World)(s:ByteArray):BS (Lib.bytesWorld w 5 s) (.slice (some ⟨w.heap.size,0,none⟩) s.size (grownCap w s.size 0 5)) (txt s):=by
 refine ⟨some ⟨w.heap.size,0,none⟩,grownCap w s.size 0 5,by rw [yQ],af8 s,nofun,.inr ⟨w.heap.size,0,rfl,fun i hi=>?_⟩⟩;rw [yQ] at hi;rw [Nat.zero_add,Lib.bytesWorld_cell w 5 s i hi];have h2:i<s.data.toList.length:=hi;simp only [txt,List.getD_eq_getElem?_getD,List.getElem?_map,List.getElem?_eq_getElem h2,Option.map_some,Option.getD_some]
theorem UT (w:World)(a:bO)(n:Nat)(h:n≤1000000000):Room (.slice a n (grownCap w n 0 5)) :=
 qG _ _ _ (grownCap_ge w n 0 _) (by have:=grownCap_le_maxLen w n 0 5 (by unfold maxLen; omega); unfold maxLen at this; exact this)
theorem ac2 (s:ByteArray)(W:World):(convert 9 62 (.string s)).run Tryz.prog W = .ok (.slice (some ⟨W.heap.size,0,none⟩) s.size (grownCap W s.size 0 5)) (Lib.bytesWorld W 5 s) :=
 Lib.run_convert_string_bytes W _ _ _ s Tryz.underlying9 Tryz.underlying62 Tryz.underlying5
theorem GV (k:bI)(v:Value)(s:ByteArray)(w:World)(hK:KT w)(hv:BS w v k)(hr:Room v)(hn:k.length≤140737488355328)(hs:s.size≤1000000000) :
 Calls Tryz.prog 44 #[v,.string s] w fun e w'=>e = .returned (.agg (bg (gJ k (txt s))))∧Below w.heap.size w w':=by
 have HM:=hid (fun W (hb:Below w.heap.size w W)=>af5 k (txt s) v _ _ (hK.below (hb.trans ((vX W s).mono hb.size)) hK.pos) (hv.kept (hb.trans ((vX W s).mono hb.size))) hr (ac1 W s) (UT W _ _ (by omega)) hn (by rw [yQ]; omega))
 have hcv:=ac2 s
 clear hv hr hs hn hK
 go_in
 go_upto_region 1 with (fail)
 have hB1:=(Below.refl w.heap.size w).alloc (Nat.le_refl _) (.cells (bg (List.replicate 32 0)) 49)
 have hR1:=heap_alloc_new w (.cells (bg (List.replicate 32 0)) 49)
 have hZ1:w.heap.size<(w.alloc (.cells (bg (List.replicate 32 0)) 49)).heap.size:=by simp
 refine (show ∀ W1:World,W1=w.alloc (.cells (bg (List.replicate 32 0)) 49)→_ from ?_) _ rfl
 intro W1 hW1
 rw [← hW1] at hB1 hR1 hZ1
 have HB1:=hid hB1
 have HR1:=hid hR1
 have HZ1:=hid hZ1
 clear hW1 hR1 hZ1 hB1
 go_wp2_with fail
 refine (HM.out _ HB1.out).mono ?_
 rintro e w2 ⟨rfl,hb2⟩
 have hy:=vX W1 s
 have hzy:=Lib.bytesWorld_size W1 5 s
 have HB2:=hid ((HB1.out.trans (hy.mono HB1.out.size)).trans (hb2.mono (by have:=HZ1.out; omega)))
 have HR2:=hid (show w2.heap[w.heap.size]? = some (.cells (bg (List.replicate 32 0)) 49 (0,0)) from (hb2.block _ (by have:=HZ1.out; omega)).trans ((hy.block _ HZ1.out).trans HR1.out))
 have SH:=hid (lh (gJ k (txt s)) (dU _ _))
 have SE:=hid (show (bg (List.replicate 32 0)).size=(bg (gJ k (txt s))).size by rw [aT,aT,dU]; rfl)
 clear hy hzy hb2
 go_wp2_with (first
  | (with_reducible refine wpList_store_row (o:=⟨none,.store _ (.tmp 4) _,_,_,_,_⟩) rfl 49 _ _ rfl w.heap.size (bg (gJ k (txt s))) rfl rfl 49 (bg (List.replicate 32 0)) HR2.out SH.out SE.out (gK _) ?_))
 refine bodyPost_ret (v := .agg (bg (gJ k (txt s)))) (results_cell_row Tryz.results44 _ _ w.heap.size 49 (bg (gJ k (txt s))) (0,0) _ rfl (setRow_heap _ w.heap.size _ _ _ _ HR2.out) Tryz.underlying49 rfl SH.out) rfl ⟨rfl, ?_⟩
 exact below_setRow HB2.out (Nat.le_refl _) _
end
end Go.Proofs.YtljjcbmkbmloaaaGreatDoor
