import Derived.Test.YtljjcbmkbmloaaaGreatDoorGTu15
import Derived.Test.YtljjcbmkbmloaaaGreatDoorGTuA
namespace Go.Proofs.YtljjcbmkbmloaaaGreatDoor
set_option maxHeartbeats 1600000
set_option maxRecDepth 100000
set_option linter.unusedVariables false
open Lib (hid)
open Go.ChangeShapes Go.WideShapes Go.ChangeAt Go.RowKit
def dA:(d:Nat)→Kd d→bO
 | 0,_=>none
 | d+1,T=>some ⟨pK T,0,none⟩
def kE (d:Nat)(x:bK (Kd d)):List Value:=[.string x.1,.string x.2.1,.pointer (dA d x.2.2)]
structure L8 (w:World)(b off:Nat)(d:Nat)(x:bK (Kd d)):Prop where
 k:w.cell? ⟨b,off,none⟩=some (.string x.1)
 v:w.cell? ⟨b,off+1,none⟩=some (.string x.2.1)
 p:w.cell? ⟨b,off+2,none⟩=some (.pointer (dA d x.2.2))
theorem L8.below {w w':World}{b off d:Nat}{x:bK (Kd d)}(h:L8 w b off d x)(q:Below w.heap.size w w'):L8 w' b off d x :=
 ⟨(q.cell (p:=⟨b,off,none⟩) (block_lt_of_cell h.k)).trans h.k,(q.cell (p:=⟨b,off+1,none⟩) (block_lt_of_cell h.v)).trans h.v,(q.cell (p:=⟨b,off+2,none⟩) (block_lt_of_cell h.p)).trans h.p⟩
structure IS (w:World)(a:bO)(n:Nat)(d:Nat)(L:Its d):Prop where
 len:L.length=n
 at_:∀ i x,L[i]? = some x→∃ b off,a=some ⟨b,off,none⟩∧L8 w b (off+i * 3) d x
theorem IS.below {w w':World}{a:bO}{n d:Nat}{L:Its d}(h:IS w a n d L)(q:Below w.heap.size w w'):IS w' a n d L :=
 ⟨h.len,fun i x hx=>by obtain ⟨b,off,e,h1⟩:=h.at_ i x hx; exact ⟨b,off,e,h1.below q⟩⟩
structure Sm {κ:Type}(L:List (bK κ)):Prop where
 k:∀ x ∈ L,x.1.size≤200
 v:∀ x ∈ L,x.2.1.size≤200
 n:L.length≤1000
theorem bT (b off len cap i:Nat)(h:i<len)(W:World):(Instr.indexAt 121 (.slice (some ⟨b,off,none⟩) len cap) (.int .i64 (i:Int))).run Tryz.prog W = .ok (.pointer (some ⟨b,off+i * 3,none⟩)) W:=by
 obtain ⟨i0,hi,hs⟩:=Option.map_eq_some_iff.1 (show (Tryz.prog.info? 129).map (·.size)=some 3 by kernel_rfl);simp [Instr.indexAt,asIntOf,run_underlying Tryz.underlying121,sizeOf,typeInfo,hi,hs,h,Addr.add_mid]
theorem V3 (d:Nat)(x:bK (Kd d))(lf:Bool)(w:World)(hk:x.1.size≤200)(hv:x.2.1.size≤200) :
 Calls Tryz.prog 149 #[.agg #[.string x.1,.string x.2.1,.pointer (dA d x.2.2)],.bool lf] w fun e w'=>e = .returned (.int .i64 (nM lf x:Nat))∧Below w.heap.size w w':=by
 obtain ⟨k,v,p⟩:=x
 generalize dA d p=o
 dsimp only at hk hv ⊢
 have kI:(k.size:Int)≤200:=by omega
 have vI:(v.size:Int)≤200:=by omega
 cases lf with
 | true =>
   go_in;go_wp2_with fail;go_ret;exact ⟨by simp [nM],(Below.refl _ w).alloc (Nat.le_refl _) _⟩
 | false =>
   go_in;go_wp2_with fail;go_ret;exact ⟨by simp [nM],(Below.refl _ w).alloc (Nat.le_refl _) _⟩
theorem aJ {w a b:World}(h:Below w.heap.size w a)(q:Below a.heap.size a b):Below w.heap.size w b:=h.trans (q.mono h.size)
theorem aK (w:World)(o:Obj):Below w.heap.size w (w.alloc o):=(Below.refl _ w).alloc (Nat.le_refl _) o
theorem ah (w:World)(o:Obj):(w.alloc o).heap[w.heap.size]? = some o:=heap_alloc_new w o
theorem iF (w:World)(o:Obj):w.heap.size<(w.alloc o).heap.size:=lt_of_block (heap_alloc_new w o)
theorem abL {κ:Type}(lf:Bool)(l:List (bK κ))(i:Nat)(x:bK κ)(h:l[i]? = some x)(h0:i ≠ 0):jr lf (l.take (i+1))=jr lf (l.take i)+nM lf x:=by
 have hi:=(List.getElem?_eq_some_iff.1 h).1;rw [bM l i x h];match l,i,h0,hi with
 | y::r,j+1,_,_ =>
   show 2+_+fQ lf (r.take j++[x])=2+_+fQ lf (r.take j)+nM lf x;rw [iZ,show fQ lf [x]=nM lf x+0 from rfl];omega
theorem FT {κ:Type}(lf:Bool)(x:bK κ)(hk:x.1.size≤200)(hv:x.2.1.size≤200):nM lf x≤402:=by unfold nM; split <;> omega
theorem JC {κ:Type}(lf:Bool){l:List (bK κ)}(h:Sm l)(i:Nat):jr lf (l.take i)≤402002:=by
 have h1:=Bg lf (l.take i);have h2:=FQ lf 402 (l.take i) (fun x hx=>FT lf x (h.k x (List.mem_of_mem_take hx)) (h.v x (List.mem_of_mem_take hx)));have h3:=h.n;have h4:(l.take i).length≤1000:=by rw [List.length_take]; omega
 have:(l.take i).length * 402≤1000 * 402:=Nat.mul_le_mul_right _ h4;omega
theorem size_any (d:Nat)(a:bO)(n c:Nat)(L:Its d)(lf:Bool)(w:World)(h:IS w a n d L)(hs:Sm L) :
 Calls Tryz.prog 126 #[.slice a n c,.bool lf] w fun e w'=>e = .returned (.int .i64 (jr lf L:Nat))∧Below w.heap.size w w':=by
 have HI:=hid h
 have HS:=hid hs
 have HL:=hid h.len
 have nI:(n:Int)≤1000:=by have:=hs.n; have:=h.len; omega
 have HE:=hid (show jr lf (L.take n)=jr lf L by rw [← h.len,List.take_length])
 clear h hs
 go_in
 go_wp2_with fail
 go_loopw [5,6,7,10] (fun v5 _ _ v10 wr=>∃ i:Nat,i≤n∧v10 = .int .i64 (i:Int)∧v5 = .int .i64 ((jr lf (L.take i):Nat):Int)∧Below w.heap.size w wr) (fun _ _ _ v _=>n - (intOf v).toNat)
 case atStart=>exact ⟨0,by omega,rfl,rfl,Below.refl _ _⟩
 case round =>
  obtain ⟨i,hi,rfl,rfl,hb⟩:=hrel;have HB:=hid hb;clear hb;by_cases hlt:i<n
  ·obtain ⟨x,hx⟩:∃ x,L[i]? = some x:=⟨_,List.getElem?_eq_getElem (by have:=HL.out; omega)⟩
   have hx0:=(HI.out.below HB.out).at_ i x hx;obtain ⟨b1,o1,rfl,c1⟩:=hx0;have hix:=bT b1 o1 n c i hlt;have bn:=hid hlt;have iI:(i:Int)<(n:Int):=by omega
   have i0:(0:Int)≤(i:Int):=by omega
   have hk:=HS.out.k x (List.mem_of_getElem? hx);have hv:=HS.out.v x (List.mem_of_getElem? hx);have HC:=hid (V3 d x lf);have hzb:=JC lf HS.out i;have hz0:=JC lf HS.out (i+1);have hxb:=FT lf x hk hv;have kI:(x.1.size:Int)≤200:=by omega
   have JD:=hid (abL lf L i x hx);have c10:=c1.k;have c11:=c1.v;have c12:=c1.p;have HT0:=hid (show i=0→jr lf (L.take (i+1))=2+(if lf then nM lf x else 44)∧jr lf (L.take i)=2 from fun e=>by
    subst e;rw [bM L 0 x hx];exact ⟨rfl,rfl⟩)
   have HXX:=hid (show nM false x=1+x.1.size+44 from rfl);generalize jr lf (L.take i)=T at *;have hK:=hid hk;have hV:=hid hv;clear hi hlt hx hk hv c1;by_cases hz:i=0
   ·subst hz
    simp only [Nat.zero_mul,Nat.add_zero] at hix c10 c11 c12;have HT1:=hid (HT0.out rfl);have XK:=hid (show nM lf x=(if lf then 1+x.1.size+1+x.2.1.size else 1+x.1.size+44) from rfl);obtain ⟨Z,hZ⟩:∃ Z,nM lf x=Z:=⟨_,rfl⟩
    have HZZ:=hid hZ;rw [hZ] at hxb JD HC;have ZI:(Z:Int)≤402:=by omega
    have T0:T=2:=HT1.out.2;subst T0;clear hzb hxb hz0 hZ;cases lf with
    | true =>
      go_wp2_with (refine (HC.out _ hK.out hV.out).mono ?_; rintro e w2 ⟨rfl,hb2⟩; have HB2:=hid hb2; clear hb2)
      have e:=HT1.out.1;simp only [if_true,HZZ.out] at e;exact ⟨⟨1,by have:=bn.out; omega,rfl,by rw [e]; go_num,aJ HB.out (aJ (aK wr _) HB2.out)⟩,by simp [intOf]; have:=bn.out; omega⟩
    | false =>
      have e:=HT1.out.1;have e2:Z=1+x.1.size+44:=by rw [← HZZ.out]; rfl
      have E:=hid e;have E2:=hid e2;clear e e2;go_wp2_with (refine (HC.out _ hK.out hV.out).mono ?_; rintro e w2 ⟨rfl,hb2⟩; have HB2:=hid hb2; have d10:=(hb2.cell (p:=⟨wr.heap.size,0,none⟩) (iF wr _)).trans (cell_of_row _ wr.heap.size 0 _ _ _ (ah wr _)); clear hb2)
      exact ⟨⟨1,by have:=bn.out; omega,rfl,by rw [E.out,E2.out]; go_num,aJ HB.out (aJ (aK wr _) HB2.out)⟩,by simp [intOf]; have:=bn.out; omega⟩
   have hz1:¬ ((i:Int)=0):=by omega
   have HZ:=hid hz;obtain ⟨Z,hZ⟩:∃ Z,nM lf x=Z:=⟨_,rfl⟩
   rw [hZ] at hxb JD HC;have ZI:(Z:Int)≤402:=by omega
   have TI:(T:Int)≤402002:=by omega
   clear hzb hxb hz0 hz hZ;go_wp2_with (refine (HC.out _ hK.out hV.out).mono ?_; rintro e w2 ⟨rfl,hb2⟩; have HB2:=hid hb2; clear hb2)
   go_roundw
   case rel=>exact ⟨i+1,by have:=bn.out; omega,by go_num,by rw [JD.out HZ.out]; go_num,aJ HB.out (aJ (aK wr _) HB2.out)⟩
   case measure=>simp [intOf]; have:=bn.out; omega
  obtain rfl:i=n:=by omega
  clear hi hlt;go_wp2_with fail;go_ret;rw [HE.out];exact ⟨rfl,HB.out⟩
end Go.Proofs.YtljjcbmkbmloaaaGreatDoor
