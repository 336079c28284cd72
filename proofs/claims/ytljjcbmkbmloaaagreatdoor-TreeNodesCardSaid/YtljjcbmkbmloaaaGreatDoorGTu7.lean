import Derived.Test.YtljjcbmkbmloaaaGreatDoorGTu6
import Derived.Deep.OwnRows
import Derived.Test.YtljjcbmkbmloaaaGreatDoorGTuA
namespace Go.Proofs.YtljjcbmkbmloaaaGreatDoor
set_option maxHeartbeats 1600000
set_option maxRecDepth 100000
set_option linter.unusedVariables false
open Lib (hid)
section
open Go.RowKit
def qi (n x:Nat):bY:=(List.range n).map fun i=>BitVec.ofNat 8 (x / 2 ^ (8 * (n - 1 - i)))
theorem fM (n x:Nat):(qi n x).length=n:=by simp [qi]
theorem VC (m:Nat):yv (BitVec.ofNat 8 m)=(m:Int) % 256:=by
 unfold yv;rw [BitVec.toNat_ofNat];simp
def XA (T n:bY)(p:Nat):BitVec 8:=(ry T (n++qi 4 (p / 16))).getD (p % 16) 0
def Io (T n:bY)(o size:Nat):bY:=(List.range size).map fun j=>XA T n (o+j)
theorem qp (T n:bY)(o size:Nat):(Io T n o size).length=size:=by simp [Io]
theorem aeK (T n:bY)(o size j:Nat)(h:j<size):(Io T n o size).getD j 0=XA T n (o+j):=by simp [Io,List.getD,h]
def ZQ (l:bI):bY:=l.map fun z=>BitVec.ofNat 8 z.toNat
theorem S9 (l:bI)(h:gm l):(ZQ l).map yv=l:=by
 unfold ZQ;rw [List.map_map];conv=>rhs; rw [← List.map_id l]
 apply List.map_congr_left;intro z hz;have:=h z hz;rw [Function.comp,VC];simp only [id];omega
theorem ah5 (l:bY):gm (l.map yv):=by
 intro z hz;obtain ⟨b,_,rfl⟩:=List.mem_map.1 hz;unfold yv;have:=b.isLt;omega
theorem BS.ah6 {w:World}{g t o n cap:Nat}{L:bY}(h:aU w g t L)(ho:o+n≤L.length):BS w (.slice (some ⟨g,o,none⟩) n cap) (((L.drop o).take n).map yv):=by
 have hl:(((L.drop o).take n).map yv).length=n:=by simp; omega
 refine ⟨some ⟨g,o,none⟩,cap,by rw [hl],ah5 _,nofun,.inr ⟨g,o,rfl,fun i hi=>?_⟩⟩;rw [hl] at hi;have hc:=h.cell (k:=o+i) (by omega);rw [hc];have h1:o+i<L.length:=by omega
 simp [List.getD,hi,h1]
theorem BS.VD {w:World}{g t n cap:Nat}{L:bY}(h:aU w g t L)(hn:L.length=n):BS w (.slice (some ⟨g,0,none⟩) n cap) (L.map yv):=by
 have h:=BS.ah6 (o:=0) (n:=n) (cap:=cap) h (by omega);rwa [List.drop_zero,List.take_of_length_le (by omega)] at h
theorem XB (n:Nat):madeCells #[.int .u8 0] n=aF (aC n):=by
 rw [EF];apply Array.ext';rw [toList_madeCells_one];simp
theorem Rk {w:World}{g t:Nat}{l:bY}(h:aU w g t l):g<w.heap.size:=Nat.lt_of_not_le fun e=>by
 unfold aU at h;rw [Array.getElem?_eq_none e] at h;cases h
theorem ama (w:World)(A B C D:Obj):((((w.alloc A).alloc B).alloc C).alloc D).heap[w.heap.size]? = some A∧((((w.alloc A).alloc B).alloc C).alloc D).heap[w.heap.size+1]? = some B ∧
 ((((w.alloc A).alloc B).alloc C).alloc D).heap[w.heap.size+1+1]? = some C∧((((w.alloc A).alloc B).alloc C).alloc D).heap[w.heap.size+1+1+1]? = some D∧((((w.alloc A).alloc B).alloc C).alloc D).heap.size=w.heap.size+4∧Below w.heap.size w ((((w.alloc A).alloc B).alloc C).alloc D):=by
 obtain ⟨h0,h1,h2,hz,hb⟩:=AQ w A B C
 have hst:=(Below.refl (((w.alloc A).alloc B).alloc C).heap.size (((w.alloc A).alloc B).alloc C)).alloc (Nat.le_refl _) D
 have hn:=heap_alloc_new (((w.alloc A).alloc B).alloc C) D
 rw [hz] at hn hst
 exact ⟨(hst.block _ (by omega)).trans h0,(hst.block _ (by omega)).trans h1,(hst.block _ (by omega)).trans h2,hn,by simp,hb.trans (hst.mono (by omega))⟩
structure Only (g:Nat)(w w':World):Prop where
 size:w'.heap.size=w.heap.size
 rest:∀ k,k ≠ g→w'.heap[k]? = w.heap[k]?
 bel:∀ B,B≤g→Below B w w'
theorem Only.refl (g:Nat)(w:World):Only g w w:=⟨rfl,fun _ _=>rfl,fun B _=>Below.refl B w⟩
theorem Only.setCell {g:Nat}{w w':World}(h:Only g w w')(k:Nat)(v:Value):Only g w (w'.setCell ⟨g,k,none⟩ v) :=
 ⟨by simpa using h.size,fun j hj=>(Below.heap_setCell _ _ _ _ (fun e=>hj e)).trans (h.rest j hj),fun B hB=>(h.bel B hB).setCell (p:=⟨g,k,none⟩) hB v⟩
theorem Only.arr {g h t:Nat}{w w':World}{L:bY}(q:Only g w w')(a:aU w h t L)(hne:h ≠ g):aU w' h t L:=(q.rest h hne).trans a
end
section
open Go.RowKit
theorem aaN (L:bY)(o n x:Nat)(ho:o+n≤L.length):fB (fun j=>o+(n - 1 - j)) (fun j=>BitVec.ofNat 8 (x / 2 ^ (8 * j))) n L=fK L o (qi n x):=by
 have hlen:(fK L o (qi n x)).length=L.length:=jy L o _ (by rw [fM]; exact ho);have key:∀ (k:Nat) (i:Nat),k≤n→i<L.length→(fB (fun j=>o+(n - 1 - j)) (fun j=>BitVec.ofNat 8 (x / 2 ^ (8 * j))) k L).getD i 0=if o+n - k≤i∧i<o+n then BitVec.ofNat 8 (x / 2 ^ (8 * (o+n - 1 - i))) else L.getD i 0:=by
  intro k;induction k with
  | zero=>intro i _ _; rw [if_neg (by omega)]; rfl
  | succ k ih =>
    intro i hk hi;have hih:=ih i (by omega) hi;show ((fB (fun j=>o+(n - 1 - j)) (fun j=>BitVec.ofNat 8 (x / 2 ^ (8 * j))) k L).set (o+(n - 1 - k)) (BitVec.ofNat 8 (x / 2 ^ (8 * k)))).getD i 0=_;have hl:=dD (fun j=>o+(n - 1 - j)) (fun j=>BitVec.ofNat 8 (x / 2 ^ (8 * j))) k L;by_cases h:o+(n - 1 - k)=i
    ·subst h
     rw [if_pos (by omega),show o+n - 1 - (o+(n - 1 - k))=k by omega];simp [List.getD,hl,hi]
    have e:((fB (fun j=>o+(n - 1 - j)) (fun j=>BitVec.ofNat 8 (x / 2 ^ (8 * j))) k L).set (o+(n - 1 - k)) (BitVec.ofNat 8 (x / 2 ^ (8 * k)))).getD i 0=(fB (fun j=>o+(n - 1 - j)) (fun j=>BitVec.ofNat 8 (x / 2 ^ (8 * j))) k L).getD i 0:=by
     simp [List.getD,List.getElem?_set_ne h]
    rw [e,hih];by_cases h2:o+n - k≤i∧i<o+n
    ·rw [if_pos h2,if_pos (by omega)]
    rw [if_neg h2,if_neg (by omega)]
 apply List.ext_getElem
 ·rw [dD,hlen]
 intro i h1 h2;have hi:i<L.length:=by rwa [dD] at h1
 have h:=key n i (by omega) hi;simp only [List.getD,List.getElem?_eq_getElem h1,Option.getD_some] at h;rw [h];by_cases c:o+n - n≤i∧i<o+n
 ·rw [if_pos c]
  simp only [fK];rw [List.getElem_append_left (by simp [fM]; omega),List.getElem_append_right (by simp; omega)];simp only [List.length_take,Nat.min_eq_left (show o≤L.length by omega),qi,List.getElem_map,List.getElem_range];rw [show o+n - 1 - i=n - 1 - (i - o) by omega]
 rw [if_neg c];simp only [fK];by_cases c2:i<o
 ·rw [List.getElem_append_left (by simp [fM]; omega),List.getElem_append_left (by simp; omega)]
  simp [hi]
 rw [List.getElem_append_right (by simp [fM]; omega)];simp [fM,hi,Nat.min_eq_left (show o≤L.length by omega),show o+n+(i - (o+n))=i by omega]
theorem KU (w:World)(g t o n cap x:Nat)(L:bY)(h:aU w g t L)(ho:o+n≤L.length)(hn:n≤8) :
 Calls Tryz.prog 143 #[.slice (some ⟨g,o,none⟩) n cap,.int .u64 (x:Int)] w fun e w'=>e = .returned (.tuple #[])∧aU w' g t (fK L o (qi n x))∧Only g w w':=by
 have HO:=hid ho
 have VB:=hid h
 have HF:=hid (aaN L o n x ho)
 have nI:(n:Int)≤8:=by omega
 clear h
 go_in
 go_wp2_with fail
 go_loopw [7] (fun v7 wr=>∃ i:Nat,i≤n∧v7 = .int .i64 (i:Nat)∧aU wr g t (fB (fun j=>o+(n - 1 - j)) (fun j=>BitVec.ofNat 8 (x / 2 ^ (8 * j))) i L)∧Only g w wr) (fun v _=>n - (intOf v).toNat)
 case atStart=>exact ⟨0,by omega,rfl,VB.out,Only.refl g w⟩
 case round =>
  obtain ⟨i,hi,rfl,hA,hO⟩:=hrel;by_cases hlt:i<n
  ·obtain ⟨p,hp,hp2⟩:∃ p:Nat,(n:Int) - 1 - (i:Int)=(p:Int)∧n - 1 - i=p:=⟨n - 1 - i,by omega,rfl⟩
   have HV:=hid (show (x:Int) / 2 ^ (8 * i) % 256=yv (BitVec.ofNat 8 (x / 2 ^ (8 * i))) by rw [VC]; simp);have ci:=hA.cell (k:=o+p) (by rw [dD]; omega);have fi:=hA.free (o+p);have HST:=hid (show fB (fun j=>o+(n - 1 - j)) (fun j=>BitVec.ofNat 8 (x / 2 ^ (8 * j))) (i+1) L=(fB (fun j=>o+(n - 1 - j)) (fun j=>BitVec.ofNat 8 (x / 2 ^ (8 * j))) i L).set (o+p) (BitVec.ofNat 8 (x / 2 ^ (8 * i))) by rw [← hp2]; rfl);generalize hM2:fB (fun j=>o+(n - 1 - j)) (fun j=>BitVec.ofNat 8 (x / 2 ^ (8 * j))) (i+1) L=M2 at *;have HM2:=hid hM2;clear hM2;generalize fB (fun j=>o+(n - 1 - j)) (fun j=>BitVec.ofNat 8 (x / 2 ^ (8 * j))) i L=M at *;generalize M.getD (o+p) 0=old at *;have HA:=hid hA;have HOO:=hid hO;have bn:=hid hlt;have iI:(i:Int)<(n:Int):=by omega
   have i0:(0:Int)≤(i:Int):=by omega
   have pI:(p:Int)<(n:Int):=by omega
   have p0:(0:Int)≤(p:Int):=by omega
   have e1:IntKind.i64.wrap ((n:Int) - 1)=(n:Int) - 1:=IntWalk.i64_in _ (by omega);have e2:IntKind.i64.wrap ((n:Int) - 1 - (i:Int))=(p:Int):=by rw [hp]; exact IntWalk.i64_in _ (by omega)
   have e3:IntKind.i64.wrap (8 * (i:Int))=8 * (i:Int):=IntWalk.i64_in _ (by omega);clear hA hO hi hlt hp hp2 ho;go_wp2_with fail;go_roundw
   case rel=>exact ⟨i+1,by have:=bn.out; omega,by go_num,by rw [HM2.out,HST.out,HV.out]; exact HA.out.set (o+p) _,HOO.out.setCell _ _⟩
   case measure=>simp [intOf]; omega
  obtain rfl:i=n:=by omega
  rw [HF.out] at hA;have HA:=hid hA;have HOO:=hid hO;clear hA hO;go_wp2_with fail;go_end0
  exact ⟨rfl,HA.out,HOO.out⟩
end
section
open Go.RowKit
theorem x8 (l:bY)(h:l.length=12):(Tryz.prog.info? 209).map (·.size)=some (aF l).size:=by rw [show (Tryz.prog.info? 209).map (·.size)=some 12 by kernel_rfl,aN,h]
theorem ah7 (a c:Nat):fK (fK (aC 12) 0 (qi 8 a)) 8 (qi 4 c)=qi 8 a++qi 4 c:=by
 have h8:=fM 8 a;have h4:=fM 4 c;have e:fK (aC 12) 0 (qi 8 a)=qi 8 a++[0,0,0,0]:=by
  simp [fK,h8,aC]
 rw [e];simp [fK,h8,h4]
theorem aaO (a c:Nat)(w:World)(hc:c<4294967296) :
 Calls Tryz.prog 117 #[.int .u64 (a:Int),.int .u32 (c:Int)] w fun e w'=>e = .returned (.agg (aF (qi 8 a++qi 4 c)))∧Below w.heap.size w w':=by
 have HT:=hid (ah7 a c)
 have HL:=hid (show (qi 8 a++qi 4 c).length=12 by simp [fM])
 have cI:(c:Int)<4294967296:=by omega
 clear hc
 go_in
 go_upto_region 2 with fail
 have aeL:=rE w (.cells (aF (aC 12)) 209) (.cells (aF (aC 12)) 209)
 generalize hW0:World.alloc (World.alloc w _) _=W0
 have h0:aU W0 w.heap.size 209 (aC 12)∧aU W0 (w.heap.size+1) 209 (aC 12)∧Below w.heap.size w W0:=by
  rw [← hW0]; exact ⟨aeL.1,aeL.2.1,aeL.2.2.2⟩
 have H0:=hid h0
 clear aeL hW0 h0
 go_wp2_with fail
 refine (KU W0 (w.heap.size+1) 209 0 8 12 a (aC 12) H0.out.2.1 (by simp [aC]) (by omega)).mono ?_
 rintro e w1 ⟨rfl,h1,o1⟩
 have H1:=hid (show aU w1 w.heap.size 209 (aC 12)∧aU w1 (w.heap.size+1) 209 (fK (aC 12) 0 (qi 8 a))∧Below w.heap.size w w1 from ⟨o1.arr H0.out.1 (by omega),h1,H0.out.2.2.trans (o1.bel _ (by omega))⟩)
 clear h1 o1 H0
 go_wp2_with fail
 refine (KU w1 (w.heap.size+1) 209 8 4 4 c _ H1.out.2.1 (by rw [jy _ _ _ (by simp [fM,aC])]; simp [aC]) (by omega)).mono ?_
 rintro e w2 ⟨rfl,h2,o2⟩
 rw [HT.out] at h2
 have H2:=hid (show w2.heap[w.heap.size]? = some (.cells (aF (aC 12)) 209 (0,0))∧w2.heap[w.heap.size+1]? = some (.cells (aF (qi 8 a++qi 4 c)) 209 (0,0))∧Below w.heap.size w w2 from ⟨o2.arr H1.out.1 (by omega),h2,H1.out.2.2.trans (o2.bel _ (by omega))⟩)
 have SH:=hid (x8 _ HL.out)
 have SE:=hid (show (aF (aC 12)).size=(aF (qi 8 a++qi 4 c)).size by rw [aN,aN,HL.out]; simp [aC])
 clear h2 o2 H1
 obtain ⟨N,hN⟩:∃ y,qi 8 a++qi 4 c=y:=⟨_,rfl⟩
 rw [hN] at H2 SH SE
 have HN:=hid hN
 clear hN
 go_wp2_with (first
  | (with_reducible refine wpList_load_row (o:=⟨some 13,_,_,_,_,_⟩) rfl 209 _ rfl (w.heap.size+1) rfl 209 (aF N) (0,0) _ H2.out.2.1 Tryz.underlying209 rfl SH.out ?_)
  | (with_reducible refine wpList_store_row (o:=⟨none,.store _ (.tmp 4) _,_,_,_,_⟩) rfl 209 _ _ rfl w.heap.size (aF N) rfl rfl 209 (aF (aC 12)) H2.out.1 SH.out SE.out (dJ _) ?_))
 refine bodyPost_ret (v := .agg (aF N)) (results_cell_row Tryz.results117 _ _ w.heap.size 209 (aF N) (0,0) _ rfl (setRow_heap _ w.heap.size _ (aF N) _ _ H2.out.1) Tryz.underlying209 rfl SH.out) rfl ⟨by rw [HN.out], ?_⟩
 exact aG H2.out.2.2 (Nat.le_refl _) _
theorem XC (g:Nat)(W:World):(Instr.sliceAt 209 (.pointer (some ⟨g,0,none⟩)) none none none).run Tryz.prog W = .ok (.slice (some ⟨g,0,none⟩) 12 12) W:=by
 obtain ⟨i0,hi0,_⟩:=Option.map_eq_some_iff.1 sQ;simp [Instr.sliceAt,run_underlying Tryz.underlying209,Instr.sureAddr,Instr.sliceBounds,sizeOf,typeInfo,hi0,Addr.add_mid]
theorem XD (g:Nat)(W:World):(Instr.sliceAt 252 (.pointer (some ⟨g,0,none⟩)) none none none).run Tryz.prog W = .ok (.slice (some ⟨g,0,none⟩) 16 16) W:=by
 obtain ⟨i0,hi0,_⟩:=Option.map_eq_some_iff.1 sQ;simp [Instr.sliceAt,run_underlying Tryz.underlying252,Instr.sureAddr,Instr.sliceBounds,sizeOf,typeInfo,hi0,Addr.add_mid]
theorem XE (n:bY)(hn:n.length=12)(x:Nat):fK (fK (aC 16) 0 n) 12 (qi 4 x)=n++qi 4 x:=by
 have h4:=fM 4 x;have e:fK (aC 16) 0 n=n++[0,0,0,0]:=by
  simp [fK,hn,aC]
 rw [e];simp [fK,hn,h4]
theorem Oh (k n:bY)(x:Nat)(w:World)(hk:k.length=32)(hn:n.length=12)(hx:x<4294967296) :
 Calls Tryz.prog 157 #[.agg (aF k),.agg (aF n),.int .i64 (x:Int)] w fun e w'=>e = .returned (.agg (aF (ry (keysL k) (n++qi 4 x))))∧Below w.heap.size w w':=by
 have HT:=hid (XE n hn x)
 have AL:=hid hn
 have SK:=hid (rC k hk)
 have hbl:(n++qi 4 x).length=16:=by simp [fM,hn]
 have ZM:=hid (fun w=>aaM k (n++qi 4 x) w hk hbl)
 have SB:=hid (dE _ hbl)
 have hfl:=sO (keysL k) (n++qi 4 x) (lF k hk)
 have xI:(x:Int)<4294967296:=by omega
 obtain ⟨F,hF⟩:∃ y,ry (keysL k) (n++qi 4 x)=y:=⟨_,rfl⟩
 rw [hF] at hfl ZM
 have HF:=hid hF
 have SH:=hid (dE F hfl)
 have SE:=hid (show (aF (aC 16)).size=(aF F).size by rw [aN,aN,hfl]; simp [aC])
 have hs1:=XD (w.heap.size+1+1+1)
 have hs2:=XC (w.heap.size+1)
 clear hk hn hx hbl hfl hF
 go_in
 go_upto_region 2 with fail
 have h4:=ama w (.cells (aF k) 58) (.cells (aF n) 209) (.cells (aF (aC 16)) 252) (.cells (aF (aC 16)) 252)
 generalize hW0:World.alloc (World.alloc (World.alloc (World.alloc w _) _) _) _=W0
 have h0:aU W0 w.heap.size 58 k∧aU W0 (w.heap.size+1) 209 n∧aU W0 (w.heap.size+1+1) 252 (aC 16)∧aU W0 (w.heap.size+1+1+1) 252 (aC 16)∧Below w.heap.size w W0:=by
  rw [← hW0]; exact ⟨h4.1,h4.2.1,h4.2.2.1,h4.2.2.2.1,h4.2.2.2.2.2⟩
 have H0:=hid h0
 have VB:=hid (show W0.drew.heap[w.heap.size+1+1+1]? = some (.cells (aF (aC 16)).toList.toArray 252 (0,0)) from h0.2.2.2.1)
 have lW:=hid (show ∀ j v,(aF n).toList[j]? = some v→W0.drew.cell? ((⟨w.heap.size+1,0,none⟩:Addr).add j)=some v from fun j v hv=>by rw [Addr.add_mid]; exact h0.2.1.all j v hv)
 have Il:=hid (show (aF n).toList.length=Nat.min 12 16∧0+(aF n).toList.length≤(aF (aC 16)).toList.length∧∀ v ∈ (aF n).toList,v.oneCell'=true from
  ⟨by rw [Array.length_toList,aN,AL.out]; rfl,by rw [Array.length_toList,Array.length_toList,aN,aN,AL.out]; simp [aC],fun v hv=>Array.all_eq_true_iff_forall_mem.1 (dJ n) v (by simpa using hv)⟩)
 clear h4 hW0 h0
 go_region_held3 (fun _=>True) (exact trivial)
  ((refine sV rfl (.tmp 8) (.tmp 9) 62 62 (by rfl) 5 Tryz.underlying62 sQ (w.heap.size+1+1+1) 0 16 16 ⟨w.heap.size+1,0,none⟩ 12 12 (by rfl) (by rfl) (aF (aC 16)).toList 252 VB.out (aF n).toList Il.out.1 lW.out Il.out.2.1 Il.out.2.2 ?_))
 rw [zi]
 clear hs1 hs2
 go_upto_region 3 with fail
 generalize hW1:World.setRow _ (w.heap.size+1+1+1) _=W1
 have h1:aU W1 w.heap.size 58 k∧aU W1 (w.heap.size+1+1) 252 (aC 16)∧aU W1 (w.heap.size+1+1+1) 252 (fK (aC 16) 0 n)∧Below w.heap.size w W1:=by
  rw [← hW1];exact ⟨(setRow_other _ _ _ _ (by omega)).trans H0.out.1,(setRow_other _ _ _ _ (by omega)).trans H0.out.2.2.1,setRow_heap _ _ _ _ _ _ VB.out,aG H0.out.2.2.2.2.drew (by omega) _⟩
 have H1:=hid h1
 clear hW1 h1 H0 VB lW Il
 go_wp2_with fail
 refine (KU W1 (w.heap.size+1+1+1) 252 12 4 4 x _ H1.out.2.2.1 (by rw [jy _ _ _ (by simp [aC,AL.out])]; simp [aC]) (by omega)).mono ?_
 rintro e w2 ⟨rfl,h2,o2⟩
 rw [HT.out] at h2
 have H2:=hid (show w2.heap[w.heap.size]? = some (.cells (aF k) 58 (0,0))∧aU w2 (w.heap.size+1+1) 252 (aC 16)∧w2.heap[w.heap.size+1+1+1]? = some (.cells (aF (n++qi 4 x)) 252 (0,0))∧Below w.heap.size w w2 from
  ⟨o2.arr H1.out.1 (by omega),o2.arr H1.out.2.1 (by omega),h2,H1.out.2.2.2.trans (o2.bel _ (by omega))⟩)
 clear h2 o2 H1
 go_wp2_with (first
  | (with_reducible refine wpList_load_row (o:=⟨some 15,_,_,_,_,_⟩) rfl 58 _ rfl w.heap.size rfl 58 (aF k) (0,0) _ H2.out.1 Tryz.underlying58 rfl SK.out ?_)
  | (with_reducible refine wpList_load_row (o:=⟨some 16,_,_,_,_,_⟩) rfl 252 _ rfl (w.heap.size+1+1+1) rfl 252 (aF (n++qi 4 x)) (0,0) _ H2.out.2.2.1 Tryz.underlying252 rfl SB.out ?_))
 refine (ZM.out _).mono ?_
 rintro e w3 ⟨rfl,hb3⟩
 have H3:=hid (show w3.heap[w.heap.size+1+1]? = some (.cells (aF (aC 16)) 252 (0,0))∧Below w.heap.size w w3 from ⟨H2.out.2.1.below hb3 (Rk H2.out.2.1),H2.out.2.2.2.trans (hb3.mono H2.out.2.2.2.size)⟩)
 clear hb3 H2
 go_wp2_with (first
  | (with_reducible refine wpList_store_row (o:=⟨none,.store _ (.tmp 6) _,_,_,_,_⟩) rfl 252 _ _ rfl (w.heap.size+1+1) (aF F) rfl rfl 252 (aF (aC 16)) H3.out.1 SH.out SE.out (dJ _) ?_))
 refine bodyPost_ret (v := .agg (aF F)) (results_cell_row Tryz.results157 _ _ (w.heap.size+1+1) 252 (aF F) (0,0) _ rfl (setRow_heap _ (w.heap.size+1+1) _ (aF F) _ _ H3.out.1) Tryz.underlying252 rfl SH.out) rfl ⟨by rw [HF.out], ?_⟩
 exact aG H3.out.2 (by omega) _
end
section
open Go.RowKit
theorem Tc (g d n:Nat)(h:d<n)(W:World):(Instr.slice 62 (.slice (some ⟨g,0,none⟩) n n) (some (.int .i64 (d:Int))) none none).run Tryz.prog W = .ok (.slice (some ⟨g,d,none⟩) (n - d) (n - d)) W:=by
 obtain ⟨i0,hi0,hs⟩:=Option.map_eq_some_iff.1 sQ;have b:=fG d n .sliceB (by omega) W;have h2:¬ n=d:=by omega
 simp [Instr.slice,run_underlying Tryz.underlying62,Instr.sliceBounds,sizeOf,typeInfo,hi0,hs,Addr.add_mid,b,h2]
theorem Oi (g r:Nat)(hr:r<16)(W:World):(Instr.sliceAt 252 (.pointer (some ⟨g,0,none⟩)) (some (.int .i64 (r:Int))) none none).run Tryz.prog W = .ok (.slice (some ⟨g,r,none⟩) (16 - r) (16 - r)) W:=by
 have h:=BR g 0 r hr W;simpa using h
theorem XF:(Tryz.prog.info? 5).map (fun i=>(i.zero,i.size,i.bytes))=some (some (.int .u8 0),1,1):=by kernel_rfl
theorem Td (n:Nat)(h:n≤100000000)(w:World):(Instr.makeSlice 62 (.int .i64 (n:Int)) (.int .i64 (n:Int))).run Tryz.prog w = .ok (.slice (some ⟨w.heap.size,0,none⟩) n n) (w.alloc (.cells (aF (aC n)) 5)):=by
 rw [run_make_row' 62 5 (.int .u8 0) 1 Tryz.underlying62 XF rfl .i64 .i64 n (by omega) (by omega) w,XB]
theorem XG (a b c:Nat)(h:Nat.min a b=c)(ha:0<a)(hb:0<b):c≤a∧c≤b∧0<c:=by
 subst h; exact ⟨Nat.min_le_left _ _,Nat.min_le_right _ _,Nat.lt_min.2 ⟨ha,hb⟩⟩
theorem aeM {M ys:bY}{o j:Nat}(h:o+ys.length≤M.length)(hj:j<ys.length):(fK M o ys).getD (o+j) 0=ys.getD j 0:=by
 have h1:o≤M.length:=by omega
 simp only [fK,List.getD];rw [List.append_assoc,List.getElem?_append_right (by simp; omega),List.getElem?_append_left (by simp; omega)];simp [Nat.min_eq_left h1]
theorem Oj {M ys:bY}{o j:Nat}(h:o≤M.length)(hj:j<o):(fK M o ys).getD j 0=M.getD j 0:=by
 simp only [fK,List.getD];rw [List.append_assoc,List.getElem?_append_left (by simp; omega)];simp [hj]
theorem XH (k n:bY)(f s:Nat)(w:World)(hk:k.length=32)(hn:n.length=12)(hf:f≤65536)(hs:s≤65536) :
 Calls Tryz.prog 142 #[.agg (aF k),.agg (aF n),.int .i64 (f:Int),.int .i64 (s:Int)] w fun e w'=>e = .returned (.tuple #[.slice (some ⟨w.heap.size+1+1,0,none⟩) s s,.int .i64 0])∧aU w' (w.heap.size+1+1) 5 (Io (keysL k) n f s)∧Below w.heap.size w w':=by
 have Ap:=hid hk
 have AL:=hid hn
 have SK:=hid (rC k hk)
 have SN:=hid (x8 n hn)
 have hmk:=Td s (by omega)
 have fI:(f:Int)≤65536:=by omega
 have sI:(s:Int)≤65536:=by omega
 have d1:decide ((f:Int)<0)=false:=by simp
 have d2:decide ((65536:Int)<(f:Int))=false:=by simp; omega
 have d3:decide ((s:Int)<0)=false:=by simp
 have d4:decide ((65536:Int)<(s:Int))=false:=by simp; omega
 have HFS:=hid (And.intro hf hs)
 clear hk hn hf hs
 go_in
 go_upto_region 4 with fail
 clear hmk d1 d2 d3 d4
 have h3:=AQ w (.cells (aF k) 58) (.cells (aF n) 209) (.cells (aF (aC s)) 5)
 generalize hW0:World.alloc (World.alloc (World.alloc w _) _) _=W0
 have h0:aU W0 w.heap.size 58 k∧aU W0 (w.heap.size+1) 209 n∧aU W0 (w.heap.size+1+1) 5 (aC s)∧Below w.heap.size w W0:=by
  rw [← hW0]; exact ⟨h3.1,h3.2.1,h3.2.2.1,h3.2.2.2.2⟩
 have H0:=hid h0
 clear h3 hW0 h0
 obtain ⟨T,hT⟩:∃ y,keysL k=y:=⟨_,rfl⟩
 have hTL:T.length=240:=by rw [← hT]; exact lF k Ap.out
 have HC:=hid (show ∀ (x:Nat) (w:World),x<4294967296→Calls Tryz.prog 157 #[.agg (aF k),.agg (aF n),.int .i64 (x:Int)] w fun e w'=>e = .returned (.agg (aF (ry T (n++qi 4 x))))∧Below w.heap.size w w' from fun (x:Nat) (w:World) hx=>by rw [← hT]; exact Oh k n x w Ap.out AL.out hx)
 have Aq:=hid hT
 have kZ:=hid hTL
 clear hT hTL
 generalize hP0:w.heap.size=P0 at *
 have yS:=hid hP0
 clear hP0
 go_wp2_with fail
 go_loopw [11] (fun v11 wr=>∃ (d:Nat) (R:bY),d≤s∧v11 = .int .i64 (d:Nat)∧R.length=s∧(∀ j,j<d→R.getD j 0=XA T n (f+j))∧aU wr (P0+1+1) 5 R∧Below (P0+1+1) W0 wr) (fun v _=>s - (intOf v).toNat)
 case atStart=>exact ⟨0,aC s,by omega,rfl,by simp [aC],fun j hj=>by omega,H0.out.2.2.1,Below.refl _ _⟩
 case round =>
  obtain ⟨d,R,hd,rfl,hRL,hRT,hA,hb⟩:=hrel;by_cases hlt:d<s
  ·obtain ⟨p,hp,hp2⟩:∃ p:Nat,(f:Int)+(d:Int)=(p:Int)∧f+d=p:=⟨f+d,by omega,rfl⟩
   obtain ⟨q,hq,hq2⟩:∃ q:Nat,(p:Int) / 16=(q:Int)∧p / 16=q:=⟨p / 16,by omega,rfl⟩
   obtain ⟨r,hr,hr2⟩:∃ r:Nat,(p:Int) % 16=(r:Int)∧p % 16=r:=⟨p % 16,by omega,rfl⟩
   have hfs:=HFS.out;have HC1:=hid (fun w=>HC.out q w (by omega));have hbl:=sO T (n++qi 4 q) kZ.out;have HSB:=hid (show ∀ j,j<16 - r→(ry T (n++qi 4 q)).getD (r+j) 0=XA T n (p+j) from fun j hj=>by
    unfold XA;rw [show (p+j) / 16=q by omega,show (p+j) % 16=r+j by omega])
   generalize ry T (n++qi 4 q)=B at *;have EH:=hid hbl;have SB:=hid (dE B hbl);have EB:=hid (show (aF (aC 16)).size=(aF B).size by rw [aN,aN,hbl]; simp [aC]);have HK:=hid (show wr.heap[P0]? = some (.cells (aF k) 58 (0,0)) from H0.out.1.below hb (by omega));have HN:=hid (show wr.heap[P0+1]? = some (.cells (aF n) 209 (0,0)) from H0.out.2.1.below hb (by omega));have HP:=hid (And.intro hp2 (And.intro hq2 (And.intro hr2 hlt)));have HRL:=hid hRL;have HRT:=hid hRT;have HA:=hid hA;have HB2:=hid hb;have dI:(d:Int)<(s:Int):=by omega
   have pI:(p:Int)≤131072:=by omega
   have p0:(0:Int)≤(p:Int):=by omega
   clear hd hlt hRL hRT hA hb hp2 hq2 hr2 hfs hbl;go_wp2_with (first
    | (with_reducible refine wpList_load_row (o:=⟨some 36,_,_,_,_,_⟩) rfl 58 _ rfl P0 rfl 58 (aF k) (0,0) _ HK.out Tryz.underlying58 rfl SK.out ?_)
    | (with_reducible refine wpList_load_row (o:=⟨some 37,_,_,_,_,_⟩) rfl 209 _ rfl (P0+1) rfl 209 (aF n) (0,0) _ HN.out Tryz.underlying209 rfl SN.out ?_))
   refine (HC1.out _).mono ?_;rintro e w4 ⟨rfl,hb4⟩;have H4:=hid (show aU w4 (P0+1+1) 5 R∧Below (P0+1+1) W0 w4 from ⟨HA.out.below hb4 (Rk HA.out),HB2.out.trans (hb4.mono (Nat.le_of_lt (Rk HA.out)))⟩);clear hb4 HK HN HA HB2 HC1;go_upto_region 8 with (first
    | (with_reducible refine wpList_store_row (o:=⟨none,.store _ (.tmp 13) _,_,_,_,_⟩) rfl 252 _ _ rfl w4.heap.size (aF B) rfl rfl 252 (aF (aC 16)) (heap_alloc_new w4 _) SB.out EB.out (dJ _) ?_))
   generalize hW5:World.setRow _ w4.heap.size _=W5;have h5:aU W5 (P0+1+1) 5 R∧aU W5 w4.heap.size 252 B∧Below (P0+1+1) W0 W5∧P0+1+1<w4.heap.size:=by
    obtain ⟨e1,e2,e3⟩:=uV (w:=w4) (old:=aF (aC 16)) (cs:=aF B) (T:=252);rw [← hW5];exact ⟨H4.out.1.below e3 (Rk H4.out.1),e1,H4.out.2.trans (e3.mono (Nat.le_of_lt (Rk H4.out.1))),Rk H4.out.1⟩
   have H5:=hid h5;clear hW5 h5 H4;generalize w4.heap.size=X at *;obtain ⟨c,hc⟩:∃ c,Nat.min (16 - r) (s - d)=c:=⟨_,rfl⟩
   have hpq:=HP.out;have hc1:c≤16 - r∧c≤s - d∧0<c:=XG _ _ _ hc (by omega) (by omega);have hbl:=EH.out;obtain ⟨ys,hys⟩:∃ ys,(B.drop r).take c=ys:=⟨_,rfl⟩
   have hyl:ys.length=c:=by rw [← hys]; simp [hbl]; omega
   have HYT:=hid (show ∀ j,j<c→ys.getD j 0=XA T n (p+j) from fun j hj=>by
    rw [← HSB.out j (by omega),← hys];have:r+j<B.length:=by omega
    simp [List.getD,hj,this])
   have hrg:=H5.out.2.1.range r c;rw [hys] at hrg;have lW:=hid (show ∀ j v,(aF ys).toList[j]? = some v→W5.drew.cell? ((⟨X,r,none⟩:Addr).add j)=some v from fun j v hv=>by rw [Addr.add_mid]; exact hrg j v hv);have hcl:(aF ys).toList.length=c:=by rw [Array.length_toList,aN,hyl]
   have Il:=hid (show (aF ys).toList.length=Nat.min (16 - r) (s - d)∧d+(aF ys).toList.length≤(aF R).toList.length∧∀ v ∈ (aF ys).toList,v.oneCell'=true from
    ⟨by rw [hcl,hc],by rw [hcl,Array.length_toList,aN,HRL.out]; omega,fun v hv=>Array.all_eq_true_iff_forall_mem.1 (dJ ys) v (by simpa using hv)⟩)
   have VB:=hid (show W5.drew.heap[P0+1+1]? = some (.cells (aF R).toList.toArray 5 (0,0)) from H5.out.1);have hsl:=Tc (P0+1+1) d s (by omega);have hsb:=Oi X r (by omega);have HY:=hid (And.intro hyl hc1);have KW:=hid hcl;have hwm:(p:Int).tmod 16=(r:Int):=by rw [Int.tmod_eq_emod_of_nonneg (by omega)]; exact hr
   have rI:(r:Int)<16:=by omega
   have r0:(0:Int)≤(r:Int):=by omega
   have Nz:=hid (show IntKind.i64.wrap ((d:Int)+((aF ys).size:Int))=((d+c:Nat):Int) by rw [aN,hyl,IntWalk.i64_in _ (by omega)]; omega);clear hpq hc hc1 hbl hys hyl hrg hcl hq hp;go_region_held3 (fun _=>True) (exact trivial)
    ((refine sV rfl (.tmp 44) (.tmp 47) 62 62 (by rfl) 5 Tryz.underlying62 sQ (P0+1+1) d (s - d) (s - d) ⟨X,r,none⟩ (16 - r) (16 - r) (by rfl) (by rfl) (aF R).toList 5 VB.out (aF ys).toList Il.out.1 lW.out Il.out.2.1 Il.out.2.2 ?_))
   rw [zi,Nz.out];clear hsl hsb hwm hr;go_wp2_with fail;go_roundw
   case rel =>
    have hY:=HY.out;have hL:=HRL.out;have hP:=HP.out;refine ⟨d+c,fK R d ys,by omega,rfl,by rw [jy _ _ _ (by omega)]; exact hL, ?_,setRow_heap W5.drew (P0+1+1) _ _ _ (0,0) VB.out,aG H5.out.2.2.1.drew (Nat.le_refl _) _⟩;intro j hj;by_cases h:j<d
    ·rw [Oj (by omega) h]; exact HRT.out j h
    obtain ⟨t,rfl⟩:∃ t,j=d+t:=⟨j - d,by omega⟩
    rw [show f+(d+t)=p+t by omega,aeM (by omega) (by omega),HYT.out t (by omega)]
   case measure =>
    have hY:=HY.out;have hP:=HP.out;simp [intOf]; omega
  obtain rfl:d=s:=by omega
  have amb:R=Io T n f d:=by
   apply List.ext_getElem (by rw [hRL,qp]);intro j h1 h2;have h:=hRT j (by omega);rw [← aeK T n f d j (by omega)] at h;simpa [List.getD,h1,h2] using h
  rw [amb] at hA;have HA:=hid hA;have HB2:=hid (H0.out.2.2.2.trans (hb.mono (show P0≤P0+1+1 by omega)));clear hRL hRT hA hb amb hd hlt;go_wp2_with fail;go_ret2;exact ⟨by rw [yS.out]; rfl,by rw [yS.out,Aq.out]; exact HA.out,by rw [yS.out]; exact HB2.out⟩
end
section
open Go.RowKit
theorem BS.amc {w:World}{a:bO}{n cap:Nat}{l:bY}(h:BS w (.slice a n cap) (l.map yv))(hl:l.length=n){i:Nat}(hi:i<n) :
 ∃ b off,a=some ⟨b,off,none⟩∧b<w.heap.size∧w.cell? ⟨b,off+i,none⟩=some (.int .u8 (yv (l.getD i 0))):=by
 obtain ⟨a',cap',hv,hy,hn,h⟩:=h
 injection hv with e1 e2 e3
 rcases h with h | ⟨b,off,ha,hc⟩
 ·have:l=[]:=List.map_eq_nil_iff.1 h
  subst this;simp at hl; omega
 ·have hc:=hc i (by simpa [hl] using hi)
  refine ⟨b,off,e1.trans ha,block_lt_of_cell hc, ?_⟩;rw [hc];have:i<l.length:=by omega
  simp [List.getD,this]
theorem Tf (f:Nat→BitVec 8)(s:bY)(k i:Nat)(hi:i<s.length):(fB id f k s)[i]? = some (if i<k then f i else s.getD i 0):=by
 induction k with
 | zero=>simp [fB,List.getD,hi]
 | succ k ih =>
   have hlen:=dD id f k s;show ((fB id f k s).set k (f k))[i]? = _;by_cases h:k=i
   ·subst h
    have h1:k<(fB id f k s).length:=by omega
    rw [List.getElem?_set_self h1,if_pos (by omega)]
   rw [List.getElem?_set_ne h,ih];by_cases h2:i<k
   ·rw [if_pos h2,if_pos (by omega)]
   rw [if_neg h2,if_neg (by omega)]
theorem aaP (s l:bY)(n:Nat)(hs:s.length=n)(hl:l.length=n):fB id (fun i=>s.getD i 0 ^^^ l.getD i 0) n s=mg l s:=by
 apply List.ext_getElem?;intro i;by_cases hi:i<n
 ·rw [Tf _ _ _ _ (by omega),if_pos hi]
  have i1:i<s.length:=by omega
  have i2:i<l.length:=by omega
  simp [mg,List.getElem?_zipWith,List.getD,i1,i2,BitVec.xor_comm]
 rw [List.getElem?_eq_none (by rw [dD]; omega),List.getElem?_eq_none (by rw [iQ l s n hl hs]; omega)]
theorem aaQ (k n l:bY)(a:bO)(len cap:Nat)(w:World)(hB:BS w (.slice a len cap) (l.map yv))(hl:l.length=len)(hle:len≤65536)(hk:k.length=32)(hn:n.length=12) :
 Calls Tryz.prog 116 #[.agg (aF k),.agg (aF n),.slice a len cap] w fun e w'=>e = .returned (.tuple #[.slice (some ⟨w.heap.size+1+1+1+1,0,none⟩) len len,.int .i64 0])∧aU w' (w.heap.size+1+1+1+1) 5 (mg l (Io (keysL k) n 0 len))∧Below w.heap.size w w':=by
 obtain ⟨S,hS⟩:∃ y,Io (keysL k) n 0 len=y:=⟨_,rfl⟩
 have hsl:S.length=len:=by rw [← hS,qp]
 have HC:=hid (fun w=>by have h:=XH k n 0 len w hk hn (by omega) hle; rw [hS] at h; exact h)
 have HX:=hid (aaP S l len hsl hl)
 have Ip:=hid hS
 have DN:=hid hsl
 have HB0:=hid hB
 have HL:=hid hl
 have SK:=hid (rC k hk)
 have SN:=hid (x8 n hn)
 have lI:(len:Int)≤65536:=by omega
 clear hS hsl hB hl hle hk hn
 go_in
 go_wp2_with (first
  | (with_reducible refine wpList_load_row (o:=⟨some 13,_,_,_,_,_⟩) rfl 58 _ rfl w.heap.size rfl 58 (aF k) (0,0) _ (rE w _ _).1 Tryz.underlying58 rfl SK.out ?_)
  | (with_reducible refine wpList_load_row (o:=⟨some 14,_,_,_,_,_⟩) rfl 209 _ rfl (w.heap.size+1) rfl 209 (aF n) (0,0) _ (rE w _ _).2.1 Tryz.underlying209 rfl SN.out ?_))
 obtain ⟨_,_,hsz,hbel⟩:=rE w (.cells (aF k) 58) (.cells (aF n) 209)
 have hc:=HC.out ((w.alloc (.cells (aF k) 58)).alloc (.cells (aF n) 209))
 rw [show ((w.alloc (.cells (aF k) 58)).alloc (.cells (aF n) 209)).heap.size+1+1=w.heap.size+1+1+1+1 by rw [hsz]] at hc
 refine hc.mono ?_
 clear hc HC
 rintro e w1 ⟨rfl,hA1,hb1⟩
 rw [hsz] at hb1
 have HA1:=hid hA1
 have HB1:=hid (hbel.trans (hb1.mono (by omega)))
 clear hsz hbel hb1 hA1
 generalize hP0:w.heap.size+1+1+1+1=P at *
 have yS:=hid hP0
 clear hP0
 go_wp2_with fail
 go_loopw [25] (fun v25 wr=>∃ i:Nat,i≤len∧v25 = .int .i64 (i:Nat)∧aU wr P 5 (fB id (fun i=>S.getD i 0 ^^^ l.getD i 0) i S)∧Below w.heap.size w wr) (fun v _=>len - (intOf v).toNat)
 case atStart=>exact ⟨0,by omega,rfl,HA1.out,HB1.out⟩
 case round =>
  obtain ⟨i,hi,rfl,hA,hb⟩:=hrel;by_cases hlt:i<len
  ·obtain ⟨b,off,rfl,hblt,hcb⟩:=HB0.out.amc HL.out hlt
   have hcx:wr.cell? ⟨b,off+i,none⟩=some (.int .u8 (yv (l.getD i 0))):=by rw [hb.cell (p:=⟨b,off+i,none⟩) hblt]; exact hcb
   have ci:=hA.cell (k:=i) (by rw [dD,DN.out]; exact hlt);rw [DL] at ci;have fi:=hA.free i;have hx:=AO (S.getD i 0) (l.getD i 0);have HST:=hid (show fB id (fun i=>S.getD i 0 ^^^ l.getD i 0) (i+1) S=(fB id (fun i=>S.getD i 0 ^^^ l.getD i 0) i S).set i (S.getD i 0 ^^^ l.getD i 0) from rfl);generalize hM2:fB id (fun i=>S.getD i 0 ^^^ l.getD i 0) (i+1) S=M2 at *;have HM2:=hid hM2;clear hM2;generalize fB id (fun i=>S.getD i 0 ^^^ l.getD i 0) i S=M at *;generalize S.getD i 0=x at *;generalize l.getD i 0=y at *;have HA:=hid hA;have HB2:=hid hb;have bn:=hid hlt;have iI:(i:Int)<(len:Int):=by omega
   have i0:(0:Int)≤(i:Int):=by omega
   clear hA hb hi hlt hcb hblt;go_wp2_with fail;go_roundw
   case rel=>exact ⟨i+1,by have:=bn.out; omega,by go_num,by rw [HM2.out,HST.out]; exact HA.out.set i _,HB2.out.setCell (p:=⟨P,i,none⟩) (show w.heap.size≤P by have:=yS.out; omega) _⟩
   case measure=>simp [intOf]; omega
  obtain rfl:i=len:=by omega
  rw [HX.out] at hA;have HA:=hid hA;have HB2:=hid hb;clear hA hb hi hlt;go_wp2_with fail;go_ret2;exact ⟨by rw [yS.out]; rfl,by rw [yS.out,Ip.out]; exact HA.out,HB2.out⟩
end
section
open Go.RowKit
end
section
open Go.ChangeShapes Go.WideShapes Go.ChangeAt Go.RowKit
section
variable {H:Type} {enc:TypeId×Value→H}
end
section
variable {H:Type} {enc:TypeId×Value→H}
end
section
variable {H:Type} {enc:TypeId×Value→H}
end
section
variable {H:Type} {enc:TypeId×Value→H}
end
section
variable {H:Type} {enc:TypeId×Value→H}
end
section
variable {H:Type} {enc:TypeId×Value→H}
end
section
variable {H:Type} {enc:TypeId×Value→H}
end
end
section
open Go.ChangeShapes Go.WideShapes Go.ChangeAt Go.RowKit
theorem uz {H:Type}{P:Program}{e:TypeId}:∀ {l:List (DataW H)} {d:DataW H} {n:Nat},d ∈ l→n ∈ d.weights P e→n ∈ DataW.weightsAll P e l
 | x::r,d,n,hd,hn=>by
   simp only [DataW.weightsAll,List.mem_append];rcases List.mem_cons.1 hd with h | h
   ·subst h; exact .inl hn
   exact .inr (uz h hn)
def Opn {α:Type}(T:TypeId)(R:World→α→List Value→Prop):Prop :=
 ∀ (H:Type) (enc:TypeId×Value→H) (W:World) (fuel:Nat) (cs:List Value) (y:DataW H×List MemPlace),DataW.trod enc Tryz.prog W 0 (fun _=>true) true fuel T cs=some y →
   (∀ n ∈ DataW.weights Tryz.prog T y.1,n≤reachBytes)→∃ a:α,R W a cs
def api (k:IntKind)(lo hi:Int):World→Int→List Value→Prop:=fun _ n cs=>cs=[.int k n]∧lo≤n∧n≤hi
theorem VE {T:TypeId}(k:IntKind)(lo hi:Int)(hu:Tryz.prog.underlying T=some (.int k))(hb:∀ n,(Lit.int k n).wf=true→lo≤n∧n≤hi):Opn T (api k lo hi):=by
 intro H enc W fuel cs y h _;obtain ⟨n,h1,_,h3⟩:=DataW.trod_int hu h;exact ⟨n,h1,(hb n h3).1,(hb n h3).2⟩
theorem wf_i64 (n:Int)(h:(Lit.int .i64 n).wf=true) : -9223372036854775808≤n∧n≤9223372036854775807:=by simp [Lit.wf,IntKind.min,IntKind.max,IntKind.signed,IntKind.bits] at h; omega
theorem wf_u8 (n:Int)(h:(Lit.int .u8 n).wf=true):0≤n∧n≤255:=by simp [Lit.wf,IntKind.min,IntKind.max,IntKind.signed,IntKind.bits] at h; omega
def apj:World→ByteArray→List Value→Prop:=fun _ s cs=>cs=[.string s]∧s.size≤140737488351232
theorem VF {T:TypeId}(hu:Tryz.prog.underlying T=some .string):Opn T apj:=by
 intro H enc W fuel cs y h hw;obtain ⟨s,h1,h2,_⟩:=DataW.trod_string hu h;refine ⟨s,h1, ?_⟩;have:=hw s.data.toList.length (by rw [h2]; simp [DataW.weights]);unfold reachBytes at this;exact this
structure SlR {α:Type}(R:World→α→List Value→Prop)(size:Nat)(W:World)(l:List α)(a:bO)(n c:Nat):Prop where
 len:l.length=n
 cap:n≤c
 big:c≤140737488351232
 here:∀ i (h:i<l.length),∃ b off cs,a=some ⟨b,off,none⟩∧R W l[i] cs∧cs.length=size∧W.rangeAt b (off+i * size) cs
def RSl {α:Type}(R:World→α→List Value→Prop)(size:Nat):World→List α→List Value→Prop:=fun W l cs=>∃ a n c,cs=[.slice a n c]∧SlR R size W l a n c
theorem XI {α:Type}{T E:TypeId}{R:World→α→List Value→Prop}(size:Nat)(hu:Tryz.prog.underlying T=some (.slice E))(hc:Tryz.prog.cellsOf E=size)(h0:1≤size)(hby:1≤Tryz.prog.bytesOf E)(op:Opn E R):Opn T (RSl R size):=by
 intro H enc W fuel cs y hf hw;rcases DataW.trod_slice hu hf with ⟨rfl,_⟩ | ⟨x,l,c,elems,rest,n,_,rfl,hx,hb,hl,hm,hlen,hel,hsp,hns⟩
 ·exact ⟨[],none,0,0,rfl,rfl,Nat.le_refl _,by omega,fun i h=>by simp at h⟩
 have hd:=congrArg Prod.fst hx;dsimp only at hd;have hrest:=(hsp rfl).1;have hbig:c≤140737488351232:=by
  have h1:=hw ((elems.map (·.1)).length+(rest.map (·.1)).length |> (· * Tryz.prog.bytesOf E)) (by rw [hd]; simp only [DataW.weights,hu]; exact List.mem_cons_self ..);have h2:=Nat.le_trans (Nat.mul_le_mul_left _ hby) h1;simp only [List.length_map,reachBytes,Nat.mul_one] at h2;omega
 have each:∀ i:Fin l,∃ a:α,∃ b off cs',some x=some ⟨b,off,none⟩∧R W a cs'∧cs'.length=size∧W.rangeAt b (off+i.val * size) cs':=by
  intro i;have hie:i.val<elems.length:=by omega
  have h1:=hel i.val i.isLt;rw [hc,List.getElem?_eq_getElem hie,Option.bind_eq_some_iff] at h1;obtain ⟨cs',h2,h3⟩:=h1;obtain ⟨_,hln,hcell⟩:=World.cells?_some h2;have hmem:(elems[i.val]).1 ∈ elems.map (·.1):=List.mem_map.2 ⟨_,List.getElem_mem hie,rfl⟩;obtain ⟨a,ha⟩:=op H enc W n cs' _ h3 (fun m hm=>hw m (by rw [hd]; simp only [DataW.weights,hu]; exact List.mem_cons_of_mem _ (List.mem_append_left _ (uz hmem hm))));obtain ⟨b,off,spot⟩:=x;have hspot:spot=none:=by
   have h10:=hel 0 (by omega);rw [hc,List.getElem?_eq_getElem (by omega),Option.bind_eq_some_iff] at h10;obtain ⟨cs0,h20,_⟩:=h10;obtain ⟨_,atB,hcell0⟩:=World.cells?_some h20;have q:=hcell0 0 (by omega);rw [List.getElem?_eq_getElem (by omega)] at q;simpa [Addr.add] using World.cell?_spot q
  subst hspot;refine ⟨a,b,off,cs',rfl,ha,hln, ?_⟩;intro j u hj;have hjl:j<size:=by
   have:=(List.getElem?_eq_some_iff.1 hj).1;omega
  have e:=hcell j hjl;rw [Addr.add_mid,Addr.add_mid] at e;rw [e,hj]
 obtain ⟨f,hf2⟩:=Classical.axiomOfChoice each;refine ⟨List.ofFn f,some x,l,c,rfl,by simp,hl,hbig,fun i h=>?_⟩;have hi:i<l:=by simpa using h
 obtain ⟨b,off,cs',h1,h2,h3,h4⟩:=hf2 ⟨i,hi⟩;refine ⟨b,off,cs',h1, ?_,h3,h4⟩;rw [List.getElem_ofFn];exact h2
theorem XJ {H:Type}{enc:TypeId×Value→H}{α:Type}{T:TypeId}{R:World→α→List Value→Prop}(op:Opn T R){W:World}{v:Value}{d:DataW H}{p:List MemPlace}{ts:List TypeId}{ds:List (DataW H)}{j:Nat}(h:∃ fuel,DataW.trod enc Tryz.prog W 0 (fun _=>true) true fuel T v.cells.toList=some (d,p))
 (hsz:(DataW.weightsEach Tryz.prog ts ds).all (· ≤ reachBytes)=true) (ht:ts[j]? = some T) (hd:ds[j]? = some d):∃ a,R W a v.cells.toList:=by
 obtain ⟨fuel,hf⟩:=h
 exact op H enc W fuel _ _ hf (fun n hn=>by simpa using List.all_eq_true.1 hsz n (DataW.weights_mem_each ht hd n hn))
section
variable {H:Type} {enc:TypeId×Value→H} {W:World} {base:Nat} {v:Value} {d:DataW H} {p:List MemPlace} {ts:List TypeId} {ds:List (DataW H)} {j:Nat}
theorem Jb {α:Type}{T E:TypeId}{R:World→α→List Value→Prop}{size:Nat}(hu:Tryz.prog.underlying T=some (.slice E))(op:Opn T (RSl R size))(hok:Value.okWide Tryz.prog W .any base T v)(h:∃ fuel,DataW.trod enc Tryz.prog W 0 (fun _=>true) true fuel T v.cells.toList=some (d,p))
 (hsz:(DataW.weightsEach Tryz.prog ts ds).all (· ≤ reachBytes)=true) (ht:ts[j]? = some T) (hd:ds[j]? = some d):∃ l a n c,v = .slice a n c∧SlR R size W l a n c:=by
 obtain ⟨a0,len0,cap0,rfl⟩:=okWide_slice hu hok
 obtain ⟨l,a,n,c,h1,h2⟩:=XJ op h hsz ht hd
 simp [Value.cells] at h1
 obtain ⟨rfl,rfl,rfl⟩:=h1
 exact ⟨l,_,_,_,rfl,h2⟩
theorem aeO {T:TypeId}(k:IntKind)(lo hi:Int)(hu:Tryz.prog.underlying T=some (.int k))(hb:∀ n,(Lit.int k n).wf=true→lo≤n∧n≤hi)(hok:Value.okWide Tryz.prog W .any base T v)(h:∃ fuel,DataW.trod enc Tryz.prog W 0 (fun _=>true) true fuel T v.cells.toList=some (d,p))
 (_hsz:(DataW.weightsEach Tryz.prog ts ds).all (· ≤ reachBytes)=true) (_ht:ts[j]? = some T) (_hd:ds[j]? = some d):∃ n:Int,v = .int k n∧lo≤n∧n≤hi:=by
 obtain ⟨n,rfl,_,_,hw⟩:=open_int hu hok h
 exact ⟨n,rfl,(hb n hw).1,(hb n hw).2⟩
end
end
section
open Go.RowKit
theorem wG (W:World)(a:bO)(len cap lo hi:Nat)(l:bI)(hB:BS W (.slice a len cap) l)(hl:l.length=len)(h1:lo≤hi)(h2:hi≤len)(h3:len≤cap) :
 ∃ a2:bO,(∀ W',(Instr.slice 62 (.slice a len cap) (some (.int .i64 (lo:Int))) (some (.int .i64 (hi:Int))) none).run Tryz.prog W' = .ok (.slice a2 (hi - lo) (cap - lo)) W') ∧
   (hi=len→∀ W',(Instr.slice 62 (.slice a len cap) (some (.int .i64 (lo:Int))) none none).run Tryz.prog W' = .ok (.slice a2 (hi - lo) (cap - lo)) W') ∧
   (lo=0→∀ W',(Instr.slice 62 (.slice a len cap) none (some (.int .i64 (hi:Int))) none).run Tryz.prog W' = .ok (.slice a2 (hi - lo) (cap - lo)) W') ∧
   BS W (.slice a2 (hi - lo) (cap - lo)) ((l.drop lo).take (hi - lo)):=by
 obtain ⟨i0,hi0,hs⟩:=Option.map_eq_some_iff.1 sQ
 obtain ⟨a',cap',he,hy,hn,hc⟩:=hB
 injection he with e1 e2 e3
 subst e1; subst e3
 have hlen:((l.drop lo).take (hi - lo)).length=hi - lo:=by rw [List.length_take,List.length_drop]; omega
 have hyy:gm ((l.drop lo).take (hi - lo)):=fun z hz=>hy z (List.mem_of_mem_drop (List.mem_of_mem_take hz))
 refine ⟨if cap=lo then a else a.map (·.add (lo * 1)), ?_, ?_, ?_, ?_⟩
 ·intro W'
  have b1:=fG hi cap .sliceAcap (by omega) W';have b2:=fG lo hi .sliceB h1 W';simp [Instr.slice,run_underlying Tryz.underlying62,Instr.sliceBounds,sizeOf,typeInfo,hi0,hs,b1,b2]
 ·rintro rfl W'
  have b2:=fG lo hi .sliceB h1 W';simp [Instr.slice,run_underlying Tryz.underlying62,Instr.sliceBounds,sizeOf,typeInfo,hi0,hs,b2]
 ·rintro rfl W'
  have b1:=fG hi cap .sliceAcap (by omega) W';simp [Instr.slice,run_underlying Tryz.underlying62,Instr.sliceBounds,sizeOf,typeInfo,hi0,b1]
 ·refine ⟨_,_,by rw [hlen],hyy, ?_, ?_⟩
  ·intro hnone
   cases a with
   | none=>have:=hn rfl; omega
   | some x =>
     by_cases h:cap=lo
     ·omega
     simp [h] at hnone
  by_cases h0:(l.drop lo).take (hi - lo)=[]
  ·exact .inl h0
  right;have hpos:0<hi - lo:=by rw [← hlen]; exact List.length_pos_iff.2 h0
  rcases hc with hc | ⟨b,off,rfl,hc⟩
  ·subst hc; simp at hl; omega
  refine ⟨b,off+lo, ?_,fun i hi'=>?_⟩
  ·rw [if_neg (by omega)]
   simp [Addr.add_mid]
  rw [hlen] at hi';have:=hc (lo+i) (by omega);rw [← Nat.add_assoc] at this;rw [this,List.getD_eq_getElem?_getD,List.getD_eq_getElem?_getD,List.getElem?_take,if_pos hi',List.getElem?_drop]
theorem Ti (a b:bY)(h:a.length=b.length):mg (mg a b) b=a:=by
 apply List.ext_getElem
 ·simp [mg,h]
 intro i h1 h2;simp [mg,BitVec.xor_assoc]
theorem aj {P:Program}{fn:Func}{p q:Tmp}{ty:TypeId}(h:fn.results=#[.cell p ty,.tmp q])(tmps:Array Value)(w:World)(g:Nat)(t:TypeId)(cs:Array Value)(fr:Nat×Nat)(d:TypeDesc)
 (hp:tmps.getD p undef = .pointer (some ⟨g,0,none⟩)) (hg:w.heap[g]? = some (.cells cs t fr))
 (hu:P.underlying ty=some d) (hd:(match d with | .struct _ | .array _ _=>true | _=>false)=true) (hi:(P.info? ty).map (·.size)=some cs.size) (v:Value) (hv:tmps.getD q undef=v) :
 (results fn tmps).run P w = .ok (.tuple #[.agg cs,v]) w:=by
 have hp':tmps[p]?.getD undef = .pointer (some ⟨g,0,none⟩):=by simpa using hp
 have hv':tmps[q]?.getD undef=v:=by simpa using hv
 simp [results,h,hp',hv',asAddr,run_loadVar_row w g t ty cs fr d hg hu hd hi]
theorem Iq {P:Program}{ops:Array Oper}{rest:List Oper}{o:Oper}{a:Act}{w:World}{Q:Exit→Act→World→Prop}(hgd:o.guard=none)(d s:Operand)(dT sT:TypeId)
 (ho:o.op = .call { callee := .builtin .copy,args:=#[d,s],argTypes:=#[dT,sT] }) (elem:TypeId) (hu:P.underlying dT=some (.slice elem)) (hsz:(P.info? elem).map (·.size)=some 1)
 (g off dLen dCap:Nat) (ad:Addr) (sLen sCap:Nat) (hd:a.eval d = .slice (some ⟨g,off,none⟩) dLen dCap) (hs:a.eval s = .slice (some ad) sLen sCap)
 (cur:List Value) (t:TypeId) (hg:w.heap[g]? = some (.cells cur.toArray t (0,0))) (cs:List Value) (hn:cs.length=Nat.min sLen dLen)
 (hsrc:∀ j v,cs[j]? = some v→w.cell? (ad.add j)=some v) (hfit:off+cs.length≤cur.length) (h1:∀ v ∈ cs,v.oneCell'=true)
 (h:wpList P ops Q rest (a.put o.dst (goInt cs.length)) (w.setRow g (List.take off cur++(cs++List.drop (off+cs.length) cur)).toArray)):wpList P ops Q (o::rest) a w:=by
 refine wpList_plain hgd fun K hK=>?_
 have hrun:=run_copy_row (P:=P) w dT sT o.type elem g off dLen dCap ad sLen sCap cur.toArray t cs hu hsz hg hn hsrc (by simpa using hfit) h1
 unfold Oper.wp
 simp [execOp,ho,resolve,invoke,builtin,hd,hs,hrun,Result.andThen]
 exact hK _ _ h
theorem jW {P:Program}{ops:Array Oper}{rest:List Oper}{o:Oper}{a:Act}{w:World}{Q:Exit→Act→World→Prop}(hw:Region.wanted o (yielded ops a.tmps)=true)(ty:TypeId)(x:Operand)(ho:o.op = .load ty x)
 (g:Nat) (hx:a.eval x = .pointer (some ⟨g,0,none⟩)) (t:TypeId) (cs:Array Value) (fr:Nat×Nat) (d:TypeDesc) (hg:w.heap[g]? = some (.cells cs t fr))
 (hu:P.underlying ty=some d) (hd:(match d with | .struct _ | .array _ _=>true | _=>false)=true) (hi:(P.info? ty).map (·.size)=some cs.size)
 (h:wpList P ops Q rest (a.put o.dst (.agg cs)) w):wpList P ops Q (o::rest) a w :=
 wpList_step fun _ hK=>by rw [if_pos hw]; exact wp_load_row ty x ho g hx t cs fr d hg hu hd hi (hK _ _ h)
end
end Go.Proofs.YtljjcbmkbmloaaaGreatDoor
