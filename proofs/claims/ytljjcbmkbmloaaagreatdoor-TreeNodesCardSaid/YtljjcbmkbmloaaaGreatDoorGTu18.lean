import Derived.Test.YtljjcbmkbmloaaaGreatDoorGTu17
import Derived.Lib.Overlaps
import Derived.Test.YtljjcbmkbmloaaaGreatDoorGTuA
namespace Go.Proofs.YtljjcbmkbmloaaaGreatDoor
set_option maxHeartbeats 3200000
set_option maxRecDepth 100000
set_option linter.unusedVariables false
section
open Lib (hid)
open Go.ChangeShapes Go.WideShapes Go.ChangeAt Go.RowKit
def aH (d:Nat)(L:Its d):List Value:=L.flatMap (kE d)
theorem dK (d:Nat)(a b:Its d):aH d (a++b)=aH d a++aH d b:=by simp [aH]
theorem lM (d:Nat)(x:bK (Kd d)):(kE d x).length=3:=rfl
theorem bu (d:Nat):∀ L:Its d,(aH d L).length=L.length * 3
 | []=>rfl
 | x::L=>by
   have:=bu d L;show (kE d x++aH d L).length=_;rw [List.length_append,this,lM,List.length_cons];omega
theorem zF (d:Nat)(x:bK (Kd d)):∀ v ∈ kE d x,v.oneCell'=true:=by
 intro v hv;simp only [kE,List.mem_cons,List.not_mem_nil,or_false] at hv;rcases hv with rfl | rfl | rfl <;> rfl
theorem mM (d:Nat)(L:Its d):∀ v ∈ aH d L,v.oneCell'=true:=by
 intro v hv;obtain ⟨x,_,hx⟩:=List.mem_flatMap.1 hv;exact zF d x v hx
structure OB (w:World)(g c d:Nat)(L:Its d):Prop where
 row:∃ rest:List Value,w.heap[g]? = some (.cells (aH d L++rest).toArray 129 (0,0))∧(aH d L++rest).length=c * 3
theorem OB.lt {w:World}{g c d:Nat}{L:Its d}(h:OB w g c d L):g<w.heap.size:=by obtain ⟨r,h1,_⟩:=h.row; exact lt_of_block h1
theorem OB.move {w w':World}{g c d:Nat}{L:Its d}(h:OB w g c d L)(e:w'.heap[g]? = w.heap[g]?):OB w' g c d L:=by
 obtain ⟨r,h1,h2⟩:=h.row;exact ⟨⟨r,e.trans h1,h2⟩⟩
theorem OB.below {w w':World}{g c d:Nat}{L:Its d}(h:OB w g c d L)(q:Below w.heap.size w w'):OB w' g c d L:=h.move (q.block g h.lt)
theorem OB.cap {w:World}{g c d:Nat}{L:Its d}(h:OB w g c d L):L.length≤c:=by
 obtain ⟨r,h1,h2⟩:=h.row;rw [List.length_append,bu] at h2;omega
theorem df {w:World}{g:Nat}{T:TypeId}{cs:List Value}(h:w.heap[g]? = some (.cells cs.toArray T (0,0)))(j:Nat)(v:Value)(hv:cs[j]? = some v):w.cell? ⟨g,j,none⟩=some v:=by
 simp only [World.cell?,h];simpa using hv
theorem OB.at3 {w:World}{g c d:Nat}{L:Its d}(h:OB w g c d L)(i:Nat)(x:bK (Kd d))(hx:L[i]? = some x):L8 w g (i * 3) d x:=by
 obtain ⟨r,h1,h2⟩:=h.row;obtain ⟨hi,rfl⟩:=List.getElem?_eq_some_iff.1 hx;have e:aH d L++r=aH d (L.take i)++(kE d L[i]++(aH d (L.drop (i+1))++r)):=by
  rw [show kE d L[i]=aH d [L[i]] by simp [aH],← List.append_assoc (aH d [L[i]]),← dK,← List.append_assoc,← dK];congr 2;simp [← List.drop_eq_getElem_cons hi]
 have hl:(aH d (L.take i)).length=i * 3:=by rw [bu,List.length_take]; congr 1; omega
 rw [e] at h1;have q:∀ j v,(kE d L[i])[j]? = some v→w.cell? ⟨g,i * 3+j,none⟩=some v:=fun j v hv=>by
  refine df h1 _ v ?_;rw [List.getElem?_append_right (by omega),hl,show i * 3+j - i * 3=j by omega,List.getElem?_append_left (List.getElem?_eq_some_iff.1 hv).1];exact hv
 exact ⟨by have:=q 0 _ rfl; simpa using this,q 1 _ rfl,q 2 _ rfl⟩
theorem OB.is {w:World}{g c d:Nat}{L:Its d}(h:OB w g c d L):IS w (some ⟨g,0,none⟩) L.length d L :=
 ⟨rfl,fun i x hx=>⟨g,0,rfl,by rw [Nat.zero_add]; exact h.at3 i x hx⟩⟩
theorem zG:(Tryz.prog.info? 129).map (·.size)=some 3:=by kernel_rfl
def bF (cur:List Value)(o:Nat)(cs:List Value):List Value:=cur.take o++cs++cur.drop (o+cs.length)
theorem iD {cur cs:List Value}{o:Nat}(h:o+cs.length≤cur.length):(bF cur o cs).length=cur.length:=by
 simp only [bF,List.length_append,List.length_take,List.length_drop]; omega
theorem nO (w:World)(ty:TypeId)(g o dLen dCap:Nat)(a:Addr)(sLen sCap:Nat)(cur cs:List Value)(n:Nat)
 (hg:w.heap[g]? = some (.cells cur.toArray 129 (0,0))) (hn:n=Nat.min sLen dLen) (hc:cs.length=n * 3)
 (hsrc:∀ j v,cs[j]? = some v→w.cell? (a.add j)=some v) (hfit:o+cs.length≤cur.length) (h1:∀ v ∈ cs,v.oneCell'=true) :
 (Builtin.copy_ #[121,121] ty #[.slice (some ⟨g,o,none⟩) dLen dCap,.slice (some a) sLen sCap]).run Tryz.prog w =
   .ok (.int .i64 (n:Nat)) (w.setRow g (bF cur o cs).toArray):=by
 have hl:=run_loadCells_list (P:=Tryz.prog) w a cs hsrc
 have hst:=run_storeCells_at Tryz.prog g o 129 cs 0 cur.toArray w hg (by simpa using hfit) h1
 obtain ⟨i,hq,hi⟩:=Option.map_eq_some_iff.1 zG
 simp only [Nat.add_zero] at hst
 simp [Builtin.copy_,run_underlying Tryz.underlying121,Builtin.lenOf,Builtin.firstCells,sizeOf,typeInfo,hq,hi,← hn,← hc,hl,hst,bF,goInt]
theorem Dz (w:World)(ty:TypeId)(d a:bO)(dLen dCap sLen sCap:Nat)(hn:Nat.min sLen dLen=0) :
 (Builtin.copy_ #[121,121] ty #[.slice d dLen dCap,.slice a sLen sCap]).run Tryz.prog w = .ok (.int .i64 (0:Nat)) w:=by
 obtain ⟨i,hq,hi⟩:=Option.map_eq_some_iff.1 zG
 have hl:∀ (x:Addr),(loadCells x 0).run Tryz.prog w = .ok #[] w:=fun x=>by simpa using run_loadCells_list (P:=Tryz.prog) w x [] (by simp)
 cases d <;> cases a <;> simp [Builtin.copy_,run_underlying Tryz.underlying121,Builtin.lenOf,Builtin.firstCells,sizeOf,typeInfo,hq,hn,storeCells,hl,goInt]
theorem qB {P:Program}{ops:Array Oper}{o:Oper}{a:Act}{w:World}{K:Act→World→Prop}{Q:Exit→Act→World→Prop}{E:Prop}
 (hg:o.guard=none) (d x:Operand) (dT sT:TypeId) (hop:o.op=Op.call { callee:=Callee.builtin Builtin.copy,args:=#[d,x],argTypes:=#[dT,sT] })
 (v u:Value) (hd:a.eval d=v) (hx:a.eval x=u) {v':Value} {w':World} (hr:(Builtin.copy_ #[dT,sT] o.type #[v,u]).run P w = .ok v' w') (hK:K (a.put o.dst v') w') :
 if Region.wanted o (yielded ops a.tmps)=true then Oper.wp P o a w K Q else E:=by
 have hw:Region.wanted o (yielded ops a.tmps)=true:=by simp [Region.wanted,hg]
 rw [if_pos hw]
 unfold Oper.wp
 simp [execOp,hop,resolve,invoke,builtin,hd,hx,hr,Result.andThen]
 exact hK
theorem OZ (cur cs r:List Value)(o:Nat)(h:o+r.length+cs.length≤cur.length):bF (bF cur (o+r.length) cs) o r=cur.take o++r++cs++cur.drop (o+r.length+cs.length):=by
 have e1:(bF cur (o+r.length) cs).take o=cur.take o:=by
  unfold bF;rw [List.append_assoc,List.take_append_of_le_length (by rw [List.length_take]; omega),List.take_take];congr 1;omega
 have e2:(bF cur (o+r.length) cs).drop (o+r.length)=cs++cur.drop (o+r.length+cs.length):=by
  unfold bF;rw [List.append_assoc,List.drop_left' (by rw [List.length_take]; omega)]
 rw [bF,e1,e2];simp
theorem yE (w:World)(ty:TypeId)(g i n2 c m vc:Nat)(va:bO)(cur cs:List Value)
 (hg:w.heap[g]? = some (.cells cur.toArray 129 (0,0))) (hc:cs.length=m * 3)
 (hsrc:(va=none∧m=0)∨∃ a,va=some a∧∀ j v,cs[j]? = some v→w.cell? (a.add j)=some v) (hroom:i+m≤c) (hfit:i * 3+cs.length≤cur.length) (h1:∀ v ∈ cs,v.oneCell'=true) :
 (Builtin.append_ #[121,121] ty #[.slice (some ⟨g,0,none⟩) i c,.slice va m vc]).run Tryz.prog w =
   .ok (.slice (some ⟨g,0,none⟩) (i+m) c) (w.setRow g (bF cur (i * 3) cs).toArray):=by
 obtain ⟨q,hq,hi⟩:=Option.map_eq_some_iff.1 zG
 rcases hsrc with ⟨rfl,rfl⟩ | ⟨a,rfl,hs⟩
 ·obtain rfl:cs=[]:=List.length_eq_zero_iff.1 (by omega)
  have e:bF cur (i * 3) []=cur:=by simp [bF]
  rw [e,setRow_self w g cur.toArray _ _ hg];simp [Builtin.append_,run_underlying Tryz.underlying121,sizeOf,typeInfo,hq,Builtin.lenOf,Builtin.firstCells,storeCells];intro hq;omega
 ·have:=run_append_room (P:=Tryz.prog) w 121 ty 129 q Tryz.underlying121 hq g i c cur.toArray hg a m vc cs (by rw [hi]; exact hc) hs h1 hroom (by rw [hi]; simpa using hfit)
  rw [hi] at this;exact this
def tZ (k:Nat):List Value:=(Builtin.zeroCells #[.string ⟨#[]⟩,.string ⟨#[]⟩,.pointer none] k).toList
theorem pV (k:Nat):(tZ k).length=k * 3:=by simp [tZ,size_zeroCells]
theorem uf (w:World)(ty:TypeId)(g o k c:Nat)(cur:List Value)(hg:w.heap[g]? = some (.cells cur.toArray 129 (0,0)))(hk:0<k)(hfit:o+k * 3≤cur.length) :
 (Builtin.clear_ #[121] ty #[.slice (some ⟨g,o,none⟩) k c]).run Tryz.prog w = .ok (.tuple #[]) (w.setRow g (bF cur o (tZ k)).toArray):=by
 have hst:=run_storeCells_at Tryz.prog g o 129 (tZ k) 0 cur.toArray w hg (by rw [pV]; simpa using hfit) (by
  intro v hv
  simp only [tZ,Builtin.zeroCells,Array.mem_toList_iff,Array.mem_map,Array.mem_range] at hv
  obtain ⟨j,_,rfl⟩:=hv
  have hj:j % 3<3:=Nat.mod_lt _ (by decide)
  show (#[Value.string ⟨#[]⟩,.string ⟨#[]⟩,.pointer none]:Array Value)[j % 3]!.oneCell'=true
  rcases (show j % 3=0∨j % 3=1∨j % 3=2 by omega) with e | e | e <;> rw [e] <;> rfl)
 simp only [Nat.add_zero] at hst
 obtain ⟨m,rfl⟩:∃ m,k=m+1:=⟨k - 1,by omega⟩
 simp [Builtin.clear_,run_underlying Tryz.underlying121,Value.cells,bF]
 rw [show (Builtin.zeroCells #[Value.string ⟨#[]⟩,.string ⟨#[]⟩,.pointer none] (m+1)).toList=tZ (m+1) from rfl,hst]
 simp [Result.andThen]
theorem aS (w:World){P:Program}{ops:Array Oper}{rest:List Oper}{o:Oper}{a:Act}{Q:Exit→Act→World→Prop}(hgd:o.guard=none)(d s:Operand)(t t':TypeId)
 (ho:o.op = .call { callee := .builtin .append,args:=#[d,s],argTypes:=#[t,t'] }) (v u:Value) (hd:a.eval d=v) (hs:a.eval s=u) {v':Value} {w':World}
 (hr:(Builtin.append_ #[t,t'] o.type #[v,u]).run P w = .ok v' w') (h:wpList P ops Q rest (a.put o.dst v') w'):wpList P ops Q (o::rest) a w:=by
 refine wpList_plain hgd fun K hK=>?_
 unfold Oper.wp execOp
 simp only [ho,resolve,invoke,builtin,Sem.run_bind,Sem.run_pure,Result.andThen_ok,List.map_toArray,List.map_cons,List.map_nil,hd,hs,hr]
 exact hK _ _ h
theorem kK {P:Program}{ops:Array Oper}{o:Oper}{a:Act}{w:World}{K:Act→World→Prop}{Q:Exit→Act→World→Prop}{E:Prop}
 (hg:o.guard=none) (d x:Operand) (dT sT:TypeId) (hop:o.op=Op.call { callee:=Callee.builtin Builtin.append,args:=#[d,x],argTypes:=#[dT,sT] })
 (v u:Value) (hd:a.eval d=v) (hx:a.eval x=u) {v':Value} {w':World} (hr:(Builtin.append_ #[dT,sT] o.type #[v,u]).run P w = .ok v' w') (hK:K (a.put o.dst v') w') :
 if Region.wanted o (yielded ops a.tmps)=true then Oper.wp P o a w K Q else E:=by
 have hw:Region.wanted o (yielded ops a.tmps)=true:=by simp [Region.wanted,hg]
 rw [if_pos hw]
 unfold Oper.wp
 simp [execOp,hop,resolve,invoke,builtin,hd,hx,hr,Result.andThen]
 exact hK
theorem bJ (w:World)(k:Nat)(row:Array Value):Touch [k] w (w.setRow k row):=by
 have e:=aG (Below.refl k w) (Nat.le_refl k) row;exact ⟨e.os,e.tape,e.output,e.size,fun j hj hn=>setRow_other w k j row (by simpa using hn)⟩
theorem oK (w:World)(g:Nat)(row:Array Value):Touch [g] w (w.drew.setRow g row):=by
 have t:=bJ w.drew g row;exact ⟨t.os,t.tape,t.output,t.size,t.block⟩
theorem jb (d:Nat)(L:Its d)(i:Nat)(hi:i≤L.length)(rest:List Value):(aH d L++rest).take (i * 3)=aH d (L.take i)∧(aH d L++rest).drop (i * 3)=aH d (L.drop i)++rest:=by
 have e:aH d L++rest=aH d (L.take i)++(aH d (L.drop i)++rest):=by rw [← List.append_assoc,← dK,List.take_append_drop]
 have hl:(aH d (L.take i)).length=i * 3:=by rw [bu,List.length_take]; congr 1; omega
 exact ⟨by rw [e,List.take_left' hl],by rw [e,List.drop_left' hl]⟩
theorem ug {w:World}{g:Nat}{T:TypeId}{cur:List Value}(h:w.heap[g]? = some (.cells cur.toArray T (0,0)))(s n:Nat):∀ j v,((cur.drop s).take n)[j]? = some v→w.cell? ((⟨g,s,none⟩:Addr).add j)=some v:=by
 intro j v hv;rw [List.getElem?_take] at hv;split at hv
 ·rw [List.getElem?_drop] at hv
  rw [Addr.add_mid];exact df h _ v hv
 cases hv
theorem Yx (d g c i vb vc:Nat)(L:Its d)(x:bK (Kd d))(w:World)(h:OB w g c d L)(hx:w.heap[vb]? = some (.cells (kE d x).toArray 129 (0,0)))(hvb:vb ≠ g)(hi:i<L.length)(hc:L.length+1≤c)(hc2:c≤100000) :
 Calls Tryz.prog 53 #[.slice (some ⟨g,0,none⟩) L.length c,.int .i64 (i:Nat),.slice (some ⟨vb,0,none⟩) 1 vc] w fun e w'=>e = .returned (.slice (some ⟨g,0,none⟩) (L.length+1) c)∧OB w' g c d (L.take i++x::L.drop i)∧Touch [g] w w':=by
 obtain ⟨rest,hg,hlen⟩:=h.row
 obtain ⟨n,hn⟩:∃ n,L.length=n:=⟨_,rfl⟩
 obtain ⟨cur,yF⟩:∃ cur,aH d L++rest=cur:=⟨_,rfl⟩
 obtain ⟨t1,t2⟩:=jb d L i (by omega) rest
 obtain ⟨t3,t4⟩:=jb d L L.length (Nat.le_refl _) rest
 have hrl:rest.length=(c - n) * 3:=by
  rw [List.length_append,bu,hn] at hlen;omega
 rw [hn] at hi hc ⊢
 rw [yF] at hg hlen t1 t2
 have hov:∀ lb cb,(callFunc 74 #[.slice (some ⟨vb,0,none⟩) 1 vc,.slice (some ⟨g,(i+1) * 3,none⟩) lb cb]).run Tryz.prog w = .ok (.value (.bool false)) w:=fun lb cb=>by
  rw [run_callFunc_extern Tryz.func74 (by kernel_rfl) (by kernel_rfl) (by kernel_rfl) (e:=Extern.SlicesOverlaps.overlaps #[121,121] #[4]) (by kernel_rfl),
   Lib.run_overlaps_apart w 121 4 129 Tryz.underlying121 3 (fun W=>by obtain ⟨q,hq,hz⟩:=Option.map_eq_some_iff.1 zG; simp [sizeOf,typeInfo,hq,hz]) ⟨vb,0,none⟩ ⟨g,(i+1) * 3,none⟩ 1 vc lb cb hvb 129 129 3 cur.length (by simp [World.shape?,hx,kE]) (by simp [World.shape?,hg]) (by omega) (frozen_of_row w vb 0 _ _ hx) (frozen_of_row w vb 3 _ _ hx)]
  rfl
 obtain ⟨cs,hcs⟩:∃ cs,(cur.drop (i * 3)).take ((n - i) * 3)=cs:=⟨_,rfl⟩
 have hcl:cs.length=(n - i) * 3:=by rw [← hcs,List.length_take,List.length_drop]; omega
 have hcr:cs=aH d (L.drop i):=by
  rw [← hcs,t2,List.take_left' (by rw [bu,List.length_drop,hn])]
 have hcp1:∀ ty dc sc,(Builtin.copy_ #[121,121] ty #[.slice (some ⟨g,(i+1) * 3,none⟩) (n - i) dc,.slice (some ⟨g,i * 3,none⟩) (n+1 - i) sc]).run Tryz.prog w.drew = .ok (.int .i64 ((n - i:Nat):Nat)) (w.drew.setRow g (bF cur ((i+1) * 3) cs).toArray):=fun ty dc sc =>
  nO w.drew ty g ((i+1) * 3) (n - i) dc ⟨g,i * 3,none⟩ (n+1 - i) sc cur cs (n - i) hg (by show n - i=min _ _; omega) hcl (fun j v hj=>by rw [← hcs] at hj; exact ug (w:=w.drew) hg _ _ j v hj) (by omega) (fun v hv=>by rw [hcr] at hv; exact mM d _ v hv)
 have hg1:∀ W:World,W=w.drew.setRow g (bF cur ((i+1) * 3) cs).toArray→W.heap[g]? = some (.cells (bF cur ((i+1) * 3) cs).toArray 129 (0,0))∧W.heap[vb]? = some (.cells (kE d x).toArray 129 (0,0))∧Touch [g] w W:=fun W hW=>by
  subst hW;exact ⟨setRow_heap w.drew g _ _ _ _ hg,(setRow_other w.drew g vb _ hvb).trans hx,oK w g _⟩
 obtain ⟨W1,hW1⟩:∃ W1,W1=w.drew.setRow g (bF cur ((i+1) * 3) cs).toArray:=⟨_,rfl⟩
 obtain ⟨k1,k2,k3⟩:=hg1 W1 hW1
 rw [← hW1] at hcp1
 have hcp2:∀ ty dc,(Builtin.copy_ #[121,121] ty #[.slice (some ⟨g,i * 3,none⟩) (n+1 - i) dc,.slice (some ⟨vb,0,none⟩) 1 vc]).run Tryz.prog W1 = .ok (.int .i64 ((1:Nat):Nat)) (W1.setRow g (bF (bF cur ((i+1) * 3) cs) (i * 3) (kE d x)).toArray):=fun ty dc =>
  nO W1 ty g (i * 3) (n+1 - i) dc ⟨vb,0,none⟩ 1 vc (bF cur ((i+1) * 3) cs) (kE d x) 1 k1 (by show 1=min _ _; omega) rfl (fun j v hj=>by
   have:=df k2 j v hj;rw [Addr.add_mid,Nat.zero_add]; exact this) (by rw [iD (by omega),lM]; omega) (zF d x)
 have hlist:bF (bF cur ((i+1) * 3) cs) (i * 3) (kE d x)=aH d (L.take i++x::L.drop i)++rest.drop 3:=by
  rw [show (i+1) * 3=i * 3+(kE d x).length by rw [lM]; omega,OZ _ _ _ _ (by rw [lM]; omega),t1,hcr,lM,bu,List.length_drop,hn,← yF,show i * 3+3+(n - i) * 3=L.length * 3+3 by omega,← List.drop_drop,t4,List.drop_length];simp [aH]
 have hfin:OB (W1.setRow g (bF (bF cur ((i+1) * 3) cs) (i * 3) (kE d x)).toArray) g c d (L.take i++x::L.drop i)∧Touch [g] w (W1.setRow g (bF (bF cur ((i+1) * 3) cs) (i * 3) (kE d x)).toArray):=by
  refine ⟨⟨⟨rest.drop 3, ?_, ?_⟩⟩,k3.trans (bJ W1 g _)⟩
  ·rw [setRow_heap W1 g _ _ _ _ k1]
   congr 3
  rw [← hlist,iD (by rw [iD (by omega),lM]; omega),iD (by omega)]; exact hlen
 have HF:=hid hfin
 clear hlist
 have iI:(i:Int)<(n:Int):=by omega
 have cI:(n:Int)+1≤(c:Int):=by omega
 have c2:(c:Int)≤100000:=by omega
 have i0:(0:Int)≤(i:Int):=by omega
 have ne:¬ ((i:Int)=(n:Int)):=by omega
 have hw1:IntKind.i64.wrap ((i:Int)+1)=(i:Int)+1:=IntWalk.i64_in _ (by omega)
 have hb1:(0:Int)≤(i:Int)+1:=by omega
 have hb2:¬ (c=i+1):=by omega
 have hb3:(i:Int)≤(n:Int)+1:=by omega
 have hb4:¬ (c=i):=by omega
 have hb5:(i:Int)+1≤(n:Int)+1:=by omega
 have htn:((i:Int)+1).toNat=i+1:=by omega
 clear hW1 k1 k2 k3 hg1 hcs hcl hcr hrl t1 t2 t3 t4 hg hlen yF hn hfin h hx hc hc2
 go_in
 go_wp2_with (simp only [hov])
 go_region_held3 (fun _=>True) (exact trivial)
  ((refine qB rfl _ _ 121 121 rfl (.slice (some ⟨g,(i+1) * 3,none⟩) (n - i) (c - (i+1))) (.slice (some ⟨g,i * 3,none⟩) (n+1 - i) (c - i)) (by rfl) (by rfl) (hcp1 _ _ _) ?_))
 go_wp2_with (at_builtin; refine qO _ rfl _ _ 121 121 rfl _ _ rfl rfl (hcp2 _ _) ?_)
 go_ret
 exact ⟨rfl,HF.out⟩
theorem mO {w W:World}{g c d:Nat}{L:Its d}{cur:List Value}(hW:W.heap[g]? = some (.cells cur.toArray 129 (0,0)))(hl:cur.length=c * 3)(rest:List Value)(he:cur=aH d L++rest):OB W g c d L:=by
 subst he;exact ⟨⟨rest,hW,hl⟩⟩
theorem Yy (d g c i:Nat)(L:Its d)(w:World)(h:OB w g c d L)(hi:i<L.length)(hc:L.length+1≤c)(hc2:c≤100000) :
 Calls Tryz.prog 55 #[.slice (some ⟨g,0,none⟩) L.length c,.int .i64 (i:Nat),.int .i64 ((i:Int)+1)] w fun e w'=>e = .returned (.slice (some ⟨g,0,none⟩) (L.length - 1) c)∧OB w' g c d (L.take i++L.drop (i+1))∧Touch [g] w w':=by
 obtain ⟨rest,hg,hlen⟩:=h.row
 have hcap:=h.cap
 obtain ⟨n,hn⟩:∃ n,L.length=n:=⟨_,rfl⟩
 obtain ⟨cur,yF⟩:∃ cur,aH d L++rest=cur:=⟨_,rfl⟩
 obtain ⟨t1,t2⟩:=jb d L i (by omega) rest
 obtain ⟨t3,t4⟩:=jb d L (i+1) (by omega) rest
 rw [hn] at hi hc hcap ⊢
 rw [yF] at hg hlen t1 t2 t3 t4
 obtain ⟨cs,hcs⟩:∃ cs,(cur.drop ((i+1) * 3)).take ((n - (i+1)) * 3)=cs:=⟨_,rfl⟩
 have hcl:cs.length=(n - (i+1)) * 3:=by rw [← hcs,List.length_take,List.length_drop]; omega
 have hcr:cs=aH d (L.drop (i+1)):=by
  rw [← hcs,t4,List.take_left' (by rw [bu,List.length_drop,hn])]
 have hap:∀ ty dc,(Builtin.append_ #[121,121] ty #[.slice (some ⟨g,0,none⟩) i c,.slice (some ⟨g,(i+1) * 3,none⟩) (n - (i+1)) dc]).run Tryz.prog w.drew = .ok (.slice (some ⟨g,0,none⟩) (i+(n - (i+1))) c) (w.drew.setRow g (bF cur (i * 3) cs).toArray):=fun ty dc =>
  yE w.drew ty g i 0 c (n - (i+1)) dc (some ⟨g,(i+1) * 3,none⟩) cur cs hg hcl (.inr ⟨_,rfl,fun j v hj=>by rw [← hcs] at hj; exact ug (w:=w.drew) hg _ _ j v hj⟩) (by omega) (by omega) (fun v hv=>by rw [hcr] at hv; exact mM d _ v hv)
 rw [show i+(n - (i+1))=n - 1 by omega] at hap
 obtain ⟨W1,hW1⟩:∃ W1,W1=w.drew.setRow g (bF cur (i * 3) cs).toArray:=⟨_,rfl⟩
 have k1:W1.heap[g]? = some (.cells (bF cur (i * 3) cs).toArray 129 (0,0)):=by rw [hW1]; exact setRow_heap w.drew g _ _ _ _ hg
 have k3:Touch [g] w W1:=by rw [hW1]; exact oK w g _
 have kl:(bF cur (i * 3) cs).length=c * 3:=by rw [iD (by omega)]; exact hlen
 rw [← hW1] at hap
 have Ud:∀ ty dc,(Builtin.clear_ #[121] ty #[.slice (some ⟨g,(n - 1) * 3,none⟩) 1 dc]).run Tryz.prog W1 = .ok (.tuple #[]) (W1.setRow g (bF (bF cur (i * 3) cs) ((n - 1) * 3) (tZ 1)).toArray):=fun ty dc =>
  uf W1 ty g ((n - 1) * 3) 1 dc _ k1 (by omega) (by rw [kl]; omega)
 have he:bF (bF cur (i * 3) cs) ((n - 1) * 3) (tZ 1)=aH d (L.take i++L.drop (i+1))++(tZ 1++(cur.drop ((n - 1) * 3)).drop 3):=by
  unfold bF;have e0:(cur.take (i * 3)++cs).length=(n - 1) * 3:=by rw [List.length_append,List.length_take,hcl]; omega
  rw [List.take_left' e0,hcl,pV];have e2:(cur.take (i * 3)++cs++cur.drop (i * 3+(n - (i+1)) * 3)).drop ((n - 1) * 3+1 * 3)=(cur.drop ((n - 1) * 3)).drop 3:=by
   rw [← List.drop_drop,List.drop_left' e0,List.drop_drop,List.drop_drop];congr 1;omega
  rw [e2,t1,hcr,dK];simp
 have HF:=hid (show OB (W1.setRow g (bF (bF cur (i * 3) cs) ((n - 1) * 3) (tZ 1)).toArray) g c d (L.take i++L.drop (i+1))∧Touch [g] w (W1.setRow g (bF (bF cur (i * 3) cs) ((n - 1) * 3) (tZ 1)).toArray) from
  ⟨mO (w:=w) (setRow_heap W1 g _ _ _ _ k1) (by rw [iD (by rw [kl,pV]; omega)]; exact kl) _ he,k3.trans (bJ W1 g _)⟩)
 have iI:(i:Int)<(n:Int):=by omega
 have cI:(n:Int)≤(c:Int):=by omega
 have c2:(c:Int)≤100000:=by omega
 have i0:(0:Int)≤(i:Int):=by omega
 have ne:¬ ((i:Int)=(i:Int)+1):=by omega
 have hb1:(0:Int)≤(i:Int)+1:=by omega
 have hb3:(i:Int)+1≤(n:Int):=by omega
 have hb4:¬ (c=i):=by omega
 have htn:((i:Int)+1).toNat=i+1:=by omega
 have hb2:¬ (c=i+1):=by omega
 have hb5:((n - 1:Nat):Int)≤(n:Int):=by omega
 have hb6:(n:Int)≤(c:Int):=by omega
 have hb7:¬ (c=n - 1):=by omega
 have hb8:(i:Int)≤(c:Int):=by omega
 have hn1:n - (n - 1)=1:=by omega
 clear hc he hW1 k1 k3 kl hcs hcl hcr t1 t2 t3 t4 hg hlen yF hn h hc2 hcap hi
 go_in
 go_wp2_with fail
 go_region_held3 (fun _=>True) (exact trivial)
  ((refine kK rfl _ _ 121 121 rfl (.slice (some ⟨g,0,none⟩) i c) (.slice (some ⟨g,(i+1) * 3,none⟩) (n - (i+1)) (c - (i+1))) (by rfl) (by rfl) (hap _ _) ?_))
 go_wp2_with (at_builtin; refine pW _ rfl _ 121 rfl _ rfl (Ud _ _) ?_)
 go_ret
 exact ⟨rfl,HF.out⟩
def VS (w:World)(g:Nat)(va:bO)(vc d:Nat)(V:Its d):Prop :=
 (va=none∧V=[])∨∃ vb,va=some ⟨vb,0,none⟩∧vb ≠ g∧w.heap[vb]? = some (.cells (aH d V).toArray 129 (0,0))∧V ≠ []
theorem Ue {w:World}{g vc d:Nat}{va:bO}{V:Its d}(h:VS w g va vc d V){W:World}(t:Touch [g] w W):(va=none∧V.length=0)∨∃ a,va=some a∧∀ j v,(aH d V)[j]? = some v→W.cell? (a.add j)=some v:=by
 rcases h with ⟨h1,h2⟩ | ⟨vb,h1,h2,h3,h4⟩
 ·exact .inl ⟨h1,by rw [h2]; rfl⟩
 refine .inr ⟨_,h1,fun j v hv=>?_⟩;have:=df ((t.block vb (lt_of_block h3) (by simpa using h2)).trans h3) j v hv;rw [Addr.add_mid,Nat.zero_add]; exact this
theorem CG (W:World)(ty:TypeId)(g o dLen dc vc d:Nat)(va:bO)(V:Its d)(cur:List Value)(hg:W.heap[g]? = some (.cells cur.toArray 129 (0,0)))
 (hs:(va=none∧V.length=0)∨∃ a,va=some a∧∀ j v,(aH d V)[j]? = some v→W.cell? (a.add j)=some v) (hd:V.length≤dLen) (hfit:o+V.length * 3≤cur.length) :
 (Builtin.copy_ #[121,121] ty #[.slice (some ⟨g,o,none⟩) dLen dc,.slice va V.length vc]).run Tryz.prog W = .ok (.int .i64 (V.length:Nat)) (W.setRow g (bF cur o (aH d V)).toArray):=by
 rcases hs with ⟨h1,h2⟩ | ⟨a,h1,h2⟩
 ·have hV:V=[]:=List.length_eq_zero_iff.1 h2
  subst hV;have e:bF cur o (aH d ([]:Its d))=cur:=by simp [bF,aH]
  rw [e,setRow_self W g cur.toArray _ _ hg,h1];exact Dz W ty _ _ dLen dc 0 vc (by simp)
 ·subst h1
  exact nO W ty g o dLen dc a V.length vc cur (aH d V) V.length hg (by show V.length=min _ _; omega) (bu d V) h2 (by rw [bu]; exact hfit) (mM d V)
theorem O0 (d g c i vc:Nat)(va:bO)(L V:Its d)(w:World)(h:OB w g c d L)(hv:VS w g va vc d V)(hi:i<L.length)(hc:L.length+1≤c)(hm:i+V.length≤L.length+1)(hc2:c≤100000) :
 Calls Tryz.prog 123 #[.slice (some ⟨g,0,none⟩) L.length c,.int .i64 (i:Nat),.int .i64 (L.length:Nat),.slice va V.length vc] w fun e w'=>e = .returned (.slice (some ⟨g,0,none⟩) (i+V.length) c)∧OB w' g c d (L.take i++V)∧Touch [g] w w':=by
 obtain ⟨rest,hg,hlen⟩:=h.row
 obtain ⟨n,hn⟩:∃ n,L.length=n:=⟨_,rfl⟩
 obtain ⟨m,hmm⟩:∃ m,V.length=m:=⟨_,rfl⟩
 obtain ⟨cur,yF⟩:∃ cur,aH d L++rest=cur:=⟨_,rfl⟩
 obtain ⟨t1,t2⟩:=jb d L i (by omega) rest
 have vl:(aH d V).length=m * 3:=by rw [bu,hmm]
 rw [yF] at hg hlen t1 t2
 have hap:∀ ty,(Builtin.append_ #[121,121] ty #[.slice (some ⟨g,0,none⟩) i c,.slice va m vc]).run Tryz.prog w = .ok (.slice (some ⟨g,0,none⟩) (i+m) c) (w.setRow g (bF cur (i * 3) (aH d V)).toArray):=fun ty =>
  yE w ty g i 0 c m vc va cur (aH d V) hg vl (by rw [← hmm]; exact Ue hv (Touch.refl [g] w)) (by omega) (by rw [vl]; omega) (mM d V)
 rw [hn,hmm] at hm
 rw [hn] at hi hc ⊢
 rw [hmm]
 obtain ⟨W1,hW1⟩:∃ W1,W1=w.setRow g (bF cur (i * 3) (aH d V)).toArray:=⟨_,rfl⟩
 have k1:W1.heap[g]? = some (.cells (bF cur (i * 3) (aH d V)).toArray 129 (0,0)):=by rw [hW1]; exact setRow_heap w g _ _ _ _ hg
 have k3:Touch [g] w W1:=by rw [hW1]; exact bJ w g _
 have kl:(bF cur (i * 3) (aH d V)).length=c * 3:=by rw [iD (by omega)]; exact hlen
 rw [← hW1] at hap
 have he:bF cur (i * 3) (aH d V)=aH d (L.take i++V)++cur.drop (i * 3+m * 3):=by
  unfold bF;rw [t1,dK,vl]
 have Ud:i+m<n→(∀ ty dc,(Builtin.clear_ #[121] ty #[.slice (some ⟨g,(i+m) * 3,none⟩) (n - (i+m)) dc]).run Tryz.prog W1 = .ok (.tuple #[]) (W1.setRow g (bF (bF cur (i * 3) (aH d V)) ((i+m) * 3) (tZ (n - (i+m)))).toArray)):=fun hlt ty dc =>
  uf W1 ty g ((i+m) * 3) (n - (i+m)) dc _ k1 (by omega) (by rw [kl]; omega)
 have HF:=hid (show OB W1 g c d (L.take i++V)∧Touch [g] w W1 from ⟨mO (w:=w) k1 kl _ he,k3⟩)
 have HF2:=hid (fun (hlt:i+m<n)=>show OB (W1.setRow g (bF (bF cur (i * 3) (aH d V)) ((i+m) * 3) (tZ (n - (i+m)))).toArray) g c d (L.take i++V)∧Touch [g] w (W1.setRow g (bF (bF cur (i * 3) (aH d V)) ((i+m) * 3) (tZ (n - (i+m)))).toArray) from
  ⟨mO (w:=w) (setRow_heap W1 g _ _ _ _ k1) (by rw [iD (by rw [kl,pV]; omega)]; exact kl) (tZ (n - (i+m))++(cur.drop (i * 3+m * 3)).drop ((n - (i+m)) * 3)) (by
    rw [he]
    have e0:(aH d (L.take i++V)).length=(i+m) * 3:=by rw [bu,List.length_append,List.length_take,hmm,hn]; congr 1; omega
    unfold bF
    rw [List.take_left' e0,pV,← List.drop_drop,List.drop_left' e0,List.append_assoc]),k3.trans (bJ W1 g _)⟩)
 have iI:(i:Int)<(n:Int):=by omega
 have cI:(n:Int)+1≤(c:Int):=by omega
 have c2:(c:Int)≤100000:=by omega
 have i0:(0:Int)≤(i:Int):=by omega
 have ne:¬ ((i:Int)=(n:Int)):=by omega
 have hb4:¬ (c=i):=by omega
 have hb8:(i:Int)≤(c:Int):=by omega
 have mI:(i:Int)+(m:Int)≤(n:Int)+1:=by omega
 clear he hW1 k1 k3 kl t1 t2 hg hlen yF hn h hc hi hv vl hmm hm hc2
 by_cases hlt:i+m<n
 ·have apB:=Ud hlt
  have HL:=hid hlt;have ltI:(i:Int)+(m:Int)<(n:Int):=by omega
  have ltN:((i+m:Nat):Int)<(n:Int):=by omega
  have hb9:¬ (c=i+m):=by omega
  clear Ud hlt;go_in;go_wp2_with (first
   | (at_builtin; refine aS _ rfl _ _ 121 121 rfl _ _ rfl rfl (hap _) ?_)
   | (at_builtin; refine pW _ rfl _ 121 rfl _ rfl (apB _ _) ?_))
  go_ret;exact ⟨rfl,HF2.out HL.out⟩
 ·have HL:=hid hlt
  have ltI:¬ ((i:Int)+(m:Int)<(n:Int)):=by omega
  have ltN:¬ (((i+m:Nat):Int)<(n:Int)):=by omega
  clear Ud hlt;go_in;go_wp2_with (first
   | (at_builtin; refine aS _ rfl _ _ 121 121 rfl _ _ rfl rfl (hap _) ?_))
  go_ret;exact ⟨rfl,HF.out⟩
theorem FU (w:World)(ty:TypeId)(a:bO)(c:Nat):(Builtin.clear_ #[121] ty #[.slice a 0 c]).run Tryz.prog w = .ok (.tuple #[]) w:=by
 cases a <;> simp [Builtin.clear_,run_underlying Tryz.underlying121]
theorem Yz (X B r:List Value)(cur:List Value)(o p:Nat)(hp:p=o+B.length)(h:o+B.length+r.length≤cur.length):bF (bF cur o B) p r=cur.take o++B++r++cur.drop (p+r.length):=by
 subst hp;have e0:(cur.take o++B).length=o+B.length:=by rw [List.length_append,List.length_take]; omega
 unfold bF;rw [List.take_left' e0,show (List.take o cur++B++List.drop (o+B.length) cur).drop (o+B.length+r.length)=cur.drop (o+B.length+r.length) by rw [← List.drop_drop,List.drop_left' e0,List.drop_drop]]
theorem Uf (d g c i j vc:Nat)(va:bO)(L V:Its d)(w:World)(h:OB w g c d L)(hv:VS w g va vc d V)(hij:i<j)(hj:j<L.length)(hc:L.length+1≤c)(hm:i+V.length≤j)(hc2:c≤100000) :
 ∃ W1 W2:World,(∀ ty dc,(Builtin.copy_ #[121,121] ty #[.slice (some ⟨g,i * 3,none⟩) (i+V.length+(L.length - j) - i) dc,.slice va V.length vc]).run Tryz.prog w = .ok (.int .i64 (V.length:Nat)) W1) ∧
   (∀ ty dc sc,(Builtin.copy_ #[121,121] ty #[.slice (some ⟨g,(i+V.length) * 3,none⟩) (L.length - j) dc,.slice (some ⟨g,j * 3,none⟩) (L.length - j) sc]).run Tryz.prog W1.drew = .ok (.int .i64 ((L.length - j:Nat):Nat)) W2) ∧
   (OB W2 g c d (L.take i++(V++L.drop j))∧Touch [g] w W2)∧(i+V.length<j→∃ W3,(∀ ty dc,(Builtin.clear_ #[121] ty #[.slice (some ⟨g,(i+V.length+(L.length - j)) * 3,none⟩) (L.length - (i+V.length+(L.length - j))) dc]).run Tryz.prog W2 = .ok (.tuple #[]) W3)∧OB W3 g c d (L.take i++(V++L.drop j))∧Touch [g] w W3):=by
 obtain ⟨rest,hg,hlen⟩:=h.row
 obtain ⟨n,hn⟩:∃ n,L.length=n:=⟨_,rfl⟩
 obtain ⟨m,hmm⟩:∃ m,V.length=m:=⟨_,rfl⟩
 obtain ⟨cur,yF⟩:∃ cur,aH d L++rest=cur:=⟨_,rfl⟩
 obtain ⟨t1,t2⟩:=jb d L i (by omega) rest
 obtain ⟨t3,t4⟩:=jb d L j (by omega) rest
 have vl:(aH d V).length=m * 3:=by rw [bu,hmm]
 rw [yF] at hg hlen t1 t2 t3 t4
 have hcv:∀ ty dc,(Builtin.copy_ #[121,121] ty #[.slice (some ⟨g,i * 3,none⟩) (i+m+(n - j) - i) dc,.slice va m vc]).run Tryz.prog w = .ok (.int .i64 (m:Nat)) (w.setRow g (bF cur (i * 3) (aH d V)).toArray):=fun ty dc=>by
  rw [← hmm];exact CG w ty g (i * 3) _ dc vc d va V cur hg (Ue hv (Touch.refl [g] w)) (by omega) (by omega)
 rw [hmm] at hm
 rw [hn] at hj hc ⊢
 simp only [hmm]
 obtain ⟨W1,hW1⟩:∃ W1,W1=w.setRow g (bF cur (i * 3) (aH d V)).toArray:=⟨_,rfl⟩
 have k1:W1.heap[g]? = some (.cells (bF cur (i * 3) (aH d V)).toArray 129 (0,0)):=by rw [hW1]; exact setRow_heap w g _ _ _ _ hg
 have k3:Touch [g] w W1:=by rw [hW1]; exact bJ w g _
 have kl:(bF cur (i * 3) (aH d V)).length=c * 3:=by rw [iD (by omega)]; exact hlen
 rw [← hW1] at hcv
 obtain ⟨D,hD⟩:∃ D,aH d (L.drop j)=D:=⟨_,rfl⟩
 have dl:D.length=(n - j) * 3:=by rw [← hD,bu,List.length_drop,hn]
 rw [hD] at t4
 have hcs:((bF cur (i * 3) (aH d V)).drop (j * 3)).take ((n - j) * 3)=D:=by
  have e:(bF cur (i * 3) (aH d V)).drop (j * 3)=cur.drop (j * 3):=by
   unfold bF;rw [show j * 3=(i * 3+m * 3)+(j * 3 - (i * 3+m * 3)) by omega,← List.drop_drop,List.drop_left' (by rw [List.length_append,List.length_take,vl]; omega),vl,List.drop_drop]
  rw [e,t4,List.take_left' dl]
 have hc2':∀ ty dc sc,(Builtin.copy_ #[121,121] ty #[.slice (some ⟨g,(i+m) * 3,none⟩) (i+m+(n - j) - (i+m)) dc,.slice (some ⟨g,j * 3,none⟩) (n - j) sc]).run Tryz.prog W1.drew = .ok (.int .i64 ((n - j:Nat):Nat)) (W1.drew.setRow g (bF (bF cur (i * 3) (aH d V)) ((i+m) * 3) D).toArray):=fun ty dc sc =>
  nO W1.drew ty g ((i+m) * 3) _ dc ⟨g,j * 3,none⟩ (n - j) sc _ D (n - j) k1 (by show n - j=min _ _; omega) dl (fun q v hq=>by rw [← hcs] at hq; exact ug (w:=W1.drew) k1 _ _ q v hq) (by rw [kl]; omega) (fun v hv=>by rw [← hD] at hv; exact mM d _ v hv)
 rw [show i+m+(n - j) - (i+m)=n - j by omega] at hc2'
 obtain ⟨W2,hW2⟩:∃ W2,W2=W1.drew.setRow g (bF (bF cur (i * 3) (aH d V)) ((i+m) * 3) D).toArray:=⟨_,rfl⟩
 have q1:W2.heap[g]? = some (.cells (bF (bF cur (i * 3) (aH d V)) ((i+m) * 3) D).toArray 129 (0,0)):=by rw [hW2]; exact setRow_heap W1.drew g _ _ _ _ k1
 have q3:Touch [g] w W2:=by rw [hW2]; exact k3.trans (oK W1 g _)
 have ql:(bF (bF cur (i * 3) (aH d V)) ((i+m) * 3) D).length=c * 3:=by rw [iD (by omega)]; exact kl
 rw [← hW2] at hc2'
 have he:bF (bF cur (i * 3) (aH d V)) ((i+m) * 3) D=aH d (L.take i++(V++L.drop j))++cur.drop ((i+m) * 3+D.length):=by
  rw [Yz [] _ _ _ _ _ (by omega) (by omega),t1,dK,dK,hD];simp
 obtain ⟨E,hE⟩:∃ E,bF (bF cur (i * 3) (aH d V)) ((i+m) * 3) D=E:=⟨_,rfl⟩
 rw [hE] at q1 ql he
 have Ud:i+m<j→(∀ ty dc,(Builtin.clear_ #[121] ty #[.slice (some ⟨g,(i+m+(n - j)) * 3,none⟩) (n - (i+m+(n - j))) dc]).run Tryz.prog W2 = .ok (.tuple #[]) (W2.setRow g (bF E ((i+m+(n - j)) * 3) (tZ (n - (i+m+(n - j))))).toArray)):=fun hlt ty dc =>
  uf W2 ty g _ _ dc _ q1 (by omega) (by rw [ql]; omega)
 have HF:=(show OB W2 g c d (L.take i++(V++L.drop j))∧Touch [g] w W2 from ⟨mO (w:=w) q1 ql _ he,q3⟩)
 have HF2:=(fun (hlt:i+m<j)=>show OB (W2.setRow g (bF E ((i+m+(n - j)) * 3) (tZ (n - (i+m+(n - j))))).toArray) g c d (L.take i++(V++L.drop j))∧Touch [g] w (W2.setRow g (bF E ((i+m+(n - j)) * 3) (tZ (n - (i+m+(n - j))))).toArray) from
  ⟨mO (w:=w) (setRow_heap W2 g _ _ _ _ q1) (by rw [iD (by rw [ql,pV]; omega)]; exact ql) (tZ (n - (i+m+(n - j)))++(cur.drop ((i+m) * 3+D.length)).drop ((n - (i+m+(n - j))) * 3)) (by
    rw [he]
    have e0:(aH d (L.take i++(V++L.drop j))).length=(i+m+(n - j)) * 3:=by rw [bu,List.length_append,List.length_append,List.length_take,List.length_drop,hmm,hn]; congr 1; omega
    unfold bF
    rw [List.take_left' e0,pV,← List.drop_drop,List.drop_left' e0,List.append_assoc]),q3.trans (bJ W2 g _)⟩)
 exact ⟨W1,W2,hcv,hc2',HF,fun hlt=>⟨_,Ud hlt,HF2 hlt⟩⟩
theorem L9 (d g c i j vc:Nat)(va:bO)(L V:Its d)(w:World)(h:OB w g c d L)(hv:VS w g va vc d V)(hij:i<j)(hj:j<L.length)(hc:L.length+1≤c)(hm:i+V.length≤j)(hc2:c≤100000) :
 Calls Tryz.prog 123 #[.slice (some ⟨g,0,none⟩) L.length c,.int .i64 (i:Nat),.int .i64 (j:Nat),.slice va V.length vc] w fun e w'=>e = .returned (.slice (some ⟨g,0,none⟩) (i+V.length+(L.length - j)) c)∧OB w' g c d (L.take i++(V++L.drop j))∧Touch [g] w w':=by
 have hst:=fun q:Nat=>Uf d g c i j vc va L V (w.drewN q) (h.move (by rw [heap_drewN])) (by
  rcases hv with h1 | ⟨vb,h1,h2,h3,h4⟩
  ·exact .inl h1
  ·exact .inr ⟨vb,h1,h2,by rw [heap_drewN]; exact h3,h4⟩) hij hj hc hm hc2
 obtain ⟨n,hn⟩:∃ n,L.length=n:=⟨_,rfl⟩
 obtain ⟨m,hmm⟩:∃ m,V.length=m:=⟨_,rfl⟩
 rw [hmm] at hm
 rw [hn] at hj hc
 rw [hmm,hn]
 simp only [hmm,hn] at hst
 have HST:=hid hst
 have iI:(i:Int)<(j:Int):=by omega
 have jI:(j:Int)<(n:Int):=by omega
 have cI:(n:Int)+1≤(c:Int):=by omega
 have c2:(c:Int)≤100000:=by omega
 have i0:(0:Int)≤(i:Int):=by omega
 have jn:(j:Int)≤(n:Int):=by omega
 have j0:(0:Int)≤(j:Int):=by omega
 have ne:¬ ((i:Int)=(j:Int)):=by omega
 have ne2:¬ ((j:Int)=(n:Int)):=by omega
 have hb4:¬ (c=i):=by omega
 have hb5:¬ (c=j):=by omega
 have hb6:¬ (c=i+m):=by omega
 have hb7:¬ (c=i+m+(n - j)):=by omega
 have hb8:(i:Int)≤(c:Int):=by omega
 have mI:(i:Int)+(m:Int)≤(j:Int):=by omega
 have tI:(i:Int)+(m:Int)+((n - j:Nat):Int)≤(c:Int):=by omega
 have tn:(i:Int)+(m:Int)+((n - j:Nat):Int)≤(n:Int):=by omega
 have t0:(0:Int)≤(i:Int)+(m:Int)+((n - j:Nat):Int):=by omega
 have tt:((i:Int)+(m:Int)+((n - j:Nat):Int)).toNat=i+m+(n - j):=by omega
 have im0:(0:Int)≤(i:Int)+(m:Int):=by omega
 have imn:((i:Int)+(m:Int)).toNat=i+m:=by omega
 have imt:(i:Int)+(m:Int)≤(i:Int)+(m:Int)+((n - j:Nat):Int):=by omega
 have it:(i:Int)≤(i:Int)+(m:Int)+((n - j:Nat):Int):=by omega
 have hw1:IntKind.i64.wrap ((i:Int)+(m:Int))=(i:Int)+(m:Int):=IntWalk.i64_in _ (by omega)
 have hw2:IntKind.i64.wrap ((i:Int)+(m:Int)+((n - j:Nat):Int))=(i:Int)+(m:Int)+((n - j:Nat):Int):=IntWalk.i64_in _ (by omega)
 have HT:=hid (fun (q:Nat) (W:World) (t:Touch [g] (w.drewN q) W)=>show Touch [g] w W from ⟨t.os,t.tape,t.output,by have:=t.size; rwa [heap_drewN] at this,fun k hk hn=>by have:=t.block k (by rw [heap_drewN]; exact hk) hn; rwa [heap_drewN] at this⟩)
 clear hst hn h hc hij hj hv hmm hc2
 by_cases hlt:i+m<j
 ·have HL:=hid hlt
  clear hlt hm;go_in;go_wp2_with fail;go_quiet (fail);obtain ⟨W1,W2,hcv,hcw,_,hz⟩:=HST.out nq;obtain ⟨W3,hcz,hob,ht⟩:=hz HL.out;have xH:=hid (And.intro hob (HT.out nq W3 ht));clear hz hob ht;go_wp2_with (first
   | (at_builtin; refine qO _ rfl _ _ 121 121 rfl _ _ rfl rfl (hcv _ _) ?_))
  go_region_held3 (fun _=>True) (exact trivial)
   ((refine qB rfl _ _ 121 121 rfl (.slice (some ⟨g,(i+m) * 3,none⟩) (n - j) (c - (i+m))) (.slice (some ⟨g,j * 3,none⟩) (n - j) (c - j)) (by rfl) (by rfl) (hcw _ _ _) ?_))
  go_wp2_with (at_builtin; refine pW _ rfl _ 121 rfl _ rfl (hcz _ _) ?_)
  go_ret;exact ⟨rfl,xH.out⟩
 ·have HL:=hid hlt
  obtain rfl:j=i+m:=by omega
  have jn2:(i:Int)+(m:Int)≤(n:Int):=by omega
  have jI2:(i:Int)+(m:Int)<(n:Int):=by omega
  have ne3:¬ ((i:Int)+(m:Int)=(n:Int)):=by omega
  have hz1:n - (i+m+(n - (i+m)))=0:=by omega
  have hcz:∀ (W:World) ty a dc,(Builtin.clear_ #[121] ty #[.slice a 0 dc]).run Tryz.prog W = .ok (.tuple #[]) W:=fun W ty a dc=>FU W ty a dc;clear hlt hm;go_in;go_wp2_with fail;go_quiet (fail);obtain ⟨W1,W2,hcv,hcw,hoo,_⟩:=HST.out nq;have xH:=hid (And.intro hoo.1 (HT.out nq W2 hoo.2));clear hoo;go_wp2_with (first
   | (at_builtin; refine qO _ rfl _ _ 121 121 rfl _ _ rfl rfl (hcv _ _) ?_))
  go_region_held3 (fun _=>True) (exact trivial)
   ((refine qB rfl _ _ 121 121 rfl (.slice (some ⟨g,(i+m) * 3,none⟩) (n - (i+m)) (c - (i+m))) (.slice (some ⟨g,(i+m) * 3,none⟩) (n - (i+m)) (c - (i+m))) (by rfl) (by rfl) (hcw _ _ _) ?_))
  go_wp2_with (at_builtin; refine pW _ rfl _ 121 rfl _ rfl (hcz _ _ _ _) ?_)
  go_ret;exact ⟨rfl,xH.out⟩
theorem Ug (d g c i j vc:Nat)(va:bO)(L V:Its d)(w:World)(h:OB w g c d L)(hv:VS w g va vc d V)(hij:i<j)(hj:j<L.length)(hc:i+V.length+(L.length - j)≤c)(hm:j<i+V.length) :
 ∃ W1 W2:World,(∀ ty dc sc,(Builtin.copy_ #[121,121] ty #[.slice (some ⟨g,(i+V.length) * 3,none⟩) (L.length - j) dc,.slice (some ⟨g,j * 3,none⟩) (L.length - j) sc]).run Tryz.prog w.drew = .ok (.int .i64 ((L.length - j:Nat):Nat)) W1) ∧
   (∀ ty dc,(Builtin.copy_ #[121,121] ty #[.slice (some ⟨g,i * 3,none⟩) (i+V.length+(L.length - j) - i) dc,.slice va V.length vc]).run Tryz.prog W1 = .ok (.int .i64 (V.length:Nat)) W2) ∧
   (OB W2 g c d (L.take i++(V++L.drop j))∧Touch [g] w W2) ∧
   (∀ lb cb,(callFunc 74 #[.slice (some ⟨g,(i+V.length) * 3,none⟩) lb cb,.slice va V.length vc]).run Tryz.prog w = .ok (.value (.bool false)) w):=by
 obtain ⟨rest,hg,hlen⟩:=h.row
 obtain ⟨n,hn⟩:∃ n,L.length=n:=⟨_,rfl⟩
 obtain ⟨m,hmm⟩:∃ m,V.length=m:=⟨_,rfl⟩
 obtain ⟨cur,yF⟩:∃ cur,aH d L++rest=cur:=⟨_,rfl⟩
 obtain ⟨t1,t2⟩:=jb d L i (by omega) rest
 obtain ⟨t3,t4⟩:=jb d L j (by omega) rest
 have vl:(aH d V).length=m * 3:=by rw [bu,hmm]
 rw [yF] at hg hlen t1 t2 t3 t4
 have hov:∀ lb cb,(callFunc 74 #[.slice (some ⟨g,(i+V.length) * 3,none⟩) lb cb,.slice va V.length vc]).run Tryz.prog w = .ok (.value (.bool false)) w:=fun lb cb=>by
  rcases hv with ⟨h1,h2⟩ | ⟨vb,h1,h2,h3,h4⟩
  ·rw [h2] at hm; exact absurd hm (by simp; omega)
  rw [h1,run_callFunc_extern Tryz.func74 (by kernel_rfl) (by kernel_rfl) (by kernel_rfl) (e:=Extern.SlicesOverlaps.overlaps #[121,121] #[4]) (by kernel_rfl),
   Lib.run_overlaps_apart w 121 4 129 Tryz.underlying121 3 (fun W=>by obtain ⟨q,hq,hz⟩:=Option.map_eq_some_iff.1 zG; simp [sizeOf,typeInfo,hq,hz]) ⟨g,(i+V.length) * 3,none⟩ ⟨vb,0,none⟩ lb cb V.length vc (fun e=>h2 e.symm) 129 129 cur.length (aH d V).length (by simp [World.shape?,hg]) (by simp [World.shape?,h3]) (by rw [vl]; omega) (frozen_of_row w g _ _ _ hg) (frozen_of_row w g _ _ _ hg)]
  rfl
 rw [hmm] at hm hc
 rw [hn] at hj hc ⊢
 simp only [hmm] at hov ⊢
 obtain ⟨D,hD⟩:∃ D,aH d (L.drop j)=D:=⟨_,rfl⟩
 have dl:D.length=(n - j) * 3:=by rw [← hD,bu,List.length_drop,hn]
 rw [hD] at t4
 have hcs:(cur.drop (j * 3)).take ((n - j) * 3)=D:=by rw [t4,List.take_left' dl]
 have hc1:∀ ty dc sc,(Builtin.copy_ #[121,121] ty #[.slice (some ⟨g,(i+m) * 3,none⟩) (n - j) dc,.slice (some ⟨g,j * 3,none⟩) (n - j) sc]).run Tryz.prog w.drew = .ok (.int .i64 ((n - j:Nat):Nat)) (w.drew.setRow g (bF cur ((i+m) * 3) D).toArray):=fun ty dc sc =>
  nO w.drew ty g ((i+m) * 3) _ dc ⟨g,j * 3,none⟩ (n - j) sc _ D (n - j) hg (by show n - j=min _ _; omega) dl (fun q v hq=>by rw [← hcs] at hq; exact ug (w:=w.drew) hg _ _ q v hq) (by omega) (fun v hv=>by rw [← hD] at hv; exact mM d _ v hv)
 obtain ⟨W1,hW1⟩:∃ W1,W1=w.drew.setRow g (bF cur ((i+m) * 3) D).toArray:=⟨_,rfl⟩
 have k1:W1.heap[g]? = some (.cells (bF cur ((i+m) * 3) D).toArray 129 (0,0)):=by rw [hW1]; exact setRow_heap w.drew g _ _ _ _ hg
 have k3:Touch [g] w W1:=by rw [hW1]; exact oK w g _
 have kl:(bF cur ((i+m) * 3) D).length=c * 3:=by rw [iD (by omega)]; exact hlen
 rw [← hW1] at hc1
 have hcv:∀ ty dc,(Builtin.copy_ #[121,121] ty #[.slice (some ⟨g,i * 3,none⟩) (i+m+(n - j) - i) dc,.slice va m vc]).run Tryz.prog W1 = .ok (.int .i64 (m:Nat)) (W1.setRow g (bF (bF cur ((i+m) * 3) D) (i * 3) (aH d V)).toArray):=fun ty dc=>by
  rw [← hmm];exact CG W1 ty g (i * 3) _ dc vc d va V _ (by rw [hmm]; exact k1) (Ue hv k3) (by omega) (by rw [hmm,kl]; omega)
 have he:bF (bF cur ((i+m) * 3) D) (i * 3) (aH d V)=aH d (L.take i++(V++L.drop j))++cur.drop (i * 3+(aH d V).length+D.length):=by
  rw [show (i+m) * 3=i * 3+(aH d V).length by omega,OZ _ _ _ _ (by omega),t1,dK,dK,hD];simp
 exact ⟨W1,_,hc1,hcv,⟨mO (w:=w) (setRow_heap W1 g _ _ _ _ k1) (by rw [iD (by omega)]; exact kl) _ he,k3.trans (bJ W1 g _)⟩,hov⟩
theorem Mc (d g c i j vc:Nat)(va:bO)(L V:Its d)(w:World)(h:OB w g c d L)(hv:VS w g va vc d V)(hij:i<j)(hj:j<L.length)(hc:i+V.length+(L.length - j)≤c)(hm:j<i+V.length)(hc2:c≤100000) :
 Calls Tryz.prog 123 #[.slice (some ⟨g,0,none⟩) L.length c,.int .i64 (i:Nat),.int .i64 (j:Nat),.slice va V.length vc] w fun e w'=>e = .returned (.slice (some ⟨g,0,none⟩) (i+V.length+(L.length - j)) c)∧OB w' g c d (L.take i++(V++L.drop j))∧Touch [g] w w':=by
 have hcap:=h.cap
 have hst:=fun q:Nat=>Ug d g c i j vc va L V (w.drewN q) (h.move (by rw [heap_drewN])) (by
  rcases hv with h1 | ⟨vb,h1,h2,h3,h4⟩
  ·exact .inl h1
  ·exact .inr ⟨vb,h1,h2,by rw [heap_drewN]; exact h3,h4⟩) hij hj hc hm
 obtain ⟨n,hn⟩:∃ n,L.length=n:=⟨_,rfl⟩
 obtain ⟨m,hmm⟩:∃ m,V.length=m:=⟨_,rfl⟩
 rw [hmm] at hm hc
 rw [hn] at hj hc hcap
 rw [hmm,hn]
 simp only [hmm,hn] at hst
 have HST:=hid hst
 have iI:(i:Int)<(j:Int):=by omega
 have jI:(j:Int)<(n:Int):=by omega
 have cI:(n:Int)≤(c:Int):=by omega
 have c2:(c:Int)≤100000:=by omega
 have i0:(0:Int)≤(i:Int):=by omega
 have jn:(j:Int)≤(n:Int):=by omega
 have j0:(0:Int)≤(j:Int):=by omega
 have ne:¬ ((i:Int)=(j:Int)):=by omega
 have ne2:¬ ((j:Int)=(n:Int)):=by omega
 have hb4:¬ (c=i):=by omega
 have hb5:¬ (c=j):=by omega
 have hb6:¬ (c=i+m):=by omega
 have hb8:(i:Int)≤(c:Int):=by omega
 have mI:¬ ((i:Int)+(m:Int)≤(j:Int)):=by omega
 have tI:(i:Int)+(m:Int)+((n - j:Nat):Int)≤(c:Int):=by omega
 have t0:(0:Int)≤(i:Int)+(m:Int)+((n - j:Nat):Int):=by omega
 have tt:((i:Int)+(m:Int)+((n - j:Nat):Int)).toNat=i+m+(n - j):=by omega
 have im0:(0:Int)≤(i:Int)+(m:Int):=by omega
 have imn:((i:Int)+(m:Int)).toNat=i+m:=by omega
 have imt:(i:Int)+(m:Int)≤(i:Int)+(m:Int)+((n - j:Nat):Int):=by omega
 have it:(i:Int)≤(i:Int)+(m:Int)+((n - j:Nat):Int):=by omega
 have hw1:IntKind.i64.wrap ((i:Int)+(m:Int))=(i:Int)+(m:Int):=IntWalk.i64_in _ (by omega)
 have hw2:IntKind.i64.wrap ((i:Int)+(m:Int)+((n - j:Nat):Int))=(i:Int)+(m:Int)+((n - j:Nat):Int):=IntWalk.i64_in _ (by omega)
 have HT:=hid (fun (q:Nat) (W:World) (t:Touch [g] (w.drewN q) W)=>show Touch [g] w W from ⟨t.os,t.tape,t.output,by have:=t.size; rwa [heap_drewN] at this,fun k hk hn=>by have:=t.block k (by rw [heap_drewN]; exact hk) hn; rwa [heap_drewN] at this⟩)
 clear hst hn h hc hij hj hv hmm hc2 hm hcap
 go_in
 go_wp2_with fail
 go_quiet (fail)
 obtain ⟨W1,W2,hcw,hcv,hoo,hov⟩:=HST.out nq
 have xH:=hid (And.intro hoo.1 (HT.out nq W2 hoo.2))
 clear hoo
 go_wp2_with (simp only [hov])
 go_region_held3 (fun _=>True) (exact trivial)
  ((refine qB rfl _ _ 121 121 rfl (.slice (some ⟨g,(i+m) * 3,none⟩) (n - j) (c - (i+m))) (.slice (some ⟨g,j * 3,none⟩) (n - j) (c - j)) (by rfl) (by rfl) (hcw _ _ _) ?_))
 go_wp2_with (at_builtin; refine qO _ rfl _ _ 121 121 rfl _ _ rfl rfl (hcv _ _) ?_)
 go_ret
 exact ⟨rfl,xH.out⟩
theorem yG (d g c i j vc:Nat)(va:bO)(L V:Its d)(w:World)(h:OB w g c d L)(hv:VS w g va vc d V)(hij:i<j)(hj:j≤L.length)(hc:L.length+1≤c)(hm:i+V.length≤j+1)(hc2:c≤100000) :
 Calls Tryz.prog 123 #[.slice (some ⟨g,0,none⟩) L.length c,.int .i64 (i:Nat),.int .i64 (j:Nat),.slice va V.length vc] w fun e w'=>e = .returned (.slice (some ⟨g,0,none⟩) (L.take i++(V++L.drop j)).length c)∧OB w' g c d (L.take i++(V++L.drop j))∧Touch [g] w w':=by
 have e:(L.take i++(V++L.drop j)).length=i+V.length+(L.length - j):=by
  rw [List.length_append,List.length_append,List.length_take,List.length_drop]; omega
 rw [e]
 rcases Nat.lt_or_ge j L.length with h1 | h1
 ·rcases Nat.lt_or_ge j (i+V.length) with h2 | h2
  ·exact Mc d g c i j vc va L V w h hv hij h1 (by omega) h2 hc2
  exact L9 d g c i j vc va L V w h hv hij h1 hc h2 hc2
 ·obtain rfl:j=L.length:=by omega
  have:=O0 d g c i vc va L V w h hv hij hc hm hc2;rw [List.drop_length,List.append_nil];rwa [Nat.sub_self,Nat.add_zero]
theorem rU:(Tryz.prog.info? 129).map (fun i=>(i.zero,i.size,i.bytes))=some (some (.agg #[.string ⟨#[]⟩,.string ⟨#[]⟩,.pointer none]),3,40):=by kernel_rfl
theorem FV (u v p:Value)(W:World):(Instr.buildSlice 121 1 #[(0,.agg #[u,v,p])]).run Tryz.prog W = .ok (.slice (some ⟨W.heap.size,0,none⟩) 1 1) (W.alloc (.cells #[u,v,p] 129)) :=
 DR Tryz.underlying121 rU (by decide) (by decide) #[u,v,p] rfl W
theorem afh (c:Nat)(hc:c≤100000)(W:World):(Instr.makeSlice 121 (.int .i64 0) (.int .i64 (c:Int))).run Tryz.prog W = .ok (.slice (some ⟨W.heap.size,0,none⟩) 0 c) (W.alloc (.cells (madeCells #[.string ⟨#[]⟩,.string ⟨#[]⟩,.pointer none] (c * 3)) 129)):=by
 obtain ⟨i,hi,hz⟩:=Option.map_eq_some_iff.1 rU;simp only [Prod.mk.injEq] at hz;obtain ⟨h1,h2,h3⟩:=hz;have:=run_make (P:=Tryz.prog) W 121 129 i _ Tryz.underlying121 hi h1 .i64 .i64 0 c (by omega) (by omega) (by rw [h3]; omega) (by omega);rw [h2] at this;exact this
theorem afi (w:World)(d c:Nat)(z:Array Value):OB (w.alloc (.cells (madeCells z (c * 3)) 129)) w.heap.size c d [] :=
 ⟨⟨(madeCells z (c * 3)).toList,by rw [ah]; simp [aH],by simp [aH,size_madeCells]⟩⟩
theorem Md {W:World}{g c d X:Nat}{K:Its d}(h:OB W g c d K)(x:bK (Kd d))(hX:W.heap[X]? = some (.cells #[.string x.1,.string x.2.1,.pointer (dA d x.2.2)] 129 (0,0)))(hc:K.length+1≤c)(hc2:c≤100000)(ty:TypeId) :
 ∃ W',(Builtin.append_ #[121,121] ty #[.slice (some ⟨g,0,none⟩) K.length c,.slice (some ⟨X,0,none⟩) 1 1]).run Tryz.prog W = .ok (.slice (some ⟨g,0,none⟩) (K++[x]).length c) W'∧OB W' g c d (K++[x])∧Touch [g] W W':=by
 obtain ⟨rest,hg,hlen⟩:=h.row
 have hk:(aH d K).length=K.length * 3:=bu d K
 have hr:=yE W ty g K.length 0 c 1 1 (some ⟨X,0,none⟩) _ (kE d x) hg rfl (.inr ⟨_,rfl,fun j v hv=>by
  rw [Addr.add_mid,Nat.zero_add];exact df (cs:=kE d x) hX j v hv⟩) (by omega) (by rw [hlen,lM]; omega) (zF d x)
 have he:bF (aH d K++rest) (K.length * 3) (kE d x)=aH d (K++[x])++rest.drop 3:=by
  unfold bF;rw [← hk,List.take_left,lM,← List.drop_drop,List.drop_left,dK];simp [aH]
 rw [show K.length+1=(K++[x]).length by simp] at hr
 exact ⟨_,hr,mO (w:=W) (setRow_heap W g _ _ _ _ hg) (by rw [iD (by rw [hlen,lM]; omega)]; exact hlen) _ he,bJ W g _⟩
theorem bC {w W W':World}{g:Nat}(h:Below w.heap.size w W)(t:Touch [g] W W')(hg:w.heap.size≤g):Below w.heap.size w W' :=
 h.trans (t.below h.size (fun k hk=>by rw [List.mem_singleton.1 hk]; exact hg))
theorem O5 (d:Nat)(a:bO)(n c:Nat)(L:Its d)(f t:ByteArray)(lf:Bool)(w:World)(h:IS w a n d L)(hn:n≤1000) :
 Calls Tryz.prog 76 #[.agg #[.string f,.string t],.slice a n c,.bool lf] w fun e w'=>∃ g,e = .returned (.slice (some ⟨g,0,none⟩) (dH (f,t) lf L).length (n+1))∧w.heap.size≤g∧OB w' g (n+1) d (dH (f,t) lf L)∧Below w.heap.size w w':=by
 have HI:=hid h
 have HL:=hid h.len
 have nI:(n:Int)≤1000:=by omega
 have hmk:=afh (n+1) (by omega)
 rw [show ((n+1:Nat):Int)=(n:Int)+1 by omega] at hmk
 have HF:=hid (show dH (f,t) lf L=kD (f,t) lf L n by rw [dH,h.len])
 clear h
 go_in
 go_wp2_with fail
 have hst:∀ W,W=(w.alloc (.cells #[.string f,.string t] 96)).alloc (.cells (madeCells #[.string ⟨#[]⟩,.string ⟨#[]⟩,.pointer none] ((n+1) * 3)) 129)→W.heap[w.heap.size]? = some (.cells #[.string f,.string t] 96 (0,0))∧OB W (w.heap.size+1) (n+1) d []∧Below w.heap.size w W:=fun W hW=>by
  subst hW;have o:=afi (w.alloc (.cells #[.string f,.string t] 96)) d (n+1) #[.string ⟨#[]⟩,.string ⟨#[]⟩,.pointer none];rw [show (w.alloc (.cells #[.string f,.string t] 96)).heap.size=w.heap.size+1 by simp] at o;refine ⟨?_,o,aJ (aK w _) (aK _ _)⟩;rw [(aK (w.alloc _) _).block _ (iF w _)];exact ah w _
 go_loopw [7,8,9,16] (fun v7 _ _ v16 wr=>∃ i:Nat,i≤n∧v16 = .int .i64 (i:Int)∧v7 = .slice (some ⟨w.heap.size+1,0,none⟩) (kD (f,t) lf L i).length (n+1)∧wr.heap[w.heap.size]? = some (.cells #[.string f,.string t] 96 (0,0))∧OB wr (w.heap.size+1) (n+1) d (kD (f,t) lf L i)∧Below w.heap.size w wr) (fun _ _ _ v _=>n - (intOf v).toNat)
 case atStart=>exact ⟨0,by omega,rfl,rfl,hst _ rfl⟩
 case round =>
  obtain ⟨i,hi,rfl,rfl,hbx,hob,hb⟩:=hrel;have HB:=hid hb;have HO:=hid hob;have HX:=hid hbx;clear hb hob hbx hst hmk;by_cases hlt:i<n
  ·obtain ⟨x,hx⟩:∃ x,L[i]? = some x:=⟨_,List.getElem?_eq_getElem (by have:=HL.out; omega)⟩
   have hx0:=(HI.out.below HB.out).at_ i x hx;obtain ⟨b1,o1,rfl,c1⟩:=hx0;have hix:=bT b1 o1 n c i hlt;have bn:=hid hlt;have iI:(i:Int)<(n:Int):=by omega
   have i0:(0:Int)≤(i:Int):=by omega
   have c10:=c1.k;have c11:=c1.v;have c12:=c1.p;have xB:=hid (tN (f,t) lf L i x hx);have KW:=hid (rM (f,t) lf L i);have HK:=hid (show rH (f,t) lf L i x=if lf then qN (f,t) x.1 else !emptyS (oC (f,t) L i) from rfl);generalize kD (f,t) lf L i=K at *;have apC:=hid (fun W=>Yw f t x.1 W);have HOf:=hid (fun (W:World) (q:Below w.heap.size w W)=>pU d (some ⟨b1,o1,none⟩) n c i L f t W (HI.out.below q) hn hlt);have HEm:=hid (fun W=>empty_any (oC (f,t) L i).1 (oC (f,t) L i).2 W);have d0:=cell_of_row wr w.heap.size 0 _ _ _ HX.out;have d1:=cell_of_row wr w.heap.size 1 _ _ _ HX.out;have e0:∀ o,(wr.alloc o).cell? ⟨w.heap.size,0,none⟩=some (.string f):=fun o=>((aK wr o).cell (p:=⟨w.heap.size,0,none⟩) (block_lt_of_cell d0)).trans d0;have e1:∀ o,(wr.alloc o).cell? ⟨w.heap.size,1,none⟩=some (.string t):=fun o=>((aK wr o).cell (p:=⟨w.heap.size,1,none⟩) (block_lt_of_cell d1)).trans d1;have e2:∀ o,(wr.alloc o).cell? ⟨w.heap.size,0+1,none⟩=some (.string t):=e1;clear hi hlt hx c1;cases lf with
   | true =>
     go_wp2_with fail;refine (apC.out _).mono ?_;rintro e w2 ⟨rfl,hb2⟩;have Xv:=hid (show w2.heap[w.heap.size]? = some (.cells #[.string f,.string t] 96 (0,0)) from ((aJ (aK wr _) hb2).block _ (lt_of_block HX.out)).trans HX.out);have HO2:=hid (HO.out.below (aJ (aK wr _) hb2));have HB2:=hid (aJ HB.out (aJ (aK wr _) hb2));have hit:=(hb2.block wr.heap.size (iF wr _)).trans (ah wr _);have i0':=cell_of_row w2 wr.heap.size 0 _ _ _ hit;have i1':=cell_of_row w2 wr.heap.size 1 _ _ _ hit;have i2':=cell_of_row w2 wr.heap.size 2 _ _ _ hit;have afj:=fun u v p=>FV u v p w2;clear hb2 hit;cases hk:qN (f,t) x.1 with
     | true =>
       have JD:=hid (show kD (f,t) true L (i+1)=K++[x] by rw [xB.out,if_pos (by rw [HK.out]; exact hk)]);have Ez:=hid (show K.length+1≤n+1 by have:=KW.out; have:=bn.out; omega);clear hk;go_wp2_with (first
        | (at_builtin; obtain ⟨w3,hr,ho,ht⟩:=Md (HO2.out.below (aK w2 (.cells #[.string x.1,.string x.2.1,.pointer (dA d x.2.2)] 129))) x (ah w2 _) Ez.out (by omega) 121; refine aS _ rfl _ _ 121 121 rfl _ _ rfl rfl hr ?_; have vO:=hid ho; have HT3:=hid ht; clear ho ht hr))
       refine ⟨⟨i+1,by have:=bn.out; omega,by go_num,by rw [JD.out,List.length_append]; rfl, ?_,by rw [JD.out]; exact vO.out,bC (aJ HB2.out (aK w2 _)) HT3.out (by omega)⟩,by simp only [intOf]; have:=bn.out; omega⟩;rw [HT3.out.block _ (by have:=HB2.out.size; have:=lt_of_block Xv.out; have:=iF w2 (.cells #[.string x.1,.string x.2.1,.pointer (dA d x.2.2)] 129); omega) (by simp),(aK w2 _).block _ (lt_of_block Xv.out)];exact Xv.out
     | false =>
       have JD:=hid (show kD (f,t) true L (i+1)=K by rw [xB.out,if_neg (by rw [HK.out]; simp only [if_true]; rw [hk]; simp),List.append_nil]);clear hk;go_wp2_with fail;exact ⟨⟨i+1,by have:=bn.out; omega,by go_num,by rw [JD.out],Xv.out,by rw [JD.out]; exact HO2.out,HB2.out⟩,by simp only [intOf]; have:=bn.out; omega⟩
   | false =>
     go_wp2_with fail;refine (HOf.out _ (aJ HB.out (aK wr _))).mono ?_;rintro e w1 ⟨rfl,hb1⟩;have HB1:=hid (aJ (aK wr _) hb1);have amL:=(hb1.block wr.heap.size (iF wr _)).trans (ah wr _);have HIT:=hid amL;clear hb1 amL;go_wp2_with fail;refine (HEm.out _).mono ?_;rintro e w2 ⟨rfl,hb2⟩;have Xv:=hid (show w2.heap[w.heap.size]? = some (.cells #[.string f,.string t] 96 (0,0)) from ((aJ HB1.out hb2).block _ (lt_of_block HX.out)).trans HX.out);have HO2:=hid (HO.out.below (aJ HB1.out hb2));have HB2:=hid (aJ HB.out (aJ HB1.out hb2));have hit:=(hb2.block wr.heap.size (lt_of_block HIT.out)).trans HIT.out;have i0':=cell_of_row w2 wr.heap.size 0 _ _ _ hit;have i1':=cell_of_row w2 wr.heap.size 1 _ _ _ hit;have i2':=cell_of_row w2 wr.heap.size 2 _ _ _ hit;have afj:=fun u v p=>FV u v p w2;clear hb2 hit;have HEQ:=hid (show emptyS ((oC (f,t) L i).1,(oC (f,t) L i).2)=emptyS (oC (f,t) L i) from rfl);rw [HEQ.out];cases hk:emptyS (oC (f,t) L i) with
     | true =>
       have JD:=hid (show kD (f,t) false L (i+1)=K by rw [xB.out,if_neg (by rw [HK.out]; simp [hk]),List.append_nil]);clear hk;go_wp2_with fail;exact ⟨⟨i+1,by have:=bn.out; omega,by go_num,by rw [JD.out],Xv.out,by rw [JD.out]; exact HO2.out,HB2.out⟩,by simp only [intOf]; have:=bn.out; omega⟩
     | false =>
       have JD:=hid (show kD (f,t) false L (i+1)=K++[x] by rw [xB.out,if_pos (by rw [HK.out]; simp [hk])]);have Ez:=hid (show K.length+1≤n+1 by have:=KW.out; have:=bn.out; omega);clear hk;go_wp2_with (first
        | (at_builtin; obtain ⟨w3,hr,ho,ht⟩:=Md (HO2.out.below (aK w2 (.cells #[.string x.1,.string x.2.1,.pointer (dA d x.2.2)] 129))) x (ah w2 _) Ez.out (by omega) 121; refine aS _ rfl _ _ 121 121 rfl _ _ rfl rfl hr ?_; have vO:=hid ho; have HT3:=hid ht; clear ho ht hr))
       refine ⟨⟨i+1,by have:=bn.out; omega,by go_num,by rw [JD.out,List.length_append]; rfl, ?_,by rw [JD.out]; exact vO.out,bC (aJ HB2.out (aK w2 _)) HT3.out (by omega)⟩,by simp only [intOf]; have:=bn.out; omega⟩;rw [HT3.out.block _ (by have:=HB2.out.size; have:=lt_of_block Xv.out; have:=iF w2 (.cells #[.string x.1,.string x.2.1,.pointer (dA d x.2.2)] 129); omega) (by simp),(aK w2 _).block _ (lt_of_block Xv.out)];exact Xv.out
  obtain rfl:i=n:=by omega
  clear hi hlt;go_wp2_with fail;go_ret;rw [HF.out];exact ⟨_,rfl,by omega,HO.out,HB.out⟩
end
section
open Go.ChangeShapes Go.WideShapes Go.ChangeAt Go.RowKit
def dZ:(d:Nat)→Pt d→az
 | 0,P=>⟨true,List.map (·.1) (show List bH from P),List.map (·.2) (show List bH from P), []⟩
 | d+1,P=>⟨false,(List.map (·.1) (show List (ByteArray×ay×Pt d) from P)).tail, [],List.map (·.2.1) (show List (ByteArray×ay×Pt d) from P)⟩
def Lies (LQ:ay→az→Prop):(d:Nat)→ay→Pt d→Prop
 | 0,q,P=>q.ad ≠ 0∧jq q=true∧LQ q (dZ 0 P)
 | d+1,q,P=>q.ad ≠ 0∧jq q=true∧LQ q (dZ (d+1) P)∧∀ x ∈ (show List (ByteArray×ay×Pt d) from P),Lies LQ d x.2.1 x.2.2
theorem Lies.ne {LQ:ay→az→Prop}:∀ {d:Nat} {q:ay} {P:Pt d},Lies LQ d q P→q.ad ≠ 0
 | 0,_,_,h=>h.1
 | _+1,_,_,h=>h.1
theorem Lies.may {LQ:ay→az→Prop}:∀ {d:Nat} {q:ay} {P:Pt d},Lies LQ d q P→jq q=true
 | 0,_,_,h=>h.2.1
 | _+1,_,_,h=>h.2.1
theorem Lies.reads {LQ:ay→az→Prop}:∀ {d:Nat} {q:ay} {P:Pt d},Lies LQ d q P→LQ q (dZ d P)
 | 0,_,_,h=>h.2.2
 | _+1,_,_,h=>h.2.2.1
theorem Lies.more {LQ ZV:ay→az→Prop}(hq:∀ q nd,LQ q nd→ZV q nd):∀ {d:Nat} {q:ay} {P:Pt d},Lies LQ d q P→Lies ZV d q P
 | 0,_,_,h=>⟨h.1,h.2.1,hq _ _ h.2.2⟩
 | _+1,_,_,h=>⟨h.1,h.2.1,hq _ _ h.2.2.1,fun x hx=>(h.2.2.2 x hx).more hq⟩
def fH (q:ay)(lf:Bool)(v:Value)(f:Nat):List Value:=ag q++[.bool lf,v,.int .i64 (f:Int)]
def kL (w:World)(a:Nat)(q:ay)(lf:Bool)(v:Value)(f:Nat):Prop:=w.heap[a]? = some (.cells (fH q lf v f).toArray 123 (0,0))
def TR (LQ:ay→az→Prop)(w:World)(ok:Nat→Prop):(d:Nat)→Kd d→Prop
 | 0,_=>True
 | d+1,T=>ok (pK T)∧match kX T with
   | .inl q=>kL w (pK T) q.1 false (.slice none 0 0) 0∧Lies LQ d q.1 q.2
   | .inr l=>∃ g off c,kL w (pK T) ai (d == 0) (.slice (some ⟨g,off,none⟩) l.length c) (jl (d+1) T)∧(ok g∧∃ o,w.heap[g]? = some o)∧IS w (some ⟨g,off,none⟩) l.length d l∧∀ x ∈ l,TR LQ w ok d x.2.2
theorem ae {w w':World}{a:Addr}{v:Value}(h:w.cell? a=some v)(e:w'.heap[a.block]? = w.heap[a.block]?):w'.cell? a=some v:=(World.cell?_of_block e).trans h
theorem L8.move {w w':World}{b off d:Nat}{x:bK (Kd d)}(h:L8 w b off d x)(e:w'.heap[b]? = w.heap[b]?):L8 w' b off d x :=
 ⟨ae h.k e,ae h.v e,ae h.p e⟩
theorem IS.move {w w':World}{g off n d:Nat}{L:Its d}(h:IS w (some ⟨g,off,none⟩) n d L)(e:w'.heap[g]? = w.heap[g]?):IS w' (some ⟨g,off,none⟩) n d L :=
 ⟨h.len,fun i x hx=>by
   obtain ⟨b,o,e1,h1⟩:=h.at_ i x hx;injection e1 with e1;injection e1 with e2 e3;subst e2 e3;exact ⟨g,off,rfl,h1.move e⟩⟩
theorem TR.keep {LQ:ay→az→Prop}{w w':World}{ok:Nat→Prop}(hk:∀ k,ok k→w'.heap[k]? = w.heap[k]?):∀ {d:Nat} {T:Kd d},TR LQ w ok d T→TR LQ w' ok d T
 | 0,_,_=>trivial
 | d+1,T,h=>by
   refine ⟨h.1, ?_⟩;have h2:=h.2;revert h2
   cases kX T with
   | inl q=>exact fun h2=>⟨(hk _ h.1).trans h2.1,h2.2⟩
   | inr l=>exact fun ⟨g,off,c,h1,⟨h3,o,ho⟩,h4,h5⟩=>⟨g,off,c,(hk _ h.1).trans h1,⟨h3,o,(hk g h3).trans ho⟩,h4.move (hk g h3),fun x hx=>TR.keep hk (h5 x hx)⟩
theorem TR.more {LQ ZV:ay→az→Prop}{w:World}{ok ok':Nat→Prop}(hq:∀ q nd,LQ q nd→ZV q nd)(ho:∀ k,ok k→ok' k):∀ {d:Nat} {T:Kd d},TR LQ w ok d T→TR ZV w ok' d T
 | 0,_,_=>trivial
 | d+1,T,h=>by
   refine ⟨ho _ h.1, ?_⟩;have h2:=h.2;revert h2
   cases kX T with
   | inl q=>exact fun h2=>⟨h2.1,h2.2.more hq⟩
   | inr l=>exact fun ⟨g,off,c,h1,⟨h3,h6⟩,h4,h5⟩=>⟨g,off,c,h1,⟨ho _ h3,h6⟩,h4,fun x hx=>TR.more hq ho (h5 x hx)⟩
theorem TR.bound {LQ:ay→az→Prop}{w:World}{ok:Nat→Prop}:∀ {d:Nat} {T:Kd d},TR LQ w ok d T→TR LQ w (fun k=>ok k∧k<w.heap.size) d T
 | 0,_,_=>trivial
 | d+1,T,h=>by
   have h1:=h.1;have h2:=h.2;unfold TR;revert h2
   cases kX T with
   | inl q=>exact fun h2=>⟨⟨h1,lt_of_block h2.1⟩,h2⟩
   | inr l=>exact fun ⟨g,off,c,h3,⟨h4,o,ho⟩,h5,h6⟩=>⟨⟨h1,lt_of_block h3⟩,g,off,c,h3,⟨⟨h4,lt_of_block ho⟩,o,ho⟩,h5,fun x hx=>TR.bound (h6 x hx)⟩
theorem TR.below {LQ:ay→az→Prop}{w w':World}{ok:Nat→Prop}(ho:∀ k,ok k→k<w.heap.size)(q:Below w.heap.size w w'){d:Nat}{T:Kd d}(h:TR LQ w ok d T):TR LQ w' ok d T :=
 h.keep (fun k hk=>q.block k (ho k hk))
theorem abP (q:ay)(lf:Bool)(v:Value)(f:Nat):(fH q lf v f).length=37:=by simp [fH,aO]
theorem kL.at_ {w:World}{a:Nat}{q:ay}{lf:Bool}{v:Value}{f:Nat}(h:kL w a q lf v f):w.rangeAt a 0 (ag q)∧w.cell? ⟨a,34,none⟩=some (.bool lf)∧w.cell? ⟨a,35,none⟩=some v∧w.cell? ⟨a,36,none⟩=some (.int .i64 (f:Int)):=by
 have hl:=aO q;refine ⟨fun j u hu=>?_,df h 34 _ ?_,df h 35 _ ?_,df h 36 _ ?_⟩
 ·rw [Nat.zero_add]
  refine df h j u ?_;unfold fH;rw [List.getElem?_append_left (List.getElem?_eq_some_iff.1 hu).1];exact hu
 all_goals (unfold fH; rw [List.getElem?_append_right (by omega),hl]; rfl)
theorem TR.fresh {LQ:ay→az→Prop}{w:World}{ok:Nat→Prop}{d:Nat}{T:Kd (d+1)}(h:TR LQ w ok (d+1) T):w.cell? ⟨pK T,36,none⟩=some (.int .i64 ((jl (d+1) T:Nat):Int))∧ok (pK T):=by
 refine ⟨?_,h.1⟩;have h2:=h.2;cases e:kX T with
 | inl q =>
   rw [e] at h2;have:=h2.1.at_.2.2.2;rw [show jl (d+1) T=0 by unfold jl; rw [e]];exact this
 | inr l =>
   rw [e] at h2;obtain ⟨g,off,c,h1,_⟩:=h2;exact h1.at_.2.2.2
end
section
open Lib (hid)
open Go.ChangeShapes Go.WideShapes Go.ChangeAt Go.RowKit
theorem O6 (parts:List (Nat×Value)):Tryz.prog.built 123 parts=Instr.fill (#[(0,34),(34,1),(35,1),(36,1)][·]?) (fH ai false (.slice none 0 0) 0).toArray parts:=by kernel_rfl
theorem afk (q:ay):Instr.fill (#[(0,34),(34,1),(35,1),(36,1)][·]?) (fH ai false (.slice none 0 0) 0).toArray [(0,.agg (ag q).toArray)]=some (fH q false (.slice none 0 0) 0).toArray:=by
 have hl:=aO q;have hz:=aO ai;rw [gq _ (fH ai false (.slice none 0 0) 0).toArray (fH q false (.slice none 0 0) 0).toArray (ag q).toArray (.agg (ag q).toArray) 0 0 34 _ rfl rfl (by simp [hl]) (by simp [hl,abP]) (fun i=>by
     by_cases h:i<34
     ·rw [if_pos ⟨Nat.zero_le _,by simp [hl]; exact h⟩,List.getElem?_toArray,fH,List.getElem?_append_left (by omega),List.getElem?_toArray,Nat.sub_zero]
     rw [if_neg (by simp [hl]; omega),List.getElem?_toArray,fH,List.getElem?_append_right (by omega),List.getElem?_toArray,fH,List.getElem?_append_right (by omega),hl,hz])]
 rfl
theorem abQ (q:ay)(W:World):(Instr.build 123 #[(0,.agg (ag q).toArray)]).run Tryz.prog W = .ok (.agg (fH q false (.slice none 0 0) 0).toArray) W :=
 run_build W 123 _ _ (by rw [O6]; exact afk q)
theorem O7 (lf:Bool)(a:bO)(n c:Nat)(W:World):(Instr.build 123 #[(1,.bool lf),(2,.slice a n c),(3,.int .i64 1)]).run Tryz.prog W = .ok (.agg (fH ai lf (.slice a n c) 1).toArray) W :=
 run_build W 123 _ _ (by rw [O6]; rfl)
theorem bz (q:ay):(Tryz.prog.info? 51).map (·.size)=some (ag q).toArray.size:=by
 rw [show (Tryz.prog.info? 51).map (·.size)=some 34 by kernel_rfl];simp [aO]
theorem Bl (q:ay)(w:World) :
 Calls Tryz.prog 39 #[.agg (ag q).toArray] w fun e w'=>(q.ad=0∧e = .returned (.pointer none)∨q.ad ≠ 0∧∃ b,e = .returned (.pointer (some ⟨b,0,none⟩))∧w.heap.size≤b∧kL w' b q false (.slice none 0 0) 0)∧Below w.heap.size w w':=by
 have HN:=hid (fun W=>dR q W)
 have HS:=hid (bz q)
 have HB:=hid (abQ q)
 have HTR:=hid (fun (W:World) (b:Nat)=>show kL W b q false (.slice none 0 0) 0↔W.heap[b]? = some (.cells (fH q false (.slice none 0 0) 0).toArray 123 (0,0)) from Iff.rfl)
 generalize (ag q).toArray=R at HN HS HB ⊢
 obtain ⟨TW,hTW⟩:∃ TW,(fH q false (.slice none 0 0) 0).toArray=TW:=⟨_,rfl⟩
 rw [hTW] at HB HTR
 have hn:=ah w (.cells R 51)
 clear hTW
 go_in
 go_wp2_with (first
  | (with_reducible refine wpList_load_row (o:=⟨some 3,_,_,_,_,_⟩) rfl 51 _ rfl w.heap.size rfl 51 R (0,0) _ hn Tryz.underlying51 rfl HS.out ?_))
 refine (HN.out _).mono ?_
 rintro e w1 ⟨rfl,hb1⟩
 have HB1:=hid (aJ (aK w _) hb1)
 have hn1:=(hb1.block w.heap.size (iF w _)).trans hn
 clear hb1 hn
 by_cases h0:q.ad=0
 ·have H0:=hid h0
  rw [show (q.ad == 0)=true by rw [h0]; rfl];clear h0;go_wp2_with fail;go_ret;exact ⟨.inl ⟨H0.out,rfl⟩,HB1.out⟩
 ·have H0:=hid h0
  rw [show (q.ad == 0)=false by simpa using h0];clear h0;go_wp2_with (first
   | (with_reducible refine wpList_load_row (o:=⟨some 5,_,_,_,_,_⟩) rfl 51 _ rfl w.heap.size rfl 51 R (0,0) _ hn1 Tryz.underlying51 rfl HS.out ?_)
   | (refine bD (o:=⟨some 6,_,_,_,_,_⟩) rfl _ _ rfl #[(0,.agg R)] (by simp [Act.eval,Act.put]) _ (HB.out _) ?_))
  go_ret;exact ⟨.inr ⟨H0.out,_,rfl,HB1.out.size,(HTR.out _ _).2 (ah w1 _)⟩,aJ HB1.out (aK w1 _)⟩
theorem aix {W:World}{b:Nat}{q:ay}{lf:Bool}{v:Value}{f:Nat}(h:kL W b q lf v f)(f':Nat):kL (W.setCell ⟨b,36,none⟩ (.int .i64 (f':Int))) b q lf v f':=by
 unfold kL;rw [heap_setCell_same W b 36 _ _ _ h];congr 2;have hl:=aO q;apply Array.toList_inj.1;simp only [fH,List.setIfInBounds_toArray,List.toList_toArray];rw [List.set_append_right _ _ (by omega),hl];rfl
theorem fC {W:World}{g:Nat}{T:TypeId}{cur:List Value}(h:W.heap[g]? = some (.cells cur.toArray T (0,0)))(i:Nat)(v:Value):(W.setCell ⟨g,i,none⟩ v).heap[g]? = some (.cells (cur.set i v).toArray T (0,0)):=by
 rw [heap_setCell_same W g i _ _ _ h];simp
theorem aV (W:World)(g i:Nat)(v:Value):Touch [g] W (W.setCell ⟨g,i,none⟩ v):=by
 have e:=(Below.refl g W).setCell (p:=⟨g,i,none⟩) (Nat.le_refl g) v;exact ⟨e.os,e.tape,e.output,e.size,fun j hj hn=>heap_setCell_other W _ j v (by simpa using hn)⟩
theorem afl {w W:World}{d g off n:Nat}{L:Its (d+1)}{cur:List Value}(hI:IS w (some ⟨g,off,none⟩) n (d+1) L)(hg:w.heap[g]? = some (.cells cur.toArray 129 (0,0)))(hW:W.heap[g]? = some (.cells (cur.set off (.string aY)).toArray 129 (0,0))):IS W (some ⟨g,off,none⟩) n (d+1) (hd0 (d+1) L):=by
 have q:∀ j v,off ≠ j→w.cell? ⟨g,j,none⟩=some v→W.cell? ⟨g,j,none⟩=some v:=fun j v hj hv=>by
  simp only [World.cell?,hg,hW] at hv ⊢;simpa [List.getElem?_set_ne hj] using hv
 match L,hI with
 | [],hI=>exact ⟨hI.len,fun i x hx=>by simp [hd0] at hx⟩
 | x::r,hI =>
   refine ⟨hI.len,fun i y hy=>⟨g,off,rfl, ?_⟩⟩;have h3:∀ i z,(x::r)[i]? = some z→L8 w g (off+i * 3) (d+1) z:=fun i z hz=>by
    obtain ⟨b1,o1,e1,c1⟩:=hI.at_ i z hz;injection e1 with e1;injection e1 with e2 e3;subst e2 e3;exact c1
   match i,hy with
   | 0,hy =>
     have hy':y=(aY,x.2):=by simpa [hd0] using hy.symm
     subst hy';have c1:=h3 0 x rfl;simp only [Nat.zero_mul,Nat.add_zero] at c1 ⊢;refine ⟨?_,q _ _ (by omega) c1.v,q _ _ (by omega) c1.p⟩;have:=c1.k;simp only [World.cell?,hg] at this;have hl:off<cur.length:=by
      rcases Nat.lt_or_ge off cur.length with h | h
      ·exact h
      rw [List.getElem?_toArray,List.getElem?_eq_none h] at this; cases this
     simp only [World.cell?,hW];simp [hl]
   | i+1,hy =>
     have c1:=h3 (i+1) y (by simpa [hd0] using hy);exact ⟨q _ _ (by omega) c1.k,q _ _ (by omega) c1.v,q _ _ (by omega) c1.p⟩
theorem aiy {d:Nat}(L:Its (d+1))(i:Nat)(x:bK (Kd (d+1)))(h:L[i]? = some x):∃ y,(hd0 (d+1) L)[i]? = some y∧y.2.2=x.2.2:=by
 match L,i,h with
 | z::r,0,h =>
   obtain rfl:z=x:=by simpa using h
   exact ⟨_,rfl,rfl⟩
 | z::r,i+1,h=>exact ⟨x,by simpa [hd0] using h,rfl⟩
theorem O8 {l:List Nat}{w a b:World}(h:Touch l w a)(q:Below w.heap.size a b):Touch l w b :=
 ⟨q.os.trans h.os,q.tape.trans h.tape,q.output.trans h.output,Nat.le_trans h.size q.size,fun k hk hn=>(q.block k hk).trans (h.block k hk hn)⟩
theorem Uh (a:bO)(n c:Nat)(w:World) :
 Calls Tryz.prog 93 #[.slice a n c,.bool true] w fun e w'=>∃ b,e = .returned (.pointer (some ⟨b,0,none⟩))∧w.heap.size≤b∧kL w' b ai true (.slice a n c) 1∧Below w.heap.size w w':=by
 have HB:=hid (O7 true a n c)
 obtain ⟨TW,hTW⟩:∃ TW,(fH ai true (.slice a n c) 1).toArray=TW:=⟨_,rfl⟩
 have HTR:=hid (fun (W:World) (b:Nat) (h:W.heap[b]? = some (.cells TW 123 (0,0)))=>show kL W b ai true (.slice a n c) 1 by unfold kL; rw [hTW]; exact h)
 rw [hTW] at HB
 clear hTW
 go_in
 go_wp2_with (first
  | (refine bD (o:=⟨some 10,_,_,_,_,_⟩) rfl _ _ rfl #[(1,.bool true),(2,.slice a n c),(3,.int .i64 1)] (by simp [Act.eval]) _ (HB.out _) ?_))
 go_ret
 exact ⟨_,rfl,Nat.le_refl _,HTR.out _ _ (ah w _),aK w _⟩
theorem Me (LQ:ay→az→Prop)(ok:Nat→Prop)(d g off n c:Nat)(L:Its (d+1))(cur:List Value)(w:World)(hg:w.heap[g]? = some (.cells cur.toArray 129 (0,0)))(hI:IS w (some ⟨g,off,none⟩) n (d+1) L)(hk:∀ x ∈ L,TR LQ w ok (d+1) x.2.2)(hok:∀ k,ok k→k<w.heap.size∧k ≠ g)(hn:0<n)(hn2:n≤1000)(hf:bf (d+1) L≤1000000) :
 Calls Tryz.prog 93 #[.slice (some ⟨g,off,none⟩) n c,.bool false] w fun e w'=>∃ b,e = .returned (.pointer (some ⟨b,0,none⟩))∧w.heap.size≤b∧kL w' b ai false (.slice (some ⟨g,off,none⟩) n c) (1+bf (d+1) L)∧w'.heap[g]? = some (.cells (cur.set off (.string aY)).toArray 129 (0,0))∧Touch [g] w w':=by
 have HG:=hid hg
 have HI:=hid hI
 have HK:=hid hk
 have qP:=hid hok
 have glt:=lt_of_block hg
 have nI:(n:Int)≤1000:=by omega
 have n0:(0:Int)<(n:Int):=by omega
 have HB:=hid (O7 false (some ⟨g,off,none⟩) n c)
 have HF:=hid hf
 obtain ⟨TW,hTW⟩:∃ TW,(fH ai false (.slice (some ⟨g,off,none⟩) n c) 1).toArray=TW:=⟨_,rfl⟩
 have HTR:=hid (fun (W:World) (b:Nat) (h:W.heap[b]? = some (.cells TW 123 (0,0)))=>show kL W b ai false (.slice (some ⟨g,off,none⟩) n c) 1 by unfold kL; rw [hTW]; exact h)
 rw [hTW] at HB
 have hix0:=bT g off n c 0 hn
 simp only [Nat.zero_mul,Nat.add_zero] at hix0
 obtain ⟨x0,hx0⟩:∃ x,L[0]? = some x:=⟨_,List.getElem?_eq_getElem (by have:=hI.len; omega)⟩
 have hc0:w.cell? ⟨g,off,none⟩=some (.string x0.1):=by
  obtain ⟨b1,o1,e1,c1⟩:=hI.at_ 0 x0 hx0;injection e1 with e1;injection e1 with e2 e3;subst e2 e3;simpa using c1.k
 have g0:∀ o,(w.alloc o).cell? ⟨g,off,none⟩=some (.string x0.1):=fun o=>((aK w o).cell (p:=⟨g,off,none⟩) glt).trans hc0
 have f0:∀ o,(w.alloc o).frozen? ⟨g,off,none⟩=false:=fun o=>frozen_of_row (w.alloc o) g off _ _ (((aK w o).block g glt).trans hg)
 clear hTW hg hI hk hok hf hc0 hx0
 go_in
 go_wp2_with (first
  | (refine bD (o:=⟨some 10,_,_,_,_,_⟩) rfl _ _ rfl #[(1,.bool false),(2,.slice (some ⟨g,off,none⟩) n c),(3,.int .i64 1)] (by simp [Act.eval]) _ (HB.out _) ?_))
 have hst:∀ W,W=(w.setCell ⟨g,off,none⟩ (.string ⟨#[]⟩)).alloc (.cells TW 123)→kL W w.heap.size ai false (.slice (some ⟨g,off,none⟩) n c) 1∧W.heap[g]? = some (.cells (cur.set off (.string aY)).toArray 129 (0,0))∧Touch [g] w W:=fun W hW=>by
  subst hW;have hsz:(w.setCell ⟨g,off,none⟩ (.string ⟨#[]⟩)).heap.size=w.heap.size:=by simp
  have h1:=ah (w.setCell ⟨g,off,none⟩ (.string ⟨#[]⟩)) (.cells TW 123);rw [hsz] at h1;exact ⟨HTR.out _ _ h1,((aK _ _).block g (by rw [hsz]; exact glt)).trans (fC HG.out off _),(aV w g off _).trans (Touch.of_below (aK _ _))⟩
 have HIS:=hid (fun (W:World) (h:W.heap[g]? = some (.cells (cur.set off (.string aY)).toArray 129 (0,0)))=>afl HI.out HG.out h)
 have Ui:=hid HI.out.len
 go_loopw [7,19] (fun _ v19 wr=>∃ i:Nat,i≤n∧v19 = .int .i64 (i:Int)∧kL wr w.heap.size ai false (.slice (some ⟨g,off,none⟩) n c) (1+bf (d+1) (L.take i))∧wr.heap[g]? = some (.cells (cur.set off (.string aY)).toArray 129 (0,0))∧Touch [g] w wr) (fun _ v _=>n - (intOf v).toNat)
 case atStart=>exact ⟨0,by omega,rfl,hst _ rfl⟩
 case round =>
  obtain ⟨i,hi,rfl,htw,hrow,ht⟩:=hrel;have HTW:=hid htw;have mP:=hid hrow;have HT:=hid ht;clear hst htw hrow ht;by_cases hlt:i<n
  ·obtain ⟨x,hx⟩:∃ x,L[i]? = some x:=⟨_,List.getElem?_eq_getElem (by have:=Ui.out; omega)⟩
   obtain ⟨y,hy,hyx⟩:∃ y,(hd0 (d+1) L)[i]? = some y∧y.2.2=x.2.2:=aiy L i x hx;obtain ⟨b1,o1,e1,c1⟩:=(HIS.out wr mP.out).at_ i y hy;injection e1 with e1;injection e1 with e2 e3;subst e2 e3;have hix:=bT g off n c i hlt;have bn:=hid hlt;have iI:(i:Int)<(n:Int):=by omega
   have i0:(0:Int)≤(i:Int):=by omega
   obtain ⟨k1,k2⟩:=(HK.out x (List.mem_of_getElem? hx)).fresh;obtain ⟨k3,k4⟩:=qP.out _ k2;have c10:=c1.k;have c11:=c1.v;have c12:=c1.p;rw [hyx] at c12;have atZ:wr.cell? ⟨g,off+i * 3+2,none⟩=some (.pointer (some ⟨pK x.2.2,0,none⟩)):=c12;have xJ:=hid (show bf (d+1) (L.take (i+1))=bf (d+1) (L.take i)+jl (d+1) x.2.2 by rw [bM L i x hx,fD]; rfl);have hle:bf (d+1) (L.take (i+1))≤1000000:=by
    have:=fD (d+1) (L.take (i+1)) (L.drop (i+1));rw [List.take_append_drop] at this;have:=HF.out;omega
   have FI:((bf (d+1) (L.take i):Nat):Int)+((jl (d+1) x.2.2:Nat):Int)≤1000000:=by have:=xJ.out; omega
   have c36:=HTW.out.at_.2.2.2;have kk:=ae k1 (HT.out.block _ k3 (by simpa using k4));have hwl:=HT.out.size;have a36:∀ o,(wr.alloc o).cell? ⟨w.heap.size,36,none⟩=some (.int .i64 ((1+bf (d+1) (L.take i):Nat):Int)):=fun o=>((aK wr o).cell (p:=⟨w.heap.size,36,none⟩) (block_lt_of_cell c36)).trans c36;have ak:∀ o,(wr.alloc o).cell? ⟨pK x.2.2,36,none⟩=some (.int .i64 ((jl (d+1) x.2.2:Nat):Int)):=fun o=>((aK wr o).cell (p:=⟨pK x.2.2,36,none⟩) (block_lt_of_cell kk)).trans kk;have af:∀ o,(wr.alloc o).frozen? ⟨w.heap.size,36,none⟩=false:=fun o=>frozen_of_row (wr.alloc o) w.heap.size 36 _ _ (((aK wr o).block _ (block_lt_of_cell c36)).trans HTW.out)
   have H6:=hid (block_lt_of_cell c36);generalize jl (d+1) x.2.2=FX at *;generalize pK x.2.2=KX at *;generalize bf (d+1) (L.take i)=FL at *;clear hi hlt hx c1 hy hyx c12 k1 k2 k3 k4 kk c36 hle hwl;go_wp2_with fail;go_region;go_wp2_with fail;have hx1:=aix (W:=wr.alloc (.cells #[.string y.1,.string y.2.1,.pointer (some ⟨KX,0,none⟩)] 129)) (((aK wr _).block _ H6.out).trans HTW.out) (1+bf (d+1) (L.take (i+1)));have ec:((1+bf (d+1) (L.take (i+1)):Nat):Int)=1+(FL:Int)+(FX:Int):=by rw [xJ.out]; omega
   rw [ec] at hx1;refine ⟨⟨i+1,by have:=bn.out; omega,by go_num,hx1, ?_,O8 HT.out ?_⟩,by simp only [intOf]; have:=bn.out; omega⟩
   ·show ((wr.alloc _).setCell _ _).heap[g]? = _
    rw [heap_setCell_other _ _ _ _ (by show g ≠ w.heap.size; omega),(aK wr _).block g (lt_of_block mP.out)];exact mP.out
   exact ((((Below.refl _ wr).alloc (Nat.le_refl _) _).mono HT.out.size).setCell (p:=⟨w.heap.size,36,none⟩) (Nat.le_refl _) _).drew
  obtain rfl:i=n:=by omega
  clear hi hlt;go_wp2_with fail;go_ret;have e:=HTW.out;rw [show L.take i=L by rw [← Ui.out,List.take_length]] at e;exact ⟨_,rfl,Nat.le_refl _,e,mP.out,HT.out⟩
end
end Go.Proofs.YtljjcbmkbmloaaaGreatDoor
