import Derived.Test.YtljjcbmkbmloaaaGreatDoorGTu8
import Derived.Test.YtljjcbmkbmloaaaGreatDoorGTuA
namespace Go.Proofs.YtljjcbmkbmloaaaGreatDoor
set_option maxHeartbeats 3200000
set_option maxRecDepth 100000
set_option linter.unusedVariables false
open Lib (hid)
section
open Go.ChangeShapes Go.WideShapes Go.ChangeAt Go.RowKit
structure ay where
 ad:Int
 bi:Int
 su:bI
 a0:0≤ad∧ad≤4294967295
 b0:0≤bi∧bi≤18446744073709551615
 s0:su.length=32∧gm su
theorem ay.same {p q:ay}(h1:p.ad=q.ad)(h2:p.bi=q.bi)(h3:p.su=q.su):p=q:=by
 cases p
 cases q
 simp only at h1 h2 h3;subst h1 h2 h3;rfl
instance:DecidableEq ay:=fun p q=>if h:p.ad=q.ad∧p.bi=q.bi∧p.su=q.su then isTrue (ay.same h.1 h.2.1 h.2.2) else isFalse (fun e=>h (by subst e; exact ⟨rfl,rfl,rfl⟩))
theorem Fa (n:Nat):gm (List.replicate n 0):=by
 intro z hz;obtain ⟨_,rfl⟩:=List.mem_replicate.1 hz;omega
def ai:ay:=⟨0,0,List.replicate 32 0,by decide,by decide,by decide,Fa 32⟩
instance:Inhabited ay:=⟨ai⟩
def ag (q:ay):List Value := .int .u32 q.ad :: .int .u64 q.bi::q.su.map (Value.int .u8)
theorem aO (q:ay):(ag q).length=34:=by simp [ag,q.s0.1]
theorem Tz {p q:ay}(h:ag p=ag q):p=q:=by
 unfold ag at h;simp only [List.cons.injEq,Value.int.injEq,true_and] at h;refine ay.same h.1 h.2.1 (List.map_inj_right (fun x y e=>?_) |>.1 h.2.2);injection e
theorem aW (q:ay):(ag q).toArray.all (·.oneCell')=true:=by
 apply all_oneCell_toArray;intro v hv;simp only [ag,List.mem_cons,List.mem_map] at hv;rcases hv with rfl | rfl | ⟨z,_,rfl⟩ <;> rfl
theorem Iu (q:ay):∀ v ∈ ag q,v.oneCell'=true:=by
 intro v hv;simp only [ag,List.mem_cons,List.mem_map] at hv;rcases hv with rfl | rfl | ⟨z,_,rfl⟩ <;> rfl
theorem dL (q:ay):(Tryz.prog.info? 51).map (·.size)=some (ag q).length:=by
 rw [show (Tryz.prog.info? 51).map (·.size)=some 34 by kernel_rfl,aO q]
theorem cZ (q:ay):(Tryz.prog.info? 51).map (·.size)=some (ag q).toArray.size:=by
 rw [dL q]; simp
theorem dF (W:World):(zeroValue 51).run Tryz.prog W = .ok (.agg (ag ai).toArray) W:=by kernel_rfl
theorem Ox:(Tryz.prog.info? 51).map (fun i=>(i.zero,i.size,i.bytes))=some (some (.agg (ag ai).toArray),34,48):=by kernel_rfl
theorem XZ {w:World}{b o:Nat}{q:ay}(h:w.rangeAt b o (ag q)) :
 w.cell? ⟨b,o,none⟩=some (.int .u32 q.ad)∧w.cell? ⟨b,o+1,none⟩=some (.int .u64 q.bi)∧w.rangeAt b (o+2) (q.su.map (Value.int .u8)):=by
 refine ⟨h 0 _ rfl,h 1 _ rfl,fun j v hj=>?_⟩
 have:=h (j+2) v (by simpa [ag] using hj)
 rwa [show o+(j+2)=o+2+j by omega] at this
theorem lG {w:World}{b t:Nat}{fr:Nat×Nat}{cs:List Value}(h:w.heap[b]? = some (.cells cs.toArray t fr)):w.rangeAt b 0 cs:=by
 intro j v hj;rw [Nat.zero_add,cell_of_row _ _ _ _ _ _ h];simpa using hj
theorem qM {w:World}{b t:Nat}{fr:Nat×Nat}{q:ay}(h:w.heap[b]? = some (.cells (ag q).toArray t fr)) :
 w.cell? ⟨b,0,none⟩=some (.int .u32 q.ad)∧w.cell? ⟨b,1,none⟩=some (.int .u64 q.bi)∧w.rangeAt b 2 (q.su.map (Value.int .u8)):=by
 have:=XZ (lG h)
 simpa using this
theorem Jl (parts:List (Nat×Value)):Tryz.prog.built 51 parts=Instr.fill (#[(0,1),(1,1),(2,32)][·]?) (ag ai).toArray parts:=by kernel_rfl
theorem aba (q:ay):Instr.fill (#[(0,1),(1,1),(2,32)][·]?) (ag ai).toArray [(0,.int .u32 q.ad),(1,.int .u64 q.bi),(2,.agg (uK q.su))]=some (ag q).toArray:=by
 have hq:=q.s0.1;rw [gq _ _ (Value.int .u32 q.ad::Value.int .u64 0::(List.replicate 32 0).map (Value.int .u8)).toArray #[.int .u32 q.ad] (.int .u32 q.ad) 0 0 1 _ rfl rfl rfl (by simp [aO]) (fun i=>by
  unfold ag ai;cases i with
  | zero=>simp
  | succ i=>simp)]
 rw [gq _ _ (Value.int .u32 q.ad::Value.int .u64 q.bi::(List.replicate 32 0).map (Value.int .u8)).toArray #[.int .u64 q.bi] (.int .u64 q.bi) 1 1 1 _ rfl rfl rfl (by simp) (fun i=>by
  match i with
  | 0=>simp
  | 1=>simp
  | i+2 =>
    rw [if_neg (by simp)];simp)]
 rw [gq _ _ (ag q).toArray (uK q.su) (.agg (uK q.su)) 2 2 32 _ rfl rfl (by rw [pg,hq]) (by rw [pg,hq]; simp) (fun i=>by
  unfold ag uK;match i with
  | 0=>simp
  | 1=>simp
  | i+2 =>
    by_cases h:i<q.su.length
    ·rw [if_pos (by simp; omega)]; simp
    rw [if_neg (by simp only [List.size_toArray,List.length_map]; omega)];simp only [List.getElem?_toArray,List.getElem?_cons_succ];rw [List.getElem?_eq_none (by simp; omega),List.getElem?_eq_none (by simp; omega)])]
 rfl
theorem Jm (q:ay)(W:World):(Instr.build 51 #[(0,.int .u32 q.ad),(1,.int .u64 q.bi),(2,.agg (uK q.su))]).run Tryz.prog W = .ok (.agg (ag q).toArray) W :=
 run_build W 51 _ _ (by rw [Jl]; exact aba q)
theorem sZ (W:World):(Instr.build 51 #[]).run Tryz.prog W = .ok (.agg (ag ai).toArray) W :=
 run_build W 51 _ _ (by rw [Jl]; rfl)
theorem bD {P:Program}{ops:Array Oper}{rest:List Oper}{o:Oper}{a:Act}{w:World}{Q:Exit→Act→World→Prop}(hgd:o.guard=none)(t:TypeId)(parts:Array (Nat×Operand))(ho:o.op = .build t parts)(vs:Array (Nat×Value))(hv:(parts.map fun (i,x)=>(i,a.eval x))=vs)
 (v:Value) (hr:(Instr.build t vs).run P w = .ok v w) (h:wpList P ops Q rest (a.put o.dst v) w):wpList P ops Q (o::rest) a w :=
 wpList_plain hgd fun _ hK=>by
  subst hv;unfold Oper.wp execOp;simp only [ho,Sem.run_bind,hr,Result.andThen_ok];exact hK _ _ h
def Lj (q:ay):List Lit := .int .u32 q.ad :: .int .u64 q.bi::q.su.map (Lit.int .u8)
theorem Fb {β:Type}(f:Nat→Option β)(g:Nat→β):∀ n,(∀ i,i<n→f i=some (g i))→(List.range n).mapM f=some ((List.range n).map g)
 | 0,_=>rfl
 | n+1,h=>by
   rw [List.range_succ,List.mapM_append,Fb f g n (fun i hi=>h i (by omega))];simp [h n (by omega)]
theorem Ll {α:Type}(d:α)(l:List α):((List.range l.length).map fun i=>[l.getD i d]).flatten=l:=by
 have h:∀ r:List Nat,(r.map fun i=>[l.getD i d]).flatten=r.map fun i=>l.getD i d:=by
  intro r;induction r with
  | nil=>rfl
  | cons a r ih=>rw [List.map_cons,List.flatten_cons,ih]; rfl
 rw [h];apply List.ext_getElem?;intro i;rw [List.getElem?_map];by_cases h:i<l.length
 ·rw [List.getElem?_range h]
  simp [List.getElem?_eq_getElem h,List.getD]
 rw [List.getElem?_eq_none (by simpa using h),List.getElem?_eq_none (by omega)];rfl
theorem X0 (l:bI)(hl:l.length=32)(hb:gm l)(d:Nat):Tryz.prog.keyLits (d+2) 49 (l.map (Value.int .u8))=some (l.map (Lit.int .u8)):=by
 unfold Program.keyLits;rw [Tryz.underlying49];dsimp only;rw [if_pos (by rw [List.length_map,hl]; kernel_rfl),show Tryz.prog.cellsOf 5=1 by kernel_rfl];rw [Fb _ (fun i=>[(l.map (Lit.int .u8)).getD i (.int .u8 0)]) 32 ?_]
 ·have:=Ll (.int .u8 0) (l.map (Lit.int .u8))
  rw [List.length_map,hl] at this;rw [Option.map_some,this]
 intro i hi;have hx:i<l.length:=by omega
 have e:((l.map (Value.int .u8)).drop (i * 1)).take 1=[Value.int .u8 l[i]]:=by
  rw [Nat.mul_one,← List.map_drop,← List.map_take,List.drop_eq_getElem_cons hx];rfl
 have hz:=hb l[i] (List.getElem_mem hx);rw [e];unfold Program.keyLits;rw [Tryz.underlying5];dsimp only;rw [if_pos ⟨rfl,by simp [Lit.wf,IntKind.min,IntKind.max,IntKind.signed,IntKind.bits]; omega⟩];simp [hx]
theorem abb (q:ay)(d:Nat):Tryz.prog.keyLits (d+3) 51 (ag q)=some (Lj q):=by
 have h1:Tryz.prog.cellsOf 46=1:=by kernel_rfl
 have h2:Tryz.prog.cellsOf 47=1:=by kernel_rfl
 have h3:Tryz.prog.cellsOf 49=32:=by kernel_rfl
 have ha:=q.a0;have hb:=q.b0;have e0:Tryz.prog.keyLits (d+2) 46 [Value.int .u32 q.ad]=some [.int .u32 q.ad]:=by
  unfold Program.keyLits;rw [Tryz.underlying46];dsimp only;rw [if_pos ⟨rfl,by simp [Lit.wf,IntKind.min,IntKind.max,IntKind.signed,IntKind.bits]; omega⟩]
 have e1:Tryz.prog.keyLits (d+2) 47 [Value.int .u64 q.bi]=some [.int .u64 q.bi]:=by
  unfold Program.keyLits;rw [Tryz.underlying47];dsimp only;rw [if_pos ⟨rfl,by simp [Lit.wf,IntKind.min,IntKind.max,IntKind.signed,IntKind.bits]; omega⟩]
 have e2:=X0 q.su q.s0.1 q.s0.2 d;have e3:(q.su.map (Value.int .u8)).take 32=q.su.map (Value.int .u8):=List.take_of_length_le (by rw [List.length_map,q.s0.1]; exact Nat.le_refl _);unfold Program.keyLits;rw [Tryz.underlying51];dsimp only;rw [if_pos ⟨by rw [aO q]; kernel_rfl,by simp⟩];unfold ag;simp [h1,h2,h3,e0,e1,e2,e3,Lj]
def kl (q:ay):Lit := .string (keyBytes (Lj q))
theorem DW (q:ay):keyOf Tryz.prog 51 (.agg (ag q).toArray)=some (kl q):=by
 have ht:∃ d,Tryz.prog.types.size+1=d+3:=⟨Tryz.prog.types.size - 2,by rw [show Tryz.prog.types.size=Tryz.prog.types.size - 2+2 from of_decide_eq_true (by kernel_rfl)]; rfl⟩
 obtain ⟨d,hd⟩:=ht;unfold keyOf;rw [Tryz.underlying51];dsimp only;rw [if_pos,hd]
 ·show (Tryz.prog.keyLits (d+3) 51 (ag q).toArray.toList).map _=_
  rw [show (ag q).toArray.toList=ag q from rfl,abb q d];rfl
 rw [show Tryz.prog.keyType 51=true by kernel_rfl,Bool.true_and];unfold Value.formed;rw [Tryz.underlying51];simp only [List.size_toArray,aO,show Tryz.prog.cellsOf 51=34 by kernel_rfl];rfl
theorem aeT:WideMaps.KeyLaw Tryz.prog 51:=deep_law_laid laidOut (m:=3) (by decide) (of_decide_eq_true (by kernel_rfl)) (by kernel_rfl) (by rw [Tryz.underlying51])
theorem X3:Maps.Keyed Tryz.prog 51:=Maps.Keyed.of_law aeT
theorem aif {p q:ay}(h:kl p=kl q):p=q:=by
 have:=X3.inj (DW p) (h ▸ DW q);injection this with e;exact Tz (by simpa using congrArg Array.toList e)
theorem aih (p q:ay)(w:World):(Op.equalIn 10000 51 (.agg (ag p).toArray) (.agg (ag q).toArray)).run Tryz.prog w = .ok (decide (p=q)) w:=by
 obtain ⟨r,h1,h2⟩:=run_equal_deep w (m:=3) (by decide) (show Tryz.prog.keyTypeAt 3 51=true by kernel_rfl) (by rw [Tryz.underlying51]) (DW p) (DW q);have e:r=decide (p=q):=by
  by_cases h:p=q
  ·subst h; simp [h2.2 rfl]
  rw [decide_eq_false h];cases r with
  | false=>rfl
  | true=>exact absurd (aif (h2.1 rfl)) h
 rw [← e];exact h1
theorem aeU (p:ay)(w:World):(Op.equalIn 10000 51 (.agg (ag p).toArray) (.agg #[.int .u32 0,.int .u64 0,.int .u8 0,.int .u8 0,.int .u8 0,.int .u8 0,.int .u8 0,.int .u8 0,.int .u8 0,.int .u8 0,.int .u8 0,.int .u8 0,.int .u8 0,.int .u8 0,.int .u8 0,.int .u8 0,.int .u8 0,.int .u8 0,.int .u8 0,.int .u8 0,.int .u8 0,.int .u8 0,.int .u8 0,.int .u8 0,.int .u8 0,.int .u8 0,.int .u8 0,.int .u8 0,.int .u8 0,.int .u8 0,.int .u8 0,.int .u8 0,.int .u8 0,.int .u8 0])).run Tryz.prog w = .ok (decide (p=ai)) w:=aih p ai w
end
section
open Go.ChangeShapes Go.WideShapes Go.ChangeAt Go.RowKit
theorem dR (q:ay)(w:World) :
 Calls Tryz.prog 21 #[.agg (ag q).toArray] w fun e w'=>e = .returned (.bool (q.ad == 0))∧Below w.heap.size w w':=by
 have hb:=(Below.refl w.heap.size w).alloc (Nat.le_refl _) (.cells (ag q).toArray 51)
 obtain ⟨c0,_,_⟩:=qM (heap_alloc_new w (.cells (ag q).toArray 51))
 have HB:=hid hb
 clear hb
 obtain ⟨ad,bi,su,_,_,_⟩:=q
 dsimp only at c0 ⊢
 generalize (ag _).toArray=AR at *
 go_in
 go_wp2_with fail
 go_ret
 exact ⟨rfl,HB.out⟩
def Lm (q:ay)(n:Int):Bool:=if q.ad=0 then decide (q=ai) else decide (2≤q.ad) && decide (q.ad<n) && decide (q.bi ≠ 0)
def iE (q:ay)(n:Int):Int:=if Lm q n then 0 else 4
theorem abd (q:ay)(n:Int)(w:World) :
 Calls Tryz.prog 82 #[.agg (ag q).toArray,.int .i64 n] w fun e w'=>e = .returned (.bool (Lm q n))∧Below w.heap.size w w':=by
 have hb:=(Below.refl w.heap.size w).alloc (Nat.le_refl _) (.cells (ag q).toArray 51)
 have hA:=heap_alloc_new w (.cells (ag q).toArray 51)
 obtain ⟨c0,c1,_⟩:=qM hA
 have HB:=hid hb
 have HA:=hid hA
 have HN:=hid (fun W=>dR q W)
 have heq:=aeU q
 have SE:=hid (cZ q)
 have hq:=q.a0
 have hm:Lm q n=if q.ad=0 then decide (q=ai) else decide (2≤q.ad) && decide (q.ad<n) && decide (q.bi ≠ 0):=rfl
 generalize Lm q n=mb at *
 generalize hD:decide (q=ai)=dz at *
 clear hb hA hD
 generalize (ag q).toArray=AR at *
 generalize q.ad=ad at *
 generalize q.bi=bi at *
 have hw:IntKind.i64.wrap ad=ad:=IntWalk.i64_in _ (by omega)
 by_cases h0:ad=0
 ·rw [if_pos h0] at hm
  subst hm;have HE:(ad == 0)=true:=by simpa using h0
  clear h0 c0 c1 hq hw;go_in;go_wp2_with (first
   | (with_reducible refine wpList_load_row (o:=⟨some 5,_,_,_,_,_⟩) rfl 51 _ rfl w.heap.size rfl 51 AR (0,0) _ HA.out Tryz.underlying51 rfl SE.out ?_))
  refine (HN.out _).mono ?_;rintro e w2 ⟨rfl,hb2⟩;rw [HE];have HB2:=hid (HB.out.trans (hb2.mono (by simp)));have HA2:=hid ((hb2.block w.heap.size (by simp)).trans HA.out);clear hb2;go_wp2_with (first
   | (with_reducible refine wpList_load_row (o:=⟨some 7,_,_,_,_,_⟩) rfl 51 _ rfl w.heap.size rfl 51 AR (0,0) _ HA2.out Tryz.underlying51 rfl SE.out ?_))
  go_ret;exact ⟨rfl,HB2.out⟩
 ·rw [if_neg h0] at hm
  have HE:(ad == 0)=false:=by simpa using h0
  clear h0 heq;go_in;go_wp2_with (first
   | (with_reducible refine wpList_load_row (o:=⟨some 5,_,_,_,_,_⟩) rfl 51 _ rfl w.heap.size rfl 51 AR (0,0) _ HA.out Tryz.underlying51 rfl SE.out ?_))
  refine (HN.out _).mono ?_;rintro e w2 ⟨rfl,hb2⟩;rw [HE];have c02:w2.cell? ⟨w.heap.size,0,none⟩=some (.int .u32 ad):=(hb2.cell (by simp)).trans c0;have c12:w2.cell? ⟨w.heap.size,1,none⟩=some (.int .u64 bi):=(hb2.cell (by simp)).trans c1;have HB2:=hid (HB.out.trans (hb2.mono (by simp)));have HM:=hid hm;clear hb2 hq c0 c1 hm HA;go_wp2_with fail;all_goals (go_ret; refine ⟨congrArg (fun b=>Ending.returned (Value.bool b)) ?_,HB2.out⟩; rw [HM.out,Bool.eq_iff_iff]; simp; omega)
theorem pF (q:ay)(n:Int)(w:World) :
 Calls Tryz.prog 62 #[.agg (ag q).toArray,.int .i64 n] w fun e w'=>e = .returned (.int .i64 (iE q n))∧Below w.heap.size w w':=by
 have hb:=(Below.refl w.heap.size w).alloc (Nat.le_refl _) (.cells (ag q).toArray 51)
 have hA:=heap_alloc_new w (.cells (ag q).toArray 51)
 have HB:=hid hb
 have HA:=hid hA
 have HN:=hid (fun W=>abd q n W)
 have SE:=hid (cZ q)
 have HC:=hid (show iE q n=if Lm q n then 0 else 4 from rfl)
 generalize iE q n=ce at *
 generalize Lm q n=mb at *
 clear hb hA
 generalize (ag q).toArray=AR at *
 go_in
 go_wp2_with (first
  | (with_reducible refine wpList_load_row (o:=⟨some 5,_,_,_,_,_⟩) rfl 51 _ rfl w.heap.size rfl 51 AR (0,0) _ HA.out Tryz.underlying51 rfl SE.out ?_))
 refine (HN.out _).mono ?_
 rintro e w2 ⟨rfl,hb2⟩
 have HB2:=hid (HB.out.trans (hb2.mono (by simp)))
 clear hb2 HA HB SE HN
 cases mb with
 | true =>
   have HC2:=hid (show ce=0 from HC.out);clear HC;go_wp2_with fail;go_ret;exact ⟨by rw [HC2.out]; rfl,HB2.out⟩
 | false =>
   have HC2:=hid (show ce=4 from HC.out);clear HC;go_wp2_with fail;go_ret;exact ⟨by rw [HC2.out]; rfl,HB2.out⟩
def gy (q:ay):bI:=kW q.ad 4++(kW q.bi 8++q.su)
theorem jC (q:ay):(gy q).length=44:=by simp [gy,dQ,q.s0.1]
theorem Fe (q:ay):gm (gy q):=by
 intro z hz;unfold gy at hz;simp only [List.mem_append] at hz;rcases hz with hz | hz | hz
 ·exact rq _ _ z hz
 ·exact rq _ _ z hz
 exact q.s0.2 z hz
theorem Oy (z:Int)(k:Nat)(hk:k≤8)(h1:z<2 ^ (8 * k)):uM z (k:Int)=(kW z k,0):=by
 unfold uM;rw [if_neg (by simp; omega)];simp
theorem iR.same {w w':World}{P B k:Nat}{v:Value}{l:bI}(s:iR w w' P B v l)(hk:k<w.heap.size)(h1:k ≠ P)(h2:v.ownBlock ≠ some k):w'.heap[k]? = w.heap[k]? := by
 obtain ⟨_,_,t,_⟩:=s;refine t.block k hk ?_;simp only [List.mem_cons,Option.mem_toList];rintro (e | e)
 ·exact h1 e
 exact h2 e
theorem X4 {w:World}{B n k:Nat}{e:TypeId}{v:Value}{xs:List Value}(h:w.ownsRow B e k v n xs):v.ownBlock ≠ some w.heap.size:=by
 intro e;have:=(h.lt _ e).2;omega
theorem abe (P B:Nat)(v:Value)(l:bI)(q:ay)(w:World)(h:WO w P B v l)(h63:l.length≤140737488100000)(hB:B≤w.heap.size) :
 Calls Tryz.prog 102 #[.pointer (some ⟨P,0,none⟩),.agg (ag q).toArray] w fun e w'=>e = .returned (.int .i64 0)∧iR w w' P B v (l++gy q):=by
 have hb:=(Below.refl w.heap.size w).alloc (Nat.le_refl _) (.cells (ag q).toArray 51)
 have hA:=heap_alloc_new w (.cells (ag q).toArray 51)
 have hT:w.heap.size<(w.alloc (.cells (ag q).toArray 51)).heap.size:=by simp
 have hv:=X4 h.own
 have hP:w.heap.size ≠ P:=by have:=h.lt; omega
 have h1:=h.below hb
 have hB1:=Nat.le_trans hB hb.size
 have ha:=q.a0
 have hbi:=q.b0
 have AY:=hid (zo P B v l q.ad 4 _ h1 ha.1 (by omega) hB1)
 rw [show uM q.ad 4=(kW q.ad 4,0) from Oy q.ad 4 (by decide) (by omega)] at AY
 have HX:=hid (show ∀ w2,iR (w.alloc (.cells (ag q).toArray 51)) w2 P B v (l++kW q.ad 4)→w2.heap[w.heap.size]? = some (.cells (ag q).toArray 51 (0,0))∧(w.alloc (.cells (ag q).toArray 51)).heap.size≤w2.heap.size from
  fun w2 s=>⟨(s.same hT hP hv).trans hA,by obtain ⟨_,_,t,_⟩:=s; exact t.size⟩)
 have SH:=hid (show (Tryz.prog.info? 49).map (·.size)=some (q.su.map (Value.int .u8)).length by rw [show (Tryz.prog.info? 49).map (·.size)=some 32 by kernel_rfl,List.length_map,q.s0.1])
 have HB:=hid hb
 have HVP:=hid (And.intro hP (And.intro hv (And.intro hT (And.intro h63 hB1))))
 obtain ⟨c0,_,_⟩:=qM hA
 have hw:IntKind.u64.wrap q.ad=q.ad:=IntWalk.u64_in _ (by omega)
 have HQ:=hid (And.intro hbi q.s0)
 have HE:=hid (show gy q=kW q.ad 4++(kW q.bi 8++q.su) from rfl)
 have HAT:=hid (fun (W:World) (t:Nat) (h:W.heap[w.heap.size]? = some (.cells (ag q).toArray t (0,0)))=>qM h)
 clear h hA hT hv hP h1 hB1 hbi hb h63 hB
 generalize gy q=PB at *
 generalize (ag q).toArray=AR at *
 generalize q.ad=ad at *
 generalize q.bi=bi at *
 generalize q.su=su at *
 clear ha
 go_in
 go_wp2_with fail
 refine AY.out.mono ?_
 rintro e w2 ⟨rfl,s1⟩
 obtain ⟨g2,hs2⟩:=HX.out w2 s1
 obtain ⟨v1,o1,t1,n1⟩:=s1
 have NC:=hid (zo P B v1 _ bi 8 w2 o1 HQ.out.1.1 (by rw [List.length_append,dQ]; have:=HVP.out.2.2.2.1; omega) (Nat.le_trans HVP.out.2.2.2.2 hs2))
 rw [show uM bi 8=(kW bi 8,0) from Oy bi 8 (by decide) (by have:=HQ.out.1.2; omega)] at NC
 have hv1:v1.ownBlock ≠ some w.heap.size:=by
  rcases n1 with e | ⟨g,e,hg⟩
  ·rw [e]; exact HVP.out.2.1
  rw [e]; intro e2; have:=HVP.out.2.2.1; simp only [Option.some.injEq] at e2; omega
 have G2:=hid g2
 obtain ⟨_,c1,_⟩:=HAT.out w2 _ g2
 have S1:=hid (And.intro t1 (And.intro n1 hv1))
 have SZ2:=hid hs2
 clear g2 hs2 o1 t1 n1 hv1 AY HX c0 hw
 go_wp2_with fail
 refine NC.out.mono ?_
 rintro e w3 ⟨rfl,s2⟩
 have g3:=(s2.same (Nat.lt_of_lt_of_le HVP.out.2.2.1 SZ2.out) HVP.out.1 S1.out.2.2).trans G2.out
 obtain ⟨v2,o2,t2,n2⟩:=s2
 have Iw:=hid (XO P B v2 _ su w3 o2 HQ.out.2.1 HQ.out.2.2 (by rw [List.length_append,List.length_append,dQ,dQ]; have:=HVP.out.2.2.2.1; omega) (Nat.le_trans HVP.out.2.2.2.2 (Nat.le_trans SZ2.out t2.size)))
 have lW:=hid (HAT.out w3 _ g3).2.2
 have S2:=hid (And.intro t2 n2)
 clear g3 o2 t2 n2 c1 NC G2 HAT
 go_wp2_with (first
  | (with_reducible refine wpList_load_mid (op:=⟨some 18,_,_,_,_,_⟩) rfl 49 _ rfl w.heap.size 2 rfl (su.map (Value.int .u8)) _ lW.out Tryz.underlying49 rfl SH.out ?_))
 have aii:=Iw.out
 unfold uK at aii
 refine aii.mono ?_
 rintro e w4 ⟨rfl,s3⟩
 have HS:=hid ((uY S1.out.1 S1.out.2.1 (uY S2.out.1 S2.out.2 s3)).of_below HB.out)
 clear s3 Iw lW aii
 go_wp2_with fail
 go_ret
 refine ⟨rfl, ?_⟩
 rw [HE.out,← List.append_assoc,← List.append_assoc]
 exact HS.out
theorem abf (w0 w:World)(P:Nat)(l:bI)(q:ay)(h:WL w0 w P l)(h63:l.length≤140737488100000) :
 Calls Tryz.prog 102 #[.pointer (some ⟨P,0,none⟩),.agg (ag q).toArray] w fun e w'=>e = .returned (.int .i64 0)∧WL w0 w' P (l++gy q):=by
 obtain ⟨v,h,hP,hb⟩:=h
 exact (abe P _ v l q w h h63 hb.size).mono fun e w' ⟨he,hs⟩=>⟨he,DT h hP hb hs⟩
end
section
open Go.RowKit
theorem abg (R lb cb:Nat)(ab:bO)(l:bI)(n:Int)(w0 w:World)(h0':RR w0 217 R ab lb cb l)(yg:Below w0.heap.size w0 w)(hn:n≤9223372036854775807) :
 Calls Tryz.prog 118 #[.pointer (some ⟨R,0,none⟩),.int .i64 n] w fun e w'=>e = .returned (.tuple #[.int .u64 (iV n l).1,.int .i64 (iV n l).2.1])∧(∃ ab' lb' cb',∀ W:World,(∀ k,k<w0.heap.size→k ≠ R→W.heap[k]? = w0.heap[k]?)→W.heap[R]? = w'.heap[R]? → RR W 217 R ab' lb' cb' (iV n l).2.2)∧Only R w w':=by
 have h:=h0'.below yg
 have H0':=hid h0'
 have Iy:=hid yg
 clear h0' yg
 have H:=hid h
 by_cases h1:8<n
 ·rw [show iV n l=(0,2,l) by unfold iV; rw [if_pos (.inr h1)]]
  clear h;go_in;go_wp2_with fail;go_ret2;exact ⟨rfl,⟨_,_,_,fun W q1 q2=>⟨q2.trans H.out.cell,H0'.out.bytes.old H0'.out.cell q1,H.out.len,H.out.cap,H.out.big⟩⟩,Only.refl _ _⟩
 ·have HR:=hid (AV R lb cb ab l n w0 w H0'.out Iy.out hn)
  have hs:=ER n l (by omega);have h11:n≤8:=by omega
  have hE:∃ er,(gu n l).2.1=er∧(er ≠ 0→(gu n l).2.1=er∧iV n l=(0,er,(gu n l).2.2))∧(er=0→iV n l=(num (gu n l).1,0,(gu n l).2.2)):=by
   refine ⟨_,rfl,fun hne=>⟨rfl, ?_⟩,fun he=>?_⟩
   ·by_cases h0:n<0
    ·unfold iV gu; rw [if_pos (.inl h0),if_pos h0]
    unfold iV;rw [if_neg (by omega)];unfold gu at hne ⊢;rw [if_neg h0] at hne ⊢;split
    ·rfl
    rename_i hc; rw [if_neg hc] at hne; exact absurd rfl hne
   by_cases h0:n<0
   ·unfold gu at he; rw [if_pos h0] at he; simp at he
   unfold iV;rw [if_neg (by omega),he]
  obtain ⟨er,her,hA,hB⟩:=hE;have HS:=hid hs;generalize gu n l=Q at *;obtain ⟨q1,q2,q3⟩:=Q;dsimp only at her;subst her;by_cases h0:q2=0
  ·subst h0
   rw [hB rfl];clear h h1 hs hA hB;go_in;go_wp2_with fail;refine HR.out.mono ?_;rintro e w1 ⟨⟨v,rfl,hv⟩,hr,hO⟩;have HN:=hid (aae w1 v q1 hv HS.out);have HRR:=hid hr;have HO:=hid hO;clear hv hr hO HR;go_wp2_with fail;refine HN.out.mono ?_;rintro e w2 ⟨rfl,rfl⟩;go_wp2_with fail;go_ret2;exact ⟨rfl,HRR.out,HO.out⟩
  rw [(hA h0).2];have hnb:(q2 != 0)=true:=by simp [h0]
  clear h h1 hs hA hB;go_in;go_wp2_with fail;refine HR.out.mono ?_;rintro e w1 ⟨⟨v,rfl,hv⟩,hr,hO⟩;have HRR:=hid hr;have HO:=hid hO;clear hv hr hO HR;go_wp2_with fail;go_ret2;exact ⟨rfl,HRR.out,HO.out⟩
theorem Dw (R lb cb:Nat)(ab:bO)(l:bI)(w0 w:World)(h0':RR w0 217 R ab lb cb l)(yg:Below w0.heap.size w0 w)(hsh:l.length<32) :
 Calls Tryz.prog 147 #[.pointer (some ⟨R,0,none⟩)] w fun e w'=>e = .returned (.tuple #[.agg (uK (List.replicate 32 0)),.int .i64 3])∧(∃ ab' lb' cb',∀ W:World,(∀ k,k<w0.heap.size→k ≠ R→W.heap[k]? = w0.heap[k]?)→W.heap[R]? = w'.heap[R]? → RR W 217 R ab' lb' cb' (l))∧sH R w w':=by
 have h:=h0'.below yg
 have H0':=hid h0'
 have Iy:=hid yg
 clear h0' yg
 have hz:=x9
 obtain ⟨Z,hZ⟩:∃ Z,uK (List.replicate 32 0)=Z:=⟨_,rfl⟩
 have HZ:=hid hZ
 rw [hZ] at hz
 have hA1:=(Below.refl w.heap.size w).alloc (Nat.le_refl _) (.cells Z 49)
 have hA2:=hA1.alloc hA1.size (.cells Z 49)
 have hs1:(w.alloc (.cells Z 49)).heap.size=w.heap.size+1:=by simp
 have hs2:((w.alloc (.cells Z 49)).alloc (.cells Z 49)).heap.size=w.heap.size+2:=by simp
 have e2:((w.alloc (.cells Z 49)).alloc (.cells Z 49)).heap[w.heap.size+1]? = some (.cells Z 49 (0,0)):=by
  have q:=heap_alloc_new (w.alloc (.cells Z 49)) (.cells Z 49);rwa [hs1] at q
 have e1:((w.alloc (.cells Z 49)).alloc (.cells Z 49)).heap[w.heap.size]? = some (.cells Z 49 (0,0)) :=
  (((Below.refl _ (w.alloc (.cells Z 49))).alloc (Nat.le_refl _) _).block w.heap.size (by omega)).trans (heap_alloc_new w _)
 have HW:=hid h
 have HA2:=hid hA2
 have HRl:=hid (show R<w.heap.size from (Array.getElem?_eq_some_iff.1 h.cell).1)
 clear h hA1 hA2 hs1 hZ
 go_in
 go_upto_region 2 with fail
 generalize (w.alloc (.cells Z 49)).alloc (.cells Z 49)=w2 at *
 have HR:=hid (AV R lb cb ab l 32 w0 w2 H0'.out (Iy.out.trans (HA2.out.mono Iy.out.size)) (by omega))
 have HE1:=hid e1
 have HE2:=hid e2
 rw [Jd] at HR
 have kG:=hid hs2
 clear e1 e2 hs2 hz
 rw [if_pos hsh] at HR
 clear hsh
 go_wp2_with fail
 refine HR.out.mono ?_
 rintro e w3 ⟨⟨v,rfl,hv⟩,hr,hO⟩
 obtain ⟨av,cv,rfl⟩:∃ a c,v = .slice a 0 c:=by
  obtain ⟨a',cap',h1,_⟩:=hv;exact ⟨a',cap',h1⟩
 have HRR:=hid hr
 have HO:=hid hO
 have H31:=hid (show w3.heap[w.heap.size]? = some (.cells Z 49 (0,0)) from (hO.rest _ (by have:=HRl.out; omega)).trans HE1.out)
 have H32:=hid (show w3.heap[w.heap.size+1]? = some (.cells Z 49 (0,0)) from (hO.rest _ (by have:=HRl.out; omega)).trans HE2.out)
 have hsl:=uX (w.heap.size+1)
 have hcp:∀ W:World,(Builtin.copy_ #[62,62] 3 #[.slice (some ⟨w.heap.size+1,0,none⟩) 32 32,.slice av 0 cv]).run Tryz.prog W = .ok (.int .i64 0) W:=fun W=>run_copy_none W 62 62 3 5 _ _ 32 32 0 cv Tryz.underlying62 sQ rfl
 clear hv hr hO HR HE1 HE2
 have SQ:=hid (show (Tryz.prog.info? 49).map (·.size)=some Z.size by rw [← HZ.out]; exact yc _ (by simp))
 have WO:=hid (show Z.all (·.oneCell')=true by rw [← HZ.out]; exact KZ _)
 have xw:=hid (show w3.heap.size=w.heap.size+2 by rw [HO.out.size]; exact kG.out)
 go_wp2_with (first
  | (with_reducible refine wpList_load_row (o:=⟨some 15,_,_,_,_,_⟩) rfl 49 _ rfl (w.heap.size+1) rfl 49 Z (0,0) _ H32.out Tryz.underlying49 rfl SQ.out ?_)
  | (with_reducible refine wpList_store_row (o:=⟨none,.store _ (.tmp 2) _,_,_,_,_⟩) rfl 49 _ _ rfl w.heap.size Z rfl rfl 49 Z H31.out SQ.out rfl WO.out ?_))
 have X5:Below w.heap.size w3 (w3.setRow w.heap.size Z):=aG (Below.refl _ _) (Nat.le_refl _) _
 refine bodyPost_ret (v := .tuple #[.agg Z,.int .i64 3]) (aj Tryz.results147 _ _ w.heap.size 49 Z (0,0) _ rfl (setRow_heap _ w.heap.size _ Z _ _ H31.out) Tryz.underlying49 rfl SQ.out _ (by simp)) rfl ⟨by rw [HZ.out], ?_, ?_⟩
 ·obtain ⟨x,y,z,hr⟩:=HRR.out
  exact ⟨x,y,z,fun W q1 q2=>hr W q1 (q2.trans (X5.block R HRl.out))⟩
 ·have hb0:=HO.out.bel 0 (Nat.zero_le _)
  exact ⟨X5.os.trans (hb0.os.trans HA2.out.os),X5.tape.trans (hb0.tape.trans HA2.out.tape),X5.output.trans (hb0.output.trans HA2.out.output),Nat.le_trans HA2.out.size (Nat.le_trans (Nat.le_of_eq HO.out.size.symm) X5.size),
   fun k hk hne=>(X5.block k hk).trans ((HO.out.rest k hne).trans (HA2.out.block k hk))⟩
theorem Lp (R lb cb:Nat)(ab:bO)(l:bI)(w0 w:World)(h0':RR w0 217 R ab lb cb l)(yg:Below w0.heap.size w0 w)(hsh:32≤l.length) :
 Calls Tryz.prog 147 #[.pointer (some ⟨R,0,none⟩)] w fun e w'=>e = .returned (.tuple #[.agg (uK (l.take 32)),.int .i64 0])∧(∃ ab' lb' cb',∀ W:World,(∀ k,k<w0.heap.size→k ≠ R→W.heap[k]? = w0.heap[k]?)→W.heap[R]? = w'.heap[R]? → RR W 217 R ab' lb' cb' (l.drop 32))∧sH R w w':=by
 have h:=h0'.below yg
 have H0':=hid h0'
 have Iy:=hid yg
 clear h0' yg
 have ZT:=hid (show (l.take 32).length=32 by rw [List.length_take]; omega)
 have HLL:=hid hsh
 obtain ⟨Q,hQ⟩:∃ Q,l.take 32=Q:=⟨_,rfl⟩
 rw [hQ] at ZT ⊢
 have HQQ:=hid hQ
 clear hQ hsh
 have hz:=x9
 obtain ⟨Z,hZ⟩:∃ Z,uK (List.replicate 32 0)=Z:=⟨_,rfl⟩
 have HZ:=hid hZ
 rw [hZ] at hz
 have hA1:=(Below.refl w.heap.size w).alloc (Nat.le_refl _) (.cells Z 49)
 have hA2:=hA1.alloc hA1.size (.cells Z 49)
 have hs1:(w.alloc (.cells Z 49)).heap.size=w.heap.size+1:=by simp
 have hs2:((w.alloc (.cells Z 49)).alloc (.cells Z 49)).heap.size=w.heap.size+2:=by simp
 have e2:((w.alloc (.cells Z 49)).alloc (.cells Z 49)).heap[w.heap.size+1]? = some (.cells Z 49 (0,0)):=by
  have q:=heap_alloc_new (w.alloc (.cells Z 49)) (.cells Z 49);rwa [hs1] at q
 have e1:((w.alloc (.cells Z 49)).alloc (.cells Z 49)).heap[w.heap.size]? = some (.cells Z 49 (0,0)) :=
  (((Below.refl _ (w.alloc (.cells Z 49))).alloc (Nat.le_refl _) _).block w.heap.size (by omega)).trans (heap_alloc_new w _)
 have HW:=hid h
 have HA2:=hid hA2
 have HRl:=hid (show R<w.heap.size from (Array.getElem?_eq_some_iff.1 h.cell).1)
 clear h hA1 hA2 hs1 hZ
 go_in
 go_upto_region 2 with fail
 generalize (w.alloc (.cells Z 49)).alloc (.cells Z 49)=w2 at *
 have HR:=hid (AV R lb cb ab l 32 w0 w2 H0'.out (Iy.out.trans (HA2.out.mono Iy.out.size)) (by omega))
 have HE1:=hid e1
 have HE2:=hid e2
 rw [Jd,if_neg (by have:=HLL.out; omega),HQQ.out] at HR
 have kG:=hid hs2
 clear e1 e2 hs2 hz
 go_wp2_with fail
 refine HR.out.mono ?_
 rintro e w3 ⟨⟨v,rfl,hv⟩,hr,hO⟩
 obtain ⟨av,cv,rfl⟩:∃ a c,v = .slice a 32 c:=by
  obtain ⟨a',cap',h1,_⟩:=hv;exact ⟨a',cap',by rw [h1,ZT.out]⟩
 obtain ⟨b,off,rfl,hnn,hsrc⟩:=aaS hv (by rw [ZT.out]; decide)
 have h31:w3.heap[w.heap.size]? = some (.cells Z 49 (0,0)):=(hO.rest _ (by have:=HRl.out; omega)).trans HE1.out
 have h32:w3.heap[w.heap.size+1]? = some (.cells Z.toList.toArray 49 (0,0)):=by
  rw [Array.toArray_toList];exact (hO.rest _ (by have:=HRl.out; omega)).trans HE2.out
 have HZS:=hid (show Z.size=32 by rw [← HZ.out,pg]; simp)
 have hsl:=uX (w.heap.size+1)
 have Il:=hid (show (Q.map (Value.int .u8)).length=Nat.min 32 32∧0+(Q.map (Value.int .u8)).length≤Z.toList.length∧∀ v ∈ Q.map (Value.int .u8),v.oneCell'=true from
  ⟨by rw [List.length_map,ZT.out]; rfl,by rw [List.length_map,ZT.out,Array.length_toList,HZS.out]; decide,fun v hv=>by obtain ⟨x,_,rfl⟩:=List.mem_map.1 hv; rfl⟩)
 have X6:=hid (show ∀ j v,(Q.map (Value.int .u8))[j]? = some v→w3.cell? ((⟨b,off,none⟩:Addr).add j)=some v from fun j v hv=>by rw [Addr.add_mid]; exact hsrc j v hv)
 have H32:=hid h32
 have HEQ:=hid (show (List.take 0 Z.toList++(Q.map (Value.int .u8)++List.drop (0+(Q.map (Value.int .u8)).length) Z.toList)).toArray=uK Q by
  rw [List.drop_eq_nil_of_le (by rw [List.length_map,ZT.out,Array.length_toList,HZS.out]; decide)]; simp [uK])
 have HRR:=hid hr
 have HO:=hid hO
 have H31:=hid h31
 have xw:=hid (show w3.heap.size=w.heap.size+2 by rw [hO.size]; exact kG.out)
 clear h31 h32 hsrc hv hr hO HR HE1 HE2 hnn
 go_upto_region 4 with (first
  | (refine Iq (o:=⟨some 14,_,_,_,_,_⟩) rfl (.tmp 12) (.tmp 13) 62 62 (by rfl) 5 Tryz.underlying62 sQ (w.heap.size+1) 0 32 32 ⟨b,off,none⟩ 32 cv (by rfl) (by rfl) Z.toList 49 H32.out (Q.map (Value.int .u8)) Il.out.1 X6.out Il.out.2.1 Il.out.2.2 ?_))
 rw [HEQ.out]
 generalize ZN:World.setRow w3 _ _=w4
 have SQ:=hid (yc Q ZT.out)
 have EZ:=hid (show Z.size=(uK Q).size by rw [HZS.out,pg,ZT.out])
 have H42:=hid (show w4.heap[w.heap.size+1]? = some (.cells (uK Q) 49 (0,0)) by rw [← ZN]; exact setRow_heap _ _ _ _ _ _ H32.out)
 have H41:=hid (show w4.heap[w.heap.size]? = some (.cells Z 49 (0,0)) by rw [← ZN]; exact (setRow_other _ _ _ _ (by omega)).trans H31.out)
 have HC4:=hid (show Below w.heap.size w3 w4 by rw [← ZN]; exact aG (Below.refl _ _) (by omega) _)
 clear ZN H31 H32 X6 Il HEQ hsl
 go_wp2_with (first
  | (with_reducible refine wpList_load_row (o:=⟨some 15,_,_,_,_,_⟩) rfl 49 _ rfl (w.heap.size+1) rfl 49 (uK Q) (0,0) _ H42.out Tryz.underlying49 rfl SQ.out ?_)
  | (with_reducible refine wpList_store_row (o:=⟨none,.store _ (.tmp 2) _,_,_,_,_⟩) rfl 49 _ _ rfl w.heap.size (uK Q) rfl rfl 49 Z H41.out SQ.out EZ.out (KZ _) ?_))
 have X5:Below w.heap.size w3 (w4.setRow w.heap.size (uK Q)):=aG HC4.out (Nat.le_refl _) _
 refine bodyPost_ret (v := .tuple #[.agg (uK Q),.int .i64 0]) (aj Tryz.results147 _ _ w.heap.size 49 (uK Q) (0,0) _ rfl (setRow_heap _ w.heap.size _ (uK Q) _ _ H41.out) Tryz.underlying49 rfl SQ.out _ (by simp)) rfl ⟨rfl, ?_, ?_⟩
 ·obtain ⟨x,y,z,hr⟩:=HRR.out
  exact ⟨x,y,z,fun W q1 q2=>hr W q1 (q2.trans (X5.block R HRl.out))⟩
 ·have hb0:=HO.out.bel 0 (Nat.zero_le _)
  exact ⟨X5.os.trans (hb0.os.trans HA2.out.os),X5.tape.trans (hb0.tape.trans HA2.out.tape),X5.output.trans (hb0.output.trans HA2.out.output),Nat.le_trans HA2.out.size (Nat.le_trans (Nat.le_of_eq HO.out.size.symm) X5.size),
   fun k hk hne=>(X5.block k hk).trans ((HO.out.rest k hne).trans (HA2.out.block k hk))⟩
theorem X7 (R lb cb:Nat)(ab:bO)(l:bI)(w0 w:World)(h0':RR w0 217 R ab lb cb l)(yg:Below w0.heap.size w0 w) :
 Calls Tryz.prog 147 #[.pointer (some ⟨R,0,none⟩)] w fun e w'=>e = .returned (.tuple #[.agg (uK (uA l).1),.int .i64 (uA l).2.1])∧(∃ ab' lb' cb',∀ W:World,(∀ k,k<w0.heap.size→k ≠ R→W.heap[k]? = w0.heap[k]?)→W.heap[R]? = w'.heap[R]? → RR W 217 R ab' lb' cb' (uA l).2.2)∧sH R w w':=by
 have h:=h0'.below yg
 have H0':=hid h0'
 have Iy:=hid yg
 clear h0' yg
 by_cases hs:l.length<32
 ·rw [show uA l=(List.replicate 32 0,3,l) by unfold uA; rw [if_pos hs]]
  exact Dw R lb cb ab l w0 w H0'.out Iy.out hs
 ·rw [show uA l=(l.take 32,0,l.drop 32) by unfold uA; rw [if_neg hs]]
  exact Lp R lb cb ab l w0 w H0'.out Iy.out (by omega)
def trunc (N:Nat)(w:World):World:={ w with heap:=w.heap.extract 0 N }
theorem iY {N k:Nat}(w:World)(h:k<N):(trunc N w).heap[k]? = w.heap[k]? := by
 unfold trunc;simp [Array.getElem?_extract];omega
theorem mF {N:Nat}{w:World}(h:N≤w.heap.size):(trunc N w).heap.size=N:=by
 unfold trunc;simp;omega
theorem vC {N:Nat}{w:World}(h:N≤w.heap.size):Below (trunc N w).heap.size (trunc N w) w :=
 ⟨rfl,rfl,rfl,by rw [mF h]; exact h,fun k hk=>(iY w (by rwa [mF h] at hk)).symm⟩
def RT (N:Nat)(w:World)(t R:Nat)(l:bI):Prop:=N≤w.heap.size∧∃ ab lb cb,RR (trunc N w) t R ab lb cb l
theorem RT.rr {N:Nat}{w:World}{t R:Nat}{l:bI}(h:RT N w t R l):∃ ab lb cb,RR w t R ab lb cb l:=by
 obtain ⟨hN,ab,lb,cb,h⟩:=h;exact ⟨ab,lb,cb,h.below (vC hN)⟩
theorem RT.lt {N:Nat}{w:World}{t R:Nat}{l:bI}(h:RT N w t R l):R<N:=by
 obtain ⟨hN,ab,lb,cb,h⟩:=h;have:=(Array.getElem?_eq_some_iff.1 h.cell).1;rwa [mF hN] at this
theorem RT.DK {N:Nat}{w:World}{t R:Nat}{l:bI}(h:RT N w t R l):gm l:=by
 obtain ⟨hN,ab,lb,cb,h⟩:=h;exact h.bytes.DK
theorem RT.now {w:World}{t R lb cb:Nat}{ab:bO}{l:bI}(h:RR w t R ab lb cb l):RT w.heap.size w t R l:=by
 have e:trunc w.heap.size w=w:=by unfold trunc; simp
 exact ⟨Nat.le_refl _,ab,lb,cb,by rw [e]; exact h⟩
theorem RT.keep {N:Nat}{w w':World}{t R:Nat}{l:bI}(h:RT N w t R l)(hs:N≤w'.heap.size)(q:∀ k,k<N→w'.heap[k]? = w.heap[k]?):RT N w' t R l:=by
 have hR:=h.lt;obtain ⟨hN,ab,lb,cb,h⟩:=h;have e:∀ k,k<N→(trunc N w').heap[k]? = (trunc N w).heap[k]? := fun k hk=>by rw [iY _ hk,iY _ hk,q k hk]
 exact ⟨hs,ab,lb,cb,(e R hR).trans h.cell,h.bytes.old h.cell (fun k hk _=>e k (by rwa [mF hN] at hk)),h.len,h.cap,h.big⟩
theorem VM {N:Nat}{w w':World}{t R:Nat}{l:bI}(hN:N≤w.heap.size)(hs:N≤w'.heap.size)(hR:R<N)(q:∀ k,k<N→k ≠ R→w'.heap[k]? = w.heap[k]?)
 (r:∃ ab lb cb,∀ W:World,(∀ k,k<(trunc N w).heap.size→k ≠ R→W.heap[k]? = (trunc N w).heap[k]?)→W.heap[R]? = w'.heap[R]? → RR W t R ab lb cb l):RT N w' t R l:=by
 obtain ⟨ab,lb,cb,r⟩:=r
 refine ⟨hs,ab,lb,cb,r _ (fun k hk hne=>?_) (iY _ hR)⟩
 rw [mF hN] at hk
 rw [iY _ hk,iY _ hk,q k hk hne]
theorem Lr (N R:Nat)(l:bI)(n:Int)(w:World)(h:RT N w 217 R l)(hn:n≤9223372036854775807) :
 Calls Tryz.prog 118 #[.pointer (some ⟨R,0,none⟩),.int .i64 n] w fun e w'=>e = .returned (.tuple #[.int .u64 (iV n l).1,.int .i64 (iV n l).2.1])∧RT N w' 217 R (iV n l).2.2∧Only R w w':=by
 have hR:=h.lt
 obtain ⟨hN,ab,lb,cb,h⟩:=h
 exact (abg R lb cb ab l n _ w h (vC hN) hn).mono fun e w' ⟨he,hr,hO⟩=>⟨he,VM hN (by rw [hO.size]; exact hN) hR (fun k _ hne=>hO.rest k hne) hr,hO⟩
theorem aeW (N R:Nat)(l:bI)(w:World)(h:RT N w 217 R l) :
 Calls Tryz.prog 147 #[.pointer (some ⟨R,0,none⟩)] w fun e w'=>e = .returned (.tuple #[.agg (uK (uA l).1),.int .i64 (uA l).2.1])∧RT N w' 217 R (uA l).2.2∧sH R w w':=by
 have hR:=h.lt
 obtain ⟨hN,ab,lb,cb,h⟩:=h
 exact (X7 R lb cb ab l _ w h (vC hN)).mono fun e w' ⟨he,hr,hO⟩=>⟨he,VM hN (Nat.le_trans hN hO.size) hR (fun k hk hne=>hO.block k (Nat.lt_of_lt_of_le hk hN) hne) hr,hO⟩
end
section
open Go.ChangeShapes Go.WideShapes Go.ChangeAt Go.RowKit
instance aot (l:bI):Decidable (gm l):=inferInstanceAs (Decidable (∀ z ∈ l,0≤z∧z≤255))
theorem AZ (l:bI)(h:gm l)(k:Nat):gm (l.take k):=fun z hz=>h z (List.mem_of_mem_take hz)
theorem wJ (l:bI)(h:gm l)(k:Nat):gm (l.drop k):=fun z hz=>h z (List.mem_of_mem_drop hz)
theorem VN (l:bI)(h:gm l)(k:Nat)(hl:l.length=k)(m:Int)(hm:(256:Int) ^ k≤m+1):0≤num l∧num l≤m:=by
 have:=Aw l h;rw [hl] at this;omega
def iH (l:bI):ay :=
 if h:44≤l.length∧gm l then
  ⟨num (l.take 4),num ((l.drop 4).take 8),(l.drop 12).take 32,
    VN _ (AZ _ h.2 4) 4 (by rw [List.length_take]; omega) _ (by decide),
    VN _ (AZ _ (wJ _ h.2 4) 8) 8 (by rw [List.length_take,List.length_drop]; omega) _ (by decide),
    by rw [List.length_take,List.length_drop]; omega,AZ _ (wJ _ h.2 12) 32⟩
 else ai
def yh (l:bI):ay×Int×bI:=if l.length<44 then (ai,3,l) else (iH l,0,l.drop 44)
theorem TA (q:ay)(R:bI)(hR:gm R):iH (gy q++R)=q:=by
 have h4:=dQ q.ad 4;have h8:=dQ q.bi 8;have hs:=q.s0.1;have hb:gm (gy q++R):=fun z hz=>by
  rcases List.mem_append.1 hz with h | h
  ·exact Fe q z h
  exact hR z h
 unfold iH;rw [dif_pos ⟨by rw [List.length_append,jC]; omega,hb⟩];have e1:(gy q++R).take 4=kW q.ad 4:=by
  unfold gy;rw [List.append_assoc,List.take_append_of_le_length (by omega),List.take_of_length_le (by omega)]
 have e2:(gy q++R).drop 4=kW q.bi 8++(q.su++R):=by
  unfold gy;rw [List.append_assoc,List.drop_append_of_le_length (by omega),List.drop_eq_nil_of_le (by omega),List.nil_append,List.append_assoc]
 have e3:(gy q++R).drop 12=q.su++R:=by
  rw [show (12:Nat)=4+8 from rfl,← List.drop_drop,e2,List.drop_append_of_le_length (by omega),List.drop_eq_nil_of_le (by omega),List.nil_append]
 refine ay.same ?_ ?_ ?_
 ·show num ((gy q++R).take 4)=q.ad
  rw [e1];exact NH 4 _ q.a0.1 (by have:=q.a0.2; omega)
 ·show num (((gy q++R).drop 4).take 8)=q.bi
  rw [e2,List.take_append_of_le_length (by omega),List.take_of_length_le (by omega)];exact NH 8 _ q.b0.1 (by have:=q.b0.2; omega)
 show ((gy q++R).drop 12).take 32=q.su;rw [e3,List.take_append_of_le_length (by omega),List.take_of_length_le (by omega)]
theorem Ya (q:ay)(R:bI)(hR:gm R):yh (gy q++R)=(q,0,R):=by
 unfold yh;rw [if_neg (by rw [List.length_append,jC]; omega),TA q R hR,List.drop_append_of_le_length (by rw [jC]; exact Nat.le_refl _),List.drop_eq_nil_of_le (by rw [jC]; exact Nat.le_refl _),List.nil_append]
theorem Oz (k:Nat)(l:bI)(h:k≤l.length)(h8:k≤8):iV (k:Int) l=(num (l.take k),0,l.drop k):=by
 unfold iV gu;rw [if_neg (by omega),if_neg (by omega),if_neg (by omega)];rfl
theorem OA (l:bI)(h:44≤l.length)(hb:gm l):num (l.take 4)=(iH l).ad∧num ((l.drop 4).take 8)=(iH l).bi∧(l.drop 12).take 32=(iH l).su:=by
 unfold iH;rw [dif_pos ⟨h,hb⟩];exact ⟨rfl,rfl,rfl⟩
theorem Jn {R N:Nat}{w w1 w2:World}(h:sH R w w1)(hN:w.heap.size≤N)(b:Below N w1 w2):sH R w w2 :=
 ⟨b.os.trans h.os,b.tape.trans h.tape,b.output.trans h.output,Nat.le_trans h.size b.size,fun k hk hne=>(b.block k (Nat.lt_of_lt_of_le hk hN)).trans (h.block k hk hne)⟩
end
end Go.Proofs.YtljjcbmkbmloaaaGreatDoor
