import Derived.Test.YtljjcbmkbmloaaaGreatDoorGTr8
import Derived.Test.YtljjcbmkbmloaaaGreatDoorGTrA
namespace Go.Proofs.YtljjcbmkbmloaaaGreatDoor
set_option maxHeartbeats 3200000
set_option maxRecDepth 100000
set_option linter.unusedVariables false
open Lib (hid)
section
open Go.ChangeShapes Go.WideShapes Go.ChangeAt Go.RowKit
structure ay where
 ad:Int
 bi:Int
 su:bI
 a0:0≤ad∧ad≤4294967295
 b0:0≤bi∧bi≤18446744073709551615
 s0:su.length=32∧fP su
theorem ay.same {p q:ay}(h1:p.ad=q.ad)(h2:p.bi=q.bi)(h3:p.su=q.su):p=q:=by
 cases p
 cases q
 simp only at h1 h2 h3
 subst h1 h2 h3
 rfl
instance:DecidableEq ay:=fun p q=>if h:p.ad=q.ad∧p.bi=q.bi∧p.su=q.su then isTrue (ay.same h.1 h.2.1 h.2.2) else isFalse (fun e=>h (by subst e; exact ⟨rfl,rfl,rfl⟩))
theorem EE (n:Nat):fP (List.replicate n 0):=by
 intro z hz
 obtain ⟨_,rfl⟩:=List.mem_replicate.1 hz
 omega
def ai:ay:=⟨0,0,List.replicate 32 0,by decide,by decide,by decide,EE 32⟩
instance:Inhabited ay:=⟨ai⟩
def ag (q:ay):List Value := .int .u32 q.ad :: .int .u64 q.bi::q.su.map (Value.int .u8)
theorem aO (q:ay):(ag q).length=34:=by simp [ag,q.s0.1]
theorem Su {p q:ay}(h:ag p=ag q):p=q:=by
 unfold ag at h
 simp only [List.cons.injEq,Value.int.injEq,true_and] at h
 refine ay.same h.1 h.2.1 (List.map_inj_right (fun x y e=>?_) |>.1 h.2.2)
 injection e
theorem bf (q:ay):(ag q).toArray.all (·.oneCell')=true:=by
 apply all_oneCell_toArray
 intro v hv
 simp only [ag,List.mem_cons,List.mem_map] at hv
 rcases hv with rfl | rfl | ⟨z,_,rfl⟩ <;> rfl
theorem G8 (q:ay):∀ v ∈ ag q,v.oneCell'=true:=by
 intro v hv
 simp only [ag,List.mem_cons,List.mem_map] at hv
 rcases hv with rfl | rfl | ⟨z,_,rfl⟩ <;> rfl
theorem dS (q:ay):(Tryz.prog.info? 51).map (·.size)=some (ag q).length:=by
 rw [show (Tryz.prog.info? 51).map (·.size)=some 34 by kernel_rfl,aO q]
theorem dG (q:ay):(Tryz.prog.info? 51).map (·.size)=some (ag q).toArray.size:=by
 rw [dS q]; simp
theorem dK (W:World):(zeroValue 51).run Tryz.prog W = .ok (.agg (ag ai).toArray) W:=by kernel_rfl
theorem N8:(Tryz.prog.info? 51).map (fun i=>(i.zero,i.size,i.bytes))=some (some (.agg (ag ai).toArray),34,48):=by kernel_rfl
theorem XA {w:World}{b o:Nat}{q:ay}(h:w.rangeAt b o (ag q)) :
 w.cell? ⟨b,o,none⟩=some (.int .u32 q.ad)∧w.cell? ⟨b,o+1,none⟩=some (.int .u64 q.bi)∧w.rangeAt b (o+2) (q.su.map (Value.int .u8)):=by
 refine ⟨h 0 _ rfl,h 1 _ rfl,fun j v hj=>?_⟩
 have:=h (j+2) v (by simpa [ag] using hj)
 rwa [show o+(j+2)=o+2+j by omega] at this
theorem lg {w:World}{b t:Nat}{fr:Nat×Nat}{cs:List Value}(h:w.heap[b]? = some (.cells cs.toArray t fr)):w.rangeAt b 0 cs:=by
 intro j v hj
 rw [Nat.zero_add,cell_of_row _ _ _ _ _ _ h]
 simpa using hj
theorem qx {w:World}{b t:Nat}{fr:Nat×Nat}{q:ay}(h:w.heap[b]? = some (.cells (ag q).toArray t fr)) :
 w.cell? ⟨b,0,none⟩=some (.int .u32 q.ad)∧w.cell? ⟨b,1,none⟩=some (.int .u64 q.bi)∧w.rangeAt b 2 (q.su.map (Value.int .u8)):=by
 have:=XA (lg h)
 simpa using this
theorem IU (parts:List (Nat×Value)):Tryz.prog.built 51 parts=Instr.fill (#[(0,1),(1,1),(2,32)][·]?) (ag ai).toArray parts:=by kernel_rfl
theorem aaU (q:ay):Instr.fill (#[(0,1),(1,1),(2,32)][·]?) (ag ai).toArray [(0,.int .u32 q.ad),(1,.int .u64 q.bi),(2,.agg (uB q.su))]=some (ag q).toArray:=by
 have hq:=q.s0.1
 rw [fU _ _ (Value.int .u32 q.ad::Value.int .u64 0::(List.replicate 32 0).map (Value.int .u8)).toArray #[.int .u32 q.ad] (.int .u32 q.ad) 0 0 1 _ rfl rfl rfl (by simp [aO]) (fun i=>by
  unfold ag ai
  cases i with
  | zero=>simp
  | succ i=>simp)]
 rw [fU _ _ (Value.int .u32 q.ad::Value.int .u64 q.bi::(List.replicate 32 0).map (Value.int .u8)).toArray #[.int .u64 q.bi] (.int .u64 q.bi) 1 1 1 _ rfl rfl rfl (by simp) (fun i=>by
  match i with
  | 0=>simp
  | 1=>simp
  | i+2 =>
    rw [if_neg (by simp)]
    simp)]
 rw [fU _ _ (ag q).toArray (uB q.su) (.agg (uB q.su)) 2 2 32 _ rfl rfl (by rw [oL,hq]) (by rw [oL,hq]; simp) (fun i=>by
  unfold ag uB
  match i with
  | 0=>simp
  | 1=>simp
  | i+2 =>
    by_cases h:i<q.su.length
    ·rw [if_pos (by simp; omega)]; simp
    ·rw [if_neg (by simp only [List.size_toArray,List.length_map]; omega)]
     simp only [List.getElem?_toArray,List.getElem?_cons_succ]
     rw [List.getElem?_eq_none (by simp; omega),List.getElem?_eq_none (by simp; omega)])]
 rfl
theorem IV (q:ay)(W:World):(Instr.build 51 #[(0,.int .u32 q.ad),(1,.int .u64 q.bi),(2,.agg (uB q.su))]).run Tryz.prog W = .ok (.agg (ag q).toArray) W :=
 run_build W 51 _ _ (by rw [IU]; exact aaU q)
theorem rY (W:World):(Instr.build 51 #[]).run Tryz.prog W = .ok (.agg (ag ai).toArray) W :=
 run_build W 51 _ _ (by rw [IU]; rfl)
theorem bF {P:Program}{ops:Array Oper}{rest:List Oper}{o:Oper}{a:Act}{w:World}{Q:Exit→Act→World→Prop}(hgd:o.guard=none)(t:TypeId)(parts:Array (Nat×Operand))(ho:o.op = .build t parts)(vs:Array (Nat×Value))(hv:(parts.map fun (i,x)=>(i,a.eval x))=vs)
 (v:Value) (hr:(Instr.build t vs).run P w = .ok v w) (h:wpList P ops Q rest (a.put o.dst v) w):wpList P ops Q (o::rest) a w :=
 wpList_plain hgd fun _ hK=>by
  subst hv
  unfold Oper.wp execOp
  simp only [ho,Sem.run_bind,hr,Result.andThen_ok]
  exact hK _ _ h
def Ky (q:ay):List Lit := .int .u32 q.ad :: .int .u64 q.bi::q.su.map (Lit.int .u8)
theorem EF {β:Type}(f:Nat→Option β)(g:Nat→β):∀ n,(∀ i,i<n→f i=some (g i))→(List.range n).mapM f=some ((List.range n).map g)
 | 0,_=>rfl
 | n+1,h=>by
   rw [List.range_succ,List.mapM_append,EF f g n (fun i hi=>h i (by omega))]
   simp [h n (by omega)]
theorem Kz {α:Type}(d:α)(l:List α):((List.range l.length).map fun i=>[l.getD i d]).flatten=l:=by
 have h:∀ r:List Nat,(r.map fun i=>[l.getD i d]).flatten=r.map fun i=>l.getD i d:=by
  intro r
  induction r with
  | nil=>rfl
  | cons a r ih=>rw [List.map_cons,List.flatten_cons,ih]; rfl
 rw [h]
 apply List.ext_getElem?
 intro i
 rw [List.getElem?_map]
 by_cases h:i<l.length
 ·rw [List.getElem?_range h]
  simp [List.getElem?_eq_getElem h,List.getD]
 ·rw [List.getElem?_eq_none (by simpa using h),List.getElem?_eq_none (by omega)]
  rfl
theorem XB (l:bI)(hl:l.length=32)(hb:fP l)(d:Nat):Tryz.prog.keyLits (d+2) 49 (l.map (Value.int .u8))=some (l.map (Lit.int .u8)):=by
 unfold Program.keyLits
 rw [Tryz.underlying49]
 dsimp only
 rw [if_pos (by rw [List.length_map,hl]; kernel_rfl),show Tryz.prog.cellsOf 5=1 by kernel_rfl]
 rw [EF _ (fun i=>[(l.map (Lit.int .u8)).getD i (.int .u8 0)]) 32 ?_]
 ·have:=Kz (.int .u8 0) (l.map (Lit.int .u8))
  rw [List.length_map,hl] at this
  rw [Option.map_some,this]
 ·intro i hi
  have hx:i<l.length:=by omega
  have e:((l.map (Value.int .u8)).drop (i * 1)).take 1=[Value.int .u8 l[i]]:=by
   rw [Nat.mul_one,← List.map_drop,← List.map_take,List.drop_eq_getElem_cons hx]
   rfl
  have hz:=hb l[i] (List.getElem_mem hx)
  rw [e]
  unfold Program.keyLits
  rw [Tryz.underlying5]
  dsimp only
  rw [if_pos ⟨rfl,by simp [Lit.wf,IntKind.min,IntKind.max,IntKind.signed,IntKind.bits]; omega⟩]
  simp [hx]
theorem aaV (q:ay)(d:Nat):Tryz.prog.keyLits (d+3) 51 (ag q)=some (Ky q):=by
 have h1:Tryz.prog.cellsOf 46=1:=by kernel_rfl
 have h2:Tryz.prog.cellsOf 47=1:=by kernel_rfl
 have h3:Tryz.prog.cellsOf 49=32:=by kernel_rfl
 have ha:=q.a0
 have hb:=q.b0
 have e0:Tryz.prog.keyLits (d+2) 46 [Value.int .u32 q.ad]=some [.int .u32 q.ad]:=by
  unfold Program.keyLits
  rw [Tryz.underlying46]
  dsimp only
  rw [if_pos ⟨rfl,by simp [Lit.wf,IntKind.min,IntKind.max,IntKind.signed,IntKind.bits]; omega⟩]
 have e1:Tryz.prog.keyLits (d+2) 47 [Value.int .u64 q.bi]=some [.int .u64 q.bi]:=by
  unfold Program.keyLits
  rw [Tryz.underlying47]
  dsimp only
  rw [if_pos ⟨rfl,by simp [Lit.wf,IntKind.min,IntKind.max,IntKind.signed,IntKind.bits]; omega⟩]
 have e2:=XB q.su q.s0.1 q.s0.2 d
 have e3:(q.su.map (Value.int .u8)).take 32=q.su.map (Value.int .u8):=List.take_of_length_le (by rw [List.length_map,q.s0.1]; exact Nat.le_refl _)
 unfold Program.keyLits
 rw [Tryz.underlying51]
 dsimp only
 rw [if_pos ⟨by rw [aO q]; kernel_rfl,by simp⟩]
 unfold ag
 simp [h1,h2,h3,e0,e1,e2,e3,Ky]
def kl (q:ay):Lit := .string (keyBytes (Ky q))
theorem Dw (q:ay):keyOf Tryz.prog 51 (.agg (ag q).toArray)=some (kl q):=by
 have ht:∃ d,Tryz.prog.types.size+1=d+3:=⟨Tryz.prog.types.size - 2,by rw [show Tryz.prog.types.size=Tryz.prog.types.size - 2+2 from of_decide_eq_true (by kernel_rfl)]; rfl⟩
 obtain ⟨d,hd⟩:=ht
 unfold keyOf
 rw [Tryz.underlying51]
 dsimp only
 rw [if_pos,hd]
 ·show (Tryz.prog.keyLits (d+3) 51 (ag q).toArray.toList).map _=_
  rw [show (ag q).toArray.toList=ag q from rfl,aaV q d]
  rfl
 ·rw [show Tryz.prog.keyType 51=true by kernel_rfl,Bool.true_and]
  unfold Value.formed
  rw [Tryz.underlying51]
  simp only [List.size_toArray,aO,show Tryz.prog.cellsOf 51=34 by kernel_rfl]
  rfl
theorem aez:WideMaps.KeyLaw Tryz.prog 51:=deep_law_laid laidOut (m:=3) (by decide) (of_decide_eq_true (by kernel_rfl)) (by kernel_rfl) (by rw [Tryz.underlying51])
theorem XC:Maps.Keyed Tryz.prog 51:=Maps.Keyed.of_law aez
theorem ahB {p q:ay}(h:kl p=kl q):p=q:=by
 have:=XC.inj (Dw p) (h ▸ Dw q)
 injection this with e
 exact Su (by simpa using congrArg Array.toList e)
theorem ahC (p q:ay)(w:World):(Op.equalIn 10000 51 (.agg (ag p).toArray) (.agg (ag q).toArray)).run Tryz.prog w = .ok (decide (p=q)) w:=by
 obtain ⟨r,h1,h2⟩:=run_equal_deep w (m:=3) (by decide) (show Tryz.prog.keyTypeAt 3 51=true by kernel_rfl) (by rw [Tryz.underlying51]) (Dw p) (Dw q)
 have e:r=decide (p=q):=by
  by_cases h:p=q
  ·subst h; simp [h2.2 rfl]
  ·rw [decide_eq_false h]
   cases r with
   | false=>rfl
   | true=>exact absurd (ahB (h2.1 rfl)) h
 rw [← e]
 exact h1
theorem aeA (p:ay)(w:World):(Op.equalIn 10000 51 (.agg (ag p).toArray) (.agg #[.int .u32 0,.int .u64 0,.int .u8 0,.int .u8 0,.int .u8 0,.int .u8 0,.int .u8 0,.int .u8 0,.int .u8 0,.int .u8 0,.int .u8 0,.int .u8 0,.int .u8 0,.int .u8 0,.int .u8 0,.int .u8 0,.int .u8 0,.int .u8 0,.int .u8 0,.int .u8 0,.int .u8 0,.int .u8 0,.int .u8 0,.int .u8 0,.int .u8 0,.int .u8 0,.int .u8 0,.int .u8 0,.int .u8 0,.int .u8 0,.int .u8 0,.int .u8 0,.int .u8 0,.int .u8 0])).run Tryz.prog w = .ok (decide (p=ai)) w:=ahC p ai w
end
section
open Go.ChangeShapes Go.WideShapes Go.ChangeAt Go.RowKit
theorem eu (q:ay)(w:World) :
 Calls Tryz.prog 21 #[.agg (ag q).toArray] w fun e w'=>e = .returned (.bool (q.ad == 0))∧Below w.heap.size w w':=by
 have hb:=(Below.refl w.heap.size w).alloc (Nat.le_refl _) (.cells (ag q).toArray 51)
 obtain ⟨c0,_,_⟩:=qx (heap_alloc_new w (.cells (ag q).toArray 51))
 have HB:=hid hb
 clear hb
 obtain ⟨ad,bi,su,_,_,_⟩:=q
 dsimp only at c0 ⊢
 generalize (ag _).toArray=AR at *
 go_enter Tryz.func21,Tryz.ntmps21
 go_wp2_with fail
 go_ret
 exact ⟨rfl,HB.out⟩
def KC (q:ay)(n:Int):Bool:=if q.ad=0 then decide (q=ai) else decide (2≤q.ad) && decide (q.ad<n) && decide (q.bi ≠ 0)
def ik (q:ay)(n:Int):Int:=if KC q n then 0 else 4
theorem aaW (q:ay)(n:Int)(w:World) :
 Calls Tryz.prog 82 #[.agg (ag q).toArray,.int .i64 n] w fun e w'=>e = .returned (.bool (KC q n))∧Below w.heap.size w w':=by
 have hb:=(Below.refl w.heap.size w).alloc (Nat.le_refl _) (.cells (ag q).toArray 51)
 have hA:=heap_alloc_new w (.cells (ag q).toArray 51)
 obtain ⟨c0,c1,_⟩:=qx hA
 have HB:=hid hb
 have HA:=hid hA
 have HN:=hid (fun W=>eu q W)
 have heq:=aeA q
 have SE:=hid (dG q)
 have hq:=q.a0
 have hm:KC q n=if q.ad=0 then decide (q=ai) else decide (2≤q.ad) && decide (q.ad<n) && decide (q.bi ≠ 0):=rfl
 generalize KC q n=mb at *
 generalize hD:decide (q=ai)=dz at *
 clear hb hA hD
 generalize (ag q).toArray=AR at *
 generalize q.ad=ad at *
 generalize q.bi=bi at *
 have hw:IntKind.i64.wrap ad=ad:=IntWalk.i64_in _ (by omega)
 by_cases h0:ad=0
 ·rw [if_pos h0] at hm
  subst hm
  have HE:(ad == 0)=true:=by simpa using h0
  clear h0 c0 c1 hq hw
  go_enter Tryz.func82,Tryz.ntmps82
  go_wp2_with (first
   | (with_reducible refine wpList_load_row (o:=⟨some 5,_,_,_,_,_⟩) rfl 51 _ rfl w.heap.size rfl 51 AR (0,0) _ HA.out Tryz.underlying51 rfl SE.out ?_))
  refine (HN.out _).mono ?_
  rintro e w2 ⟨rfl,hb2⟩
  rw [HE]
  have HB2:=hid (HB.out.trans (hb2.mono (by simp)))
  have HA2:=hid ((hb2.block w.heap.size (by simp)).trans HA.out)
  clear hb2
  go_wp2_with (first
   | (with_reducible refine wpList_load_row (o:=⟨some 7,_,_,_,_,_⟩) rfl 51 _ rfl w.heap.size rfl 51 AR (0,0) _ HA2.out Tryz.underlying51 rfl SE.out ?_))
  go_ret
  exact ⟨rfl,HB2.out⟩
 ·rw [if_neg h0] at hm
  have HE:(ad == 0)=false:=by simpa using h0
  clear h0 heq
  go_enter Tryz.func82,Tryz.ntmps82
  go_wp2_with (first
   | (with_reducible refine wpList_load_row (o:=⟨some 5,_,_,_,_,_⟩) rfl 51 _ rfl w.heap.size rfl 51 AR (0,0) _ HA.out Tryz.underlying51 rfl SE.out ?_))
  refine (HN.out _).mono ?_
  rintro e w2 ⟨rfl,hb2⟩
  rw [HE]
  have c02:w2.cell? ⟨w.heap.size,0,none⟩=some (.int .u32 ad):=(hb2.cell (by simp)).trans c0
  have c12:w2.cell? ⟨w.heap.size,1,none⟩=some (.int .u64 bi):=(hb2.cell (by simp)).trans c1
  have HB2:=hid (HB.out.trans (hb2.mono (by simp)))
  have HM:=hid hm
  clear hb2 hq c0 c1 hm HA
  go_wp2_with fail
  all_goals (go_ret; refine ⟨congrArg (fun b=>Ending.returned (Value.bool b)) ?_,HB2.out⟩; rw [HM.out,Bool.eq_iff_iff]; simp; omega)
theorem oM (q:ay)(n:Int)(w:World) :
 Calls Tryz.prog 62 #[.agg (ag q).toArray,.int .i64 n] w fun e w'=>e = .returned (.int .i64 (ik q n))∧Below w.heap.size w w':=by
 have hb:=(Below.refl w.heap.size w).alloc (Nat.le_refl _) (.cells (ag q).toArray 51)
 have hA:=heap_alloc_new w (.cells (ag q).toArray 51)
 have HB:=hid hb
 have HA:=hid hA
 have HN:=hid (fun W=>aaW q n W)
 have SE:=hid (dG q)
 have HC:=hid (show ik q n=if KC q n then 0 else 4 from rfl)
 generalize ik q n=ce at *
 generalize KC q n=mb at *
 clear hb hA
 generalize (ag q).toArray=AR at *
 go_enter Tryz.func62,Tryz.ntmps62
 go_wp2_with (first
  | (with_reducible refine wpList_load_row (o:=⟨some 5,_,_,_,_,_⟩) rfl 51 _ rfl w.heap.size rfl 51 AR (0,0) _ HA.out Tryz.underlying51 rfl SE.out ?_))
 refine (HN.out _).mono ?_
 rintro e w2 ⟨rfl,hb2⟩
 have HB2:=hid (HB.out.trans (hb2.mono (by simp)))
 clear hb2 HA HB SE HN
 cases mb with
 | true =>
   have HC2:=hid (show ce=0 from HC.out)
   clear HC
   go_wp2_with fail
   go_ret
   exact ⟨by rw [HC2.out]; rfl,HB2.out⟩
 | false =>
   have HC2:=hid (show ce=4 from HC.out)
   clear HC
   go_wp2_with fail
   go_ret
   exact ⟨by rw [HC2.out]; rfl,HB2.out⟩
def fZ (q:ay):bI:=kS q.ad 4++(kS q.bi 8++q.su)
theorem jv (q:ay):(fZ q).length=44:=by simp [fZ,dR,q.s0.1]
theorem EG (q:ay):fP (fZ q):=by
 intro z hz
 unfold fZ at hz
 simp only [List.mem_append] at hz
 rcases hz with hz | hz | hz
 ·exact qN _ _ z hz
 ·exact qN _ _ z hz
 ·exact q.s0.2 z hz
theorem N9 (z:Int)(k:Nat)(hk:k≤8)(h1:z<2 ^ (8 * k)):uC z (k:Int)=(kS z k,0):=by
 unfold uC
 rw [if_neg (by simp; omega)]
 simp
theorem iK.same {w w':World}{P B k:Nat}{v:Value}{l:bI}(s:iK w w' P B v l)(hk:k<w.heap.size)(h1:k ≠ P)(h2:v.ownBlock ≠ some k):w'.heap[k]? = w.heap[k]? := by
 obtain ⟨_,_,t,_⟩:=s
 refine t.block k hk ?_
 simp only [List.mem_cons,Option.mem_toList]
 rintro (e | e)
 ·exact h1 e
 ·exact h2 e
theorem XD {w:World}{B n k:Nat}{e:TypeId}{v:Value}{xs:List Value}(h:w.ownsRow B e k v n xs):v.ownBlock ≠ some w.heap.size:=by
 intro e
 have:=(h.lt _ e).2
 omega
theorem aaX (P B:Nat)(v:Value)(l:bI)(q:ay)(w:World)(h:WO w P B v l)(h63:l.length≤140737488100000)(hB:B≤w.heap.size) :
 Calls Tryz.prog 102 #[.pointer (some ⟨P,0,none⟩),.agg (ag q).toArray] w fun e w'=>e = .returned (.int .i64 0)∧iK w w' P B v (l++fZ q):=by
 have hb:=(Below.refl w.heap.size w).alloc (Nat.le_refl _) (.cells (ag q).toArray 51)
 have hA:=heap_alloc_new w (.cells (ag q).toArray 51)
 have hT:w.heap.size<(w.alloc (.cells (ag q).toArray 51)).heap.size:=by simp
 have hv:=XD h.own
 have hP:w.heap.size ≠ P:=by have:=h.lt; omega
 have h1:=h.below hb
 have hB1:=Nat.le_trans hB hb.size
 have ha:=q.a0
 have hbi:=q.b0
 have AO:=hid (y9 P B v l q.ad 4 _ h1 ha.1 (by omega) hB1)
 rw [show uC q.ad 4=(kS q.ad 4,0) from N9 q.ad 4 (by decide) (by omega)] at AO
 have HX:=hid (show ∀ w2,iK (w.alloc (.cells (ag q).toArray 51)) w2 P B v (l++kS q.ad 4)→w2.heap[w.heap.size]? = some (.cells (ag q).toArray 51 (0,0))∧(w.alloc (.cells (ag q).toArray 51)).heap.size≤w2.heap.size from
  fun w2 s=>⟨(s.same hT hP hv).trans hA,by obtain ⟨_,_,t,_⟩:=s; exact t.size⟩)
 have SH:=hid (show (Tryz.prog.info? 49).map (·.size)=some (q.su.map (Value.int .u8)).length by rw [show (Tryz.prog.info? 49).map (·.size)=some 32 by kernel_rfl,List.length_map,q.s0.1])
 have HB:=hid hb
 have HVP:=hid (And.intro hP (And.intro hv (And.intro hT (And.intro h63 hB1))))
 obtain ⟨c0,_,_⟩:=qx hA
 have hw:IntKind.u64.wrap q.ad=q.ad:=IntWalk.u64_in _ (by omega)
 have HQ:=hid (And.intro hbi q.s0)
 have HE:=hid (show fZ q=kS q.ad 4++(kS q.bi 8++q.su) from rfl)
 have HAT:=hid (fun (W:World) (t:Nat) (h:W.heap[w.heap.size]? = some (.cells (ag q).toArray t (0,0)))=>qx h)
 clear h hA hT hv hP h1 hB1 hbi hb h63 hB
 generalize fZ q=PB at *
 generalize (ag q).toArray=AR at *
 generalize q.ad=ad at *
 generalize q.bi=bi at *
 generalize q.su=su at *
 clear ha
 go_enter Tryz.func102,Tryz.ntmps102
 go_wp2_with fail
 refine AO.out.mono ?_
 rintro e w2 ⟨rfl,s1⟩
 obtain ⟨g2,hs2⟩:=HX.out w2 s1
 obtain ⟨v1,o1,t1,n1⟩:=s1
 have HN2:=hid (y9 P B v1 _ bi 8 w2 o1 HQ.out.1.1 (by rw [List.length_append,dR]; have:=HVP.out.2.2.2.1; omega) (Nat.le_trans HVP.out.2.2.2.2 hs2))
 rw [show uC bi 8=(kS bi 8,0) from N9 bi 8 (by decide) (by have:=HQ.out.1.2; omega)] at HN2
 have hv1:v1.ownBlock ≠ some w.heap.size:=by
  rcases n1 with e | ⟨g,e,hg⟩
  ·rw [e]; exact HVP.out.2.1
  ·rw [e]; intro e2; have:=HVP.out.2.2.1; simp only [Option.some.injEq] at e2; omega
 have G2:=hid g2
 obtain ⟨_,c1,_⟩:=HAT.out w2 _ g2
 have S1:=hid (And.intro t1 (And.intro n1 hv1))
 have SZ2:=hid hs2
 clear g2 hs2 o1 t1 n1 hv1 AO HX c0 hw
 go_wp2_with fail
 refine HN2.out.mono ?_
 rintro e w3 ⟨rfl,s2⟩
 have g3:=(s2.same (Nat.lt_of_lt_of_le HVP.out.2.2.1 SZ2.out) HVP.out.1 S1.out.2.2).trans G2.out
 obtain ⟨v2,o2,t2,n2⟩:=s2
 have Sz:=hid (Xq P B v2 _ su w3 o2 HQ.out.2.1 HQ.out.2.2 (by rw [List.length_append,List.length_append,dR,dR]; have:=HVP.out.2.2.2.1; omega) (Nat.le_trans HVP.out.2.2.2.2 (Nat.le_trans SZ2.out t2.size)))
 have nK:=hid (HAT.out w3 _ g3).2.2
 have S2:=hid (And.intro t2 n2)
 clear g3 o2 t2 n2 c1 HN2 G2 HAT
 go_wp2_with (first
  | (with_reducible refine wpList_load_mid (op:=⟨some 18,_,_,_,_,_⟩) rfl 49 _ rfl w.heap.size 2 rfl (su.map (Value.int .u8)) _ nK.out Tryz.underlying49 rfl SH.out ?_))
 have ahD:=Sz.out
 unfold uB at ahD
 refine ahD.mono ?_
 rintro e w4 ⟨rfl,s3⟩
 have HS:=hid ((uP S1.out.1 S1.out.2.1 (uP S2.out.1 S2.out.2 s3)).of_below HB.out)
 clear s3 Sz nK ahD
 go_wp2_with fail
 go_ret
 refine ⟨rfl, ?_⟩
 rw [HE.out,← List.append_assoc,← List.append_assoc]
 exact HS.out
theorem aaZ (w0 w:World)(P:Nat)(l:bI)(q:ay)(h:WL w0 w P l)(h63:l.length≤140737488100000) :
 Calls Tryz.prog 102 #[.pointer (some ⟨P,0,none⟩),.agg (ag q).toArray] w fun e w'=>e = .returned (.int .i64 0)∧WL w0 w' P (l++fZ q):=by
 obtain ⟨v,h,hP,hb⟩:=h
 exact (aaX P _ v l q w h h63 hb.size).mono fun e w' ⟨he,hs⟩=>⟨he,Du h hP hb hs⟩
end
section
open Go.RowKit
theorem aa0 (R lb cb:Nat)(ab:bO)(l:bI)(n:Int)(w0 w:World)(h0':RR w0 217 R ab lb cb l)(xU:Below w0.heap.size w0 w)(hn:n≤9223372036854775807) :
 Calls Tryz.prog 118 #[.pointer (some ⟨R,0,none⟩),.int .i64 n] w fun e w'=>e = .returned (.tuple #[.int .u64 (iO n l).1,.int .i64 (iO n l).2.1])∧(∃ ab' lb' cb',∀ W:World,(∀ k,k<w0.heap.size→k ≠ R→W.heap[k]? = w0.heap[k]?)→W.heap[R]? = w'.heap[R]? → RR W 217 R ab' lb' cb' (iO n l).2.2)∧Only R w w':=by
 have h:=h0'.below xU
 have H0':=hid h0'
 have G9:=hid xU
 clear h0' xU
 have H:=hid h
 by_cases h1:8<n
 ·rw [show iO n l=(0,2,l) by unfold iO; rw [if_pos (.inr h1)]]
  clear h
  go_enter Tryz.func118,Tryz.ntmps118
  go_wp2_with fail
  go_ret2
  exact ⟨rfl,⟨_,_,_,fun W q1 q2=>⟨q2.trans H.out.cell,H0'.out.bytes.old H0'.out.cell q1,H.out.len,H.out.cap,H.out.big⟩⟩,Only.refl _ _⟩
 ·have HR:=hid (AA R lb cb ab l n w0 w H0'.out G9.out hn)
  have hs:=Ep n l (by omega)
  have h11:n≤8:=by omega
  have hE:∃ er,(fV n l).2.1=er∧(er ≠ 0→(fV n l).2.1=er∧iO n l=(0,er,(fV n l).2.2))∧(er=0→iO n l=(num (fV n l).1,0,(fV n l).2.2)):=by
   refine ⟨_,rfl,fun hne=>⟨rfl, ?_⟩,fun he=>?_⟩
   ·by_cases h0:n<0
    ·unfold iO fV; rw [if_pos (.inl h0),if_pos h0]
    ·unfold iO
     rw [if_neg (by omega)]
     unfold fV at hne ⊢
     rw [if_neg h0] at hne ⊢
     split
     ·rfl
     ·rename_i hc; rw [if_neg hc] at hne; exact absurd rfl hne
   ·by_cases h0:n<0
    ·unfold fV at he; rw [if_pos h0] at he; simp at he
    ·unfold iO
     rw [if_neg (by omega),he]
  obtain ⟨er,her,hA,hB⟩:=hE
  have HS:=hid hs
  generalize fV n l=Q at *
  obtain ⟨q1,q2,q3⟩:=Q
  dsimp only at her
  subst her
  by_cases h0:q2=0
  ·subst h0
   rw [hB rfl]
   clear h h1 hs hA hB
   go_enter Tryz.func118,Tryz.ntmps118
   go_wp2_with fail
   refine HR.out.mono ?_
   rintro e w1 ⟨⟨v,rfl,hv⟩,hr,hO⟩
   have HN:=hid (ZM w1 v q1 hv HS.out)
   have HRR:=hid hr
   have HO:=hid hO
   clear hv hr hO HR
   go_wp2_with fail
   refine HN.out.mono ?_
   rintro e w2 ⟨rfl,rfl⟩
   go_wp2_with fail
   go_ret2
   exact ⟨rfl,HRR.out,HO.out⟩
  ·rw [(hA h0).2]
   have hnb:(q2 != 0)=true:=by simp [h0]
   clear h h1 hs hA hB
   go_enter Tryz.func118,Tryz.ntmps118
   go_wp2_with fail
   refine HR.out.mono ?_
   rintro e w1 ⟨⟨v,rfl,hv⟩,hr,hO⟩
   have HRR:=hid hr
   have HO:=hid hO
   clear hv hr hO HR
   go_wp2_with fail
   go_ret2
   exact ⟨rfl,HRR.out,HO.out⟩
theorem CX (R lb cb:Nat)(ab:bO)(l:bI)(w0 w:World)(h0':RR w0 217 R ab lb cb l)(xU:Below w0.heap.size w0 w)(hsh:l.length<32) :
 Calls Tryz.prog 147 #[.pointer (some ⟨R,0,none⟩)] w fun e w'=>e = .returned (.tuple #[.agg (uB (List.replicate 32 0)),.int .i64 3])∧(∃ ab' lb' cb',∀ W:World,(∀ k,k<w0.heap.size→k ≠ R→W.heap[k]? = w0.heap[k]?)→W.heap[R]? = w'.heap[R]? → RR W 217 R ab' lb' cb' (l))∧rM R w w':=by
 have h:=h0'.below xU
 have H0':=hid h0'
 have G9:=hid xU
 clear h0' xU
 have hz:=xQ
 obtain ⟨Z,hZ⟩:∃ Z,uB (List.replicate 32 0)=Z:=⟨_,rfl⟩
 have HZ:=hid hZ
 rw [hZ] at hz
 have hA1:=(Below.refl w.heap.size w).alloc (Nat.le_refl _) (.cells Z 49)
 have hA2:=hA1.alloc hA1.size (.cells Z 49)
 have hs1:(w.alloc (.cells Z 49)).heap.size=w.heap.size+1:=by simp
 have hs2:((w.alloc (.cells Z 49)).alloc (.cells Z 49)).heap.size=w.heap.size+2:=by simp
 have e2:((w.alloc (.cells Z 49)).alloc (.cells Z 49)).heap[w.heap.size+1]? = some (.cells Z 49 (0,0)):=by
  have q:=heap_alloc_new (w.alloc (.cells Z 49)) (.cells Z 49)
  rwa [hs1] at q
 have e1:((w.alloc (.cells Z 49)).alloc (.cells Z 49)).heap[w.heap.size]? = some (.cells Z 49 (0,0)) :=
  (((Below.refl _ (w.alloc (.cells Z 49))).alloc (Nat.le_refl _) _).block w.heap.size (by omega)).trans (heap_alloc_new w _)
 have HW:=hid h
 have HA2:=hid hA2
 have HRl:=hid (show R<w.heap.size from (Array.getElem?_eq_some_iff.1 h.cell).1)
 clear h hA1 hA2 hs1 hZ
 go_enter Tryz.func147,Tryz.ntmps147
 go_upto_region 2 with fail
 generalize (w.alloc (.cells Z 49)).alloc (.cells Z 49)=w2 at *
 have HR:=hid (AA R lb cb ab l 32 w0 w2 H0'.out (G9.out.trans (HA2.out.mono G9.out.size)) (by omega))
 have HE1:=hid e1
 have HE2:=hid e2
 rw [Iy] at HR
 have jM:=hid hs2
 clear e1 e2 hs2 hz
 rw [if_pos hsh] at HR
 clear hsh
 go_wp2_with fail
 refine HR.out.mono ?_
 rintro e w3 ⟨⟨v,rfl,hv⟩,hr,hO⟩
 obtain ⟨av,cv,rfl⟩:∃ a c,v = .slice a 0 c:=by
  obtain ⟨a',cap',h1,_⟩:=hv
  exact ⟨a',cap',h1⟩
 have HRR:=hid hr
 have HO:=hid hO
 have H31:=hid (show w3.heap[w.heap.size]? = some (.cells Z 49 (0,0)) from (hO.rest _ (by have:=HRl.out; omega)).trans HE1.out)
 have H32:=hid (show w3.heap[w.heap.size+1]? = some (.cells Z 49 (0,0)) from (hO.rest _ (by have:=HRl.out; omega)).trans HE2.out)
 have hsl:=uO (w.heap.size+1)
 have hcp:∀ W:World,(Builtin.copy_ #[62,62] 3 #[.slice (some ⟨w.heap.size+1,0,none⟩) 32 32,.slice av 0 cv]).run Tryz.prog W = .ok (.int .i64 0) W:=fun W=>run_copy_none W 62 62 3 5 _ _ 32 32 0 cv Tryz.underlying62 uN rfl
 clear hv hr hO HR HE1 HE2
 have SQ:=hid (show (Tryz.prog.info? 49).map (·.size)=some Z.size by rw [← HZ.out]; exact xR _ (by simp))
 have WO:=hid (show Z.all (·.oneCell')=true by rw [← HZ.out]; exact Ko _)
 have xe:=hid (show w3.heap.size=w.heap.size+2 by rw [HO.out.size]; exact jM.out)
 go_wp2_with (first
  | (with_reducible refine wpList_load_row (o:=⟨some 15,_,_,_,_,_⟩) rfl 49 _ rfl (w.heap.size+1) rfl 49 Z (0,0) _ H32.out Tryz.underlying49 rfl SQ.out ?_)
  | (with_reducible refine wpList_store_row (o:=⟨none,.store _ (.tmp 2) _,_,_,_,_⟩) rfl 49 _ _ rfl w.heap.size Z rfl rfl 49 Z H31.out SQ.out rfl WO.out ?_))
 have Oa:Below w.heap.size w3 (w3.setRow w.heap.size Z):=aF (Below.refl _ _) (Nat.le_refl _) _
 refine bodyPost_ret (v := .tuple #[.agg Z,.int .i64 3]) (aj Tryz.results147 _ _ w.heap.size 49 Z (0,0) _ rfl (setRow_heap _ w.heap.size _ Z _ _ H31.out) Tryz.underlying49 rfl SQ.out _ (by simp)) rfl ⟨by rw [HZ.out], ?_, ?_⟩
 ·obtain ⟨x,y,z,hr⟩:=HRR.out
  exact ⟨x,y,z,fun W q1 q2=>hr W q1 (q2.trans (Oa.block R HRl.out))⟩
 ·have hb0:=HO.out.bel 0 (Nat.zero_le _)
  exact ⟨Oa.os.trans (hb0.os.trans HA2.out.os),Oa.tape.trans (hb0.tape.trans HA2.out.tape),Oa.output.trans (hb0.output.trans HA2.out.output),Nat.le_trans HA2.out.size (Nat.le_trans (Nat.le_of_eq HO.out.size.symm) Oa.size),
   fun k hk hne=>(Oa.block k hk).trans ((HO.out.rest k hne).trans (HA2.out.block k hk))⟩
theorem KD (R lb cb:Nat)(ab:bO)(l:bI)(w0 w:World)(h0':RR w0 217 R ab lb cb l)(xU:Below w0.heap.size w0 w)(hsh:32≤l.length) :
 Calls Tryz.prog 147 #[.pointer (some ⟨R,0,none⟩)] w fun e w'=>e = .returned (.tuple #[.agg (uB (l.take 32)),.int .i64 0])∧(∃ ab' lb' cb',∀ W:World,(∀ k,k<w0.heap.size→k ≠ R→W.heap[k]? = w0.heap[k]?)→W.heap[R]? = w'.heap[R]? → RR W 217 R ab' lb' cb' (l.drop 32))∧rM R w w':=by
 have h:=h0'.below xU
 have H0':=hid h0'
 have G9:=hid xU
 clear h0' xU
 have Zt:=hid (show (l.take 32).length=32 by rw [List.length_take]; omega)
 have HLL:=hid hsh
 obtain ⟨Q,hQ⟩:∃ Q,l.take 32=Q:=⟨_,rfl⟩
 rw [hQ] at Zt ⊢
 have HQQ:=hid hQ
 clear hQ hsh
 have hz:=xQ
 obtain ⟨Z,hZ⟩:∃ Z,uB (List.replicate 32 0)=Z:=⟨_,rfl⟩
 have HZ:=hid hZ
 rw [hZ] at hz
 have hA1:=(Below.refl w.heap.size w).alloc (Nat.le_refl _) (.cells Z 49)
 have hA2:=hA1.alloc hA1.size (.cells Z 49)
 have hs1:(w.alloc (.cells Z 49)).heap.size=w.heap.size+1:=by simp
 have hs2:((w.alloc (.cells Z 49)).alloc (.cells Z 49)).heap.size=w.heap.size+2:=by simp
 have e2:((w.alloc (.cells Z 49)).alloc (.cells Z 49)).heap[w.heap.size+1]? = some (.cells Z 49 (0,0)):=by
  have q:=heap_alloc_new (w.alloc (.cells Z 49)) (.cells Z 49)
  rwa [hs1] at q
 have e1:((w.alloc (.cells Z 49)).alloc (.cells Z 49)).heap[w.heap.size]? = some (.cells Z 49 (0,0)) :=
  (((Below.refl _ (w.alloc (.cells Z 49))).alloc (Nat.le_refl _) _).block w.heap.size (by omega)).trans (heap_alloc_new w _)
 have HW:=hid h
 have HA2:=hid hA2
 have HRl:=hid (show R<w.heap.size from (Array.getElem?_eq_some_iff.1 h.cell).1)
 clear h hA1 hA2 hs1 hZ
 go_enter Tryz.func147,Tryz.ntmps147
 go_upto_region 2 with fail
 generalize (w.alloc (.cells Z 49)).alloc (.cells Z 49)=w2 at *
 have HR:=hid (AA R lb cb ab l 32 w0 w2 H0'.out (G9.out.trans (HA2.out.mono G9.out.size)) (by omega))
 have HE1:=hid e1
 have HE2:=hid e2
 rw [Iy,if_neg (by have:=HLL.out; omega),HQQ.out] at HR
 have jM:=hid hs2
 clear e1 e2 hs2 hz
 go_wp2_with fail
 refine HR.out.mono ?_
 rintro e w3 ⟨⟨v,rfl,hv⟩,hr,hO⟩
 obtain ⟨av,cv,rfl⟩:∃ a c,v = .slice a 32 c:=by
  obtain ⟨a',cap',h1,_⟩:=hv
  exact ⟨a',cap',by rw [h1,Zt.out]⟩
 obtain ⟨b,off,rfl,hnn,hsrc⟩:=aaz hv (by rw [Zt.out]; decide)
 have h31:w3.heap[w.heap.size]? = some (.cells Z 49 (0,0)):=(hO.rest _ (by have:=HRl.out; omega)).trans HE1.out
 have h32:w3.heap[w.heap.size+1]? = some (.cells Z.toList.toArray 49 (0,0)):=by
  rw [Array.toArray_toList]
  exact (hO.rest _ (by have:=HRl.out; omega)).trans HE2.out
 have HZS:=hid (show Z.size=32 by rw [← HZ.out,oL]; simp)
 have hsl:=uO (w.heap.size+1)
 have ND:=hid (show (Q.map (Value.int .u8)).length=Nat.min 32 32∧0+(Q.map (Value.int .u8)).length≤Z.toList.length∧∀ v ∈ Q.map (Value.int .u8),v.oneCell'=true from
  ⟨by rw [List.length_map,Zt.out]; rfl,by rw [List.length_map,Zt.out,Array.length_toList,HZS.out]; decide,fun v hv=>by obtain ⟨x,_,rfl⟩:=List.mem_map.1 hv; rfl⟩)
 have aeB:=hid (show ∀ j v,(Q.map (Value.int .u8))[j]? = some v→w3.cell? ((⟨b,off,none⟩:Addr).add j)=some v from fun j v hv=>by rw [Addr.add_mid]; exact hsrc j v hv)
 have H32:=hid h32
 have HEQ:=hid (show (List.take 0 Z.toList++(Q.map (Value.int .u8)++List.drop (0+(Q.map (Value.int .u8)).length) Z.toList)).toArray=uB Q by
  rw [List.drop_eq_nil_of_le (by rw [List.length_map,Zt.out,Array.length_toList,HZS.out]; decide)]; simp [uB])
 have HRR:=hid hr
 have HO:=hid hO
 have H31:=hid h31
 have xe:=hid (show w3.heap.size=w.heap.size+2 by rw [hO.size]; exact jM.out)
 clear h31 h32 hsrc hv hr hO HR HE1 HE2 hnn
 go_upto_region 4 with (first
  | (refine G5 (o:=⟨some 14,_,_,_,_,_⟩) rfl (.tmp 12) (.tmp 13) 62 62 (by rfl) 5 Tryz.underlying62 uN (w.heap.size+1) 0 32 32 ⟨b,off,none⟩ 32 cv (by rfl) (by rfl) Z.toList 49 H32.out (Q.map (Value.int .u8)) ND.out.1 aeB.out ND.out.2.1 ND.out.2.2 ?_))
 rw [HEQ.out]
 generalize Zo:World.setRow w3 _ _=w4
 have SQ:=hid (xR Q Zt.out)
 have EZ:=hid (show Z.size=(uB Q).size by rw [HZS.out,oL,Zt.out])
 have H42:=hid (show w4.heap[w.heap.size+1]? = some (.cells (uB Q) 49 (0,0)) by rw [← Zo]; exact setRow_heap _ _ _ _ _ _ H32.out)
 have H41:=hid (show w4.heap[w.heap.size]? = some (.cells Z 49 (0,0)) by rw [← Zo]; exact (setRow_other _ _ _ _ (by omega)).trans H31.out)
 have HC4:=hid (show Below w.heap.size w3 w4 by rw [← Zo]; exact aF (Below.refl _ _) (by omega) _)
 clear Zo H31 H32 aeB ND HEQ hsl
 go_wp2_with (first
  | (with_reducible refine wpList_load_row (o:=⟨some 15,_,_,_,_,_⟩) rfl 49 _ rfl (w.heap.size+1) rfl 49 (uB Q) (0,0) _ H42.out Tryz.underlying49 rfl SQ.out ?_)
  | (with_reducible refine wpList_store_row (o:=⟨none,.store _ (.tmp 2) _,_,_,_,_⟩) rfl 49 _ _ rfl w.heap.size (uB Q) rfl rfl 49 Z H41.out SQ.out EZ.out (Ko _) ?_))
 have Oa:Below w.heap.size w3 (w4.setRow w.heap.size (uB Q)):=aF HC4.out (Nat.le_refl _) _
 refine bodyPost_ret (v := .tuple #[.agg (uB Q),.int .i64 0]) (aj Tryz.results147 _ _ w.heap.size 49 (uB Q) (0,0) _ rfl (setRow_heap _ w.heap.size _ (uB Q) _ _ H41.out) Tryz.underlying49 rfl SQ.out _ (by simp)) rfl ⟨rfl, ?_, ?_⟩
 ·obtain ⟨x,y,z,hr⟩:=HRR.out
  exact ⟨x,y,z,fun W q1 q2=>hr W q1 (q2.trans (Oa.block R HRl.out))⟩
 ·have hb0:=HO.out.bel 0 (Nat.zero_le _)
  exact ⟨Oa.os.trans (hb0.os.trans HA2.out.os),Oa.tape.trans (hb0.tape.trans HA2.out.tape),Oa.output.trans (hb0.output.trans HA2.out.output),Nat.le_trans HA2.out.size (Nat.le_trans (Nat.le_of_eq HO.out.size.symm) Oa.size),
   fun k hk hne=>(Oa.block k hk).trans ((HO.out.rest k hne).trans (HA2.out.block k hk))⟩
theorem XE (R lb cb:Nat)(ab:bO)(l:bI)(w0 w:World)(h0':RR w0 217 R ab lb cb l)(xU:Below w0.heap.size w0 w) :
 Calls Tryz.prog 147 #[.pointer (some ⟨R,0,none⟩)] w fun e w'=>e = .returned (.tuple #[.agg (uB (uk l).1),.int .i64 (uk l).2.1])∧(∃ ab' lb' cb',∀ W:World,(∀ k,k<w0.heap.size→k ≠ R→W.heap[k]? = w0.heap[k]?)→W.heap[R]? = w'.heap[R]? → RR W 217 R ab' lb' cb' (uk l).2.2)∧rM R w w':=by
 have h:=h0'.below xU
 have H0':=hid h0'
 have G9:=hid xU
 clear h0' xU
 by_cases hs:l.length<32
 ·rw [show uk l=(List.replicate 32 0,3,l) by unfold uk; rw [if_pos hs]]
  exact CX R lb cb ab l w0 w H0'.out G9.out hs
 ·rw [show uk l=(l.take 32,0,l.drop 32) by unfold uk; rw [if_neg hs]]
  exact KD R lb cb ab l w0 w H0'.out G9.out (by omega)
def trunc (N:Nat)(w:World):World:={ w with heap:=w.heap.extract 0 N }
theorem iR {N k:Nat}(w:World)(h:k<N):(trunc N w).heap[k]? = w.heap[k]? := by
 unfold trunc
 simp [Array.getElem?_extract]
 omega
theorem lZ {N:Nat}{w:World}(h:N≤w.heap.size):(trunc N w).heap.size=N:=by
 unfold trunc
 simp
 omega
theorem uV {N:Nat}{w:World}(h:N≤w.heap.size):Below (trunc N w).heap.size (trunc N w) w :=
 ⟨rfl,rfl,rfl,by rw [lZ h]; exact h,fun k hk=>(iR w (by rwa [lZ h] at hk)).symm⟩
def RT (N:Nat)(w:World)(t R:Nat)(l:bI):Prop:=N≤w.heap.size∧∃ ab lb cb,RR (trunc N w) t R ab lb cb l
theorem RT.rr {N:Nat}{w:World}{t R:Nat}{l:bI}(h:RT N w t R l):∃ ab lb cb,RR w t R ab lb cb l:=by
 obtain ⟨hN,ab,lb,cb,h⟩:=h
 exact ⟨ab,lb,cb,h.below (uV hN)⟩
theorem RT.lt {N:Nat}{w:World}{t R:Nat}{l:bI}(h:RT N w t R l):R<N:=by
 obtain ⟨hN,ab,lb,cb,h⟩:=h
 have:=(Array.getElem?_eq_some_iff.1 h.cell).1
 rwa [lZ hN] at this
theorem RT.Dp {N:Nat}{w:World}{t R:Nat}{l:bI}(h:RT N w t R l):fP l:=by
 obtain ⟨hN,ab,lb,cb,h⟩:=h
 exact h.bytes.Dp
theorem RT.now {w:World}{t R lb cb:Nat}{ab:bO}{l:bI}(h:RR w t R ab lb cb l):RT w.heap.size w t R l:=by
 have e:trunc w.heap.size w=w:=by unfold trunc; simp
 exact ⟨Nat.le_refl _,ab,lb,cb,by rw [e]; exact h⟩
theorem RT.keep {N:Nat}{w w':World}{t R:Nat}{l:bI}(h:RT N w t R l)(hs:N≤w'.heap.size)(q:∀ k,k<N→w'.heap[k]? = w.heap[k]?):RT N w' t R l:=by
 have hR:=h.lt
 obtain ⟨hN,ab,lb,cb,h⟩:=h
 have e:∀ k,k<N→(trunc N w').heap[k]? = (trunc N w).heap[k]? := fun k hk=>by rw [iR _ hk,iR _ hk,q k hk]
 exact ⟨hs,ab,lb,cb,(e R hR).trans h.cell,h.bytes.old h.cell (fun k hk _=>e k (by rwa [lZ hN] at hk)),h.len,h.cap,h.big⟩
theorem Vr {N:Nat}{w w':World}{t R:Nat}{l:bI}(hN:N≤w.heap.size)(hs:N≤w'.heap.size)(hR:R<N)(q:∀ k,k<N→k ≠ R→w'.heap[k]? = w.heap[k]?)
 (r:∃ ab lb cb,∀ W:World,(∀ k,k<(trunc N w).heap.size→k ≠ R→W.heap[k]? = (trunc N w).heap[k]?)→W.heap[R]? = w'.heap[R]? → RR W t R ab lb cb l):RT N w' t R l:=by
 obtain ⟨ab,lb,cb,r⟩:=r
 refine ⟨hs,ab,lb,cb,r _ (fun k hk hne=>?_) (iR _ hR)⟩
 rw [lZ hN] at hk
 rw [iR _ hk,iR _ hk,q k hk hne]
theorem KE (N R:Nat)(l:bI)(n:Int)(w:World)(h:RT N w 217 R l)(hn:n≤9223372036854775807) :
 Calls Tryz.prog 118 #[.pointer (some ⟨R,0,none⟩),.int .i64 n] w fun e w'=>e = .returned (.tuple #[.int .u64 (iO n l).1,.int .i64 (iO n l).2.1])∧RT N w' 217 R (iO n l).2.2∧Only R w w':=by
 have hR:=h.lt
 obtain ⟨hN,ab,lb,cb,h⟩:=h
 exact (aa0 R lb cb ab l n _ w h (uV hN) hn).mono fun e w' ⟨he,hr,hO⟩=>⟨he,Vr hN (by rw [hO.size]; exact hN) hR (fun k _ hne=>hO.rest k hne) hr,hO⟩
theorem aeD (N R:Nat)(l:bI)(w:World)(h:RT N w 217 R l) :
 Calls Tryz.prog 147 #[.pointer (some ⟨R,0,none⟩)] w fun e w'=>e = .returned (.tuple #[.agg (uB (uk l).1),.int .i64 (uk l).2.1])∧RT N w' 217 R (uk l).2.2∧rM R w w':=by
 have hR:=h.lt
 obtain ⟨hN,ab,lb,cb,h⟩:=h
 exact (XE R lb cb ab l _ w h (uV hN)).mono fun e w' ⟨he,hr,hO⟩=>⟨he,Vr hN (Nat.le_trans hN hO.size) hR (fun k hk hne=>hO.block k (Nat.lt_of_lt_of_le hk hN) hne) hr,hO⟩
end
section
open Go.ChangeShapes Go.WideShapes Go.ChangeAt Go.RowKit
instance ant (l:bI):Decidable (fP l):=inferInstanceAs (Decidable (∀ z ∈ l,0≤z∧z≤255))
theorem AP (l:bI)(h:fP l)(k:Nat):fP (l.take k):=fun z hz=>h z (List.mem_of_mem_take hz)
theorem wo (l:bI)(h:fP l)(k:Nat):fP (l.drop k):=fun z hz=>h z (List.mem_of_mem_drop hz)
theorem Vs (l:bI)(h:fP l)(k:Nat)(hl:l.length=k)(m:Int)(hm:(256:Int) ^ k≤m+1):0≤num l∧num l≤m:=by
 have:=Aj l h
 rw [hl] at this
 omega
def iE (l:bI):ay :=
 if h:44≤l.length∧fP l then
  ⟨num (l.take 4),num ((l.drop 4).take 8),(l.drop 12).take 32,
    Vs _ (AP _ h.2 4) 4 (by rw [List.length_take]; omega) _ (by decide),
    Vs _ (AP _ (wo _ h.2 4) 8) 8 (by rw [List.length_take,List.length_drop]; omega) _ (by decide),
    by rw [List.length_take,List.length_drop]; omega,AP _ (wo _ h.2 12) 32⟩
 else ai
def xW (l:bI):ay×Int×bI:=if l.length<44 then (ai,3,l) else (iE l,0,l.drop 44)
theorem SC (q:ay)(R:bI)(hR:fP R):iE (fZ q++R)=q:=by
 have h4:=dR q.ad 4
 have h8:=dR q.bi 8
 have hs:=q.s0.1
 have hb:fP (fZ q++R):=fun z hz=>by
  rcases List.mem_append.1 hz with h | h
  ·exact EG q z h
  ·exact hR z h
 unfold iE
 rw [dif_pos ⟨by rw [List.length_append,jv]; omega,hb⟩]
 have e1:(fZ q++R).take 4=kS q.ad 4:=by
  unfold fZ
  rw [List.append_assoc,List.take_append_of_le_length (by omega),List.take_of_length_le (by omega)]
 have e2:(fZ q++R).drop 4=kS q.bi 8++(q.su++R):=by
  unfold fZ
  rw [List.append_assoc,List.drop_append_of_le_length (by omega),List.drop_eq_nil_of_le (by omega),List.nil_append,List.append_assoc]
 have e3:(fZ q++R).drop 12=q.su++R:=by
  rw [show (12:Nat)=4+8 from rfl,← List.drop_drop,e2,List.drop_append_of_le_length (by omega),List.drop_eq_nil_of_le (by omega),List.nil_append]
 refine ay.same ?_ ?_ ?_
 ·show num ((fZ q++R).take 4)=q.ad
  rw [e1]
  exact MV 4 _ q.a0.1 (by have:=q.a0.2; omega)
 ·show num (((fZ q++R).drop 4).take 8)=q.bi
  rw [e2,List.take_append_of_le_length (by omega),List.take_of_length_le (by omega)]
  exact MV 8 _ q.b0.1 (by have:=q.b0.2; omega)
 ·show ((fZ q++R).drop 12).take 32=q.su
  rw [e3,List.take_append_of_le_length (by omega),List.take_of_length_le (by omega)]
theorem XF (q:ay)(R:bI)(hR:fP R):xW (fZ q++R)=(q,0,R):=by
 unfold xW
 rw [if_neg (by rw [List.length_append,jv]; omega),SC q R hR,List.drop_append_of_le_length (by rw [jv]; exact Nat.le_refl _),List.drop_eq_nil_of_le (by rw [jv]; exact Nat.le_refl _),List.nil_append]
theorem Ob (k:Nat)(l:bI)(h:k≤l.length)(h8:k≤8):iO (k:Int) l=(num (l.take k),0,l.drop k):=by
 unfold iO fV
 rw [if_neg (by omega),if_neg (by omega),if_neg (by omega)]
 rfl
theorem Oc (l:bI)(h:44≤l.length)(hb:fP l):num (l.take 4)=(iE l).ad∧num ((l.drop 4).take 8)=(iE l).bi∧(l.drop 12).take 32=(iE l).su:=by
 unfold iE
 rw [dif_pos ⟨h,hb⟩]
 exact ⟨rfl,rfl,rfl⟩
theorem IW {R N:Nat}{w w1 w2:World}(h:rM R w w1)(hN:w.heap.size≤N)(b:Below N w1 w2):rM R w w2 :=
 ⟨b.os.trans h.os,b.tape.trans h.tape,b.output.trans h.output,Nat.le_trans h.size b.size,fun k hk hne=>(b.block k (Nat.lt_of_lt_of_le hk hN)).trans (h.block k hk hne)⟩
end
end Go.Proofs.YtljjcbmkbmloaaaGreatDoor
