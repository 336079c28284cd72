import Derived.Test.YtljjcbmkbmloaaaGreatDoorGTu7
import Derived.Lib.ConvBytes
import Derived.Great.BuildSlice
import Derived.Stop.BytesEq
import Derived.Test.YtljjcbmkbmloaaaGreatDoorGTuA
namespace Go.Proofs.YtljjcbmkbmloaaaGreatDoor
set_option maxHeartbeats 1600000
set_option maxRecDepth 100000
set_option linter.unusedVariables false
open Lib (hid)
section
open Go.RowKit
def xu (s:ByteArray):bI:=s.data.toList.map fun b=>(b.toNat:Int)
theorem iq (s:ByteArray):(xu s).length=s.size:=by rw [xu,List.length_map]; rfl
theorem Ol (s:ByteArray):gm (xu s):=by
 intro z hz;simp only [xu,List.mem_map] at hz;obtain ⟨b,_,rfl⟩:=hz;have:=b.toNat_lt;omega
theorem KY (w:World)(s:ByteArray):Below w.heap.size w (Lib.bytesWorld w 5 s):=by
 have h:∀ (W:World) (a:Addr) (n:Nat),(W.freeze a n).os=W.os∧(W.freeze a n).tape=W.tape∧(W.freeze a n).output=W.output:=by
  intro W a n;unfold World.freeze;split <;> exact ⟨rfl,rfl,rfl⟩
 exact ⟨(h _ _ _).1,(h _ _ _).2.1,(h _ _ _).2.2,by rw [Lib.bytesWorld_size]; omega,fun k hk=>Lib.bytesWorld_at_old w _ s k hk⟩
theorem XL (w:World)(s:ByteArray):BS (Lib.bytesWorld w 5 s) (.slice (some ⟨w.heap.size,0,none⟩) s.size (grownCap w s.size 0 5)) (xu s):=by
 refine ⟨some ⟨w.heap.size,0,none⟩,grownCap w s.size 0 5,by rw [iq],Ol s,nofun,.inr ⟨w.heap.size,0,rfl,fun i hi=>?_⟩⟩;rw [iq] at hi;rw [Nat.zero_add,Lib.bytesWorld_cell w 5 s i hi];have h2:i<s.data.toList.length:=hi;simp only [xu,List.getD_eq_getElem?_getD,List.getElem?_map,List.getElem?_eq_getElem h2,Option.map_some,Option.getD_some]
theorem XM (s:ByteArray)(W:World):(convert 9 62 (.string s)).run Tryz.prog W = .ok (.slice (some ⟨W.heap.size,0,none⟩) s.size (grownCap W s.size 0 5)) (Lib.bytesWorld W 5 s) :=
 Lib.run_convert_string_bytes W _ _ _ s Tryz.underlying9 Tryz.underlying62 Tryz.underlying5
theorem EM {P:Program}{w:World}{o:Oper}{a:Act}{K:Act→World→Prop}{Q:Exit→Act→World→Prop}(s x:Operand)(dT sT:TypeId)
 (ho:o.op = .call { callee := .builtin .append,args:=#[s,x],argTypes:=#[dT,sT] }) (v vx v':Value) (w':World) (hs:a.eval s=v) (hx:a.eval x=vx)
 (hr:(Builtin.append_ #[dT,sT] o.type #[v,vx]).run P w = .ok v' w') (h:K (a.put o.dst v') w'):o.wp P a w K Q:=by
 unfold Oper.wp execOp
 simp only [ho,resolve,invoke,builtin,Sem.run_bind,Sem.run_pure,Result.andThen_ok,List.map_toArray,List.map_cons,List.map_nil,hs,hx,hr]
 exact h
end
section
open Go.RowKit
structure Touch (l:List Nat)(w w':World):Prop where
 os:w'.os=w.os
 tape:w'.tape=w.tape
 output:w'.output=w.output
 size:w.heap.size≤w'.heap.size
 block:∀ k,k<w.heap.size→k ∉ l→w'.heap[k]? = w.heap[k]?
theorem Touch.refl (l:List Nat)(w:World):Touch l w w:=⟨rfl,rfl,rfl,Nat.le_refl _,fun _ _ _=>rfl⟩
theorem Touch.trans {l:List Nat}{a b c:World}(h:Touch l a b)(q:Touch l b c):Touch l a c :=
 ⟨q.os.trans h.os,q.tape.trans h.tape,q.output.trans h.output,Nat.le_trans h.size q.size,fun k hk hn=>(q.block k (Nat.lt_of_lt_of_le hk h.size) hn).trans (h.block k hk hn)⟩
theorem Touch.more {l m:List Nat}{a b:World}(h:Touch l a b)(hm:∀ k ∈ l,k ∈ m):Touch m a b:=⟨h.os,h.tape,h.output,h.size,fun k hk hn=>h.block k hk (fun e=>hn (hm k e))⟩
theorem Touch.of_below {l:List Nat}{a b:World}(h:Below a.heap.size a b):Touch l a b:=⟨h.os,h.tape,h.output,h.size,fun k hk _=>h.block k hk⟩
theorem Touch.dC {l:List Nat}{g:Nat}{a b:World}(h:Only g a b)(hg:g ∈ l):Touch l a b :=
 ⟨(h.bel 0 (Nat.zero_le _)).os,(h.bel 0 (Nat.zero_le _)).tape,(h.bel 0 (Nat.zero_le _)).output,Nat.le_of_eq h.size.symm,fun k _ hn=>h.rest k (fun e=>hn (e ▸ hg))⟩
theorem Touch.below {l:List Nat}{a b:World}{B:Nat}(h:Touch l a b)(hB:B≤a.heap.size)(hl:∀ k ∈ l,B≤k):Below B a b :=
 ⟨h.os,h.tape,h.output,h.size,fun k hk=>h.block k (by omega) (fun e=>by have:=hl k e; omega)⟩
theorem Touch.arr {l:List Nat}{a b:World}{g t:Nat}{L:bY}(h:Touch l a b)(q:aU a g t L)(hg:g ∉ l):aU b g t L:=(h.block g (Rk q) hg).trans q
theorem bG {l:List Nat}{B n k:Nat}{e:TypeId}{v:Value}{xs:List Value}{w w':World}(h:w.ownsRow B e k v n xs)(q:Touch l w w')(hne:∀ g,v.ownBlock=some g→g ∉ l):w'.ownsRow B e k v n xs:=by
 refine ⟨h.1, ?_⟩;rcases h.2 with hn | ⟨g,cap,cur,rfl,hb,hgg,rest⟩
 ·exact .inl hn
 exact .inr ⟨g,cap,cur,rfl,hb,(q.block g (Array.getElem?_eq_some_iff.1 hgg).1 (hne g rfl)).trans hgg,rest⟩
theorem Touch.grown {w w':World}{row:Option Nat}(h:w.grownBy w' row):Touch row.toList w w' :=
 ⟨h.os,h.tape,h.output,h.size,fun k hk hn=>h.block k hk (fun e=>hn (by rw [← e]; simp))⟩
theorem AU (w:World)(base n:Nat)(v vx:Value)(xs:List Value)(l:bI)(hown:w.ownsRow base 5 1 v n xs)(hB:BS w vx l)(h63:n+l.length≤140737488351232)(hbase:base≤w.heap.size) :
 ∃ v' w',(Builtin.append_ #[62,62] 62 #[v,vx]).run Tryz.prog w = .ok v' w'∧w'.ownsRow base 5 1 v' (n+l.length) (xs++l.map (Value.int .u8))∧w.grownBy w' v.ownBlock∧(v'.ownBlock=v.ownBlock∨v'.ownBlock=some w.heap.size):=by
 obtain ⟨i0,hi,hz0,hz1,hz2⟩:=info_parts yV
 obtain ⟨ad,cap,rfl,hb,hn,hc⟩:=hB
 cases ad with
 | none =>
   obtain rfl:=hn rfl;have hl:l=[]:=by
    rcases hc with h | ⟨b,off,h,_⟩
    ·exact h
    cases h
   subst hl;exact ⟨v,w,run_append_owned_none (P:=Tryz.prog) (w:=w) base _ _ _ i0 1 Tryz.underlying62 hi v n xs hown,by simpa using hown,⟨rfl,rfl,rfl,Nat.le_refl _,fun _ _ _=>rfl⟩,.inl rfl⟩
 | some ad =>
   obtain ⟨v',w',h1,h2,h3,_,h5⟩:=run_append_own_at (P:=Tryz.prog) w base 62 62 5 i0 _ 1 1 Tryz.underlying62 hi hz0 hz1 hz2 rfl (by decide) v n xs hown ad l.length cap (l.map (Value.int .u8)) (by simp) (by
    intro j u hj
    have hjl:j<l.length:=by
     have:=(List.getElem?_eq_some_iff.1 hj).1;simpa using this
    rcases hc with hc | ⟨b,off,he,hc⟩
    ·subst hc; simp at hjl
    ·obtain rfl:=Option.some.inj he
     have e2:(⟨b,off,none⟩:Addr).add j=⟨b,off+j,none⟩:=by unfold Addr.add; split <;> simp_all
     rw [e2,hc j hjl];simp [hjl] at hj;simp [hjl,hj]) (by
    intro u hu
    simp only [List.mem_map] at hu
    obtain ⟨z,_,rfl⟩:=hu
    rfl) (by unfold maxLen; omega) (by omega) hbase
   exact ⟨v',w',h1,h2,h3,h5⟩
theorem wpList_append_run {P:Program}{ops:Array Oper}{rest:List Oper}{o:Oper}{a:Act}{w:World}{Q:Exit→Act→World→Prop}(hgd:o.guard=none)(s x:Operand)(dT sT:TypeId)
 (ho:o.op = .call { callee := .builtin .append,args:=#[s,x],argTypes:=#[dT,sT] }) (v vx v':Value) (w':World) (hs:a.eval s=v) (hx:a.eval x=vx)
 (hr:(Builtin.append_ #[dT,sT] o.type #[v,vx]).run P w = .ok v' w') (h:wpList P ops Q rest (a.put o.dst v') w'):wpList P ops Q (o::rest) a w :=
 wpList_plain hgd fun _ hK=>EM s x dT sT ho v vx v' w' hs hx hr (hK _ _ h)
theorem EN {w:World}{base n:Nat}{v:Value}{l:bI}(h:w.ownsRow base 5 1 v n (l.map (Value.int .u8)))(hl:l.length=n)(hb:gm l) :
 ∃ a cap,v = .slice a n cap∧n≤cap∧BS w (.slice a n cap) l:=by
 have hbs:=BS.Ej h hl hb
 rcases h.2 with ⟨rfl,rfl⟩ | ⟨g,cap,cur,rfl,_,_,h1,h2,_⟩
 ·exact ⟨none,0,rfl,Nat.le_refl _,hbs⟩
 ·exact ⟨_,cap,rfl,h1,hbs⟩
end
section
open Go.RowKit
theorem fold_at (off:Nat):∀ (xs:List Value) (s:Nat) (C:Array Value) (i:Nat),
 ((xs.zipIdx s).foldl (fun cs (p:Value×Nat)=>cs.setIfInBounds (off+p.2) p.1) C)[i]? = if i<C.size∧off+s≤i∧i<off+s+xs.length then xs[i - (off+s)]? else C[i]?
 | [],s,C,i=>by simp; omega
 | x::xs,s,C,i=>by
   rw [List.zipIdx_cons,List.foldl_cons,fold_at off xs (s+1) _ i];simp only [Array.size_setIfInBounds,List.length_cons,Array.getElem?_setIfInBounds];by_cases h1:i<C.size
   ·by_cases h2:i=off+s
    ·subst h2
     simp [h1]; omega
    by_cases h3:off+s≤i∧i<off+s+(xs.length+1)
    ·rw [if_pos (by omega),if_pos (by omega),show i - (off+s)=i - (off+(s+1))+1 by omega,List.getElem?_cons_succ]
    rw [if_neg (by omega),if_neg (by omega),if_neg (by omega)]
   simp only [h1,false_and,if_false];split
   ·rename_i e
    rw [if_neg (by omega),Array.getElem?_eq_none (by omega)]
   rfl
theorem aaR (v C:Array Value)(off:Nat)(h:off+v.size≤C.size)(D:Array Value)(hD:∀ i,D[i]? = if off≤i∧i<off+v.size then v[i - off]? else C[i]?) :
 v.zipIdx.foldl (fun cs (p:Value×Nat)=>cs.setIfInBounds (off+p.2) p.1) C=D:=by
 apply Array.ext_getElem?
 intro i
 have e:v.zipIdx.foldl (fun cs (p:Value×Nat)=>cs.setIfInBounds (off+p.2) p.1) C=(v.toList.zipIdx 0).foldl (fun cs (p:Value×Nat)=>cs.setIfInBounds (off+p.2) p.1) C:=by
  rw [← Array.foldl_toList]; simp
 rw [e,fold_at,hD]
 simp only [Nat.add_zero,Array.length_toList,Array.getElem?_toList]
 by_cases h1:off≤i∧i<off+v.size
 ·rw [if_pos (by omega),if_pos h1]
 ·rw [if_neg (by omega),if_neg h1]
theorem gq (place:Nat→Option (Nat×Nat))(C D v:Array Value)(x:Value)(i off size:Nat)(rest:List (Nat×Value))(hx:x.cells=v)(hp:place i=some (off,size))(hs:v.size=size)(h:off+v.size≤C.size)(hD:∀ i,D[i]? = if off≤i∧i<off+v.size then v[i - off]? else C[i]?) :
 Instr.fill place C ((i,x)::rest)=Instr.fill place D rest:=by
 subst hx
 rw [Instr.fill,hp]
 dsimp only
 rw [if_neg (by simp [hs]; omega)]
 rw [aaR _ C off h D hD]
theorem Om (C v:Array Value)(size:Nat)(hv:v.size=size)(hc:C.size=size):Instr.fill (fun i=>some (i * size,size)) C [(0,.agg v)]=some v:=by
 rw [gq _ C v v (.agg v) 0 (0 * size) size [] rfl rfl hv (by omega) (fun i=>by
  by_cases h:i<v.size
  ·rw [if_pos (by omega)]; simp
  rw [if_neg (by omega),Array.getElem?_eq_none (by omega),Array.getElem?_eq_none (by omega)])]
 rfl
theorem zl {P:Program}{o:Oper}{a:Act}{w:World}{K:Act→World→Prop}{Q:Exit→Act→World→Prop}(s x:Operand)(t:TypeId)(ho:o.op = .call { callee := .builtin .append,args:=#[s,x],argTypes:=#[t,t] })(sv xv:Value)(hs:a.eval s=sv)(hx:a.eval x=xv)
 (v':Value) (w':World) (hr:(Builtin.append_ #[t,t] o.type #[sv,xv]).run P w = .ok v' w') (h:K (a.put o.dst v') w'):o.wp P a w K Q:=by
 unfold Oper.wp execOp
 simp only [ho,resolve,invoke,builtin,Sem.run_bind,Sem.run_pure,Result.andThen_ok,List.map_toArray,List.map_cons,List.map_nil,hs,hx,hr]
 exact h
theorem Jc {P:Program}{o:Oper}{a:Act}{w:World}{K:Act→World→Prop}{Q:Exit→Act→World→Prop}(t:TypeId)(len:Nat)(parts:Array (Nat×Operand))(ho:o.op = .buildSlice t len parts)(vs:Array (Nat×Value))(hv:(parts.map fun (i,x)=>(i,a.eval x))=vs)
 (v:Value) (w':World) (hr:(Instr.buildSlice t len vs).run P w = .ok v w') (h:K (a.put o.dst v) w'):o.wp P a w K Q:=by
 subst hv
 unfold Oper.wp execOp
 simp only [ho,Sem.run_bind,hr,Result.andThen_ok]
 exact h
theorem EO {P:Program}{ops:Array Oper}{rest:List Oper}{o:Oper}{a:Act}{w:World}{Q:Exit→Act→World→Prop}(hgd:o.guard=none)(t:TypeId)(len:Nat)(parts:Array (Nat×Operand))(ho:o.op = .buildSlice t len parts)(vs:Array (Nat×Value))(hv:(parts.map fun (i,x)=>(i,a.eval x))=vs)
 (v:Value) (w':World) (hr:(Instr.buildSlice t len vs).run P w = .ok v w') (h:wpList P ops Q rest (a.put o.dst v) w'):wpList P ops Q (o::rest) a w :=
 wpList_plain hgd fun _ hK=>Jc t len parts ho vs hv v w' hr (hK _ _ h)
theorem DR {P:Program}{T E size bytes:Nat}{Z:Array Value}(ht:P.underlying T=some (.slice E))(hinfo:(P.info? E).map (fun i=>(i.zero,i.size,i.bytes))=some (some (.agg Z),size,bytes))(h0:1≤size)(hs:size≤100000)(cs:Array Value)(hc:cs.size=size)(W:World) :
 (Instr.buildSlice T 1 #[(0,.agg cs)]).run P W = .ok (.slice (some ⟨W.heap.size,0,none⟩) 1 1) (W.alloc (.cells cs E)):=by
 obtain ⟨i,hi,hzz⟩:=Option.map_eq_some_iff.1 hinfo
 simp only [Prod.mk.injEq] at hzz
 obtain ⟨hz,hs',hb⟩:=hzz
 refine run_buildSlice W T E 1 _ cs i _ ht hi hz (by rw [hs']; omega) (by rw [hs']; omega) ?_
 rw [hs']
 exact Om _ _ size hc (by simp)
end
section
open Go.RowKit
structure RR (w:World)(t:Nat)(R:Nat)(ab:bO)(lb cb:Nat)(l:bI):Prop where
 cell:w.heap[R]? = some (.cells #[.slice ab lb cb] t (0,0))
 bytes:BS w (.slice ab lb cb) l
 len:l.length=lb
 cap:lb≤cb
 big:lb≤140737488351232
theorem RR.at {w:World}{t R lb cb:Nat}{ab:bO}{l:bI}(h:RR w t R ab lb cb l):w.cell? ⟨R,0,none⟩=some (.slice ab lb cb):=cell_of_row _ _ _ _ _ _ h.cell
theorem BS.only {w w':World}{R t lb cb:Nat}{a:bO}{v:Value}{l:bI}(h:BS w v l)(hR:w.heap[R]? = some (.cells #[.slice a lb cb] t (0,0)))(q:Only R w w'):BS w' v l:=by
 obtain ⟨a',cap',hv,hy,hn,hc⟩:=h;refine ⟨a',cap',hv,hy,hn, ?_⟩;rcases hc with h0 | ⟨b,off,ha,hc⟩
 ·exact .inl h0
 by_cases hl:l=[]
 ·exact .inl hl
 refine .inr ⟨b,off,ha,fun i hi=>?_⟩;have hne:b ≠ R:=by
  rintro rfl;have q0:=hc i hi;rw [cell_of_row _ _ _ _ _ _ hR] at q0;cases ho:off+i with
  | zero=>rw [ho] at q0; simp at q0
  | succ k=>rw [ho] at q0; simp at q0
 have e:w'.cell? ⟨b,off+i,none⟩=w.cell? ⟨b,off+i,none⟩:=by simp [World.cell?,q.rest b hne]
 rw [e];exact hc i hi
theorem BS.old {w W:World}{R t lb cb:Nat}{a:bO}{v:Value}{l:bI}(h:BS w v l)(hR:w.heap[R]? = some (.cells #[.slice a lb cb] t (0,0)))(q:∀ k,k<w.heap.size→k ≠ R→W.heap[k]? = w.heap[k]?):BS W v l:=by
 obtain ⟨a',cap',hv,hy,hn,hc⟩:=h;refine ⟨a',cap',hv,hy,hn, ?_⟩;rcases hc with h0 | ⟨b,off,ha,hc⟩
 ·exact .inl h0
 refine .inr ⟨b,off,ha,fun i hi=>?_⟩;have q0:=hc i hi;have hlt:=block_lt_of_cell q0;have hne:b ≠ R:=by
  rintro rfl;rw [cell_of_row _ _ _ _ _ _ hR] at q0;cases ho:off+i with
  | zero=>rw [ho] at q0; simp at q0
  | succ k=>rw [ho] at q0; simp at q0
 have e:W.cell? ⟨b,off+i,none⟩=w.cell? ⟨b,off+i,none⟩:=by simp [World.cell?,q b hlt hne]
 rw [e];exact q0
theorem RR.below {w w':World}{t R lb cb:Nat}{ab:bO}{l:bI}(h:RR w t R ab lb cb l)(b:Below w.heap.size w w'):RR w' t R ab lb cb l :=
 ⟨(b.block R (Array.getElem?_eq_some_iff.1 h.cell).1).trans h.cell,h.bytes.kept b,h.len,h.cap,h.big⟩
def gu (n:Int)(l:bI):bI×Int×bI:=if n<0 then ([],2,l) else if (l.length:Int)<n then ([],3,l) else (l.take n.toNat,0,l.drop n.toNat)
theorem EP (w:World):BS w (.slice none 0 0) []:=⟨none,0,rfl,by intro z hz; simp at hz,fun _=>rfl,.inl rfl⟩
def iV (n:Int)(l:bI):Int×Int×bI:=if n<0∨8<n then (0,2,l) else (num (gu n l).1,(gu n l).2.1,(gu n l).2.2)
theorem ER (n:Int)(l:bI)(h:n≤8):(gu n l).1.length≤8:=by
 unfold gu;split
 ·simp
 split
 ·simp
 simp only [List.length_take]; omega
end
section
open Go.RowKit
def ku (l:bI):ByteArray×Int×bI:=if l=[]∨(l.length:Int)<1+l.getD 0 0 then (⟨#[]⟩,3,l) else (strOfNums ((l.drop 1).take (l.getD 0 0).toNat),0,l.drop (1+(l.getD 0 0).toNat))
theorem heap_drewN (w:World)(k:Nat):(w.drewN k).heap=w.heap:=by
 induction k generalizing w with
 | zero=>rfl
 | succ k ih=>exact ih _
def uA (l:bI):bI×Int×bI:=if l.length<32 then (List.replicate 32 0,3,l) else (l.take 32,0,l.drop 32)
theorem Jd (l:bI):gu 32 l=if l.length<32 then ([],3,l) else (l.take 32,0,l.drop 32):=by
 unfold gu;rw [if_neg (by omega)];by_cases h:l.length<32
 ·rw [if_pos (by omega),if_pos h]
 rw [if_neg (by omega),if_neg h]; rfl
def uK (l:bI):Array Value:=(l.map (Value.int .u8)).toArray
theorem x9 (W:World):(zeroValue 49).run Tryz.prog W = .ok (.agg (uK (List.replicate 32 0))) W:=by kernel_rfl
theorem uX (g:Nat)(W:World):(Instr.sliceAt 49 (.pointer (some ⟨g,0,none⟩)) none none none).run Tryz.prog W = .ok (.slice (some ⟨g,0,none⟩) 32 32) W:=by
 obtain ⟨i0,hi0,_⟩:=Option.map_eq_some_iff.1 sQ;simp [Instr.sliceAt,run_underlying Tryz.underlying49,Instr.sureAddr,Instr.sliceBounds,sizeOf,typeInfo,hi0,Addr.add]
structure sH (R:Nat)(w w':World):Prop where
 os:w'.os=w.os
 tape:w'.tape=w.tape
 output:w'.output=w.output
 size:w.heap.size≤w'.heap.size
 block:∀ k,k<w.heap.size→k ≠ R→w'.heap[k]? = w.heap[k]?
theorem sH.dC {R:Nat}{w w':World}(h:Only R w w'):sH R w w':=⟨(h.bel 0 (Nat.zero_le _)).os,(h.bel 0 (Nat.zero_le _)).tape,(h.bel 0 (Nat.zero_le _)).output,Nat.le_of_eq h.size.symm,fun k _ hk=>h.rest k hk⟩
theorem sH.of_below {R:Nat}{w w':World}(h:Below w.heap.size w w'):sH R w w':=⟨h.os,h.tape,h.output,h.size,fun k hk _=>h.block k hk⟩
theorem sH.trans {R:Nat}{a b c:World}(h:sH R a b)(q:sH R b c):sH R a c:=⟨q.os.trans h.os,q.tape.trans h.tape,q.output.trans h.output,Nat.le_trans h.size q.size,fun k hk hne=>(q.block k (Nat.lt_of_lt_of_le hk h.size) hne).trans (h.block k hk hne)⟩
theorem sH.below {R B:Nat}{w w':World}(h:sH R w w')(hR:B≤R)(hB:B≤w.heap.size):Below B w w':=⟨h.os,h.tape,h.output,h.size,fun k hk=>h.block k (by omega) (by omega)⟩
theorem KZ (l:bI):(uK l).all (·.oneCell')=true:=by
 apply all_oneCell_toArray;intro v hv;obtain ⟨b,_,rfl⟩:=List.mem_map.1 hv;rfl
theorem pg (l:bI):(uK l).size=l.length:=by simp [uK]
theorem yc (l:bI)(h:l.length=32):(Tryz.prog.info? 49).map (·.size)=some (uK l).size:=by rw [show (Tryz.prog.info? 49).map (·.size)=some 32 by kernel_rfl,pg,h]
theorem aaS {w:World}{a:bO}{n cap:Nat}{l:bI}(h:BS w (.slice a n cap) l)(hl:0<l.length):∃ b off,a=some ⟨b,off,none⟩∧n=l.length∧∀ j v,(l.map (Value.int .u8))[j]? = some v→w.cell? ⟨b,off+j,none⟩=some v:=by
 obtain ⟨a',cap',hv,hy,hn,hc⟩:=h;injection hv with e1 e2 e3;rcases hc with h0 | ⟨b,off,ha,hc⟩
 ·subst h0; simp at hl
 refine ⟨b,off,e1.trans ha,e2,fun j v hv=>?_⟩;have hj:j<l.length:=by
  have:=(List.getElem?_eq_some_iff.1 hv).1;simpa using this
 rw [hc j hj,← hv,List.getElem?_map,List.getElem?_eq_getElem hj];simp [List.getD,hj]
end
section
open Go.RowKit
end
section
open Go.RowKit
theorem VG (a:bO)(n c:Nat)(W:World):(binOp .eql 62 (.slice a n c) (.slice none 0 0)).run Tryz.prog W = .ok (.bool a.isNone) W:=Lib.run_eql_slice_nil W _ _ a n c 0 0 Tryz.underlying62
theorem clone_any (v:Value)(l:bI)(w:World)(h:BS w v l)(h63:l.length≤140737488351232) :
 Calls Tryz.prog 121 #[v] w fun e w'=>∃ v',e = .returned v'∧w'.ownsRow w.heap.size 5 1 v' l.length (l.map (Value.int .u8))∧Below w.heap.size w w':=by
 have h0:=h
 obtain ⟨ad,cap,rfl,hy,hn,hc⟩:=h
 cases ad with
 | none =>
   obtain rfl:=hn rfl;obtain rfl:l=[]:=by
    rcases hc with h | ⟨b,off,h,_⟩
    ·exact h
    cases h
   clear h0 hc;have hq:=VG none 0 0;go_in;go_wp2_with fail;go_ret;exact ⟨_,rfl,World.ownsRow_nil _ _ _ _,Below.refl _ _⟩
 | some ad =>
   have hb1:=(Below.refl w.heap.size w).alloc (Nat.le_refl _) (.cells #[] 5);have ho:=World.ownsRow_lit (base:=w.heap.size) (e:=5) (size:=1) w #[] 0 (Nat.le_refl _) (by unfold maxLen; omega) rfl;have HO:=hid ho;have HB1:=hid hb1;have HX:=hid (h0.kept hb1);have HL:=hid h63;clear h0 hc ho hb1 h63;have hq:=VG (some ad) l.length cap;go_in;go_wp2_with (first
    | (at_builtin; (refine mf (o:=⟨some 7,_,_,_,_,_⟩) rfl _ _ rfl w.heap.size (.slice (some ⟨w.heap.size,0,none⟩) 0 0) 0 [] rfl HO.out _ l rfl HX.out (by have:=HL.out; omega) HB1.out.size ?_); intro v6 w6 ho6 VH))
   have HB:=hid (HB1.out.grown VH HB1.out.size (by intro k hk; simp [Value.ownBlock] at hk; omega));have H1:=hid ho6;clear ho6 VH;go_wp2_with fail;go_ret;exact ⟨_,rfl,by simpa using H1.out,HB.out⟩
structure WO (w:World)(P B:Nat)(v:Value)(l:bI):Prop where
 cell:w.heap[P]? = some (.cells #[v] 184 (0,0))
 own:w.ownsRow B 5 1 v l.length (l.map (Value.int .u8))
 DK:gm l
theorem ES {w:World}{B n:Nat}{e:TypeId}{k:Nat}{v:Value}{xs:List Value}(h:w.ownsRow B e k v n xs){g:Nat}(hg:v.ownBlock=some g):∃ cur,w.heap[g]? = some (.cells cur e (0,0)):=by
 rcases h.2 with ⟨rfl,_⟩ | ⟨g',cap,cur,rfl,_,hgg,_⟩
 ·cases hg
 obtain rfl:g'=g:=by simpa [Value.ownBlock] using hg
 exact ⟨cur,hgg⟩
theorem own_ne {w:World}{B n P t:Nat}{e:TypeId}{k:Nat}{v:Value}{xs:List Value}{cs:Array Value}{fr:Nat×Nat}(h:w.ownsRow B e k v n xs)(hP:w.heap[P]? = some (.cells cs t fr))(ht:t ≠ e):v.ownBlock ≠ some P:=by
 intro hg;obtain ⟨cur,hc⟩:=ES h hg;rw [hP] at hc;simp only [Option.some.injEq,Obj.cells.injEq] at hc;exact ht hc.2.1
theorem WO.ne {w:World}{P B:Nat}{v:Value}{l:bI}(h:WO w P B v l):v.ownBlock ≠ some P:=own_ne h.own h.cell (by decide)
theorem WO.lt {w:World}{P B:Nat}{v:Value}{l:bI}(h:WO w P B v l):P<w.heap.size:=(Array.getElem?_eq_some_iff.1 h.cell).1
theorem WO.touch {w w':World}{P B:Nat}{v:Value}{l:bI}{m:List Nat}(h:WO w P B v l)(t:Touch m w w')(hP:P ∉ m)(hv:∀ g,v.ownBlock=some g→g ∉ m):WO w' P B v l :=
 ⟨(t.block P h.lt hP).trans h.cell,bG h.own t hv,h.DK⟩
theorem WO.below {w w':World}{P B:Nat}{v:Value}{l:bI}(h:WO w P B v l)(b:Below w.heap.size w w'):WO w' P B v l :=
 h.touch (m:=[]) (Touch.of_below b) (by simp) (by simp)
def iR (w w':World)(P B:Nat)(v:Value)(l:bI):Prop :=
 ∃ v',WO w' P B v' l∧Touch (P::v.ownBlock.toList) w w'∧(v'.ownBlock=v.ownBlock∨∃ g,v'.ownBlock=some g∧w.heap.size≤g)
theorem iR.refl {w:World}{P B:Nat}{v:Value}{l:bI}(h:WO w P B v l):iR w w P B v l:=⟨v,h,Touch.refl _ _,.inl rfl⟩
theorem iR.of_below {w w1 w':World}{P B:Nat}{v:Value}{l:bI}(b:Below w.heap.size w w1)(s:iR w1 w' P B v l):iR w w' P B v l:=by
 obtain ⟨v',h,t,n⟩:=s;refine ⟨v',h,(Touch.of_below b).trans t, ?_⟩;rcases n with n | ⟨g,n,hg⟩
 ·exact .inl n
 exact .inr ⟨g,n,Nat.le_trans b.size hg⟩
theorem uY {w w1 w2:World}{P B:Nat}{v v1:Value}{l:bI}(t:Touch (P::v.ownBlock.toList) w w1)(n:v1.ownBlock=v.ownBlock∨∃ g,v1.ownBlock=some g∧w.heap.size≤g)(s:iR w1 w2 P B v1 l):iR w w2 P B v l:=by
 obtain ⟨v',h,t2,n2⟩:=s;have t3:Touch (P::v.ownBlock.toList) w w2:=by
  refine ⟨t2.os.trans t.os,t2.tape.trans t.tape,t2.output.trans t.output,Nat.le_trans t.size t2.size,fun k hk hne=>?_⟩;refine (t2.block k (Nat.lt_of_lt_of_le hk t.size) ?_).trans (t.block k hk hne);intro hm;rcases n with n | ⟨g,n,hg⟩
  ·rw [n] at hm; exact hne hm
  rw [n] at hm;simp only [Option.toList_some,List.mem_cons,List.not_mem_nil,or_false] at hm hne;rcases hm with rfl | rfl
  ·exact hne (.inl rfl)
  omega
 refine ⟨v',h,t3, ?_⟩;rcases n2 with n2 | ⟨g,n2,hg⟩
 ·rw [n2]
  exact n
 exact .inr ⟨g,n2,Nat.le_trans t.size hg⟩
theorem zn (P B:Nat)(v vx:Value)(l x:bI)(w:World)(h:WO w P B v l)(hx:BS w vx x)(h63:l.length+x.length≤140737488351232)(hB:B≤w.heap.size) :
 Calls Tryz.prog 132 #[.pointer (some ⟨P,0,none⟩),vx] w fun e w'=>e = .returned (.int .i64 0)∧iR w w' P B v (l++x):=by
 obtain ⟨av,cv,rfl,_,_⟩:=EN h.own rfl h.DK
 obtain ⟨ax,cx,rfl,_⟩:=id hx
 obtain ⟨v',w1,hr,h1,h2,h3⟩:=AU w B l.length _ _ _ x h.own hx h63 hB
 obtain ⟨a1,cp1,rfl⟩:∃ a1 cp1,v' = .slice a1 (l.length+x.length) cp1:=by
  rcases h1.2 with ⟨h5,h6⟩ | ⟨g',c,cur,h5,_⟩
  ·exact ⟨_,_,by rw [h5,h6]⟩
  exact ⟨_,_,h5⟩
 have hc1:w1.heap[P]? = some (.cells #[.slice av l.length cv] 184 (0,0)):=(h2.block P h.lt (fun e=>h.ne e.symm)).trans h.cell
 have hne:(Value.slice a1 (l.length+x.length) cp1).ownBlock ≠ some P:=own_ne h1 hc1 (by decide)
 have hO:=(Only.refl P w1).setCell 0 (.slice a1 (l.length+x.length) cp1)
 have HS:=hid (show iR w (w1.setCell ⟨P,0,none⟩ (.slice a1 (l.length+x.length) cp1)) P B (.slice av l.length cv) (l++x) from ⟨_,⟨heap_setCell_same _ _ _ _ _ _ hc1,by
  have q:=bG (l:=[P]) h1 (Touch.dC hO (by simp)) (fun g hg e=>by
   simp only [List.mem_cons,List.not_mem_nil,or_false] at e;exact hne (e ▸ hg))
  rw [List.length_append,List.map_append]; exact q,fun z hz=>by
   rcases List.mem_append.1 hz with hz | hz
   ·exact h.DK z hz
   exact hx.DK z hz⟩,
  ((Touch.grown h2).more (fun k hk=>List.mem_cons_of_mem _ hk)).trans (Touch.dC hO (List.mem_cons_self ..)),by
    rcases h3 with h3 | h3
    ·exact .inl h3
    ·exact .inr ⟨_,h3,Nat.le_refl _⟩⟩)
 have c0:=cell_of_row _ P 0 _ _ _ h.cell
 have c1:=cell_of_row _ P 0 _ _ _ hc1
 have f1:=frozen_of_row w1 P 0 _ _ hc1
 simp at c0 c1
 clear h hx h63 hB h1 h2 h3 hc1 hne hO
 go_in
 have HR:=hid hr
 clear hr
 go_wp2_with (first
  | (at_builtin; refine wpList_append_run (o:=⟨some 13,_,_,_,_,_⟩) rfl _ _ _ _ rfl _ _ _ _ rfl rfl HR.out ?_))
 go_ret
 exact ⟨rfl,HS.out⟩
end
section
open Go.RowKit
def uM (x n:Int):bI×Int:=if n<0∨8<n∨2 ^ (8 * n.toNat)≤x then ([],2) else (kW x n.toNat,0)
theorem zo (P B:Nat)(v:Value)(l:bI)(x n:Int)(w:World)(h:WO w P B v l)(h0:0≤x)(h63:l.length≤140737488300000)(hB:B≤w.heap.size) :
 Calls Tryz.prog 99 #[.pointer (some ⟨P,0,none⟩),.int .u64 x,.int .i64 n] w fun e w'=>e = .returned (.int .i64 (uM x n).2)∧iR w w' P B v (l++(uM x n).1):=by
 by_cases hc:n<0∨8<n∨2 ^ (8 * n.toNat)≤x
 ·rw [show uM x n=([],2) by unfold uM; rw [if_pos hc]]
  have HP:=hid (aeu x n w hc);have HS:=hid (show iR w w P B v (l++[]) by rw [List.append_nil]; exact iR.refl h);clear h hc h0 h63 hB;go_in;go_wp2_with fail;refine HP.out.mono ?_;rintro e w1 ⟨rfl,rfl⟩;go_wp2_with fail;go_ret;exact ⟨rfl,HS.out⟩
 ·rw [show uM x n=(kW x n.toNat,0) by unfold uM; rw [if_neg hc]]
  obtain ⟨m,rfl⟩:∃ m:Nat,n=(m:Int):=⟨n.toNat,by omega⟩
  have hm:m≤8:=by omega
  have HP:=hid (aaf x m w hm h0 (by simp at hc; omega));have HM:=hid hm;have H:=hid h;have HL:=hid h63;have XN:=hid hB;dsimp only;rw [Int.toNat_natCast];clear h hc h0 h63 hB hm;go_in;go_wp2_with fail;refine HP.out.mono ?_;rintro e w1 ⟨rfl,ho,hb⟩;have HR:=hid (zn P B v _ l _ w1 (H.out.below hb) (BS.Ej ho (dQ x m) (rq x m)) (by rw [dQ]; have:=HM.out; have:=HL.out; omega) (Nat.le_trans XN.out hb.size));have HB:=hid hb;clear ho hb HP;go_wp2_with fail;refine HR.out.mono ?_;rintro e w2 ⟨rfl,hs⟩;have HS:=hid (hs.of_below HB.out);clear hs HR;go_wp2_with fail;go_ret;exact ⟨rfl,HS.out⟩
def uZ (s:ByteArray):bI×Int:=if 255<s.size then ([],2) else ((s.size:Int)::xu s,0)
theorem aaT (m:Nat)(h:m≤255):kW (m:Int) 1=[(m:Int)]:=by
 simp [kW];omega
theorem ET (m:Nat)(h:m≤255):uM (m:Int) 1=([(m:Int)],0):=by
 unfold uM;rw [if_neg (by simp; omega)];rw [show (1:Int).toNat=1 from rfl,aaT m h]
theorem aaU (P B:Nat)(v:Value)(l:bI)(s:ByteArray)(w:World)(h:WO w P B v l)(hs:s.size≤140737488351232)(h63:l.length≤140737488200000)(hB:B≤w.heap.size) :
 Calls Tryz.prog 101 #[.pointer (some ⟨P,0,none⟩),.string s] w fun e w'=>e = .returned (.int .i64 (uZ s).2)∧iR w w' P B v (l++(uZ s).1):=by
 have sI:(s.size:Int)≤140737488351232:=by omega
 by_cases hc:255<s.size
 ·rw [show uZ s=([],2) by unfold uZ; rw [if_pos hc]]
  have HS:=hid (show iR w w P B v (l++[]) by rw [List.append_nil]; exact iR.refl h);have hcI:(255:Int)<(s.size:Int):=by omega
  clear h hc h63 hB hs;go_in;go_wp2_with fail;go_ret;exact ⟨rfl,HS.out⟩
 ·rw [show uZ s=((s.size:Int)::xu s,0) by unfold uZ; rw [if_neg hc]]
  have hcI:(s.size:Int)≤255:=by omega
  have HN:=hid (zo P B v l (s.size:Int) 1 w h (by omega) (by omega) hB);rw [ET _ (by omega)] at HN;have HL:=hid h63;have XN:=hid hB;have HC:=hid hc;have hcv:=XM s;clear h hc h63 hB hs;go_in;go_wp2_with fail;refine HN.out.mono ?_;rintro e w1 ⟨rfl,v1,h1,t1,n1⟩;have hb:=KY w1 s;have HR:=hid (zn P B v1 _ _ (xu s) _ (h1.below hb) (XL w1 s) (by rw [iq,List.length_append]; have:=HC.out; have:=HL.out; simp; omega) (by have:=hb.size; have:=t1.size; have:=XN.out; omega));have HB:=hid hb;have HT:=hid (And.intro t1 n1);clear h1 t1 n1 hb HN;go_wp2_with fail;refine HR.out.mono ?_;rintro e w2 ⟨rfl,hs⟩;have HS:=hid (uY HT.out.1 HT.out.2 (hs.of_below HB.out));rw [List.append_assoc] at HS;clear hs HR;go_wp2_with fail;go_ret;exact ⟨rfl,HS.out⟩
theorem ah8 {w:World}{g t:Nat}{q:bI}(h:w.heap[g]? = some (.cells (uK q) t (0,0)))(hb:gm q)(n:Nat)(hn:q.length=n):BS w (.slice (some ⟨g,0,none⟩) n n) q:=by
 refine ⟨some ⟨g,0,none⟩,n,by rw [hn],hb,nofun,.inr ⟨g,0,rfl,fun i hi=>?_⟩⟩;rw [cell_of_row _ _ _ _ _ _ h];simp [uK,hi]
theorem XO (P B:Nat)(v:Value)(l q:bI)(w:World)(h:WO w P B v l)(hq:q.length=32)(hy:gm q)(h63:l.length≤140737488200000)(hB:B≤w.heap.size) :
 Calls Tryz.prog 133 #[.pointer (some ⟨P,0,none⟩),.agg (uK q)] w fun e w'=>e = .returned (.int .i64 0)∧iR w w' P B v (l++q):=by
 have hb:=(Below.refl w.heap.size w).alloc (Nat.le_refl _) (.cells (uK q) 49)
 have hA:=heap_alloc_new w (.cells (uK q) 49)
 have HR:=hid (zn P B v _ l q _ (h.below hb) (ah8 hA hy 32 hq) (by omega) (by have:=hb.size; omega))
 have HB:=hid hb
 have hsl:=uX w.heap.size
 clear h hq hy h63 hB hb hA
 generalize uK q=Z at *
 go_in
 go_wp2_with fail
 refine HR.out.mono ?_
 rintro e w2 ⟨rfl,hs⟩
 have HS:=hid (hs.of_below HB.out)
 clear hs HR
 go_wp2_with fail
 go_ret
 exact ⟨rfl,HS.out⟩
def zq (n:Nat)(sz:Int):bI×Int:=if 65536<sz∨sz<n then ([],2) else (List.replicate (sz.toNat - n) 0,0)
theorem Je (n:Nat):gm (List.replicate n 0):=by
 intro z hz;obtain ⟨_,rfl⟩:=List.mem_replicate.1 hz;omega
theorem aaV (P B:Nat)(v:Value)(l:bI)(sz:Int)(w:World)(h:WO w P B v l)(h63:l.length≤140737488200000)(hB:B≤w.heap.size) :
 Calls Tryz.prog 103 #[.pointer (some ⟨P,0,none⟩),.int .i64 sz] w fun e w'=>e = .returned (.int .i64 (zq l.length sz).2)∧iR w w' P B v (l++(zq l.length sz).1):=by
 obtain ⟨av,cv,rfl,_,_⟩:=EN h.own rfl h.DK
 have c0:=cell_of_row _ P 0 _ _ _ h.cell
 simp at c0
 have lI:(l.length:Int)≤140737488200000:=by omega
 by_cases hc:65536<sz
 ·rw [show zq l.length sz=([],2) by unfold zq; rw [if_pos (.inl hc)]]
  have HS:=hid (show iR w w P B _ (l++[]) by rw [List.append_nil]; exact iR.refl h);clear h h63 hB;go_in;go_wp2_with fail;go_ret;exact ⟨rfl,HS.out⟩
 ·have hc2:sz≤65536:=by omega
  by_cases hd:sz<(l.length:Int)
  ·rw [show zq l.length sz=([],2) by unfold zq; rw [if_pos (.inr hd)]]
   have HS:=hid (show iR w w P B _ (l++[]) by rw [List.append_nil]; exact iR.refl h);clear h h63 hB hc;go_in;go_wp2_with fail;go_ret;exact ⟨rfl,HS.out⟩
  rw [show zq l.length sz=(List.replicate (sz.toNat - l.length) 0,0) by unfold zq; rw [if_neg (by omega)]];obtain ⟨m,rfl⟩:∃ m:Nat,sz=((l.length+m:Nat):Int):=⟨sz.toNat - l.length,by omega⟩
  rw [show ((l.length+m:Nat):Int).toNat - l.length=m by omega];have hm:m≤65536:=by omega
  have mI:(m:Int)≤65536:=by omega
  have hd2:(l.length:Int)≤(l.length:Int)+(m:Int):=by omega
  rw [show ((l.length+m:Nat):Int)=(l.length:Int)+(m:Int) by omega] at *;obtain ⟨i0,hi,hz0,hz1,hz2⟩:=info_parts yV;have hsub:(l.length:Int)+(m:Int) - (l.length:Int)=(m:Int):=by omega
  have HI:=hid (And.intro hi (And.intro hz0 (And.intro hz1 hz2)));have H:=hid h;have HM:=hid hm;have HL:=hid h63;have XN:=hid hB;clear h h63 hB hc hd hi hz0 hz1 hz2 hm;go_in;go_wp2_with (at_make; refine wpList_make_full _ rfl _ _ _ rfl w.heap.size 5 i0 (.int .u8 0) 1 Tryz.underlying62 HI.out.1 HI.out.2.1 HI.out.2.2.1 .i64 .i64 _ _ m rfl rfl (by rfl) (by rfl) ?c1 ?c2 ?c3 ?_)
  case c1=>rw [HI.out.2.2.2]; have:=HM.out; omega
  case c2=>unfold maxLen; have:=HM.out; omega
  case c3=>simp
  intro w1 hown hgrow;have hb:=(Below.refl w.heap.size w).grown hgrow (Nat.le_refl _) (by simp);have HR:=hid (zn P B _ _ l (List.replicate m 0) w1 (H.out.below hb) (BS.Ej (by rw [List.map_replicate,← toList_madeCells_one]; exact hown) (List.length_replicate ..) (Je m)) (by rw [List.length_replicate]; have:=HM.out; have:=HL.out; omega) (Nat.le_trans XN.out hb.size));have HB:=hid hb;clear hown hgrow hb;go_wp2_with fail;refine HR.out.mono ?_;rintro e w2 ⟨rfl,hs⟩;have HS:=hid (hs.of_below HB.out);clear hs HR;go_wp2_with fail;go_ret;exact ⟨rfl,HS.out⟩
theorem Tj (P B:Nat)(v:Value)(l:bI)(w:World)(h:WO w P B v l)(h63:l.length≤140737488351232) :
 Calls Tryz.prog 104 #[.pointer (some ⟨P,0,none⟩)] w fun e w'=>∃ v',e = .returned v'∧w'.ownsRow w.heap.size 5 1 v' l.length (l.map (Value.int .u8))∧Below w.heap.size w w':=by
 obtain ⟨av,cv,rfl,_,hbs⟩:=EN h.own rfl h.DK
 have c0:=cell_of_row _ P 0 _ _ _ h.cell
 simp at c0
 have HC:=hid (clone_any _ l w hbs h63)
 clear h h63 hbs
 go_in
 go_wp2_with fail
 refine HC.out.mono ?_
 rintro e w1 ⟨v',rfl,ho,hb⟩
 have HO:=hid (And.intro ho hb)
 clear ho hb HC
 go_wp2_with fail
 go_ret
 exact ⟨_,rfl,HO.out.1,HO.out.2⟩
end
section
open Go.RowKit
theorem AV (R lb cb:Nat)(ab:bO)(l:bI)(n:Int)(w0 w:World)(h0':RR w0 217 R ab lb cb l)(hb:Below w0.heap.size w0 w)(hn:n≤9223372036854775807) :
 Calls Tryz.prog 144 #[.pointer (some ⟨R,0,none⟩),.int .i64 n] w fun e w'=>(∃ v,e = .returned (.tuple #[v,.int .i64 (gu n l).2.1])∧BS w' v (gu n l).1)∧(∃ ab' lb' cb',∀ W:World,(∀ k,k<w0.heap.size→k ≠ R→W.heap[k]? = w0.heap[k]?)→W.heap[R]? = w'.heap[R]? → RR W 217 R ab' lb' cb' (gu n l).2.2)∧Only R w w':=by
 have h:=h0'.below hb
 have H:=hid h
 have H0:=hid h0'
 have c0:=h.at
 have hl:=h.len
 have hbig:=h.big
 have hcap:=h.cap
 by_cases h0:n<0
 ·rw [show gu n l=([],2,l) by unfold gu; rw [if_pos h0]]
  clear h h0' hb hl hbig hcap;go_in;go_wp2_with fail;go_ret2;exact ⟨⟨_,rfl,EP _⟩,⟨_,_,_,fun W q1 q2=>⟨q2.trans H.out.cell,H0.out.bytes.old H0.out.cell q1,H.out.len,H.out.cap,H.out.big⟩⟩,Only.refl _ _⟩
 ·obtain ⟨m,rfl⟩:∃ m:Nat,n=(m:Int):=⟨n.toNat,by omega⟩
  have m0:(0:Int)≤(m:Int):=by omega
  have lI:(lb:Int)≤140737488351232:=by omega
  by_cases h1:lb<m
  ·rw [show gu (m:Int) l=([],3,l) by unfold gu; rw [if_neg (by omega),if_pos (by omega)]]
   have h1b:decide (lb<m)=true:=by simp [h1]
   have h1c:(lb:Int)<(m:Int):=by omega
   clear h h0' hb hl hbig hcap h0 h1;go_in;go_wp2_with fail;go_ret2;exact ⟨⟨_,rfl,EP _⟩,⟨_,_,_,fun W q1 q2=>⟨q2.trans H.out.cell,H0.out.bytes.old H0.out.cell q1,H.out.len,H.out.cap,H.out.big⟩⟩,Only.refl _ _⟩
  rw [show gu (m:Int) l=(l.take m,0,l.drop m) by unfold gu; rw [if_neg (by omega),if_neg (by omega)]; rfl];have h1b:decide (lb<m)=false:=by simp; omega
  obtain ⟨a1,_,_,e1,B1⟩:=wG w0 ab lb cb 0 m l h0'.bytes hl (Nat.zero_le _) (by omega) hcap;obtain ⟨a2,_,e2,_,B2⟩:=wG w0 ab lb cb m lb l h0'.bytes hl (by omega) (Nat.le_refl _) hcap;have e1:=e1 rfl;have e2:=e2 rfl;simp only [Nat.sub_zero] at e1 B1;have f0:=frozen_of_row w R 0 _ _ h.cell;have hO:Only R w (w.setCell ⟨R,0,none⟩ (.slice a2 (lb - m) (cb - m))):=(Only.refl _ _).setCell _ _;have HO:=hid hO;have HB1:=hid (show BS (w.setCell ⟨R,0,none⟩ (.slice a2 (lb - m) (cb - m))) (.slice a1 m cb) (l.take m) from by have q:=(B1.kept hb).only h.cell hO; simpa using q);have HRR:=hid (show ∀ W:World,(∀ k,k<w0.heap.size→k ≠ R→W.heap[k]? = w0.heap[k]?)→W.heap[R]? = (w.setCell ⟨R,0,none⟩ (.slice a2 (lb - m) (cb - m))).heap[R]? → RR W 217 R a2 (lb - m) (cb - m) (l.drop m) from fun W q1 q2 =>
   ⟨q2.trans (heap_setCell_same _ _ _ _ _ _ h.cell),by have q:=B2.old H0.out.cell q1; rw [List.take_of_length_le (by rw [List.length_drop]; omega)] at q; exact q,by rw [List.length_drop]; omega,by omega,by omega⟩)
  clear h h0' hb hl hbig hcap h0 h1 B1 B2 hO;go_in;go_wp2_with fail;go_ret2;exact ⟨⟨_,rfl,HB1.out⟩,⟨_,_,_,HRR.out⟩,HO.out⟩
theorem Jf (R lb cb:Nat)(ab:bO)(l:bI)(w:World)(h:RR w 217 R ab lb cb l) :
 Calls Tryz.prog 146 #[.pointer (some ⟨R,0,none⟩)] w fun e w'=>e = .returned (.int .i64 (l.length:Int))∧w'=w:=by
 have c0:=h.at
 have HL:=hid h.len
 have lI:(lb:Int)≤140737488351232:=by have:=h.big; omega
 clear h
 go_in
 go_wp2_with fail
 go_ret
 exact ⟨by rw [HL.out]; rfl,rfl⟩
theorem Tm (v:Value)(l:bI)(w:World)(h:BS w v l)(h63:l.length≤140737488351232) :
 Calls Tryz.prog 87 #[v] w fun e w'=>∃ R ab cb,e = .returned (.pointer (some ⟨R,0,none⟩))∧RR w' 217 R ab l.length cb l∧w.heap.size≤R∧Below w.heap.size w w'∧(∀ g,(Value.slice ab l.length cb).ownBlock=some g→w.heap.size≤g):=by
 have HY:=hid h.DK
 have HC:=hid (clone_any _ l w h h63)
 have H63:=hid h63
 clear h h63
 go_in
 go_wp2_with fail
 refine HC.out.mono ?_
 rintro e w1 ⟨v1,rfl,ho,hb⟩
 obtain ⟨a1,c1,rfl,hcap,hbs⟩:=EN ho rfl HY.out
 have HB:=hid hb
 have HGB:=hid (fun g hg=>(ho.lt g hg).1)
 have hb2:=(Below.refl w1.heap.size w1).alloc (Nat.le_refl _) (.cells #[.slice a1 l.length c1] 217)
 have HR:=hid (show RR (w1.alloc (.cells #[.slice a1 l.length c1] 217)) 217 w1.heap.size a1 l.length c1 l from ⟨heap_alloc_new w1 _,hbs.kept hb2,rfl,hcap,H63.out⟩)
 have HB2:=hid (hb.trans (hb2.mono hb.size))
 clear ho hb hb2 hbs hcap HC
 go_wp2_with fail
 go_ret
 exact ⟨_,_,_,rfl,HR.out,HB.out.size,HB2.out,HGB.out⟩
theorem Oo (W:World):(zeroValue 217).run Tryz.prog W = .ok (.agg #[.slice none 0 0]) W:=by kernel_rfl
theorem jB (l:bI):iV 1 l=if l=[] then (0,3,l) else (l.getD 0 0,0,l.drop 1):=by
 unfold iV;rw [if_neg (by omega)];unfold gu;rw [if_neg (by omega)];cases l with
 | nil=>rfl
 | cons a t=>rw [if_neg (by simp; omega),if_neg (by simp)]; simp [num]
end
section
open Go.RowKit
end
section
open Go.RowKit
def WL (w0 w:World)(P:Nat)(l:bI):Prop:=∃ v,WO w P w0.heap.size v l∧w0.heap.size≤P∧Below w0.heap.size w0 w
theorem WL.bel {w0 w:World}{P:Nat}{l:bI}(h:WL w0 w P l):Below w0.heap.size w0 w:=by obtain ⟨_,_,_,h⟩:=h; exact h
theorem WL.below {w0 w w':World}{P:Nat}{l:bI}(h:WL w0 w P l)(b:Below w.heap.size w w'):WL w0 w' P l:=by
 obtain ⟨v,h,hP,hb⟩:=h;exact ⟨v,h.below b,hP,hb.trans (b.mono hb.size)⟩
theorem DT {w0 w w':World}{P:Nat}{v:Value}{l l':bI}(h:WO w P w0.heap.size v l)(hP:w0.heap.size≤P)(hb:Below w0.heap.size w0 w)(s:iR w w' P w0.heap.size v l'):WL w0 w' P l':=by
 obtain ⟨v',h',t,n⟩:=s;refine ⟨v',h',hP,hb.trans (t.below hb.size (fun k hk=>?_))⟩;simp only [List.mem_cons,Option.mem_toList] at hk;rcases hk with rfl | hk
 ·exact hP
 exact (h.own.lt k hk).1
theorem aaW {w0 w1:World}(hb:Below w0.heap.size w0 w1):WL w0 (w1.alloc (.cells #[.slice none 0 0] 184)) w1.heap.size [] :=
 ⟨.slice none 0 0,⟨heap_alloc_new w1 _,World.ownsRow_nil _ _ _ _,by intro z hz; simp at hz⟩,hb.size,hb.alloc hb.size _⟩
theorem La (w0 w:World)(P:Nat)(l:bI)(x n:Int)(h:WL w0 w P l)(h0:0≤x)(h63:l.length≤140737488200000) :
 Calls Tryz.prog 99 #[.pointer (some ⟨P,0,none⟩),.int .u64 x,.int .i64 n] w fun e w'=>e = .returned (.int .i64 (uM x n).2)∧WL w0 w' P (l++(uM x n).1):=by
 obtain ⟨v,h,hP,hb⟩:=h
 exact (zo P _ v l x n w h h0 (by omega) hb.size).mono fun e w' ⟨he,hs⟩=>⟨he,DT h hP hb hs⟩
theorem Tn (w0 w:World)(P:Nat)(l:bI)(s:ByteArray)(h:WL w0 w P l)(hs:s.size≤140737488351232)(h63:l.length≤140737488200000) :
 Calls Tryz.prog 101 #[.pointer (some ⟨P,0,none⟩),.string s] w fun e w'=>e = .returned (.int .i64 (uZ s).2)∧WL w0 w' P (l++(uZ s).1):=by
 obtain ⟨v,h,hP,hb⟩:=h
 exact (aaU P _ v l s w h hs h63 hb.size).mono fun e w' ⟨he,hs⟩=>⟨he,DT h hP hb hs⟩
theorem aaX (w0 w:World)(P:Nat)(l:bI)(sz:Int)(h:WL w0 w P l)(h63:l.length≤140737488200000) :
 Calls Tryz.prog 103 #[.pointer (some ⟨P,0,none⟩),.int .i64 sz] w fun e w'=>e = .returned (.int .i64 (zq l.length sz).2)∧WL w0 w' P (l++(zq l.length sz).1):=by
 obtain ⟨v,h,hP,hb⟩:=h
 exact (aaV P _ v l sz w h h63 hb.size).mono fun e w' ⟨he,hs⟩=>⟨he,DT h hP hb hs⟩
theorem Oq (w0 w:World)(P:Nat)(l:bI)(h:WL w0 w P l)(h63:l.length≤140737488351232) :
 Calls Tryz.prog 104 #[.pointer (some ⟨P,0,none⟩)] w fun e w'=>∃ a c,e = .returned (.slice a l.length c)∧l.length≤c∧BS w' (.slice a l.length c) l∧WL w0 w' P l∧Below w.heap.size w w':=by
 have h':=h
 obtain ⟨v,h,hP,hb⟩:=h
 refine (Tj P _ v l w h h63).mono fun e w' ⟨v',he,ho,hb'⟩=>?_
 obtain ⟨a,c,rfl,hc,hbs⟩:=EN ho rfl h.DK
 exact ⟨a,c,he,hc,hbs,h'.below hb',hb'⟩
theorem BU (W:World):(zeroValue 184).run Tryz.prog W = .ok (.agg #[.slice none 0 0]) W:=by kernel_rfl
end
section
open Go.ChangeShapes Go.WideShapes Go.ChangeAt Go.RowKit
theorem dm {w w':World}{b o:Nat}{cs:List Value}(h:w.rangeAt b o cs)(q:Below w.heap.size w w'):w'.rangeAt b o cs:=by
 intro j v hv;have h0:=h j v hv;rw [q.cell (block_lt_of_cell h0)];exact h0
end
section
open Go.RowKit
section
variable {w0 w:World} {R1 R2:Nat} {l1 l2:bI}
end
end
end Go.Proofs.YtljjcbmkbmloaaaGreatDoor
