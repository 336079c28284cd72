import Derived.Test.YtljjcbmkbmloaaaGreatDoorGTu29
import Derived.Deep.Grids
import Derived.Test.YtljjcbmkbmloaaaGreatDoorGTuA
namespace Go.Proofs.YtljjcbmkbmloaaaGreatDoor
set_option maxHeartbeats 3200000
set_option maxRecDepth 100000
set_option linter.unusedVariables false
open Lib (hid)
section
open Go.RowKit
open Go.Maps (Keyed)
def Ed (gl bm n:Nat)(vw:Value)(lb:Bool)(left:Int)(dn:Bool):Array Value:=#[.slice (some ⟨gl,0,none⟩) n n,vw,.map (some bm),.bool lb,.int .i64 left,.bool dn]
theorem nS {w:World}{D t gl bm n:Nat}{vw:Value}{lb:Bool}{left:Int}{dn:Bool}(h:w.heap[D]? = some (.cells (Ed gl bm n vw lb left dn) t (0,0))) :
 w.cell? ⟨D,0,none⟩=some (.slice (some ⟨gl,0,none⟩) n n)∧w.cell? ⟨D,1,none⟩=some vw∧w.cell? ⟨D,2,none⟩=some (.map (some bm))∧w.cell? ⟨D,3,none⟩=some (.bool lb)∧w.cell? ⟨D,4,none⟩=some (.int .i64 left)∧w.cell? ⟨D,5,none⟩=some (.bool dn) :=
 ⟨cell_of_row _ _ _ _ _ _ h,cell_of_row _ _ _ _ _ _ h,cell_of_row _ _ _ _ _ _ h,cell_of_row _ _ _ _ _ _ h,cell_of_row _ _ _ _ _ _ h,cell_of_row _ _ _ _ _ _ h⟩
theorem qF {w:World}{D t gl bm n:Nat}{vw:Value}{lb:Bool}{left:Int}{dn:Bool}(h:w.heap[D]? = some (.cells (Ed gl bm n vw lb left dn) t (0,0)))(k:Nat):w.frozen? ⟨D,k,none⟩=false:=frozen_of_row w D k _ _ h
inductive MapOf:bW→DataW Unit→Prop
 | none:MapOf [] (.map [])
 | more (ws:bW) (m:DataW Unit) (p:Nat×bY):MapOf ws m→MapOf (ws++[p]) (m.put (.int .u32 (p.1:Int)) (.lit (.int .i64 (ws.length:Int))))
def MapAt (w:World)(bm:Nat)(ws:bW):Prop:=∃ m,MapOf ws m∧w.ownsMap Tryz.prog 46 (plainElem Tryz.prog 3) bm ws.length m
structure PD (w:World)(D gl bm n:Nat)(vw:Value)(F:bY)(ws:bW)(lim:Int)(dn:Bool):Prop where
 dev:∃ left,w.heap[D]? = some (.cells (Ed gl bm n vw (decide (0≤lim)) left dn) 104 (0,0))∧(0≤lim→left=lim)
 lay:aU w gl 140 F
 len:F.length=n * 512
 WA:w.ownsRow 0 142 513 vw ws.length (vW ws)
 wok:∀ p ∈ ws,p.2.length=512∧p.1<n
 big:n≤4096
 acJ:lim≤9223372036854775807
 map:MapAt w bm ws
def l9 (D gl bm:Nat)(vw:Value):List Nat:=D::gl::bm::vw.ownBlock.toList
theorem MapAt.keep {w w':World}{bm:Nat}{ws:bW}(h:MapAt w bm ws)(e:w'.heap[bm]? = w.heap[bm]?):MapAt w' bm ws:=by
 obtain ⟨m,hm,es,clock,hb,F,hs,hD⟩:=h;exact ⟨m,hm,es,clock,e.trans hb,F,hs,hD⟩
theorem MapAt.is {w:World}{bm:Nat}{ws:bW}(h:MapAt w bm ws):∃ es clock,w.heap[bm]? = some (.map es clock):=by
 obtain ⟨m,hm,es,clock,hb,F,hs,hD⟩:=h;exact ⟨es,clock,hb⟩
theorem MapAt.lt {w:World}{bm:Nat}{ws:bW}(h:MapAt w bm ws):bm<w.heap.size:=by
 obtain ⟨m,hm,h⟩:=h;exact h.lt
theorem MapAt.ne {w:World}{bm g t:Nat}{cs:Array Value}{fr:Nat×Nat}{ws:bW}(h:MapAt w bm ws)(q:w.heap[g]? = some (.cells cs t fr)):g ≠ bm:=by
 obtain ⟨es,clock,hb⟩:=h.is;rintro rfl;rw [hb] at q;exact absurd q (by simp)
theorem acK {B n k:Nat}{e:TypeId}{v:Value}{xs:List Value}{w:World}(h:w.ownsRow B e k v n xs):∀ g,v.ownBlock=some g→g<w.heap.size:=by
 rcases h.2 with ⟨rfl,_⟩ | ⟨g',cap,cur,rfl,_,hg',_⟩
 ·intro g hg; simp [Value.ownBlock] at hg
 intro g hg;simp only [Value.ownBlock,Option.some.injEq] at hg;subst hg;exact CS hg'
theorem GH {B n k:Nat}{e:TypeId}{v:Value}{xs:List Value}{w:World}{bm:Nat}{ws:bW}(h:w.ownsRow B e k v n xs)(q:MapAt w bm ws):v.ownBlock ≠ some bm:=by
 rcases h.2 with ⟨rfl,_⟩ | ⟨g',cap,cur,rfl,_,hg',_⟩
 ·simp [Value.ownBlock]
 simp only [Value.ownBlock,ne_eq,Option.some.injEq];exact q.ne hg'
theorem PD.lt {w:World}{D gl bm n:Nat}{vw:Value}{F:bY}{ws:bW}{lim:Int}{dn:Bool}(h:PD w D gl bm n vw F ws lim dn):∀ g ∈ l9 D gl bm vw,g<w.heap.size:=by
 intro g hg;obtain ⟨left,hd,_⟩:=h.dev;simp only [l9,List.mem_cons,Option.mem_toList] at hg;rcases hg with rfl | rfl | rfl | hg
 ·exact CS hd
 ·exact Rk h.lay
 ·exact h.map.lt
 exact acK h.WA g hg
theorem PD.touch {w w':World}{l:List Nat}{D gl bm n:Nat}{vw:Value}{F:bY}{ws:bW}{lim:Int}{dn:Bool}(h:PD w D gl bm n vw F ws lim dn)(q:Touch l w w')(hne:∀ g ∈ l9 D gl bm vw,g ∉ l):PD w' D gl bm n vw F ws lim dn:=by
 obtain ⟨left,hd,hl⟩:=h.dev;exact ⟨⟨left,(q.block D (CS hd) (hne D (by simp [l9]))).trans hd,hl⟩,q.arr h.lay (hne gl (by simp [l9])),h.len,bG h.WA q (fun g hg=>hne g (by simp [l9,hg])),h.wok,h.big,h.acJ,h.map.keep (q.block bm h.map.lt (hne bm (by simp [l9])))⟩
theorem PD.below {w w':World}{D gl bm n:Nat}{vw:Value}{F:bY}{ws:bW}{lim:Int}{dn:Bool}(h:PD w D gl bm n vw F ws lim dn)(hb:Below w.heap.size w w'):PD w' D gl bm n vw F ws lim dn :=
 h.touch (l:=[]) (Touch.of_below hb) (fun _ _=>by simp)
theorem PD.ahk {w w':World}{D gl bm n:Nat}{vw:Value}{F F':bY}{ws:bW}{lim:Int}{dn:Bool}(h:PD w D gl bm n vw F ws lim dn)(q:Only gl w w')(hF:aU w' gl 140 F')(hl:F'.length=n * 512):PD w' D gl bm n vw F' ws lim dn:=by
 obtain ⟨left,hd,hle⟩:=h.dev;exact ⟨⟨left,(q.rest D (xe hd h.lay (by decide))).trans hd,hle⟩,hF,hl,GG h.WA q (kT h.WA h.lay (by decide)),h.wok,h.big,h.acJ,h.map.keep (q.rest bm (Ne.symm (h.map.ne h.lay)))⟩
theorem PD.acL {w w':World}{D gl bm n:Nat}{vw:Value}{F:bY}{ws:bW}{lim lim' left':Int}{dn dn':Bool}(h:PD w D gl bm n vw F ws lim dn)(q:Only D w w')(hD:w'.heap[D]? = some (.cells (Ed gl bm n vw (decide (0≤lim')) left' dn') 104 (0,0)))(hle:0≤lim'→left'=lim')(hl:lim'≤9223372036854775807):PD w' D gl bm n vw F ws lim' dn':=by
 obtain ⟨left,hd,_⟩:=h.dev;exact ⟨⟨left',hD,hle⟩,q.arr h.lay (xe h.lay hd (by decide)),h.len,GG h.WA q (kT h.WA hd (by decide)),h.wok,h.big,hl,h.map.keep (q.rest bm (Ne.symm (h.map.ne hd)))⟩
theorem yL (D gl bm n a:Nat)(vw:Value)(F:bY)(ws:bW)(lim:Int)(dn:Bool)(w:World)(h:PD w D gl bm n vw F ws lim dn)(ha:a<4294967296) :
 Calls Tryz.prog 83 #[.pointer (some ⟨D,0,none⟩),.int .u32 (a:Int)] w fun e w'=>e = .returned (.int .i64 (if a<n then 0 else 2))∧w'=w:=by
 have hn:=h.big
 obtain ⟨left,hd,_⟩:=h.dev
 obtain ⟨c0,_⟩:=nS hd
 have aI:(a:Int)<4294967296:=by omega
 have nI:(n:Int)≤4096:=by omega
 have hw:IntKind.u32.wrap (n:Int)=(n:Int):=IntWalk.u32_in _ (by omega)
 by_cases hlt:a<n
 ·rw [if_pos hlt]
  have hbv:decide ((n:Int)≤(a:Int))=false:=by simp; omega
  have apQ:decide (n≤a)=false:=by simp; omega
  clear h ha hn hd hlt;go_in;go_wp2_with fail;go_ret;exact ⟨rfl,rfl⟩
 ·rw [if_neg hlt]
  have hbv:decide ((n:Int)≤(a:Int))=true:=by simp; omega
  have apQ:decide (n≤a)=true:=by simp; omega
  clear h ha hn hd hlt;go_in;go_wp2_with fail;go_ret;exact ⟨rfl,rfl⟩
theorem zW (D gl bm n a:Nat)(vw:Value)(F:bY)(ws:bW)(lim:Int)(dn:Bool)(ab:bO)(lb acM:Nat)(w:World)(h:PD w D gl bm n vw F ws lim dn)(ha:a<4294967296) :
 Calls Tryz.prog 152 #[.pointer (some ⟨D,0,none⟩),.int .u32 (a:Int),.slice ab lb acM] w fun e w'=>e = .returned (.int .i64 (if a<n∧lb=512 then 0 else 2))∧w'=w:=by
 have HT:=hid (yL D gl bm n a vw F ws lim dn w h ha)
 by_cases hlt:a<n
 ·have HT2:=hid (show Calls Tryz.prog 83 #[.pointer (some ⟨D,0,none⟩),.int .u32 (a:Int)] w fun e w'=>e = .returned (.int .i64 0)∧w'=w by have q:=HT.out; rwa [if_pos hlt] at q)
  by_cases hl:lb=512
  ·rw [if_pos ⟨hlt,hl⟩]
   subst hl;clear h ha HT hlt;go_in;go_wp2_with fail;refine HT2.out.mono ?_;rintro e w1 ⟨rfl,rfl⟩;go_wp2_with fail;go_ret;exact ⟨rfl,rfl⟩
  rw [if_neg (fun h=>hl h.2)];have hbv:((lb:Int) == 512)=false:=by simp; omega
  clear h ha HT hlt hl;go_in;go_wp2_with fail;refine HT2.out.mono ?_;rintro e w1 ⟨rfl,rfl⟩;go_wp2_with fail;go_ret;exact ⟨rfl,rfl⟩
 ·have HT2:=hid (show Calls Tryz.prog 83 #[.pointer (some ⟨D,0,none⟩),.int .u32 (a:Int)] w fun e w'=>e = .returned (.int .i64 2)∧w'=w by have q:=HT.out; rwa [if_neg hlt] at q)
  rw [if_neg (fun h=>hlt h.1)];clear h ha HT hlt;go_in;go_wp2_with fail;refine HT2.out.mono ?_;rintro e w1 ⟨rfl,rfl⟩;go_wp2_with fail;go_ret;exact ⟨rfl,rfl⟩
def xx (lim:Int)(dn:Bool):Int×Bool:=(if dn=false∧0<lim then lim - 1 else lim,dn || decide (lim=0))
theorem BB (D gl bm n:Nat)(vw:Value)(F:bY)(ws:bW)(lim:Int)(dn:Bool)(w:World)(h:PD w D gl bm n vw F ws lim dn) :
 Calls Tryz.prog 40 #[.pointer (some ⟨D,0,none⟩)] w fun e w'=>e = .returned (.bool (!(xx lim dn).2))∧PD w' D gl bm n vw F ws (xx lim dn).1 (xx lim dn).2∧Only D w w':=by
 have hl:=h.acJ
 obtain ⟨left,hd,hle⟩:=h.dev
 obtain ⟨_,_,_,c3,c4,c5⟩:=nS hd
 have f4:=qF hd 4
 have f5:=qF hd 5
 have H:=hid h
 have HD:=hid hd
 rcases Int.lt_trichotomy lim 0 with h0 | h0 | h0
 ·have hb:decide (0≤lim)=false:=by simp; omega
  rw [hb] at c3;have HG:=hid (show xx lim dn=(lim,dn) by unfold xx; rw [if_neg (by omega)]; simp; omega);clear h hd h0 hle hl hb;cases dn
  all_goals
   go_in
   go_wp2_with fail
   go_ret
   rw [HG.out]
   exact ⟨rfl,H.out,Only.refl _ _⟩
 ·subst h0
  have e0:=hle (Int.le_refl 0);subst e0;have HG:=hid (show xx 0 dn=(0,true) by unfold xx; simp);rw [show decide ((0:Int)≤0)=true from rfl] at c3;clear h hd hl hle;go_in;go_wp2_with fail;go_ret;rw [HG.out];have hO:Only D w (w.setCell ⟨D,5,none⟩ (.bool true)):=(Only.refl _ _).setCell _ _;exact ⟨rfl,H.out.acL hO (heap_setCell_same _ _ _ _ _ _ HD.out) (fun _=>rfl) (by omega),hO⟩
 ·have hb:decide (0≤lim)=true:=by simp; omega
  rw [hb] at c3;have e0:=hle (by omega);subst e0;have b1:(left == 0)=false:=by simp; omega
  cases dn
  ·have HG:=hid (show xx left false=(left - 1,false) by unfold xx; rw [if_pos ⟨rfl,h0⟩]; simp; omega)
   have hb2:=hid (show decide (0≤left - 1)=decide (0≤left) by rw [hb]; simp; omega);clear h hd hle hb;go_in;go_wp2_with fail;go_ret;rw [HG.out];have hO:Only D w (w.setCell ⟨D,4,none⟩ (.int .i64 (left - 1))):=(Only.refl _ _).setCell _ _;exact ⟨rfl,H.out.acL hO (by rw [hb2.out]; exact heap_setCell_same _ _ _ _ _ _ HD.out) (fun _=>rfl) (by omega),hO⟩
  have HG:=hid (show xx left true=(left,true) by unfold xx; simp);clear h hd hle hb hl;go_in;go_wp2_with fail;go_ret;rw [HG.out];exact ⟨rfl,H.out,Only.refl _ _⟩
end
section
open Go.RowKit
open Go.Maps (Keyed)
theorem GI (g o:Nat)(W:World):(Instr.sliceAt 140 (.pointer (some ⟨g,o,none⟩)) none none none).run Tryz.prog W = .ok (.slice (some ⟨g,o,none⟩) 512 512) W:=by
 obtain ⟨i0,hi0,_⟩:=Option.map_eq_some_iff.1 sQ;simp [Instr.sliceAt,run_underlying Tryz.underlying140,Instr.sureAddr,Instr.sliceBounds,sizeOf,typeInfo,hi0,Addr.add_mid]
theorem yM (gl n a:Nat)(h:a<n)(W:World):(Instr.indexAt 100 (.slice (some ⟨gl,0,none⟩) n n) (.int .u32 (a:Int))).run Tryz.prog W = .ok (.pointer (some ⟨gl,a * 512,none⟩)) W:=by
 obtain ⟨i0,hi,hs⟩:=Option.map_eq_some_iff.1 (show (Tryz.prog.info? 140).map (·.size)=some 512 by kernel_rfl);simp [Instr.indexAt,asIntOf,run_underlying Tryz.underlying100,sizeOf,typeInfo,hi,hs,h,Addr.add_mid]
theorem CU (g len cap i:Nat)(h:i<len)(W:World):(Instr.indexAt 101 (.slice (some ⟨g,0,none⟩) len cap) (.int .i64 (i:Int))).run Tryz.prog W = .ok (.pointer (some ⟨g,i * 513,none⟩)) W:=by
 obtain ⟨i0,hi,hs⟩:=Option.map_eq_some_iff.1 (show (Tryz.prog.info? 142).map (·.size)=some 513 by kernel_rfl);simp [Instr.indexAt,asIntOf,run_underlying Tryz.underlying101,sizeOf,typeInfo,hi,hs,h,Addr.add_mid]
theorem mV (l:bY)(h:l.length=512):(Tryz.prog.info? 140).map (·.size)=some (aF l).size:=by rw [show (Tryz.prog.info? 140).map (·.size)=some 512 by kernel_rfl,aN,h]
theorem YW (W:World):(zeroValue 140).run Tryz.prog W = .ok (.agg (aF (aC 512))) W:=by kernel_rfl
theorem GK {w:World}{g o:Nat}{x:Value}{xs:List Value}(h:w.rangeAt g o (x::xs)):w.rangeAt g (o+1) xs:=by
 intro j v hv;have q:=h (j+1) v (by simpa using hv);rwa [show o+(j+1)=o+1+j by omega] at q
theorem Ql {ws:bW}{m:DataW Unit}(h:MapOf ws m):Maps.IsMap m:=by
 induction h with
 | none=>exact Maps.isMap_empty
 | more ws m p h ih=>exact ih.put _ _
theorem mW (F:bY)(ws:bW)(p:Nat×bY)(a:Nat):uD F (ws++[p]) a=if p.1=a then p.2 else uD F ws a:=by
 unfold uD; rw [List.foldl_append]; rfl
theorem acN {ws:bW}{m:DataW Unit}(h:MapOf ws m)(a:Nat)(z:DataW Unit) :
 (Maps.has m (.int .u32 (a:Int))=false∧∀ F,uD F ws a=yK F a) ∨
 (Maps.has m (.int .u32 (a:Int))=true∧∃ i,∃ h:i<ws.length,m.atKey (.int .u32 (a:Int)) z = .lit (.int .i64 (i:Int))∧(∀ F,uD F ws a=(ws[i]).2)):=by
 induction h with
 | none=>exact .inl ⟨rfl,fun _=>rfl⟩
 | more ws m p hm ih =>
   by_cases hp:p.1=a
   ·refine .inr ⟨?_,ws.length,by simp, ?_,fun F=>?_⟩
    ·rw [hp]; exact Maps.has_put_same (Ql hm) (by trivial) _
    ·rw [hp]; exact Maps.atKey_put_same (Ql hm) (by trivial) _ _
    rw [mW,if_pos hp]; simp
   have hne:(Lit.int .u32 (a:Int)) ≠ Lit.int .u32 (p.1:Int):=by
    intro e;injection e with _ e;exact hp (by omega)
   rw [Maps.has_put_other hne,Maps.atKey_put_other hne];rcases ih with ⟨h1,h2⟩ | ⟨h1,i,hi,h2,h3⟩
   ·exact .inl ⟨h1,fun F=>by rw [mW,if_neg hp]; exact h2 F⟩
   refine .inr ⟨h1,i,by simp; omega,h2,fun F=>?_⟩;rw [mW,if_neg hp,h3 F,List.getElem_append_left hi]
theorem rY (D gl bm n:Nat)(vw:Value)(F:bY)(ws:bW)(lim:Int)(dn:Bool)(w:World)(h:PD w D gl bm n vw F ws lim dn) :
 Calls Tryz.prog 43 #[.pointer (some ⟨D,0,none⟩)] w fun e w'=>e = .returned (.int .i64 (n:Int))∧w'=w:=by
 obtain ⟨left,hd,_⟩:=h.dev
 obtain ⟨c0,_⟩:=nS hd
 have hn:=h.big
 have nI:(n:Int)≤4096:=by omega
 clear h hd hn
 go_in
 go_wp2_with fail
 go_ret
 exact ⟨rfl,rfl⟩
theorem MR {w:World}{D gl bm n:Nat}{vw:Value}{F:bY}{ws:bW}{lim:Int}{dn:Bool}(h:PD w D gl bm n vw F ws lim dn):∃ a cap,vw = .slice a ws.length cap∧(0<ws.length→∃ g,a=some ⟨g,0,none⟩):=by
 rcases h.WA.2 with ⟨hv,h0⟩ | ⟨g,cap,cur,hv,_⟩
 ·exact ⟨none,0,by rw [hv,h0],fun h=>by omega⟩
 exact ⟨_,cap,hv,fun _=>⟨g,rfl⟩⟩
def acO (w:World)(L:bY)(e:Ending)(w':World):Prop:=e = .returned (.tuple #[.slice (some ⟨w.heap.size,0,none⟩) 512 512,.int .i64 0])∧aU w' w.heap.size 140 L∧L.length=512∧Below w.heap.size w w'
theorem UI (D gl bm n a:Nat)(vw:Value)(F:bY)(ws:bW)(lim:Int)(w:World)(h:PD w D gl bm n vw F ws lim true)(ha:a<n) :
 Calls Tryz.prog 63 #[.pointer (some ⟨D,0,none⟩),.int .u32 (a:Int)] w fun e w'=>e = .returned (.tuple #[.slice none 0 0,.int .i64 7])∧w'=w:=by
 have HT:=hid (show Calls Tryz.prog 83 #[.pointer (some ⟨D,0,none⟩),.int .u32 (a:Int)] w fun e w'=>e = .returned (.int .i64 0)∧w'=w by have hb:=h.big; have q:=yL D gl bm n a vw F ws lim true w h (by omega); rwa [if_pos ha] at q)
 obtain ⟨left,hd,_⟩:=h.dev
 obtain ⟨_,_,_,_,_,c5⟩:=nS hd
 clear h ha hd
 go_in
 go_wp2_with fail
 refine HT.out.mono ?_
 rintro e w1 ⟨rfl,rfl⟩
 go_wp2_with fail
 go_ret2
 exact ⟨rfl,rfl⟩
theorem JP (a:Nat)(ha:a<4294967296):keyOf Tryz.prog 46 (.int .u32 (a:Int))=some (.int .u32 (a:Int)):=Maps.keyOf_int_mk Tryz.underlying46 (by simp [Lit.wf,IntKind.min,IntKind.max,IntKind.bits,IntKind.signed]; omega)
theorem acP (D gl bm n a:Nat)(vw:Value)(F:bY)(ws:bW)(lim:Int)(w:World)(h:PD w D gl bm n vw F ws lim false)(ha:a<n) :
 Calls Tryz.prog 63 #[.pointer (some ⟨D,0,none⟩),.int .u32 (a:Int)] w (acO w (uD F ws a)):=by
 have hbig:=h.big
 have HT2:=hid (show Calls Tryz.prog 83 #[.pointer (some ⟨D,0,none⟩),.int .u32 (a:Int)] w fun e w'=>e = .returned (.int .i64 0)∧w'=w by have q:=yL D gl bm n a vw F ws lim false w h (by omega); rwa [if_pos ha] at q)
 have hkey:=JP a (by omega)
 obtain ⟨left,hd,_⟩:=h.dev
 obtain ⟨c0,_,_,_,_,c5⟩:=nS hd
 have H:=hid h
 have hsl:∀ g W,_:=fun g W=>GI g 0 W
 have hix:=yM gl n a ha
 have hz:=YW
 have DN:=hid (Qi F a n h.len ha)
 have lW:=hid (show w.rangeAt gl (a * 512) (aF (yK F a)).toList from h.lay.range (a * 512) 512)
 obtain ⟨SA,hSA⟩:∃ y,yK F a=y:=⟨_,rfl⟩
 have HSA:=hid hSA
 rw [hSA] at DN lW
 have DY:=hid (show (Tryz.prog.info? 140).map (·.size)=some (aF SA).toList.length by rw [Array.length_toList]; exact mV _ DN.out)
 have Bc:=hid (show (Tryz.prog.info? 140).map (·.size)=some (aF SA).toList.toArray.size by rw [Array.toArray_toList]; exact mV _ DN.out)
 have WO:=hid (show (aF SA).toList.toArray.all (·.oneCell')=true by rw [Array.toArray_toList]; exact dJ SA)
 have EW:=hid (show (aF (aC 512)).size=(aF SA).toList.toArray.size by rw [Array.toArray_toList,aN,aN,DN.out]; rfl)
 have Ip:=hid (show (aF SA).toList.toArray=aF SA from Array.toArray_toList)
 generalize (aF SA).toList=SL at *
 generalize aF (aC 512)=ZW at *
 clear h ha hd hSA hbig
 go_in
 go_wp2_with fail
 refine HT2.out.mono ?_
 rintro e w1 ⟨rfl,rfl⟩
 go_upto_region 7 with (first
  | (with_reducible refine wpList_load_mid (op:=⟨some 26,_,_,_,_,_⟩) rfl 140 _ rfl gl (a * 512) rfl SL _ lW.out Tryz.underlying140 rfl DY.out ?_)
  | (with_reducible refine wpList_store_row (o:=⟨none,.store _ (.tmp 7) _,_,_,_,_⟩) rfl 140 _ _ rfl w1.heap.size SL.toArray rfl rfl 140 ZW (heap_alloc_new w1 _) Bc.out EW.out WO.out ?_))
 clear hix
 generalize hW7:World.setRow _ w1.heap.size _=W7
 have h7:aU W7 w1.heap.size 140 SA∧Below w1.heap.size w1 W7:=by
  obtain ⟨e1,e2,e3⟩:=uV (w:=w1) (old:=ZW) (cs:=SL.toArray) (T:=140);rw [← hW7];exact ⟨by unfold aU; rw [← Ip.out]; exact e1,e3⟩
 have HR:=H.out.below h7.2
 obtain ⟨left,hd,_⟩:=HR.dev
 obtain ⟨_,c1,c2,_⟩:=nS hd
 obtain ⟨m,hm,hown⟩:=HR.map
 obtain ⟨aw,pY,rfl,hag⟩:=MR HR
 have HAG:=hid hag
 have HR7:=hid HR
 have H7:=hid h7
 have HOWN:=hid hown
 clear hW7 h7 c0 hz c5 HR hd hown hag
 rcases acN hm a (.lit (.int .i64 0)) with ⟨hhas,hr⟩ | ⟨hhas,i,hi,hat,hr⟩
 ·have HR2:=hid (hr F)
  clear hr;go_wp2_with (first
   | (at_lookup; refine wpList_lookup_own_ok_int _ rfl _ _ 102 rfl 46 3 .i64 (Maps.int_keyed Tryz.underlying46) Tryz.underlying102 Tryz.underlying3 (by kernel_rfl) bm _ m rfl HOWN.out _ _ rfl hkey ?_; intro c hat hwc))
  go_ret2;exact ⟨rfl,by rw [HR2.out,HSA.out]; exact H7.out.1,by rw [HR2.out,HSA.out]; exact DN.out,H7.out.2⟩
 ·obtain ⟨g,rfl⟩:=HAG.out (by omega)
  have HR2:=hid (hr F);have hpw:=HR7.out.wok _ (List.getElem_mem hi);have hrg:=GK (JO (by have q:=HR7.out.WA; exact q) (fun p hp=>(HR7.out.wok p hp).1) i hi);have hix:=CU g ws.length pY i hi;generalize ws[i]=p at *;have hiI:(i:Int)<(ws.length:Int):=by omega
  generalize ws.length=N at *;have lW:=hid (show W7.rangeAt g (i * 513+1) (aF p.2).toList from by simpa [vV,aF] using hrg);have DY:=hid (show (Tryz.prog.info? 140).map (·.size)=some (aF p.2).toList.length by rw [Array.length_toList]; exact mV _ hpw.1);have Bc:=hid (show (Tryz.prog.info? 140).map (·.size)=some (aF p.2).toList.toArray.size by rw [Array.toArray_toList]; exact mV _ hpw.1);have WO:=hid (show (aF p.2).toList.toArray.all (·.oneCell')=true by rw [Array.toArray_toList]; exact dJ p.2);have EW:=hid (show (aF SA).size=(aF p.2).toList.toArray.size by rw [Array.toArray_toList,aN,aN,DN.out,hpw.1]);have Ip:=hid (show (aF p.2).toList.toArray=aF p.2 from Array.toArray_toList);have xy:=hid hpw.1;have HX:=hid (show W7.heap[w1.heap.size]? = some (.cells (aF SA) 140 (0,0)) from H7.out.1);have HB:=hid (aG H7.out.2 (Nat.le_refl _) (aF p.2));have HN:=hid (show aU (W7.setRow w1.heap.size (aF p.2)) w1.heap.size 140 p.2 from setRow_heap W7 _ _ _ _ _ HX.out);generalize (aF p.2).toList=PL at *;clear hr hpw hrg hi;generalize hX:w1.heap.size=X at *;have HXX:=hid hX;clear hX;go_upto_region 10 with (first
   | (at_lookup; refine wpList_lookup_own_ok_int _ rfl _ _ 102 rfl 46 3 .i64 (Maps.int_keyed Tryz.underlying46) Tryz.underlying102 Tryz.underlying3 (by kernel_rfl) bm _ m rfl HOWN.out _ _ rfl hkey ?_; intro c hat' hwc; rw [hat] at hat'; injection hat' with e1; injection e1 with _ e1; subst e1)
   | (with_reducible refine wpList_load_mid (op:=⟨some 44,_,_,_,_,_⟩) rfl 140 _ rfl g (i * 513+1) rfl PL _ lW.out Tryz.underlying140 rfl DY.out ?_)
   | (with_reducible refine wpList_store_row (o:=⟨none,.store _ (.tmp 7) _,_,_,_,_⟩) rfl 140 _ _ rfl X PL.toArray rfl rfl 140 (aF SA) HX.out Bc.out EW.out WO.out ?_))
  rw [Ip.out];clear hix c1 c2;go_wp2_with fail;go_ret2;unfold acO;rw [HXX.out];exact ⟨rfl,by rw [HR2.out]; exact HN.out,by rw [HR2.out]; exact xy.out,HB.out⟩
end
section
open Go.RowKit
theorem Qm:(aC 512).length=512:=List.length_replicate
theorem rZ (p:Nat×bY)(h:p.2.length=512):(jo p).size=513:=by rw [jo,List.size_toArray,um p h]
theorem Qn (a:Nat)(l Z:bY)(hl:l.length=512)(hz:Z.length=512):Instr.fill (#[(0,1),(1,512)][·]?) (jo (0,Z)) [(0,.int .u32 (a:Int)),(1,.agg (aF l))]=some (jo (a,l)):=by
 have z1:(jo (0,Z)).size=513:=rZ _ hz;have z2:(jo (a,Z)).size=513:=rZ _ hz;rw [gq _ _ (jo (a,Z)) #[.int .u32 (a:Int)] (.int .u32 (a:Int)) 0 0 1 _ rfl rfl rfl (by rw [z1]; exact Nat.le_of_ble_eq_true rfl) (fun i=>by
  unfold jo vV;cases i with
  | zero=>simp
  | succ i=>simp)]
 rw [gq _ _ (jo (a,l)) (aF l) (.agg (aF l)) 1 1 512 _ rfl rfl (by rw [aN,hl]) (by rw [aN,hl,z2]; decide) (fun i=>by
  unfold jo vV aF;cases i with
  | zero=>simp
  | succ i =>
    by_cases h:i<l.length
    ·rw [if_pos (by simp; omega)]; simp
    rw [if_neg (by simp; omega)];simp only [List.getElem?_toArray,List.getElem?_cons_succ];rw [List.getElem?_eq_none (by simp; omega),List.getElem?_eq_none (by simp [hz]; omega)])]
 rfl
theorem UJ (a:Nat)(l:bY)(hl:l.length=512):Instr.fill (#[(0,1),(1,512)][·]?) (jo (0,aC 512)) [(0,.int .u32 (a:Int)),(1,.agg (aF l))]=some (jo (a,l)):=Qn a l _ hl Qm
theorem MS (parts:List (Nat×Value)):Tryz.prog.built 142 parts=Instr.fill (#[(0,1),(1,512)][·]?) (jo (0,aC 512)) parts:=by kernel_rfl
theorem MV (a:Nat)(l:bY)(hl:l.length=512)(W:World):(Instr.build 142 #[(0,.int .u32 (a:Int)),(1,.agg (aF l))]).run Tryz.prog W = .ok (.agg (jo (a,l))) W :=
 run_build W 142 _ _ (by rw [MS]; exact UJ a l hl)
theorem CV:(Tryz.prog.info? 142).map (fun i=>(i.zero,i.size,i.bytes))=some (some (.agg (jo (0,aC 512))),513,516):=by kernel_rfl
theorem UK (p:Nat×bY)(h:p.2.length=512)(W:World):(Instr.buildSlice 101 1 #[(0,.agg (jo p))]).run Tryz.prog W = .ok (.slice (some ⟨W.heap.size,0,none⟩) 1 1) (W.alloc (.cells (jo p) 142)):=by
 obtain ⟨i,hi,hzz⟩:=Option.map_eq_some_iff.1 CV;simp only [Prod.mk.injEq] at hzz;obtain ⟨hz,hs,hb⟩:=hzz;refine run_buildSlice W 101 142 1 _ (jo p) i _ Tryz.underlying101 hi hz (by rw [hs]; decide) (by rw [hs]; decide) ?_;rw [hs];exact Om _ _ 513 (rZ p h) (by simp)
theorem acQ (ad:Addr)(cap:Nat)(W:World):(Instr.arrayAt 140 (.slice (some ad) 512 cap)).run Tryz.prog W = .ok (.pointer (some ad)) W:=by
 simp [Instr.arrayAt,run_underlying Tryz.underlying140]
end
section
open Go.RowKit
open Go.Maps (Keyed)
theorem YX:(Tryz.prog.info? 140).map (fun i=>(i.zero,i.size,i.bytes))=some (some (.agg (aF (aC 512))),512,512):=by kernel_rfl
theorem UL (n:Nat)(h:n≤4096)(w:World):(Instr.makeSlice 100 (.int .i64 (n:Int)) (.int .i64 (n:Int))).run Tryz.prog w = .ok (.slice (some ⟨w.heap.size,0,none⟩) n n) (w.alloc (.cells (aF (aC (n * 512))) 140)):=by
 obtain ⟨i,hi,hzz⟩:=Option.map_eq_some_iff.1 YX;simp only [Prod.mk.injEq] at hzz;obtain ⟨hz,hs,hb⟩:=hzz;rw [run_make (P:=Tryz.prog) w 100 140 i _ Tryz.underlying100 hi hz .i64 .i64 n n (by omega) (by omega) (by rw [hb]; omega) (by omega),hs];simp only [Int.toNat_natCast];rw [show (Value.agg (aF (aC 512))).cells=aF (aC 512) from rfl,YV]
theorem afZ (n:Nat)(w:World)(h0:16≤n)(h1:n≤4096) :
 Calls Tryz.prog 30 #[.int .i64 (n:Int)] w fun e w'=>e = .returned (.tuple #[.pointer (some ⟨w.heap.size+2,0,none⟩),.int .i64 0])∧PD w' (w.heap.size+2) w.heap.size (w.heap.size+1) n (.slice none 0 0) (aC (n * 512)) [] (-1) false∧Below w.heap.size w w':=by
 have i0:(16:Int)≤(n:Int):=by omega
 have i1:(n:Int)≤4096:=by omega
 have hmk:=UL n h1
 have hmm:∀ W:World,(Instr.makeMap 102 none).run Tryz.prog W = .ok (.map (some W.heap.size)) (W.alloc (.map #[] 0)):=fun W=>run_makeMap _ W
 have H1:=hid h1
 clear h0 h1
 go_in
 go_wp2_with fail
 clear hmk hmm
 go_ret2
 generalize hO1:Obj.cells (aF (aC (n * 512))) 140=O1
 have hb1:Below w.heap.size w (w.alloc O1):=(Below.refl _ _).alloc (Nat.le_refl _) _
 have hsz:(w.alloc O1).heap.size=w.heap.size+1:=by simp
 have hb2:Below w.heap.size w ((w.alloc O1).alloc (.map #[] 0)):=hb1.alloc (by omega) _
 have hsz2:((w.alloc O1).alloc (.map #[] 0)).heap.size=w.heap.size+2:=by simp
 have hmap:=World.ownsMap_made (w.alloc O1) Tryz.prog 46 (plainElem (H:=Unit) Tryz.prog 3)
 rw [hsz] at hmap
 generalize hW2:(w.alloc O1).alloc (.map #[] 0)=W2 at *
 generalize hO2:Obj.cells #[.slice (some ⟨w.heap.size,0,none⟩) n n,.slice none 0 0,.map (some (w.heap.size+1)),.bool false,.int .i64 0,.bool false] 104=O2
 have hb3:Below w.heap.size w (W2.alloc O2):=hb2.alloc (by omega) _
 have hb4:Below W2.heap.size W2 (W2.alloc O2):=(Below.refl _ _).alloc (Nat.le_refl _) _
 have e2:=heap_alloc_new W2 O2
 rw [hsz2] at e2
 have e1:W2.heap[w.heap.size]? = some O1:=by
  rw [← hW2];have q:=(Below.refl (w.alloc O1).heap.size (w.alloc O1)).alloc (Nat.le_refl _) (.map #[] 0);exact (q.block w.heap.size (by omega)).trans (heap_alloc_new w O1)
 have e3:=(hb4.block w.heap.size (by omega)).trans e1
 have hmap2:MapAt W2 (w.heap.size+1) []:=⟨_,MapOf.none,hmap⟩
 refine ⟨rfl,⟨⟨0,e2.trans (congrArg some hO2.symm),fun h=>by omega⟩,e3.trans (congrArg some hO1.symm),by simp [aC],World.ownsRow_nil _ _ _ _,(fun p hp=>by cases hp),H1.out,by omega,hmap2.keep (hb4.block _ (by omega))⟩,hb3⟩
theorem xg {w:World}{b t:Nat}{l:bY}(h:aU w b t l):w.rangeAt b 0 (aF l).toList:=h.all
theorem Qo (D gl bm n a:Nat)(vw:Value)(F:bY)(ws:bW)(lim:Int)(dn:Bool)(ab:bO)(acM:Nat)(w:World)(h:PD w D gl bm n vw F ws lim dn)(ha:a<n)(hdn:(xx lim dn).2=true) :
 Calls Tryz.prog 137 #[.pointer (some ⟨D,0,none⟩),.int .u32 (a:Int),.slice ab 512 acM] w fun e w'=>e = .returned (.int .i64 7)∧PD w' D gl bm n vw F ws (xx lim dn).1 true∧Only D w w':=by
 have hbig:=h.big
 have HT:=hid (show Calls Tryz.prog 152 #[.pointer (some ⟨D,0,none⟩),.int .u32 (a:Int),.slice ab 512 acM] w fun e w'=>e = .returned (.int .i64 0)∧w'=w by have q:=zW D gl bm n a vw F ws lim dn ab 512 acM w h (by omega); rwa [if_pos ⟨ha,rfl⟩] at q)
 have hgo:=BB D gl bm n vw F ws lim dn w h
 rw [hdn] at hgo
 have HG:=hid hgo
 clear h ha hbig hgo hdn
 go_in
 go_wp2_with fail
 refine HT.out.mono ?_
 rintro e w1 ⟨rfl,rfl⟩
 go_wp2_with fail
 refine HG.out.mono ?_
 rintro e w2 ⟨rfl,hP,hO⟩
 have HP:=hid hP
 have HO:=hid hO
 clear hP hO HG
 go_wp2_with fail
 go_ret
 exact ⟨rfl,HP.out,HO.out⟩
theorem DF {P:Program}{o:Oper}{a:Act}{w:World}{K:Act→World→Prop}{Q:Exit→Act→World→Prop}(t:TypeId)(m x v:Operand)(ho:o.op = .mapUpdate t m x v)(mv key val:Value)(hm:a.eval m=mv)(hx:a.eval x=key)(hv:a.eval v=val)
 (w':World) (hrun:(Instr.mapUpdate t mv key val).run P w = .ok () w') (h:K (a.put o.dst undef) w'):o.wp P a w K Q:=by
 unfold Oper.wp execOp
 simp [ho,hm,hx,hv,hrun,Result.andThen]
 exact h
theorem xN {P:Program}{o:Oper}{a:Act}{w:World}{K:Act→World→Prop}{Q:Exit→Act→World→Prop}(s x:Operand)(t:TypeId)(ho:o.op = .call { callee := .builtin .append,args:=#[s,x],argTypes:=#[t,t] })(sv xv:Value)(hs:a.eval s=sv)(hx:a.eval x=xv)
 (v':Value) (w':World) (hr:(Builtin.append_ #[t,t] o.type #[sv,xv]).run P w = .ok v' w') (h:K (a.put o.dst v') w'):o.wp P a w K Q:=by
 unfold Oper.wp execOp
 simp only [ho,resolve,invoke,builtin,Sem.run_bind,Sem.run_pure,Result.andThen_ok,List.map_toArray,List.map_cons,List.map_nil,hs,hx,hr]
 exact h
theorem yN {P:Program}{o:Oper}{a:Act}{w:World}{K:Act→World→Prop}{Q:Exit→Act→World→Prop}(t:TypeId)(len:Nat)(parts:Array (Nat×Operand))(ho:o.op = .buildSlice t len parts)(vs:Array (Nat×Value))(hv:(parts.map fun (i,x)=>(i,a.eval x))=vs)
 (v:Value) (w':World) (hr:(Instr.buildSlice t len vs).run P w = .ok v w') (h:K (a.put o.dst v) w'):o.wp P a w K Q:=by
 subst hv
 unfold Oper.wp execOp
 simp only [ho,Sem.run_bind,hr,Result.andThen_ok]
 exact h
theorem uF {P:Program}{ops:Array Oper}{S:World→Prop}{op:Oper}{a:Act}(hw:Region.wanted op (yielded ops a.tmps)=true)(t:TypeId)(parts:Array (Nat×Operand))(ho:op.op = .build t parts)(vs:Array (Nat×Value))(v:Value)(hv:(parts.map fun (i,x)=>(i,a.eval x))=vs)
 (hr:∀ W,(Instr.build t vs).run P W = .ok v W):YieldsIf P ops S op v a:=by
 subst hv
 exact .inl ⟨hw,fun w hw'=>by
  unfold execOp;simp only [ho,Sem.run_bind,Sem.run_pure,Result.andThen_ok,hr]⟩
theorem Qp (ws:bW)(p:Nat×bY):vW (ws++[p])=vW ws++(jo p).toList:=by
 unfold vW jo;rw [List.flatMap_append]; simp
theorem YY (D gl bm n a bx cap:Nat)(vw:Value)(F l:bY)(ws:bW)(lim:Int)(w:World)(h:PD w D gl bm n vw F ws lim false)(ha:a<n)(hB:aU w bx 5 l)(hl:l.length=512)(hlim:lim ≠ 0)(hws:ws.length≤1000000) :
 Calls Tryz.prog 137 #[.pointer (some ⟨D,0,none⟩),.int .u32 (a:Int),.slice (some ⟨bx,0,none⟩) 512 cap] w fun e w'=>e = .returned (.int .i64 0) ∧
  ∃ GL,PD w' D gl bm n GL F (ws++[(a,l)]) (xx lim false).1 false∧Touch (l9 D gl bm vw) w w'∧(∀ g,GL.ownBlock=some g→vw.ownBlock=some g∨w.heap.size≤g):=by
 have hbig:=h.big
 have HT:=hid (show Calls Tryz.prog 152 #[.pointer (some ⟨D,0,none⟩),.int .u32 (a:Int),.slice (some ⟨bx,0,none⟩) 512 cap] w fun e w'=>e = .returned (.int .i64 0)∧w'=w by have q:=zW D gl bm n a vw F ws lim false (some ⟨bx,0,none⟩) 512 cap w h (by omega); rwa [if_pos ⟨ha,rfl⟩] at q)
 have hgo:=BB D gl bm n vw F ws lim false w h
 rw [show (xx lim false).2=false by unfold xx; simp [hlim]] at hgo
 generalize (xx lim false).1=lim' at *
 have HG:=hid hgo
 obtain ⟨left0,hd0,_⟩:=h.dev
 have aiY:D ≠ bx:=xe hd0 hB (by decide)
 have HB:=hid hB
 have HL:=hid hl
 have HA:=hid ha
 have apS:=hid hbig
 have wI:(ws.length:Int)≤1000000:=by omega
 have Nz:=hid hws
 have kG:=hid (Nat.le_refl w.heap.size)
 have harr:=acQ ⟨bx,0,none⟩ cap
 have hkey:=hid (JP a (by omega))
 have hbuild:=hid (MV a l hl)
 have afj:=hid (UK (a,l) hl)
 have IP:=hid (show (Tryz.prog.info? 140).map (·.size)=some (aF l).toList.length by rw [Array.length_toList]; exact mV _ hl)
 obtain ⟨aw,pY,rfl,_⟩:=MR h
 generalize hN:ws.length=N at *
 have HN:=hid hN
 clear hgo hlim h hws hbig hd0 hB hl ha hN
 go_in
 go_wp2_with fail
 refine HT.out.mono ?_
 rintro e w1 ⟨rfl,rfl⟩
 go_wp2_with fail
 refine HG.out.mono ?_
 rintro e w2 ⟨rfl,hP2,hO2⟩
 clear HG HT
 obtain ⟨left,hd,hle⟩:=hP2.dev
 obtain ⟨_,c1,c2,_⟩:=nS hd
 obtain ⟨m,hm,hown⟩:=hP2.map
 obtain ⟨w6,hrun,hown6,VH⟩:=World.ownsMap.update (w:=w2.drew) (t:=102) (e:=3) hown.drew (Maps.int_keyed Tryz.underlying46) Tryz.underlying102 (by rw [HN.out]; have:=Nz.out; unfold maxLen; omega) hkey.out
  (plainElem_int (H:=Unit) Tryz.underlying3 (a:=(N:Int)) (by have:=Nz.out; simp [Lit.wf,IntKind.min,IntKind.max,IntKind.bits,IntKind.signed]; omega))
 have hDm:D ≠ bm:=hP2.map.ne hd
 have hdm:some D ≠ some bm:=by simpa using hDm
 have apU:w2.heap.size≤w6.heap.size:=VH.size
 have k6:∀ k,k<w2.heap.size→k ≠ bm→w6.heap[k]? = w2.heap[k]? := fun k hk hb=>VH.block k hk (by simpa using hb)
 have hd6:w6.heap[D]? = _:=(k6 D (CS hd) hDm).trans hd
 have HB2:=hid (hO2.arr HB.out (Ne.symm aiY))
 have hbm:bx ≠ bm:=hP2.map.ne HB2.out
 have lu:=hid (show aU w6 bx 5 l from (k6 bx (Rk HB2.out) hbm).trans HB2.out)
 have acR:aU w6 gl 140 F:=(k6 gl (Rk hP2.lay) (hP2.map.ne hP2.lay)).trans hP2.lay
 have Yk:Touch [D,bm] w1 w6:=(Touch.dC hO2 (by simp)).trans ⟨VH.os,VH.tape,VH.output,VH.size,fun k hk hn=>k6 k hk (fun e=>hn (by simp [e]))⟩
 have ahm:=bG hP2.WA (l:=[bm]) (w':=w6) ⟨VH.os,VH.tape,VH.output,VH.size,fun k hk hn=>k6 k hk (fun e=>hn (by simp [e]))⟩ (fun g hg=>by
  have:=GH hP2.WA hP2.map;simp only [List.mem_cons,List.not_mem_nil,or_false];rintro rfl;exact this hg)
 have apV:=hid hrun
 have HS0:=hid (show w2.drew.cell? ⟨D,2,none⟩=some (.map (some bm))∧w2.drew.cell? ⟨D,1,none⟩=some (.slice aw N pY) from ⟨c2,c1⟩)
 have TE:=hid (show w6.cell? ⟨D,2,none⟩=some (.map (some bm))∧w6.cell? ⟨D,1,none⟩=some (.slice aw N pY) from ⟨(nS hd6).2.2.1,(nS hd6).2.1⟩)
 have C6:=hid (show w6.drew.cell? ⟨D,1,none⟩=some (.slice aw N pY) from (nS hd6).2.1)
 have HS2:=hid (show w6.drew.rangeAt bx 0 (aF l).toList from xg (show aU w6.drew bx _ l from lu.out))
 -- the slice of the one write
 have af0:∀ k,k<w6.heap.size→(w6.drew.alloc (.cells (jo (a,l)) 142)).heap[k]? = w6.heap[k]? := fun k hk=>((Below.refl w6.heap.size w6).drew.alloc (Nat.le_refl _) _).block k hk
 have ahn:(w6.drew.alloc (.cells (jo (a,l)) 142)).heap[w6.heap.size]? = some (.cells (jo (a,l)) 142 (0,0)):=heap_alloc_new w6.drew _
 have hT8:Touch [] w6 (w6.drew.alloc (.cells (jo (a,l)) 142)):=Touch.of_below ((Below.refl w6.heap.size w6).drew.alloc (Nat.le_refl _) _)
 have JQ:=bG ahm hT8 (fun g _=>by simp)
 have hd8:=(af0 D (CS hd6)).trans hd6
 have HB8:=hid (show aU (w6.drew.alloc (.cells (jo (a,l)) 142)) bx 5 l from (af0 bx (Rk lu.out)).trans lu.out)
 have WB:aU (w6.drew.alloc (.cells (jo (a,l)) 142)) gl 140 F:=(af0 gl (Rk acR)).trans acR
 have Qq:=hown6.drew.alloc (.cells (jo (a,l)) 142)
 have C8:=hid (show (w6.drew.alloc (.cells (jo (a,l)) 142)).cell? ⟨D,1,none⟩=some (.slice aw N pY) from (nS hd8).2.1)
 have NS:=hid (show (w6.drew.alloc (.cells (jo (a,l)) 142)).rangeAt bx 0 (aF l).toList from xg HB8.out)
 obtain ⟨i8,hi8,hzz⟩:=Option.map_eq_some_iff.1 CV
 simp only [Prod.mk.injEq] at hzz
 obtain ⟨hz8,hs8,am9⟩:=hzz
 have hwl:(jo (a,l)).toList.length=1 * 513:=by rw [Array.length_toList,rZ _ HL.out]
 generalize hW8:w6.drew.alloc (.cells (jo (a,l)) 142)=w8 at *
 obtain ⟨v9,w9,aho,WC,hg9,_,ahp⟩:=run_append_own_at (P:=Tryz.prog) w8 0 101 101 142 i8 _ 513 516 Tryz.underlying101 hi8 hz8 hs8 am9 (rZ _ Qm) (by decide)
  _ N (vW ws) (by rw [← HN.out]; exact JQ) ⟨w6.heap.size,0,none⟩ 1 1 (jo (a,l)).toList hwl (fun j u hu=>by
    rw [Addr.add_mid,cell_of_row _ _ _ _ _ _ ahn]; simpa using hu) (fun u hu=>Array.all_eq_true_iff_forall_mem.1 (acI (a,l)) u (by simpa using hu)) (by have:=Nz.out; unfold maxLen; omega) (by have:=Nz.out; omega) (Nat.zero_le _)
 obtain ⟨a9,DI,rfl⟩:∃ x c,v9 = .slice x (N+1) c:=by
  rcases WC.2 with ⟨hv,h0⟩ | ⟨g,c,cur,hv,_⟩
  ·omega
  exact ⟨_,_,hv⟩
 have hvD:Value.ownBlock (.slice aw N pY) ≠ some D:=kT JQ hd8 (by decide)
 have hvB:Value.ownBlock (.slice aw N pY) ≠ some bx:=kT JQ HB8.out (by decide)
 have hvL:Value.ownBlock (.slice aw N pY) ≠ some gl:=kT JQ WB (by decide)
 have hvM:Value.ownBlock (.slice aw N pY) ≠ some bm:=GH JQ (ws:=ws++[(a,l)]) ⟨_,MapOf.more ws m (a,l) hm,by rw [List.length_append,HN.out]; rw [HN.out] at Qq; exact Qq⟩
 have k9:∀ k,k<w8.heap.size→Value.ownBlock (.slice aw N pY) ≠ some k→w9.heap[k]? = w8.heap[k]? := fun k hk hb=>hg9.block k hk (fun e=>hb e.symm)
 have hd9:=(k9 D (CS hd8) hvD).trans hd8
 have ahq:=hid aho
 have yO:=hid (show w9.rangeAt bx 0 (aF l).toList from xg (show aU w9 bx _ l from (k9 bx (Rk HB8.out) hvB).trans HB8.out))
 have C9:=hid (show w9.cell? ⟨D,1,none⟩=some (.slice aw N pY) from (nS hd9).2.1)
 have F9:=hid (qF hd9 1)
 have YZ:Only D w9 (w9.setCell ⟨D,1,none⟩ (.slice a9 (N+1) DI)):=(Only.refl _ _).setCell _ _
 have hB9:aU w9 bx 5 l:=(k9 bx (Rk HB8.out) hvB).trans HB8.out
 have nT:=hid (show (w9.setCell ⟨D,1,none⟩ (.slice a9 (N+1) DI)).rangeAt bx 0 (aF l).toList from xg (YZ.arr hB9 (Ne.symm aiY)))
 have hd10:=heap_setCell_same _ D 1 _ _ (.slice a9 (N+1) DI) hd9
 have acS:aU w9 gl 140 F:=(k9 gl (Rk WB) hvL).trans WB
 have acT:MapAt w8 bm (ws++[(a,l)]):=⟨_,MapOf.more ws m (a,l) hm,by rw [List.length_append,HN.out]; rw [HN.out] at Qq; exact Qq⟩
 have acU:MapAt w9 bm (ws++[(a,l)]):=acT.keep (k9 bm acT.lt hvM)
 have ana:Value.ownBlock (.slice a9 (N+1) DI) ≠ some D:=kT WC hd9 (by decide)
 have LJ:=hid (show PD (w9.setCell ⟨D,1,none⟩ (.slice a9 (N+1) DI)) D gl bm n (.slice a9 (N+1) DI) F (ws++[(a,l)]) lim' false from
  ⟨⟨left,hd10,hle⟩,YZ.arr acS (xe acS hd9 (by decide)),hP2.len,by
    rw [Qp,List.length_append,HN.out]
    exact GG WC YZ ana,fun p hp=>by
    rcases List.mem_append.1 hp with hp | hp
    ·exact hP2.wok p hp
    ·simp only [List.mem_cons,List.not_mem_nil,or_false] at hp
     subst hp;exact ⟨HL.out,HA.out⟩,apS.out,hP2.acJ,acU.keep (YZ.rest bm (Ne.symm (acU.ne hd9)))⟩)
 have Y0:=hid (show Touch (l9 D gl bm (.slice aw N pY)) w1 (w9.setCell ⟨D,1,none⟩ (.slice a9 (N+1) DI)) from by
  have t1:Touch (l9 D gl bm (.slice aw N pY)) w1 w6:=Yk.more (by intro k hk; simp only [List.mem_cons,List.not_mem_nil,or_false] at hk; rcases hk with rfl | rfl <;> simp [l9]);have t2:Touch (l9 D gl bm (.slice aw N pY)) w6 w8:=hT8.more (by simp);have t3:Touch (l9 D gl bm (.slice aw N pY)) w8 w9:=⟨hg9.os,hg9.tape,hg9.output,hg9.size,fun k hk hn=>k9 k hk (fun e=>hn (by simp [l9,e]))⟩
  exact ((t1.trans t2).trans t3).trans (Touch.dC YZ (by simp [l9])))
 have HLOC:=hid (show ∀ g,Value.ownBlock (.slice a9 (N+1) DI)=some g→Value.ownBlock (.slice aw N pY)=some g∨w1.heap.size≤g from fun g hg=>by
  rcases ahp with e | e
  ·exact .inl (e ▸ hg)
  rw [hg] at e;injection e with e;have h8:=hT8.size;have h6:=Yk.size;exact .inr (by omega))
 have apX:=NS
 rw [← hW8] at NS
 clear hP2 hO2 hd hle hm hown hown6 VH hrun hdm apU k6 hd6 acR Yk ahm af0 ahn hT8 JQ hd8 WB Qq hi8 hz8 hs8 am9 hwl aho WC hg9 ahp hvD hvB hvL hvM k9 hd9 YZ hB9 hd10 acS acT acU ana c1 c2 aiY hbm hDm
 go_upto_region 6 with fail
 try simp only [Act.put]
 refine wp_region_noPanic ?_
 refine wp_region_held_drew (S:=fun W=>W.cell? ⟨D,2,none⟩=some (.map (some bm))∧W.cell? ⟨D,1,none⟩=some (.slice aw N pY)) (by kernel_rfl) (HS0.out) (fun hHeld=>?_)
 refine tR 0 18 (h:=tR 1 19 (h:=tR 2 20 (h:=?_)))
 refine tK 3 21 ?_ rfl (Or.inl ⟨by rfl, ?_⟩) ?_
 rotate_left 1
 ·(intro w' hSw; have hcell:=hSw.1; clear hSw; go_simp; try with_reducible rfl)
 try simp only [Act.put,pZ]
 refine tR 4 22 (h:=tR 5 23 (h:=tR 6 24 (h:=tR 7 25 (h:=?_))))
 refine tK 8 26 ?_ rfl (Or.inl ⟨by rfl, ?_⟩) ?_
 rotate_left 1
 ·(intro w' hSw; have hcell:=hSw.2; clear hSw; go_simp; try with_reducible rfl)
 try simp only [Act.put,pZ]
 refine tR 9 27 (h:=?_)
 clear hHeld
 refine rD 10 rfl fun K hK=>?_
 rw [if_pos (by kernel_rfl)]
 refine DF (o:=⟨none,.mapUpdate _ (.tmp 21) (.tmp 22) (.tmp 27),_,_,_,_⟩) _ _ _ _ rfl _ _ _ rfl rfl rfl w6 apV.out ?_
 refine hK.out _ _ (TE.out) (fun hHeld=>?_)
 clear hK K hHeld
 try simp only [Act.put]
 refine wpAnyH_done (by decide +kernel) ?_ _
 refine NoPanic.normal ?_
 go_upto_region 7 with fail
 try simp only [Act.put]
 refine wp_region_noPanic ?_
 refine wp_region_held_drew (S:=fun W=>W.rangeAt bx 0 (aF l).toList) (by kernel_rfl) (HS2.out) (fun hHeld=>?_)
 refine tR 0 28 (h:=tR 1 29 (h:=tR 2 30 (h:=tR 3 31 (h:=tR 5 33 (h:=tR 6 34 (h:=tR 7 35 (h:=?_)))))))
 refine tK 8 36 _ rfl (yieldsIf_load_mid (by rfl) _ _ rfl (bx) (0) rfl (aF l).toList _ (fun w' h=>h) Tryz.underlying140 rfl IP.out) ?_
 try simp only [Act.put,pZ,Array.toArray_toList]
 refine tK 9 37 _ rfl (uF (by rfl) _ _ rfl #[(0,.int .u32 (a:Int)),(1,.agg (aF l))] _ (by simp [Act.eval]) hbuild.out) ?_
 try simp only [Act.put,pZ]
 clear hHeld
 refine wpAnyH_ready (rs:=[4,10]) (by decide +kernel) (by simp) ?_
 refine AllReadyH.cons rfl (fun K hK=>?_) (AllReadyH.cons rfl (fun K hK=>?_) AllReadyH.nil)
 ·have co':=C6.out
  go_simp;refine hK.out _ _ (HS2.out) (fun hHeld=>?_);clear hK K co' hHeld;try simp only [Act.put,pZ]
  refine rD 10 rfl fun K hK=>?_;rw [if_pos (by kernel_rfl)];refine yN (o:=⟨some 38,_,_,_,_,_⟩) _ _ _ rfl #[(0,.agg (jo (a,l)))] (by simp [Act.eval]) _ _ (afj.out w6.drew) ?_;refine hK.out _ (w6.drew.alloc (.cells (jo (a,l)) 142)) (NS.out) (fun hHeld=>?_);clear hK K hHeld;try simp only [Act.put,pZ]
  rw [hW8];refine rD 11 rfl fun K hK=>?_;rw [if_pos (by kernel_rfl)];refine xN (o:=⟨some 39,_,_,_,_,_⟩) _ _ _ rfl (.slice aw N pY) (.slice (some ⟨w6.heap.size,0,none⟩) 1 1) rfl rfl (.slice a9 (N+1) DI) w9 ahq.out ?_;refine hK.out _ _ (yO.out) (fun hHeld=>?_);clear hK K;try simp only [Act.put,pZ]
  refine tR 12 40 (h:=tR 13 41 (h:=?_));clear hHeld;refine rD 14 rfl fun K hK=>?_;have co':=C9.out;have fo':=F9.out;go_simp;refine hK.out _ _ (nT.out) (fun hHeld=>?_);clear hK K co' fo' hHeld;try simp only [Act.put,pZ]
  refine wpAnyH_done (by decide +kernel) ?_ _;refine NoPanic.normal ?_;go_wp2_with fail;go_ret;exact ⟨rfl,.slice a9 (N+1) DI,LJ.out,Y0.out,HLOC.out⟩
 ·rw [if_pos (by kernel_rfl)]
  refine yN (o:=⟨some 38,_,_,_,_,_⟩) _ _ _ rfl #[(0,.agg (jo (a,l)))] (by simp [Act.eval]) _ _ (afj.out w6.drew) ?_;refine hK.out _ (w6.drew.alloc (.cells (jo (a,l)) 142)) (NS.out) (fun hHeld=>?_);clear hK K hHeld;try simp only [Act.put,pZ]
  rw [hW8];refine rD 4 rfl fun K hK=>?_;have co':=C8.out;go_simp;refine hK.out _ _ (apX.out) (fun hHeld=>?_);clear hK K co' hHeld;try simp only [Act.put,pZ]
  refine rD 11 rfl fun K hK=>?_;rw [if_pos (by kernel_rfl)];refine xN (o:=⟨some 39,_,_,_,_,_⟩) _ _ _ rfl (.slice aw N pY) (.slice (some ⟨w6.heap.size,0,none⟩) 1 1) rfl rfl (.slice a9 (N+1) DI) w9 ahq.out ?_;refine hK.out _ _ (yO.out) (fun hHeld=>?_);clear hK K;try simp only [Act.put,pZ]
  refine tR 12 40 (h:=tR 13 41 (h:=?_));clear hHeld;refine rD 14 rfl fun K hK=>?_;have co':=C9.out;have fo':=F9.out;go_simp;refine hK.out _ _ (nT.out) (fun hHeld=>?_);clear hK K co' fo' hHeld;try simp only [Act.put,pZ]
  refine wpAnyH_done (by decide +kernel) ?_ _;refine NoPanic.normal ?_;go_wp2_with fail;go_ret;exact ⟨rfl,.slice a9 (N+1) DI,LJ.out,Y0.out,HLOC.out⟩
end
section
open Go.RowKit
theorem Qr (g o:Nat)(W:World):(Instr.sliceAt 140 (.pointer (some ⟨g,o,none⟩)) none (some (.int .i64 256)) none).run Tryz.prog W = .ok (.slice (some ⟨g,o,none⟩) 256 512) W:=by
 obtain ⟨i0,hi0,_⟩:=Option.map_eq_some_iff.1 sQ;have b:(Instr.sliceBound (.int .i64 256) 512 .sliceAlen).run Tryz.prog W = .ok 256 W:=fG 256 512 .sliceAlen (by omega) W;simp [Instr.sliceAt,run_underlying Tryz.underlying140,Instr.sureAddr,Instr.sliceBounds,sizeOf,typeInfo,hi0,Addr.add_mid,b]
theorem UM {w:World}{g o:Nat}{x:Value}{xs:List Value}(h:w.rangeAt g o (x::xs)):w.cell? ⟨g,o,none⟩=some x:=by
 have q:=h 0 x rfl;exact q
theorem GM {w w':World}{b:Nat}(e:w'.heap[b]? = w.heap[b]?)(o:Nat):w'.cell? ⟨b,o,none⟩=w.cell? ⟨b,o,none⟩:=by simp [World.cell?,e]
theorem WE (keep m:Nat):(bits BinOp.and IntKind.u64 ((keep:Int) / 2 ^ m) 1 == 1)=decide (keep / 2 ^ m % 2=1):=by
 rw [show ((keep:Int) / 2 ^ m)=((keep / 2 ^ m:Nat):Int) by simp,show (1:Int)=((1:Nat):Int) from rfl,Xo];generalize keep / 2 ^ m=x;rw [show IntKind.u64.bits=64 from rfl,show 1 % 2 ^ 64=1 from rfl,Nat.and_one_is_mod,show x % 2 ^ 64 % 2=x % 2 by omega,IntWalk.u64_in _ (by omega)];rw [Bool.eq_iff_iff]; simp; omega
theorem CW (D gl bm n keep:Nat)(lN:Int)(vw:Value)(F:bY)(ws:bW)(lim:Int)(dn:Bool)(w:World)(h:PD w D gl bm n vw F ws lim dn)(hws:ws.length≤1000000)(hk:keep<18446744073709551616) :
 Calls Tryz.prog 41 #[.pointer (some ⟨D,0,none⟩),.int .u64 (keep:Int),.int .i64 lN] w fun e w'=>e = .returned (.tuple #[])∧∃ Ib,PD w' D gl Ib n (.slice none 0 0) (jX keep lN F ws ws.length) [] lim dn∧Touch [D,gl] w w'∧w.heap.size≤Ib:=by
 obtain ⟨aw,pY,rfl,hag⟩:=MR h
 obtain ⟨left,hd,_⟩:=h.dev
 obtain ⟨_,d1,_⟩:=nS hd
 have HAG:=hid hag
 have H1:=hid h
 have wI:(ws.length:Int)≤1000000:=by omega
 have HK:=hid hk
 clear h hws hag hk hd
 go_in
 generalize hN:ws.length=N at *
 have HN:=hid hN
 clear hN
 go_wp2_with fail
 clear d1
 go_loopw [13] (fun v13 wr=>∃ i:Nat,i≤N∧v13 = .int .i64 (i:Nat)∧PD wr D gl bm n (.slice aw N pY) (jX keep lN F ws i) ws lim dn∧Touch [D,gl] w wr) (fun v _=>N - (intOf v).toNat)
 case atStart=>exact ⟨0,by omega,rfl,H1.out,Touch.refl _ _⟩
 case round =>
  obtain ⟨i,hi,rfl,hR,hT⟩:=hrel;by_cases hlt:i<N
  ·obtain ⟨g,rfl⟩:=HAG.out (by omega)
   have hil:i<ws.length:=by have:=HN.out; omega
   have hpw:=hR.wok _ (List.getElem_mem hil);have hnx:jX keep lN F ws (i+1)=Wy keep lN (jX keep lN F ws i) ws[i] i:=by rw [jX]; simp [List.getD,hil]
   have hrg:=JO (by have q:=hR.WA; rw [HN.out] at q ⊢; exact q) (fun p hp=>(hR.wok p hp).1) i hil;obtain ⟨left,hd,_⟩:=hR.dev;obtain ⟨c0,c1,_⟩:=nS hd;have hgD:g ≠ D:=fun e=>(kT hR.WA hd (by decide)) (by rw [e]; rfl)
   have hgL:g ≠ gl:=fun e=>(kT hR.WA hR.lay (by decide)) (by rw [e]; rfl)
   generalize hp:ws[i]=p at *;obtain ⟨FI,hFI⟩:∃ y,jX keep lN F ws i=y:=⟨_,rfl⟩
   rw [hFI] at hnx hR;have hix:=CU g N pY i hlt;have HP:=hid hpw;have HR:=hid hR;have HT:=hid hT;have bn:=hid hlt;have iI:(i:Int)<(N:Int):=by omega
   have i0:(0:Int)≤(i:Int):=by omega
   have HC:=hid (UM hrg);have lW:=hid (show wr.rangeAt g (i * 513+1) (aF p.2).toList from by have q:=GK hrg; simpa [aF] using q);have ny:=hid (show ∀ W,Below wr.heap.size wr W→W.cell? ⟨D,0,none⟩=some (.slice (some ⟨gl,0,none⟩) n n)∧W.cell? ⟨g,i * 513,none⟩=some (.int .u32 (p.1:Int))∧W.rangeAt g (i * 513+1) (aF p.2).toList from fun W hW=>by
    have hgl:g<wr.heap.size:=acK HR.out.WA g rfl;exact ⟨(hW.cell (p:=⟨D,0,none⟩) (HR.out.lt D (by simp [l9]))).trans c0,(hW.cell (p:=⟨g,i * 513,none⟩) hgl).trans HC.out,fun j v hv=>(hW.cell (p:=⟨g,i * 513+1+j,none⟩) hgl).trans (lW.out j v hv)⟩)
   have HSO:=hid (show ∀ W,Only gl wr.drew W→W.cell? ⟨D,0,none⟩=some (.slice (some ⟨gl,0,none⟩) n n)∧W.cell? ⟨g,i * 513,none⟩=some (.int .u32 (p.1:Int))∧W.rangeAt g (i * 513+1) (aF p.2).toList from fun W hW=>by
    have e1:=hW.rest g hgL;have e2:=hW.rest D (xe hd HR.out.lay (by decide));have hD2:W.heap[D]? = _:=e2.trans hd;refine ⟨(nS hD2).1,(GM e1 _).trans HC.out,fun j v hv=>(GM e1 _).trans (lW.out j v hv)⟩)
   obtain ⟨m,hm,hm2⟩:∃ m:Nat,(i:Int) % 64=(m:Int)∧i % 64=m:=⟨i % 64,by omega,rfl⟩
   have HM:=hid (show m<64 by omega);have Y1:=hid (show jX keep lN F ws (i+1)=if (i:Int)=lN then fK FI (p.1 * 512) (p.2.take 256) else if keep / 2 ^ m % 2=1 then fK FI (p.1 * 512) p.2 else FI by rw [hnx,Wy,hm2]);have hfl:p.1 * 512+512≤FI.length:=by rw [HR.out.len]; have:=HP.out.2; omega
   have Ny:=hid hfl;clear hR hT hi hlt hil hpw hnx hrg hp hFI hm2 hfl hd c0 hgD hgL;by_cases ht:(i:Int)=lN
   ·have htb:((i:Int) == lN)=true:=by simp [ht]
    have NC:=hid (show jX keep lN F ws (i+1)=fK FI (p.1 * 512) (p.2.take 256) by rw [Y1.out,if_pos ht]);obtain ⟨PH,hPH⟩:∃ y,p.2.take 256=y:=⟨_,rfl⟩
    have hpl:PH.length=256:=by rw [← hPH,List.length_take,HP.out.1]; omega
    rw [hPH] at NC;have HAC:=hid (show wr.drew.heap[gl]? = some (.cells (aF FI).toList.toArray 140 (0,0)) from HR.out.lay);have X6:=hid (show ∀ j v,(aF PH).toList[j]? = some v→wr.drew.cell? ((⟨g,i * 513+1,none⟩:Addr).add j)=some v from fun j v hv=>by
     rw [Addr.add_mid];have hj:j<256:=by
      have:=(List.getElem?_eq_some_iff.1 hv).1;rwa [Array.length_toList,aN,hpl] at this
     refine (ny.out _ (Below.refl _ wr).drew).2.2 j v ?_;rw [← hv,← hPH];simp [aF,hj])
    have Il:=hid (show (aF PH).toList.length=Nat.min 512 256∧p.1 * 512+(aF PH).toList.length≤(aF FI).toList.length∧∀ v ∈ (aF PH).toList,v.oneCell'=true from
     ⟨by rw [Array.length_toList,aN,hpl]; rfl,by rw [Array.length_toList,Array.length_toList,aN,aN,hpl]; have:=Ny.out; omega,fun v hv=>Array.all_eq_true_iff_forall_mem.1 (dJ PH) v (by simpa using hv)⟩)
    have HO8:=hid (Qj wr.drew gl (aF (fK FI (p.1 * 512) PH)));have HR8:=hid ((HR.out.below (Below.refl _ _).drew).ahk HO8.out (setRow_heap wr.drew gl _ _ _ (0,0) HR.out.lay) (by rw [jy _ _ _ (by rw [hpl]; have:=Ny.out; omega)]; exact HR.out.len));have HS8:=hid (HSO.out _ HO8.out);have Y0:=hid (show Touch [D,gl] w (wr.drew.setRow gl (aF (fK FI (p.1 * 512) PH))) from HT.out.trans ((Touch.of_below (Below.refl _ _).drew).trans (Touch.dC HO8.out (by simp))));clear ht hPH hpl Y1;go_upto_region 5 with fail
    clear htb hix c1;try simp only [Act.put]
    refine wp_region_noPanic ?_;refine wp_region_held_drew (S:=fun W=>W.cell? ⟨D,0,none⟩=some (.slice (some ⟨gl,0,none⟩) n n)∧W.cell? ⟨g,i * 513,none⟩=some (.int .u32 (p.1:Int))∧W.rangeAt g (i * 513+1) (aF p.2).toList) (by kernel_rfl) (ny.out _ (Below.refl _ wr).drew) (fun hHeld=>?_);refine tR 0 25 (h:=tR 1 26 (h:=tR 2 27 (h:=?_)));refine tK 3 28 ?_ rfl (Or.inl ⟨by rfl, ?_⟩) ?_;rotate_left 1
    ·(intro w' hSw; have hcell:=hSw.1; clear hSw; go_simp; try with_reducible rfl)
    try simp only [Act.put,pZ]
    refine tR 4 29 (h:=tR 5 30 (h:=tR 6 31 (h:=?_)));refine tK 7 32 ?_ rfl (Or.inl ⟨by rfl, ?_⟩) ?_;rotate_left 1
    ·(intro w' hSw; have hcell:=hSw.2.1; clear hSw; go_simp; try with_reducible rfl)
    try simp only [Act.put,pZ]
    have hix:=yM gl n p.1 HP.out.2;refine tR 8 33 (h:=?_);clear hix;have hsh:=Qr gl (p.1 * 512);refine tR 9 34 (h:=?_);clear hsh;refine tR 10 35 (h:=tR 11 36 (h:=tR 12 37 (h:=?_)));have hsh:=GI g (i * 513+1);refine tR 13 38 (h:=?_);clear hsh hHeld;refine rD 14 rfl fun K hK=>?_;refine sV (o:=⟨some 39,_,_,_,_,_⟩) rfl (.tmp 34) (.tmp 38) 62 62 (by rfl) 5 Tryz.underlying62 sQ gl (p.1 * 512) 256 512 ⟨g,i * 513+1,none⟩ 512 512 (by rfl) (by rfl) (aF FI).toList 140 HAC.out (aF PH).toList Il.out.1 X6.out Il.out.2.1 Il.out.2.2 ?_;rw [zi];refine hK.out _ _ (HS8.out) (fun hHeld=>?_);clear hK K hHeld;try simp only [Act.put]
    refine wpAnyH_done (by decide +kernel) ?_ _;refine NoPanic.normal ?_;go_wp2_with fail;go_roundw
    case rel=>exact ⟨i+1,by have:=bn.out; omega,by go_num,by rw [NC.out]; exact HR8.out,Y0.out⟩
    case measure=>simp [intOf]; have:=bn.out; omega
   have htb:((i:Int) == lN)=false:=by simp [ht]
   by_cases hb:keep / 2 ^ m % 2=1
   ·have hbb:(bits BinOp.and IntKind.u64 ((keep:Int) / 2 ^ m) 1 == 1)=true:=by rw [WE _ _]; simp [hb]
    have NC:=hid (show jX keep lN F ws (i+1)=fK FI (p.1 * 512) p.2 by rw [Y1.out,if_neg ht,if_pos hb]);have IP:=hid (show (Tryz.prog.info? 140).map (·.size)=some (aF p.2).toList.length by rw [Array.length_toList]; exact mV _ HP.out.1);have SP:=hid (mV _ HP.out.1);have HTH:=hid (show wr.drew.there gl (p.1 * 512) (aF p.2).size by rw [aN,HP.out.1]; exact (show aU wr.drew gl 140 _ from HR.out.lay).there _ _ Ny.out);have HO8:=hid (xM (aF p.2).toList (p.1 * 512) wr.drew wr.drew (Only.refl gl _));have HA8:=hid (aU.put 140 gl p.2 (p.1 * 512) _ wr.drew HR.out.lay (by rw [HP.out.1]; exact Ny.out));have HR8:=hid ((HR.out.below (Below.refl _ _).drew).ahk HO8.out HA8.out (by rw [jy _ _ _ (by rw [HP.out.1]; exact Ny.out)]; exact HR.out.len));have Wj:=hid (HSO.out _ HO8.out);have Y0:=hid (show Touch [D,gl] w (wr.drew.setCells gl (p.1 * 512) (aF p.2).toList) from HT.out.trans ((Touch.of_below (Below.refl _ _).drew).trans (Touch.dC HO8.out (by simp))));clear ht hb Y1;go_upto_region 7 with fail
    clear htb hbb hix c1;try simp only [Act.put]
    refine wp_region_noPanic ?_;refine wp_region_held_drew (S:=fun W=>W.cell? ⟨D,0,none⟩=some (.slice (some ⟨gl,0,none⟩) n n)∧W.cell? ⟨g,i * 513,none⟩=some (.int .u32 (p.1:Int))∧W.rangeAt g (i * 513+1) (aF p.2).toList) (by kernel_rfl) (ny.out _ (Below.refl _ wr).drew) (fun hHeld=>?_);refine tR 0 46 (h:=tR 1 47 (h:=tR 2 48 (h:=?_)));refine tK 3 49 ?_ rfl (Or.inl ⟨by rfl, ?_⟩) ?_;rotate_left 1
    ·(intro w' hSw; have hcell:=hSw.1; clear hSw; go_simp; try with_reducible rfl)
    try simp only [Act.put,pZ]
    refine tR 4 50 (h:=tR 5 51 (h:=tR 6 52 (h:=?_)));refine tK 7 53 ?_ rfl (Or.inl ⟨by rfl, ?_⟩) ?_;rotate_left 1
    ·(intro w' hSw; have hcell:=hSw.2.1; clear hSw; go_simp; try with_reducible rfl)
    try simp only [Act.put,pZ]
    refine tR 8 54 (h:=tR 9 55 (h:=tR 10 56 (h:=?_)));refine tK 11 57 _ rfl (yieldsIf_load_mid (by rfl) _ _ rfl (g) (i * 513+1) rfl (aF p.2).toList _ (fun w' h=>h.2.2) Tryz.underlying140 rfl IP.out) ?_;try simp only [Act.put,pZ,Array.toArray_toList]
    have hix:=yM gl n p.1 HP.out.2;refine tR 12 58 (h:=?_);clear hix hHeld;refine rD 13 rfl fun K hK=>?_;rw [if_pos (by kernel_rfl)];refine wp_store_mid (op:=⟨none,.store _ (.tmp 58) _,_,_,_,_⟩) 140 _ _ rfl gl (p.1 * 512) (aF p.2) rfl rfl HTH.out SP.out (dJ _) ?_;refine hK.out _ _ (Wj.out) (fun hHeld=>?_);clear hK K hHeld;try simp only [Act.put]
    refine wpAnyH_done (by decide +kernel) ?_ _;refine NoPanic.normal ?_;go_wp2_with fail;go_roundw
    case rel=>exact ⟨i+1,by have:=bn.out; omega,by go_num,by rw [NC.out]; exact HR8.out,Y0.out⟩
    case measure=>simp [intOf]; have:=bn.out; omega
   have hbb:(bits BinOp.and IntKind.u64 ((keep:Int) / 2 ^ m) 1 == 1)=false:=by rw [WE _ _]; simp [hb]
   have NC:=hid (show jX keep lN F ws (i+1)=FI by rw [Y1.out,if_neg ht,if_neg hb]);clear ht hb Y1;go_wp2_with fail;go_roundw
   case rel=>exact ⟨i+1,by have:=bn.out; omega,by go_num,by rw [NC.out]; exact HR.out,HT.out⟩
   case measure=>simp [intOf]; have:=bn.out; omega
  have hbv:decide (i<N)=false:=by simp; omega
  have hi2:i=N:=by omega
  rw [hi2] at hR;obtain ⟨left,hd,hle⟩:=hR.dev;have hmm:∀ W:World,(Instr.makeMap 102 none).run Tryz.prog W = .ok (.map (some W.heap.size)) (W.alloc (.map #[] 0)):=fun W=>run_makeMap _ W;have hbA:Below wr.heap.size wr (wr.alloc (.map #[] 0)):=(Below.refl _ _).alloc (Nat.le_refl _) _;have hdA:=(hbA.block D (CS hd)).trans hd;obtain ⟨_,d1,d2,_⟩:=nS hdA;have f1:=qF hdA 1;have f2:=qF hdA 2;have h1:=heap_setCell_same _ D 1 _ _ (.slice none 0 0) hdA;have h2:=heap_setCell_same _ D 2 _ _ (.map (some wr.heap.size)) h1;have HDD:=hid h2;have hO:Only D (wr.alloc (.map #[] 0)) (((wr.alloc (.map #[] 0)).setCell ⟨D,1,none⟩ (.slice none 0 0)).setCell ⟨D,2,none⟩ (.map (some wr.heap.size))):=((Only.refl _ _).setCell _ _).setCell _ _;have HO:=hid hO;have HLE:=hid hle;have HR:=hid hR;have HLA:=hid (hO.arr (hR.lay.below hbA (Rk hR.lay)) (xe hR.lay hd (by decide)));have GN:=hid (show MapAt (((wr.alloc (.map #[] 0)).setCell ⟨D,1,none⟩ (.slice none 0 0)).setCell ⟨D,2,none⟩ (.map (some wr.heap.size))) wr.heap.size [] from
   (show MapAt (wr.alloc (.map #[] 0)) wr.heap.size [] from ⟨_,MapOf.none,World.ownsMap_made wr Tryz.prog 46 (plainElem (H:=Unit) Tryz.prog 3)⟩).keep (hO.rest _ (by have:=CS hd; omega)))
  have jM:=hid (show Touch [D,gl] w (((wr.alloc (.map #[] 0)).setCell ⟨D,1,none⟩ (.slice none 0 0)).setCell ⟨D,2,none⟩ (.map (some wr.heap.size))) from (hT.trans (Touch.of_below hbA)).trans (Touch.dC hO (by simp)));have kG:=hid hT.size;clear hR hT hi hlt hi2 h1 h2 hO hd hbA hdA hle;go_wp2_with fail;go_end0
  exact ⟨rfl,wr.heap.size,⟨⟨left,HDD.out,HLE.out⟩,HLA.out,HR.out.len,World.ownsRow_nil _ _ _ _,(fun p hp=>by cases hp),HR.out.big,HR.out.acJ,GN.out⟩,jM.out,kG.out⟩
end
section
open Go.RowKit
theorem acV:∀ m:Nat,m<64→(18446744073709551615:Nat) / 2 ^ m % 2=1:=by decide +kernel
theorem JR (F:bY)(ws:bW):∀ i,i≤ws.length→jX 18446744073709551615 (-1) F ws i=jG F (ws.take i)
 | 0,_=>rfl
 | i+1,h=>by
   rw [jX,JR F ws i (by omega),Qk F ws i (by omega),Wy,if_neg (by omega),if_pos (acV _ (by omega))];simp [List.getD,show i<ws.length by omega]
theorem Y2 (D gl bm n:Nat)(vw:Value)(F:bY)(ws:bW)(lim:Int)(w:World)(h:PD w D gl bm n vw F ws lim false)(hlim:lim ≠ 0)(hws:ws.length≤1000000) :
 Calls Tryz.prog 16 #[.pointer (some ⟨D,0,none⟩)] w fun e w'=>e = .returned (.int .i64 0)∧∃ Ib,PD w' D gl Ib n (.slice none 0 0) (jG F ws) [] (xx lim false).1 false∧Touch [D,gl] w w'∧w.heap.size≤Ib:=by
 have hgo:=BB D gl bm n vw F ws lim false w h
 rw [show (xx lim false).2=false by unfold xx; simp [hlim]] at hgo
 generalize (xx lim false).1=lim' at *
 have HG:=hid hgo
 have Nz:=hid hws
 have HC:=hid (JR F ws ws.length (Nat.le_refl _))
 clear h hgo hlim hws
 go_in
 go_wp2_with fail
 refine HG.out.mono ?_
 rintro e w2 ⟨rfl,hP,hO⟩
 have HS:=hid (CW D gl bm n 18446744073709551615 (-1) vw F ws lim' false w2 hP Nz.out (by omega))
 have HO:=hid hO
 clear hP hO HG
 go_wp2_with fail
 refine HS.out.mono ?_
 rintro e w3 ⟨rfl,Ib,hP,hT,hB⟩
 have HP:=hid hP
 have HT:=hid hT
 have HB:=hid hB
 clear hP hT hB HS
 go_wp2_with fail
 go_ret
 have hp:=HP.out
 rw [HC.out,List.take_length] at hp
 exact ⟨rfl,Ib,hp,(Touch.dC HO.out (by simp)).trans HT.out,by have:=HB.out; have:=HO.out.size; omega⟩
theorem UN (D gl bm n keep:Nat)(lN:Int)(vw:Value)(F:bY)(ws:bW)(lim:Int)(dn:Bool)(w:World)(h:PD w D gl bm n vw F ws lim dn)(hws:ws.length≤1000000)(hk:keep<18446744073709551616) :
 Calls Tryz.prog 17 #[.pointer (some ⟨D,0,none⟩),.int .u64 (keep:Int),.int .i64 lN] w fun e w'=>e = .returned (.tuple #[])∧∃ Ib,PD w' D gl Ib n (.slice none 0 0) (jX keep lN F ws ws.length) [] (-1) false∧Touch [D,gl] w w'∧w.heap.size≤Ib:=by
 have HS:=hid (CW D gl bm n keep lN vw F ws lim dn w h hws hk)
 clear h hws hk
 go_in
 go_wp2_with fail
 refine HS.out.mono ?_
 rintro e w3 ⟨rfl,Ib,hP,hT,hB⟩
 obtain ⟨left,hd,hle⟩:=hP.dev
 obtain ⟨_,_,_,d3,d4,d5⟩:=nS hd
 have f3:=qF hd 3
 have f4:=qF hd 4
 have f5:=qF hd 5
 have h3:=heap_setCell_same _ D 5 _ _ (.bool false) (heap_setCell_same _ D 4 _ _ (.int .i64 0) (heap_setCell_same w3 D 3 _ _ (.bool false) hd))
 have hO:Only D w3 (((w3.setCell ⟨D,3,none⟩ (.bool false)).setCell ⟨D,4,none⟩ (.int .i64 0)).setCell ⟨D,5,none⟩ (.bool false)):=(((Only.refl _ _).setCell _ _).setCell _ _).setCell _ _
 have HP:=hid (show PD (((w3.setCell ⟨D,3,none⟩ (.bool false)).setCell ⟨D,4,none⟩ (.int .i64 0)).setCell ⟨D,5,none⟩ (.bool false)) D gl Ib n (.slice none 0 0) (jX keep lN F ws ws.length) [] (-1) false from hP.acL (left':=0) hO h3 (fun h=>by omega) (by omega))
 have HT:=hid (hT.trans (Touch.dC hO (by simp)))
 have HB:=hid hB
 clear hP hT hB HS hd hle h3 hO
 go_wp2_with fail
 go_end0
 exact ⟨rfl,Ib,HP.out,HT.out,HB.out⟩
end
section
open Go.RowKit
theorem MW (F:bY)(a i:Nat)(hi:i<512):(yK F a)[i]? = F[a * 512+i]? := by
 unfold yK;rw [List.getElem?_take_of_lt hi,List.getElem?_drop]
theorem Qs (F l:bY)(o i:Nat)(h:o+l.length≤F.length):(fK F o l)[i]? = if o≤i∧i<o+l.length then l[i - o]? else F[i]? := by
 unfold fK;by_cases h1:i<o
 ·rw [if_neg (by omega),List.append_assoc,List.getElem?_append_left (by rw [List.length_take]; omega),List.getElem?_take_of_lt h1]
 by_cases h2:i<o+l.length
 ·rw [if_pos (by omega),List.append_assoc,List.getElem?_append_right (by rw [List.length_take]; omega),List.length_take,show min o F.length=o by omega,List.getElem?_append_left (by omega)]
 rw [if_neg (by omega),List.getElem?_append_right (by rw [List.length_append,List.length_take]; omega),List.getElem?_drop,List.length_append,List.length_take,show min o F.length=o by omega,show o+l.length+(i - (o+l.length))=i by omega]
theorem Y3 (F l:bY)(a n:Nat)(hF:F.length=n * 512)(ha:a<n)(hl:l.length=512):yK (fK F (a * 512) l) a=l:=by
 have hle:a * 512+512≤F.length:=by omega
 apply List.ext_getElem?;intro i;by_cases hi:i<512
 ·rw [MW _ _ _ hi,Qs _ _ _ _ (by omega),if_pos (by omega),show a * 512+i - a * 512=i by omega]
 rw [List.getElem?_eq_none (by unfold yK; rw [List.length_take]; omega),List.getElem?_eq_none (by omega)]
theorem UO (F l:bY)(a b n:Nat)(hF:F.length=n * 512)(ha:a<n)(hl:l.length≤512)(hne:a ≠ b):yK (fK F (a * 512) l) b=yK F b:=by
 have hle:a * 512+512≤F.length:=by omega
 apply List.ext_getElem?;intro i;by_cases hi:i<512
 ·rw [MW _ _ _ hi,MW _ _ _ hi,Qs _ _ _ _ (by omega),if_neg (by omega)]
 rw [List.getElem?_eq_none (by unfold yK; rw [List.length_take]; omega),List.getElem?_eq_none (by unfold yK; rw [List.length_take]; omega)]
def PO (w0 w:World)(K:List Nat)(D gl n:Nat)(F:bY)(ws:bW)(lim:Int)(dn:Bool):Prop :=
 ∃ bm vw,PD w D gl bm n vw F ws lim dn∧(∀ g ∈ l9 D gl bm vw,w0.heap.size≤g∧g ∉ K)∧(∀ k ∈ K,k<w.heap.size)∧Below w0.heap.size w0 w
def qQ (K:List Nat)(w w':World):Prop:=∀ k ∈ K,w'.heap[k]? = w.heap[k]?
theorem PO.below {w0 w w':World}{K:List Nat}{D gl n:Nat}{F:bY}{ws:bW}{lim:Int}{dn:Bool}(h:PO w0 w K D gl n F ws lim dn)(q:Below w.heap.size w w'):PO w0 w' K D gl n F ws lim dn:=by
 obtain ⟨bm,vw,h,hf,hk,hb⟩:=h;exact ⟨bm,vw,h.below q,hf,fun k hm=>Nat.lt_of_lt_of_le (hk k hm) q.size,hb.trans (q.mono hb.size)⟩
theorem PO.add {w0 w w':World}{K:List Nat}{D gl n:Nat}{F:bY}{ws:bW}{lim:Int}{dn:Bool}(h:PO w0 w K D gl n F ws lim dn)(q:Below w.heap.size w w')(k:Nat)(h1:w.heap.size≤k)(h2:k<w'.heap.size):PO w0 w' (k::K) D gl n F ws lim dn:=by
 obtain ⟨bm,vw,h,hf,hk,hb⟩:=h;refine ⟨bm,vw,h.below q,fun g hg=>⟨(hf g hg).1, ?_⟩, ?_,hb.trans (q.mono hb.size)⟩
 ·have h3:=h.lt g hg
  simp only [List.mem_cons,not_or];exact ⟨by omega,(hf g hg).2⟩
 intro j hj;rcases List.mem_cons.1 hj with rfl | hj
 ·exact h2
 exact Nat.lt_of_lt_of_le (hk j hj) q.size
theorem PO.bel {w0 w:World}{K:List Nat}{D gl n:Nat}{F:bY}{ws:bW}{lim:Int}{dn:Bool}(h:PO w0 w K D gl n F ws lim dn):Below w0.heap.size w0 w:=by
 obtain ⟨_,_,_,_,_,hb⟩:=h; exact hb
theorem Qu:xx (-1) false=(-1,false):=by decide
theorem CX {D gl bm Ib:Nat}{vw:Value}{s:Nat}(hs:s≤Ib):∀ g ∈ l9 D gl Ib (.slice none 0 0),g ∈ l9 D gl bm vw∨s≤g:=by
 intro g hg;simp only [l9,Value.ownBlock,Option.toList_none,List.mem_cons,List.not_mem_nil,or_false] at hg ⊢;rcases hg with h1 | h1 | h1
 ·exact .inl (.inl h1)
 ·exact .inl (.inr (.inl h1))
 exact .inr (by omega)
end
section
open Go.ChangeShapes Go.WideShapes Go.ChangeAt Go.RowKit
section
variable {H:Type} {enc:TypeId×Value→H}
end
end
section
open Go.RowKit
theorem PO.touch {w0 w w':World}{K l:List Nat}{D gl n:Nat}{F:bY}{ws:bW}{lim:Int}{dn:Bool}(h:PO w0 w K D gl n F ws lim dn)(t:Touch l w w')(hl:∀ k ∈ l,k ∈ K∧w0.heap.size≤k):PO w0 w' K D gl n F ws lim dn:=by
 obtain ⟨bm,vw,h,hf,hk,hb⟩:=h;exact ⟨bm,vw,h.touch t (fun g hg e=>(hf g hg).2 (hl g e).1),hf,fun k hm=>Nat.lt_of_lt_of_le (hk k hm) t.size,hb.trans (t.below hb.size (fun k hm=>(hl k hm).2))⟩
theorem PO.grow {w0 w w':World}{K l:List Nat}{D gl n:Nat}{F:bY}{ws:bW}{lim:Int}{dn:Bool}(h:PO w0 w K D gl n F ws lim dn)(t:Touch l w w')(hl:∀ k ∈ l,k ∈ K∧w0.heap.size≤k)(k:Nat)(h1:w.heap.size≤k)(h2:k<w'.heap.size):PO w0 w' (k::K) D gl n F ws lim dn:=by
 obtain ⟨bm,vw,h,hf,hk,hb⟩:=h;refine ⟨bm,vw,h.touch t (fun g hg e=>(hf g hg).2 (hl g e).1),fun g hg=>⟨(hf g hg).1, ?_⟩, ?_,hb.trans (t.below hb.size (fun k hm=>(hl k hm).2))⟩
 ·have h3:=h.lt g hg
  simp only [List.mem_cons,not_or];exact ⟨by omega,(hf g hg).2⟩
 intro j hj;rcases List.mem_cons.1 hj with rfl | hj
 ·exact h2
 exact Nat.lt_of_lt_of_le (hk j hj) t.size
end
end Go.Proofs.YtljjcbmkbmloaaaGreatDoor
