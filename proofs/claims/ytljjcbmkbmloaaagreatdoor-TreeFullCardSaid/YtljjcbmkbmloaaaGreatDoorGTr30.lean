import Derived.Test.YtljjcbmkbmloaaaGreatDoorGTr29
import Derived.Deep.Grids
import Derived.Test.YtljjcbmkbmloaaaGreatDoorGTrA
namespace Go.Proofs.YtljjcbmkbmloaaaGreatDoor
set_option maxHeartbeats 3200000
set_option maxRecDepth 100000
set_option linter.unusedVariables false
open Lib (hid)
section
open Go.RowKit
open Go.Maps (Keyed)
def DJ (gl bm n:Nat)(vw:Value)(lb:Bool)(left:Int)(dn:Bool):Array Value:=#[.slice (some ⟨gl,0,none⟩) n n,vw,.map (some bm),.bool lb,.int .i64 left,.bool dn]
theorem um {w:World}{D t gl bm n:Nat}{vw:Value}{lb:Bool}{left:Int}{dn:Bool}(h:w.heap[D]? = some (.cells (DJ gl bm n vw lb left dn) t (0,0))) :
 w.cell? ⟨D,0,none⟩=some (.slice (some ⟨gl,0,none⟩) n n)∧w.cell? ⟨D,1,none⟩=some vw∧w.cell? ⟨D,2,none⟩=some (.map (some bm))∧w.cell? ⟨D,3,none⟩=some (.bool lb)∧w.cell? ⟨D,4,none⟩=some (.int .i64 left)∧w.cell? ⟨D,5,none⟩=some (.bool dn) :=
 ⟨cell_of_row _ _ _ _ _ _ h,cell_of_row _ _ _ _ _ _ h,cell_of_row _ _ _ _ _ _ h,cell_of_row _ _ _ _ _ _ h,cell_of_row _ _ _ _ _ _ h,cell_of_row _ _ _ _ _ _ h⟩
theorem LH {w:World}{D t gl bm n:Nat}{vw:Value}{lb:Bool}{left:Int}{dn:Bool}(h:w.heap[D]? = some (.cells (DJ gl bm n vw lb left dn) t (0,0)))(k:Nat):w.frozen? ⟨D,k,none⟩=false:=frozen_of_row w D k _ _ h
inductive MapOf:bW→DataW Unit→Prop
 | none:MapOf [] (.map [])
 | more (ws:bW) (m:DataW Unit) (p:Nat×bY):MapOf ws m→MapOf (ws++[p]) (m.put (.int .u32 (p.1:Int)) (.lit (.int .i64 (ws.length:Int))))
def MapAt (w:World)(bm:Nat)(ws:bW):Prop:=∃ m,MapOf ws m∧w.ownsMap Tryz.prog 46 (plainElem Tryz.prog 3) bm ws.length m
structure PD (w:World)(D gl bm n:Nat)(vw:Value)(F:bY)(ws:bW)(lim:Int)(dn:Bool):Prop where
 dev:∃ left,w.heap[D]? = some (.cells (DJ gl bm n vw (decide (0≤lim)) left dn) 104 (0,0))∧(0≤lim→left=lim)
 lay:aW w gl 140 F
 len:F.length=n * 512
 wai:w.ownsRow 0 142 513 vw ws.length (vK ws)
 wok:∀ p ∈ ws,p.2.length=512∧p.1<n
 big:n≤4096
 aii:lim≤9223372036854775807
 map:MapAt w bm ws
def oI (D gl bm:Nat)(vw:Value):List Nat:=D::gl::bm::vw.ownBlock.toList
theorem MapAt.keep {w w':World}{bm:Nat}{ws:bW}(h:MapAt w bm ws)(e:w'.heap[bm]? = w.heap[bm]?):MapAt w' bm ws:=by
 obtain ⟨m,hm,es,clock,hb,F,hs,hD⟩:=h
 exact ⟨m,hm,es,clock,e.trans hb,F,hs,hD⟩
theorem MapAt.is {w:World}{bm:Nat}{ws:bW}(h:MapAt w bm ws):∃ es clock,w.heap[bm]? = some (.map es clock):=by
 obtain ⟨m,hm,es,clock,hb,F,hs,hD⟩:=h
 exact ⟨es,clock,hb⟩
theorem MapAt.lt {w:World}{bm:Nat}{ws:bW}(h:MapAt w bm ws):bm<w.heap.size:=by
 obtain ⟨m,hm,h⟩:=h
 exact h.lt
theorem MapAt.ne {w:World}{bm g t:Nat}{cs:Array Value}{fr:Nat×Nat}{ws:bW}(h:MapAt w bm ws)(q:w.heap[g]? = some (.cells cs t fr)):g ≠ bm:=by
 obtain ⟨es,clock,hb⟩:=h.is
 rintro rfl
 rw [hb] at q
 exact absurd q (by simp)
theorem aij {B n k:Nat}{e:TypeId}{v:Value}{xs:List Value}{w:World}(h:w.ownsRow B e k v n xs):∀ g,v.ownBlock=some g→g<w.heap.size:=by
 rcases h.2 with ⟨rfl,_⟩ | ⟨g',cap,cur,rfl,_,hg',_⟩
 ·intro g hg; simp [Value.ownBlock] at hg
 ·intro g hg
  simp only [Value.ownBlock,Option.some.injEq] at hg
  subst hg
  exact Jr hg'
theorem FU {B n k:Nat}{e:TypeId}{v:Value}{xs:List Value}{w:World}{bm:Nat}{ws:bW}(h:w.ownsRow B e k v n xs)(q:MapAt w bm ws):v.ownBlock ≠ some bm:=by
 rcases h.2 with ⟨rfl,_⟩ | ⟨g',cap,cur,rfl,_,hg',_⟩
 ·simp [Value.ownBlock]
 ·simp only [Value.ownBlock,ne_eq,Option.some.injEq]
  exact q.ne hg'
theorem PD.lt {w:World}{D gl bm n:Nat}{vw:Value}{F:bY}{ws:bW}{lim:Int}{dn:Bool}(h:PD w D gl bm n vw F ws lim dn):∀ g ∈ oI D gl bm vw,g<w.heap.size:=by
 intro g hg
 obtain ⟨left,hd,_⟩:=h.dev
 simp only [oI,List.mem_cons,Option.mem_toList] at hg
 rcases hg with rfl | rfl | rfl | hg
 ·exact Jr hd
 ·exact RN h.lay
 ·exact h.map.lt
 ·exact aij h.wai g hg
theorem PD.touch {w w':World}{l:List Nat}{D gl bm n:Nat}{vw:Value}{F:bY}{ws:bW}{lim:Int}{dn:Bool}(h:PD w D gl bm n vw F ws lim dn)(q:Touch l w w')(hne:∀ g ∈ oI D gl bm vw,g ∉ l):PD w' D gl bm n vw F ws lim dn:=by
 obtain ⟨left,hd,hl⟩:=h.dev
 exact ⟨⟨left,(q.block D (Jr hd) (hne D (by simp [oI]))).trans hd,hl⟩,q.arr h.lay (hne gl (by simp [oI])),h.len,bD h.wai q (fun g hg=>hne g (by simp [oI,hg])),h.wok,h.big,h.aii,h.map.keep (q.block bm h.map.lt (hne bm (by simp [oI])))⟩
theorem PD.below {w w':World}{D gl bm n:Nat}{vw:Value}{F:bY}{ws:bW}{lim:Int}{dn:Bool}(h:PD w D gl bm n vw F ws lim dn)(hb:Below w.heap.size w w'):PD w' D gl bm n vw F ws lim dn :=
 h.touch (l:=[]) (Touch.of_below hb) (fun _ _=>by simp)
theorem PD.agQ {w w':World}{D gl bm n:Nat}{vw:Value}{F:bY}{ws:bW}{lim lim' left':Int}{dn dn':Bool}(h:PD w D gl bm n vw F ws lim dn)(q:Only D w w')(hD:w'.heap[D]? = some (.cells (DJ gl bm n vw (decide (0≤lim')) left' dn') 104 (0,0)))(hle:0≤lim'→left'=lim')(hl:lim'≤9223372036854775807):PD w' D gl bm n vw F ws lim' dn':=by
 obtain ⟨left,hd,_⟩:=h.dev
 exact ⟨⟨left',hD,hle⟩,q.arr h.lay (LG h.lay hd (by decide)),h.len,PU h.wai q (rE h.wai hd (by decide)),h.wok,h.big,hl,h.map.keep (q.rest bm (Ne.symm (h.map.ne hd)))⟩
theorem yD (D gl bm n a:Nat)(vw:Value)(F:bY)(ws:bW)(lim:Int)(dn:Bool)(w:World)(h:PD w D gl bm n vw F ws lim dn)(ha:a<4294967296) :
 Calls Tryz.prog 83 #[.pointer (some ⟨D,0,none⟩),.int .u32 (a:Int)] w fun e w'=>e = .returned (.int .i64 (if a<n then 0 else 2))∧w'=w:=by
 have hn:=h.big
 obtain ⟨left,hd,_⟩:=h.dev
 obtain ⟨c0,_⟩:=um hd
 have aI:(a:Int)<4294967296:=by omega
 have nI:(n:Int)≤4096:=by omega
 have hw:IntKind.u32.wrap (n:Int)=(n:Int):=IntWalk.u32_in _ (by omega)
 by_cases hlt:a<n
 ·rw [if_pos hlt]
  have hbv:decide ((n:Int)≤(a:Int))=false:=by simp; omega
  have aoS:decide (n≤a)=false:=by simp; omega
  clear h ha hn hd hlt
  go_enter Tryz.func83,Tryz.ntmps83
  go_wp2_with fail
  go_ret
  exact ⟨rfl,rfl⟩
 ·rw [if_neg hlt]
  have hbv:decide ((n:Int)≤(a:Int))=true:=by simp; omega
  have aoS:decide (n≤a)=true:=by simp; omega
  clear h ha hn hd hlt
  go_enter Tryz.func83,Tryz.ntmps83
  go_wp2_with fail
  go_ret
  exact ⟨rfl,rfl⟩
theorem zQ (D gl bm n a:Nat)(vw:Value)(F:bY)(ws:bW)(lim:Int)(dn:Bool)(ab:bO)(lb acz:Nat)(w:World)(h:PD w D gl bm n vw F ws lim dn)(ha:a<4294967296) :
 Calls Tryz.prog 152 #[.pointer (some ⟨D,0,none⟩),.int .u32 (a:Int),.slice ab lb acz] w fun e w'=>e = .returned (.int .i64 (if a<n∧lb=512 then 0 else 2))∧w'=w:=by
 have HT:=hid (yD D gl bm n a vw F ws lim dn w h ha)
 by_cases hlt:a<n
 ·have HT2:=hid (show Calls Tryz.prog 83 #[.pointer (some ⟨D,0,none⟩),.int .u32 (a:Int)] w fun e w'=>e = .returned (.int .i64 0)∧w'=w by have q:=HT.out; rwa [if_pos hlt] at q)
  by_cases hl:lb=512
  ·rw [if_pos ⟨hlt,hl⟩]
   subst hl
   clear h ha HT hlt
   go_enter Tryz.func152,Tryz.ntmps152
   go_wp2_with fail
   refine HT2.out.mono ?_
   rintro e w1 ⟨rfl,rfl⟩
   go_wp2_with fail
   go_ret
   exact ⟨rfl,rfl⟩
  ·rw [if_neg (fun h=>hl h.2)]
   have hbv:((lb:Int) == 512)=false:=by simp; omega
   clear h ha HT hlt hl
   go_enter Tryz.func152,Tryz.ntmps152
   go_wp2_with fail
   refine HT2.out.mono ?_
   rintro e w1 ⟨rfl,rfl⟩
   go_wp2_with fail
   go_ret
   exact ⟨rfl,rfl⟩
 ·have HT2:=hid (show Calls Tryz.prog 83 #[.pointer (some ⟨D,0,none⟩),.int .u32 (a:Int)] w fun e w'=>e = .returned (.int .i64 2)∧w'=w by have q:=HT.out; rwa [if_neg hlt] at q)
  rw [if_neg (fun h=>hlt h.1)]
  clear h ha HT hlt
  go_enter Tryz.func152,Tryz.ntmps152
  go_wp2_with fail
  refine HT2.out.mono ?_
  rintro e w1 ⟨rfl,rfl⟩
  go_wp2_with fail
  go_ret
  exact ⟨rfl,rfl⟩
def zS (lim:Int)(dn:Bool):Int×Bool:=(if dn=false∧0<lim then lim - 1 else lim,dn || decide (lim=0))
theorem Js (D gl bm n:Nat)(vw:Value)(F:bY)(ws:bW)(lim:Int)(dn:Bool)(w:World)(h:PD w D gl bm n vw F ws lim dn) :
 Calls Tryz.prog 40 #[.pointer (some ⟨D,0,none⟩)] w fun e w'=>e = .returned (.bool (!(zS lim dn).2))∧PD w' D gl bm n vw F ws (zS lim dn).1 (zS lim dn).2∧Only D w w':=by
 have hl:=h.aii
 obtain ⟨left,hd,hle⟩:=h.dev
 obtain ⟨_,_,_,c3,c4,c5⟩:=um hd
 have f4:=LH hd 4
 have f5:=LH hd 5
 have H:=hid h
 have HD:=hid hd
 rcases Int.lt_trichotomy lim 0 with h0 | h0 | h0
 ·have hb:decide (0≤lim)=false:=by simp; omega
  rw [hb] at c3
  have HG:=hid (show zS lim dn=(lim,dn) by unfold zS; rw [if_neg (by omega)]; simp; omega)
  clear h hd h0 hle hl hb
  cases dn
  all_goals
   go_enter Tryz.func40,Tryz.ntmps40
   go_wp2_with fail
   go_ret
   rw [HG.out]
   exact ⟨rfl,H.out,Only.refl _ _⟩
 ·subst h0
  have e0:=hle (Int.le_refl 0)
  subst e0
  have HG:=hid (show zS 0 dn=(0,true) by unfold zS; simp)
  rw [show decide ((0:Int)≤0)=true from rfl] at c3
  clear h hd hl hle
  go_enter Tryz.func40,Tryz.ntmps40
  go_wp2_with fail
  go_ret
  rw [HG.out]
  have hO:Only D w (w.setCell ⟨D,5,none⟩ (.bool true)):=(Only.refl _ _).setCell _ _
  exact ⟨rfl,H.out.agQ hO (heap_setCell_same _ _ _ _ _ _ HD.out) (fun _=>rfl) (by omega),hO⟩
 ·have hb:decide (0≤lim)=true:=by simp; omega
  rw [hb] at c3
  have e0:=hle (by omega)
  subst e0
  have b1:(left == 0)=false:=by simp; omega
  cases dn
  ·have HG:=hid (show zS left false=(left - 1,false) by unfold zS; rw [if_pos ⟨rfl,h0⟩]; simp; omega)
   have hb2:=hid (show decide (0≤left - 1)=decide (0≤left) by rw [hb]; simp; omega)
   clear h hd hle hb
   go_enter Tryz.func40,Tryz.ntmps40
   go_wp2_with fail
   go_ret
   rw [HG.out]
   have hO:Only D w (w.setCell ⟨D,4,none⟩ (.int .i64 (left - 1))):=(Only.refl _ _).setCell _ _
   exact ⟨rfl,H.out.agQ hO (by rw [hb2.out]; exact heap_setCell_same _ _ _ _ _ _ HD.out) (fun _=>rfl) (by omega),hO⟩
  ·have HG:=hid (show zS left true=(left,true) by unfold zS; simp)
   clear h hd hle hb hl
   go_enter Tryz.func40,Tryz.ntmps40
   go_wp2_with fail
   go_ret
   rw [HG.out]
   exact ⟨rfl,H.out,Only.refl _ _⟩
end
section
open Go.RowKit
open Go.Maps (Keyed)
theorem Uo (g o:Nat)(W:World):(Instr.sliceAt 140 (.pointer (some ⟨g,o,none⟩)) none none none).run Tryz.prog W = .ok (.slice (some ⟨g,o,none⟩) 512 512) W:=by
 obtain ⟨i0,hi0,_⟩:=Option.map_eq_some_iff.1 uN
 simp [Instr.sliceAt,run_underlying Tryz.underlying140,Instr.sureAddr,Instr.sliceBounds,sizeOf,typeInfo,hi0,Addr.add_mid]
theorem Ur (gl n a:Nat)(h:a<n)(W:World):(Instr.indexAt 100 (.slice (some ⟨gl,0,none⟩) n n) (.int .u32 (a:Int))).run Tryz.prog W = .ok (.pointer (some ⟨gl,a * 512,none⟩)) W:=by
 obtain ⟨i0,hi,hs⟩:=Option.map_eq_some_iff.1 (show (Tryz.prog.info? 140).map (·.size)=some 512 by kernel_rfl)
 simp [Instr.indexAt,asIntOf,run_underlying Tryz.underlying100,sizeOf,typeInfo,hi,hs,h,Addr.add_mid]
theorem PV (g len cap i:Nat)(h:i<len)(W:World):(Instr.indexAt 101 (.slice (some ⟨g,0,none⟩) len cap) (.int .i64 (i:Int))).run Tryz.prog W = .ok (.pointer (some ⟨g,i * 513,none⟩)) W:=by
 obtain ⟨i0,hi,hs⟩:=Option.map_eq_some_iff.1 (show (Tryz.prog.info? 142).map (·.size)=some 513 by kernel_rfl)
 simp [Instr.indexAt,asIntOf,run_underlying Tryz.underlying101,sizeOf,typeInfo,hi,hs,h,Addr.add_mid]
theorem rF (l:bY)(h:l.length=512):(Tryz.prog.info? 140).map (·.size)=some (aG l).size:=by rw [show (Tryz.prog.info? 140).map (·.size)=some 512 by kernel_rfl,aN,h]
theorem Yz (W:World):(zeroValue 140).run Tryz.prog W = .ok (.agg (aG (az 512))) W:=by kernel_rfl
theorem Us {w:World}{g o:Nat}{x:Value}{xs:List Value}(h:w.rangeAt g o (x::xs)):w.rangeAt g (o+1) xs:=by
 intro j v hv
 have q:=h (j+1) v (by simpa using hv)
 rwa [show o+(j+1)=o+1+j by omega] at q
theorem PX {ws:bW}{m:DataW Unit}(h:MapOf ws m):Maps.IsMap m:=by
 induction h with
 | none=>exact Maps.isMap_empty
 | more ws m p h ih=>exact ih.put _ _
theorem o8 (F:bY)(ws:bW)(p:Nat×bY)(a:Nat):zO F (ws++[p]) a=if p.1=a then p.2 else zO F ws a:=by
 unfold zO; rw [List.foldl_append]; rfl
theorem acA {ws:bW}{m:DataW Unit}(h:MapOf ws m)(a:Nat)(z:DataW Unit) :
 (Maps.has m (.int .u32 (a:Int))=false∧∀ F,zO F ws a=Yv F a) ∨
 (Maps.has m (.int .u32 (a:Int))=true∧∃ i,∃ h:i<ws.length,m.atKey (.int .u32 (a:Int)) z = .lit (.int .i64 (i:Int))∧(∀ F,zO F ws a=(ws[i]).2)):=by
 induction h with
 | none=>exact .inl ⟨rfl,fun _=>rfl⟩
 | more ws m p hm ih =>
   by_cases hp:p.1=a
   ·refine .inr ⟨?_,ws.length,by simp, ?_,fun F=>?_⟩
    ·rw [hp]; exact Maps.has_put_same (PX hm) (by trivial) _
    ·rw [hp]; exact Maps.atKey_put_same (PX hm) (by trivial) _ _
    ·rw [o8,if_pos hp]; simp
   ·have hne:(Lit.int .u32 (a:Int)) ≠ Lit.int .u32 (p.1:Int):=by
     intro e
     injection e with _ e
     exact hp (by omega)
    rw [Maps.has_put_other hne,Maps.atKey_put_other hne]
    rcases ih with ⟨h1,h2⟩ | ⟨h1,i,hi,h2,h3⟩
    ·exact .inl ⟨h1,fun F=>by rw [o8,if_neg hp]; exact h2 F⟩
    ·refine .inr ⟨h1,i,by simp; omega,h2,fun F=>?_⟩
     rw [o8,if_neg hp,h3 F,List.getElem_append_left hi]
theorem rG (D gl bm n:Nat)(vw:Value)(F:bY)(ws:bW)(lim:Int)(dn:Bool)(w:World)(h:PD w D gl bm n vw F ws lim dn) :
 Calls Tryz.prog 43 #[.pointer (some ⟨D,0,none⟩)] w fun e w'=>e = .returned (.int .i64 (n:Int))∧w'=w:=by
 obtain ⟨left,hd,_⟩:=h.dev
 obtain ⟨c0,_⟩:=um hd
 have hn:=h.big
 have nI:(n:Int)≤4096:=by omega
 clear h hd hn
 go_enter Tryz.func43,Tryz.ntmps43
 go_wp2_with fail
 go_ret
 exact ⟨rfl,rfl⟩
theorem VZ {w:World}{D gl bm n:Nat}{vw:Value}{F:bY}{ws:bW}{lim:Int}{dn:Bool}(h:PD w D gl bm n vw F ws lim dn):∃ a cap,vw = .slice a ws.length cap∧(0<ws.length→∃ g,a=some ⟨g,0,none⟩):=by
 rcases h.wai.2 with ⟨hv,h0⟩ | ⟨g,cap,cur,hv,_⟩
 ·exact ⟨none,0,by rw [hv,h0],fun h=>by omega⟩
 ·exact ⟨_,cap,hv,fun _=>⟨g,rfl⟩⟩
def acB (w:World)(L:bY)(e:Ending)(w':World):Prop:=e = .returned (.tuple #[.slice (some ⟨w.heap.size,0,none⟩) 512 512,.int .i64 0])∧aW w' w.heap.size 140 L∧L.length=512∧Below w.heap.size w w'
theorem Ut (D gl bm n a:Nat)(vw:Value)(F:bY)(ws:bW)(lim:Int)(w:World)(h:PD w D gl bm n vw F ws lim true)(ha:a<n) :
 Calls Tryz.prog 63 #[.pointer (some ⟨D,0,none⟩),.int .u32 (a:Int)] w fun e w'=>e = .returned (.tuple #[.slice none 0 0,.int .i64 7])∧w'=w:=by
 have HT:=hid (show Calls Tryz.prog 83 #[.pointer (some ⟨D,0,none⟩),.int .u32 (a:Int)] w fun e w'=>e = .returned (.int .i64 0)∧w'=w by have hb:=h.big; have q:=yD D gl bm n a vw F ws lim true w h (by omega); rwa [if_pos ha] at q)
 obtain ⟨left,hd,_⟩:=h.dev
 obtain ⟨_,_,_,_,_,c5⟩:=um hd
 clear h ha hd
 go_enter Tryz.func63,Tryz.ntmps63
 go_wp2_with fail
 refine HT.out.mono ?_
 rintro e w1 ⟨rfl,rfl⟩
 go_wp2_with fail
 go_ret2
 exact ⟨rfl,rfl⟩
theorem Jt (a:Nat)(ha:a<4294967296):keyOf Tryz.prog 46 (.int .u32 (a:Int))=some (.int .u32 (a:Int)):=Maps.keyOf_int_mk Tryz.underlying46 (by simp [Lit.wf,IntKind.min,IntKind.max,IntKind.bits,IntKind.signed]; omega)
theorem acC (D gl bm n a:Nat)(vw:Value)(F:bY)(ws:bW)(lim:Int)(w:World)(h:PD w D gl bm n vw F ws lim false)(ha:a<n) :
 Calls Tryz.prog 63 #[.pointer (some ⟨D,0,none⟩),.int .u32 (a:Int)] w (acB w (zO F ws a)):=by
 have hbig:=h.big
 have HT2:=hid (show Calls Tryz.prog 83 #[.pointer (some ⟨D,0,none⟩),.int .u32 (a:Int)] w fun e w'=>e = .returned (.int .i64 0)∧w'=w by have q:=yD D gl bm n a vw F ws lim false w h (by omega); rwa [if_pos ha] at q)
 have hkey:=Jt a (by omega)
 obtain ⟨left,hd,_⟩:=h.dev
 obtain ⟨c0,_,_,_,_,c5⟩:=um hd
 have H:=hid h
 have hsl:∀ g W,_:=fun g W=>Uo g 0 W
 have hix:=Ur gl n a ha
 have hz:=Yz
 have ML:=hid (PQ F a n h.len ha)
 have nK:=hid (show w.rangeAt gl (a * 512) (aG (Yv F a)).toList from h.lay.range (a * 512) 512)
 obtain ⟨SA,hSA⟩:∃ y,Yv F a=y:=⟨_,rfl⟩
 have HSA:=hid hSA
 rw [hSA] at ML nK
 have He:=hid (show (Tryz.prog.info? 140).map (·.size)=some (aG SA).toList.length by rw [Array.length_toList]; exact rF _ ML.out)
 have QP:=hid (show (Tryz.prog.info? 140).map (·.size)=some (aG SA).toList.toArray.size by rw [Array.toArray_toList]; exact rF _ ML.out)
 have WO:=hid (show (aG SA).toList.toArray.all (·.oneCell')=true by rw [Array.toArray_toList]; exact dP SA)
 have EW:=hid (show (aG (az 512)).size=(aG SA).toList.toArray.size by rw [Array.toArray_toList,aN,aN,ML.out]; rfl)
 have GZ:=hid (show (aG SA).toList.toArray=aG SA from Array.toArray_toList)
 generalize (aG SA).toList=SL at *
 generalize aG (az 512)=ZW at *
 clear h ha hd hSA hbig
 go_enter Tryz.func63,Tryz.ntmps63
 go_wp2_with fail
 refine HT2.out.mono ?_
 rintro e w1 ⟨rfl,rfl⟩
 go_upto_region 7 with (first
  | (with_reducible refine wpList_load_mid (op:=⟨some 26,_,_,_,_,_⟩) rfl 140 _ rfl gl (a * 512) rfl SL _ nK.out Tryz.underlying140 rfl He.out ?_)
  | (with_reducible refine wpList_store_row (o:=⟨none,.store _ (.tmp 7) _,_,_,_,_⟩) rfl 140 _ _ rfl w1.heap.size SL.toArray rfl rfl 140 ZW (heap_alloc_new w1 _) QP.out EW.out WO.out ?_))
 clear hix
 generalize hW7:World.setRow _ w1.heap.size _=W7
 have h7:aW W7 w1.heap.size 140 SA∧Below w1.heap.size w1 W7:=by
  obtain ⟨e1,e2,e3⟩:=qU (w:=w1) (old:=ZW) (cs:=SL.toArray) (T:=140)
  rw [← hW7]
  exact ⟨by unfold aW; rw [← GZ.out]; exact e1,e3⟩
 have HR:=H.out.below h7.2
 obtain ⟨left,hd,_⟩:=HR.dev
 obtain ⟨_,c1,c2,_⟩:=um hd
 obtain ⟨m,hm,hown⟩:=HR.map
 obtain ⟨aw,rH,rfl,hag⟩:=VZ HR
 have HAG:=hid hag
 have HR7:=hid HR
 have H7:=hid h7
 have HOWN:=hid hown
 clear hW7 h7 c0 hz c5 HR hd hown hag
 rcases acA hm a (.lit (.int .i64 0)) with ⟨hhas,hr⟩ | ⟨hhas,i,hi,hat,hr⟩
 ·have HR2:=hid (hr F)
  clear hr
  go_wp2_with (first
   | (at_lookup; refine wpList_lookup_own_ok_int _ rfl _ _ 102 rfl 46 3 .i64 (Maps.int_keyed Tryz.underlying46) Tryz.underlying102 Tryz.underlying3 (by kernel_rfl) bm _ m rfl HOWN.out _ _ rfl hkey ?_; intro c hat hwc))
  go_ret2
  exact ⟨rfl,by rw [HR2.out,HSA.out]; exact H7.out.1,by rw [HR2.out,HSA.out]; exact ML.out,H7.out.2⟩
 ·obtain ⟨g,rfl⟩:=HAG.out (by omega)
  have HR2:=hid (hr F)
  have hpw:=HR7.out.wok _ (List.getElem_mem hi)
  have hrg:=Us (Yx (by have q:=HR7.out.wai; exact q) (fun p hp=>(HR7.out.wok p hp).1) i hi)
  have hix:=PV g ws.length rH i hi
  generalize ws[i]=p at *
  have hiI:(i:Int)<(ws.length:Int):=by omega
  generalize ws.length=N at *
  have nK:=hid (show W7.rangeAt g (i * 513+1) (aG p.2).toList from by simpa [vJ,aG] using hrg)
  have He:=hid (show (Tryz.prog.info? 140).map (·.size)=some (aG p.2).toList.length by rw [Array.length_toList]; exact rF _ hpw.1)
  have QP:=hid (show (Tryz.prog.info? 140).map (·.size)=some (aG p.2).toList.toArray.size by rw [Array.toArray_toList]; exact rF _ hpw.1)
  have WO:=hid (show (aG p.2).toList.toArray.all (·.oneCell')=true by rw [Array.toArray_toList]; exact dP p.2)
  have EW:=hid (show (aG SA).size=(aG p.2).toList.toArray.size by rw [Array.toArray_toList,aN,aN,ML.out,hpw.1])
  have GZ:=hid (show (aG p.2).toList.toArray=aG p.2 from Array.toArray_toList)
  have xh:=hid hpw.1
  have HX:=hid (show W7.heap[w1.heap.size]? = some (.cells (aG SA) 140 (0,0)) from H7.out.1)
  have HB:=hid (aF H7.out.2 (Nat.le_refl _) (aG p.2))
  have HN:=hid (show aW (W7.setRow w1.heap.size (aG p.2)) w1.heap.size 140 p.2 from setRow_heap W7 _ _ _ _ _ HX.out)
  generalize (aG p.2).toList=PL at *
  clear hr hpw hrg hi
  generalize hX:w1.heap.size=X at *
  have HXX:=hid hX
  clear hX
  go_upto_region 10 with (first
   | (at_lookup; refine wpList_lookup_own_ok_int _ rfl _ _ 102 rfl 46 3 .i64 (Maps.int_keyed Tryz.underlying46) Tryz.underlying102 Tryz.underlying3 (by kernel_rfl) bm _ m rfl HOWN.out _ _ rfl hkey ?_; intro c hat' hwc; rw [hat] at hat'; injection hat' with e1; injection e1 with _ e1; subst e1)
   | (with_reducible refine wpList_load_mid (op:=⟨some 44,_,_,_,_,_⟩) rfl 140 _ rfl g (i * 513+1) rfl PL _ nK.out Tryz.underlying140 rfl He.out ?_)
   | (with_reducible refine wpList_store_row (o:=⟨none,.store _ (.tmp 7) _,_,_,_,_⟩) rfl 140 _ _ rfl X PL.toArray rfl rfl 140 (aG SA) HX.out QP.out EW.out WO.out ?_))
  rw [GZ.out]
  clear hix c1 c2
  go_wp2_with fail
  go_ret2
  unfold acB
  rw [HXX.out]
  exact ⟨rfl,by rw [HR2.out]; exact HN.out,by rw [HR2.out]; exact xh.out,HB.out⟩
end
section
open Go.RowKit
theorem PY:(az 512).length=512:=List.length_replicate
theorem rJ (p:Nat×bY)(h:p.2.length=512):(je p).size=513:=by rw [je,List.size_toArray,tX p h]
theorem P6 (a:Nat)(l Z:bY)(hl:l.length=512)(hz:Z.length=512):Instr.fill (#[(0,1),(1,512)][·]?) (je (0,Z)) [(0,.int .u32 (a:Int)),(1,.agg (aG l))]=some (je (a,l)):=by
 have z1:(je (0,Z)).size=513:=rJ _ hz
 have z2:(je (a,Z)).size=513:=rJ _ hz
 rw [fU _ _ (je (a,Z)) #[.int .u32 (a:Int)] (.int .u32 (a:Int)) 0 0 1 _ rfl rfl rfl (by rw [z1]; exact Nat.le_of_ble_eq_true rfl) (fun i=>by
  unfold je vJ
  cases i with
  | zero=>simp
  | succ i=>simp)]
 rw [fU _ _ (je (a,l)) (aG l) (.agg (aG l)) 1 1 512 _ rfl rfl (by rw [aN,hl]) (by rw [aN,hl,z2]; decide) (fun i=>by
  unfold je vJ aG
  cases i with
  | zero=>simp
  | succ i =>
    by_cases h:i<l.length
    ·rw [if_pos (by simp; omega)]; simp
    ·rw [if_neg (by simp; omega)]
     simp only [List.getElem?_toArray,List.getElem?_cons_succ]
     rw [List.getElem?_eq_none (by simp; omega),List.getElem?_eq_none (by simp [hz]; omega)])]
 rfl
theorem Uu (a:Nat)(l:bY)(hl:l.length=512):Instr.fill (#[(0,1),(1,512)][·]?) (je (0,az 512)) [(0,.int .u32 (a:Int)),(1,.agg (aG l))]=some (je (a,l)):=P6 a l _ hl PY
theorem LJ (parts:List (Nat×Value)):Tryz.prog.built 142 parts=Instr.fill (#[(0,1),(1,512)][·]?) (je (0,az 512)) parts:=by kernel_rfl
theorem LP (a:Nat)(l:bY)(hl:l.length=512)(W:World):(Instr.build 142 #[(0,.int .u32 (a:Int)),(1,.agg (aG l))]).run Tryz.prog W = .ok (.agg (je (a,l))) W :=
 run_build W 142 _ _ (by rw [LJ]; exact Uu a l hl)
theorem Cm:(Tryz.prog.info? 142).map (fun i=>(i.zero,i.size,i.bytes))=some (some (.agg (je (0,az 512))),513,516):=by kernel_rfl
theorem Uw (p:Nat×bY)(h:p.2.length=512)(W:World):(Instr.buildSlice 101 1 #[(0,.agg (je p))]).run Tryz.prog W = .ok (.slice (some ⟨W.heap.size,0,none⟩) 1 1) (W.alloc (.cells (je p) 142)):=by
 obtain ⟨i,hi,hzz⟩:=Option.map_eq_some_iff.1 Cm
 simp only [Prod.mk.injEq] at hzz
 obtain ⟨hz,hs,hb⟩:=hzz
 refine run_buildSlice W 101 142 1 _ (je p) i _ Tryz.underlying101 hi hz (by rw [hs]; decide) (by rw [hs]; decide) ?_
 rw [hs]
 exact NM _ _ 513 (rJ p h) (by simp)
theorem acD (ad:Addr)(cap:Nat)(W:World):(Instr.arrayAt 140 (.slice (some ad) 512 cap)).run Tryz.prog W = .ok (.pointer (some ad)) W:=by
 simp [Instr.arrayAt,run_underlying Tryz.underlying140]
end
section
open Go.RowKit
open Go.Maps (Keyed)
theorem YA:(Tryz.prog.info? 140).map (fun i=>(i.zero,i.size,i.bytes))=some (some (.agg (aG (az 512))),512,512):=by kernel_rfl
theorem Ux (n:Nat)(h:n≤4096)(w:World):(Instr.makeSlice 100 (.int .i64 (n:Int)) (.int .i64 (n:Int))).run Tryz.prog w = .ok (.slice (some ⟨w.heap.size,0,none⟩) n n) (w.alloc (.cells (aG (az (n * 512))) 140)):=by
 obtain ⟨i,hi,hzz⟩:=Option.map_eq_some_iff.1 YA
 simp only [Prod.mk.injEq] at hzz
 obtain ⟨hz,hs,hb⟩:=hzz
 rw [run_make (P:=Tryz.prog) w 100 140 i _ Tryz.underlying100 hi hz .i64 .i64 n n (by omega) (by omega) (by rw [hb]; omega) (by omega),hs]
 simp only [Int.toNat_natCast]
 rw [show (Value.agg (aG (az 512))).cells=aG (az 512) from rfl,Yy]
theorem afF (n:Nat)(w:World)(h0:16≤n)(h1:n≤4096) :
 Calls Tryz.prog 30 #[.int .i64 (n:Int)] w fun e w'=>e = .returned (.tuple #[.pointer (some ⟨w.heap.size+2,0,none⟩),.int .i64 0])∧PD w' (w.heap.size+2) w.heap.size (w.heap.size+1) n (.slice none 0 0) (az (n * 512)) [] (-1) false∧Below w.heap.size w w':=by
 have i0:(16:Int)≤(n:Int):=by omega
 have i1:(n:Int)≤4096:=by omega
 have hmk:=Ux n h1
 have hmm:∀ W:World,(Instr.makeMap 102 none).run Tryz.prog W = .ok (.map (some W.heap.size)) (W.alloc (.map #[] 0)):=fun W=>run_makeMap _ W
 have H1:=hid h1
 clear h0 h1
 go_enter Tryz.func30,Tryz.ntmps30
 go_wp2_with fail
 clear hmk hmm
 go_ret2
 generalize hO1:Obj.cells (aG (az (n * 512))) 140=O1
 have hb1:Below w.heap.size w (w.alloc O1):=(Below.refl _ _).alloc (Nat.le_refl _) _
 have hsz:(w.alloc O1).heap.size=w.heap.size+1:=by simp
 have hb2:Below w.heap.size w ((w.alloc O1).alloc (.map #[] 0)):=hb1.alloc (by omega) _
 have hsz2:((w.alloc O1).alloc (.map #[] 0)).heap.size=w.heap.size+2:=by simp
 have hmap:=World.ownsMap_made (w.alloc O1) Tryz.prog 46 (plainElem (H:=Unit) Tryz.prog 3)
 rw [hsz] at hmap
 generalize hW2:(w.alloc O1).alloc (.map #[] 0)=W2 at *
 generalize hO2:Obj.cells #[.slice (some ⟨w.heap.size,0,none⟩) n n,.slice none 0 0,.map (some (w.heap.size+1)),.bool false,.int .i64 0,.bool false] 104=O2
 have hb3:Below w.heap.size w (W2.alloc O2):=hb2.alloc (by omega) _
 have hb4:Below W2.heap.size W2 (W2.alloc O2):=(Below.refl _ _).alloc (Nat.le_refl _) _
 have e2:=heap_alloc_new W2 O2
 rw [hsz2] at e2
 have e1:W2.heap[w.heap.size]? = some O1:=by
  rw [← hW2]
  have q:=(Below.refl (w.alloc O1).heap.size (w.alloc O1)).alloc (Nat.le_refl _) (.map #[] 0)
  exact (q.block w.heap.size (by omega)).trans (heap_alloc_new w O1)
 have e3:=(hb4.block w.heap.size (by omega)).trans e1
 have hmap2:MapAt W2 (w.heap.size+1) []:=⟨_,MapOf.none,hmap⟩
 refine ⟨rfl,⟨⟨0,e2.trans (congrArg some hO2.symm),fun h=>by omega⟩,e3.trans (congrArg some hO1.symm),by simp [az],World.ownsRow_nil _ _ _ _,(fun p hp=>by cases hp),H1.out,by omega,hmap2.keep (hb4.block _ (by omega))⟩,hb3⟩
theorem wQ {w:World}{b t:Nat}{l:bY}(h:aW w b t l):w.rangeAt b 0 (aG l).toList:=h.all
theorem P8 (D gl bm n a:Nat)(vw:Value)(F:bY)(ws:bW)(lim:Int)(dn:Bool)(ab:bO)(acz:Nat)(w:World)(h:PD w D gl bm n vw F ws lim dn)(ha:a<n)(hdn:(zS lim dn).2=true) :
 Calls Tryz.prog 137 #[.pointer (some ⟨D,0,none⟩),.int .u32 (a:Int),.slice ab 512 acz] w fun e w'=>e = .returned (.int .i64 7)∧PD w' D gl bm n vw F ws (zS lim dn).1 true∧Only D w w':=by
 have hbig:=h.big
 have HT:=hid (show Calls Tryz.prog 152 #[.pointer (some ⟨D,0,none⟩),.int .u32 (a:Int),.slice ab 512 acz] w fun e w'=>e = .returned (.int .i64 0)∧w'=w by have q:=zQ D gl bm n a vw F ws lim dn ab 512 acz w h (by omega); rwa [if_pos ⟨ha,rfl⟩] at q)
 have hgo:=Js D gl bm n vw F ws lim dn w h
 rw [hdn] at hgo
 have HG:=hid hgo
 clear h ha hbig hgo hdn
 go_enter Tryz.func137,Tryz.ntmps137
 go_wp2_with fail
 refine HT.out.mono ?_
 rintro e w1 ⟨rfl,rfl⟩
 go_wp2_with fail
 refine HG.out.mono ?_
 rintro e w2 ⟨rfl,hP,hO⟩
 have HP:=hid hP
 have HO:=hid hO
 clear hP hO HG
 go_wp2_with fail
 go_ret
 exact ⟨rfl,HP.out,HO.out⟩
theorem Dk {P:Program}{o:Oper}{a:Act}{w:World}{K:Act→World→Prop}{Q:Exit→Act→World→Prop}(t:TypeId)(m x v:Operand)(ho:o.op = .mapUpdate t m x v)(mv key val:Value)(hm:a.eval m=mv)(hx:a.eval x=key)(hv:a.eval v=val)
 (w':World) (hrun:(Instr.mapUpdate t mv key val).run P w = .ok () w') (h:K (a.put o.dst undef) w'):o.wp P a w K Q:=by
 unfold Oper.wp execOp
 simp [ho,hm,hx,hv,hrun,Result.andThen]
 exact h
theorem xB {P:Program}{o:Oper}{a:Act}{w:World}{K:Act→World→Prop}{Q:Exit→Act→World→Prop}(s x:Operand)(t:TypeId)(ho:o.op = .call { callee := .builtin .append,args:=#[s,x],argTypes:=#[t,t] })(sv xv:Value)(hs:a.eval s=sv)(hx:a.eval x=xv)
 (v':Value) (w':World) (hr:(Builtin.append_ #[t,t] o.type #[sv,xv]).run P w = .ok v' w') (h:K (a.put o.dst v') w'):o.wp P a w K Q:=by
 unfold Oper.wp execOp
 simp only [ho,resolve,invoke,builtin,Sem.run_bind,Sem.run_pure,Result.andThen_ok,List.map_toArray,List.map_cons,List.map_nil,hs,hx,hr]
 exact h
theorem yE {P:Program}{o:Oper}{a:Act}{w:World}{K:Act→World→Prop}{Q:Exit→Act→World→Prop}(t:TypeId)(len:Nat)(parts:Array (Nat×Operand))(ho:o.op = .buildSlice t len parts)(vs:Array (Nat×Value))(hv:(parts.map fun (i,x)=>(i,a.eval x))=vs)
 (v:Value) (w':World) (hr:(Instr.buildSlice t len vs).run P w = .ok v w') (h:K (a.put o.dst v) w'):o.wp P a w K Q:=by
 subst hv
 unfold Oper.wp execOp
 simp only [ho,Sem.run_bind,hr,Result.andThen_ok]
 exact h
theorem uo {P:Program}{ops:Array Oper}{S:World→Prop}{op:Oper}{a:Act}(hw:Region.wanted op (yielded ops a.tmps)=true)(t:TypeId)(parts:Array (Nat×Operand))(ho:op.op = .build t parts)(vs:Array (Nat×Value))(v:Value)(hv:(parts.map fun (i,x)=>(i,a.eval x))=vs)
 (hr:∀ W,(Instr.build t vs).run P W = .ok v W):YieldsIf P ops S op v a:=by
 subst hv
 exact .inl ⟨hw,fun w hw'=>by
  unfold execOp
  simp only [ho,Sem.run_bind,Sem.run_pure,Result.andThen_ok,hr]⟩
theorem P9 (ws:bW)(p:Nat×bY):vK (ws++[p])=vK ws++(je p).toList:=by
 unfold vK je
 rw [List.flatMap_append]; simp
theorem YB (D gl bm n a bx cap:Nat)(vw:Value)(F l:bY)(ws:bW)(lim:Int)(w:World)(h:PD w D gl bm n vw F ws lim false)(ha:a<n)(hB:aW w bx 5 l)(hl:l.length=512)(hlim:lim ≠ 0)(hws:ws.length≤1000000) :
 Calls Tryz.prog 137 #[.pointer (some ⟨D,0,none⟩),.int .u32 (a:Int),.slice (some ⟨bx,0,none⟩) 512 cap] w fun e w'=>e = .returned (.int .i64 0) ∧
  ∃ FV,PD w' D gl bm n FV F (ws++[(a,l)]) (zS lim false).1 false∧Touch (oI D gl bm vw) w w'∧(∀ g,FV.ownBlock=some g→vw.ownBlock=some g∨w.heap.size≤g):=by
 have hbig:=h.big
 have HT:=hid (show Calls Tryz.prog 152 #[.pointer (some ⟨D,0,none⟩),.int .u32 (a:Int),.slice (some ⟨bx,0,none⟩) 512 cap] w fun e w'=>e = .returned (.int .i64 0)∧w'=w by have q:=zQ D gl bm n a vw F ws lim false (some ⟨bx,0,none⟩) 512 cap w h (by omega); rwa [if_pos ⟨ha,rfl⟩] at q)
 have hgo:=Js D gl bm n vw F ws lim false w h
 rw [show (zS lim false).2=false by unfold zS; simp [hlim]] at hgo
 generalize (zS lim false).1=lim' at *
 have HG:=hid hgo
 obtain ⟨left0,hd0,_⟩:=h.dev
 have ail:D ≠ bx:=LG hd0 hB (by decide)
 have HB:=hid hB
 have HL:=hid hl
 have HA:=hid ha
 have aoU:=hid hbig
 have wI:(ws.length:Int)≤1000000:=by omega
 have QO:=hid hws
 have jM:=hid (Nat.le_refl w.heap.size)
 have harr:=acD ⟨bx,0,none⟩ cap
 have hkey:=hid (Jt a (by omega))
 have hbuild:=hid (LP a l hl)
 have aeZ:=hid (Uw (a,l) hl)
 have IP:=hid (show (Tryz.prog.info? 140).map (·.size)=some (aG l).toList.length by rw [Array.length_toList]; exact rF _ hl)
 obtain ⟨aw,rH,rfl,_⟩:=VZ h
 generalize hN:ws.length=N at *
 have HN:=hid hN
 clear hgo hlim h hws hbig hd0 hB hl ha hN
 go_enter Tryz.func137,Tryz.ntmps137
 go_wp2_with fail
 refine HT.out.mono ?_
 rintro e w1 ⟨rfl,rfl⟩
 go_wp2_with fail
 refine HG.out.mono ?_
 rintro e w2 ⟨rfl,hP2,hO2⟩
 clear HG HT
 obtain ⟨left,hd,hle⟩:=hP2.dev
 obtain ⟨_,c1,c2,_⟩:=um hd
 obtain ⟨m,hm,hown⟩:=hP2.map
 obtain ⟨w6,hrun,hown6,Vk⟩:=World.ownsMap.update (w:=w2.drew) (t:=102) (e:=3) hown.drew (Maps.int_keyed Tryz.underlying46) Tryz.underlying102 (by rw [HN.out]; have:=QO.out; unfold maxLen; omega) hkey.out
  (plainElem_int (H:=Unit) Tryz.underlying3 (a:=(N:Int)) (by have:=QO.out; simp [Lit.wf,IntKind.min,IntKind.max,IntKind.bits,IntKind.signed]; omega))
 have hDm:D ≠ bm:=hP2.map.ne hd
 have hdm:some D ≠ some bm:=by simpa using hDm
 have aoW:w2.heap.size≤w6.heap.size:=Vk.size
 have k6:∀ k,k<w2.heap.size→k ≠ bm→w6.heap[k]? = w2.heap[k]? := fun k hk hb=>Vk.block k hk (by simpa using hb)
 have hd6:w6.heap[D]? = _:=(k6 D (Jr hd) hDm).trans hd
 have HB2:=hid (hO2.arr HB.out (Ne.symm ail))
 have hbm:bx ≠ bm:=hP2.map.ne HB2.out
 have kX:=hid (show aW w6 bx 5 l from (k6 bx (RN HB2.out) hbm).trans HB2.out)
 have acE:aW w6 gl 140 F:=(k6 gl (RN hP2.lay) (hP2.map.ne hP2.lay)).trans hP2.lay
 have QQ:Touch [D,bm] w1 w6:=(Touch.dQ hO2 (by simp)).trans ⟨Vk.os,Vk.tape,Vk.output,Vk.size,fun k hk hn=>k6 k hk (fun e=>hn (by simp [e]))⟩
 have agR:=bD hP2.wai (l:=[bm]) (w':=w6) ⟨Vk.os,Vk.tape,Vk.output,Vk.size,fun k hk hn=>k6 k hk (fun e=>hn (by simp [e]))⟩ (fun g hg=>by
  have:=FU hP2.wai hP2.map
  simp only [List.mem_cons,List.not_mem_nil,or_false]
  rintro rfl
  exact this hg)
 have aoX:=hid hrun
 have HS0:=hid (show w2.drew.cell? ⟨D,2,none⟩=some (.map (some bm))∧w2.drew.cell? ⟨D,1,none⟩=some (.slice aw N rH) from ⟨c2,c1⟩)
 have S9:=hid (show w6.cell? ⟨D,2,none⟩=some (.map (some bm))∧w6.cell? ⟨D,1,none⟩=some (.slice aw N rH) from ⟨(um hd6).2.2.1,(um hd6).2.1⟩)
 have C6:=hid (show w6.drew.cell? ⟨D,1,none⟩=some (.slice aw N rH) from (um hd6).2.1)
 have HS2:=hid (show w6.drew.rangeAt bx 0 (aG l).toList from wQ (show aW w6.drew bx _ l from kX.out))
 -- the slice of the one write
 have afG:∀ k,k<w6.heap.size→(w6.drew.alloc (.cells (je (a,l)) 142)).heap[k]? = w6.heap[k]? := fun k hk=>((Below.refl w6.heap.size w6).drew.alloc (Nat.le_refl _) _).block k hk
 have agS:(w6.drew.alloc (.cells (je (a,l)) 142)).heap[w6.heap.size]? = some (.cells (je (a,l)) 142 (0,0)):=heap_alloc_new w6.drew _
 have hT8:Touch [] w6 (w6.drew.alloc (.cells (je (a,l)) 142)):=Touch.of_below ((Below.refl w6.heap.size w6).drew.alloc (Nat.le_refl _) _)
 have Ju:=bD agR hT8 (fun g _=>by simp)
 have hd8:=(afG D (Jr hd6)).trans hd6
 have Yc:=hid (show aW (w6.drew.alloc (.cells (je (a,l)) 142)) bx 5 l from (afG bx (RN kX.out)).trans kX.out)
 have V3:aW (w6.drew.alloc (.cells (je (a,l)) 142)) gl 140 F:=(afG gl (RN acE)).trans acE
 have Qa:=hown6.drew.alloc (.cells (je (a,l)) 142)
 have C8:=hid (show (w6.drew.alloc (.cells (je (a,l)) 142)).cell? ⟨D,1,none⟩=some (.slice aw N rH) from (um hd8).2.1)
 have Nc:=hid (show (w6.drew.alloc (.cells (je (a,l)) 142)).rangeAt bx 0 (aG l).toList from wQ Yc.out)
 obtain ⟨i8,hi8,hzz⟩:=Option.map_eq_some_iff.1 Cm
 simp only [Prod.mk.injEq] at hzz
 obtain ⟨hz8,hs8,ama⟩:=hzz
 have hwl:(je (a,l)).toList.length=1 * 513:=by rw [Array.length_toList,rJ _ HL.out]
 generalize hW8:w6.drew.alloc (.cells (je (a,l)) 142)=w8 at *
 obtain ⟨v9,w9,agT,V4,hg9,_,agU⟩:=run_append_own_at (P:=Tryz.prog) w8 0 101 101 142 i8 _ 513 516 Tryz.underlying101 hi8 hz8 hs8 ama (rJ _ PY) (by decide)
  _ N (vK ws) (by rw [← HN.out]; exact Ju) ⟨w6.heap.size,0,none⟩ 1 1 (je (a,l)).toList hwl (fun j u hu=>by
    rw [Addr.add_mid,cell_of_row _ _ _ _ _ _ agS]; simpa using hu) (fun u hu=>Array.all_eq_true_iff_forall_mem.1 (acy (a,l)) u (by simpa using hu)) (by have:=QO.out; unfold maxLen; omega) (by have:=QO.out; omega) (Nat.zero_le _)
 obtain ⟨a9,Dl,rfl⟩:∃ x c,v9 = .slice x (N+1) c:=by
  rcases V4.2 with ⟨hv,h0⟩ | ⟨g,c,cur,hv,_⟩
  ·omega
  ·exact ⟨_,_,hv⟩
 have hvD:Value.ownBlock (.slice aw N rH) ≠ some D:=rE Ju hd8 (by decide)
 have hvB:Value.ownBlock (.slice aw N rH) ≠ some bx:=rE Ju Yc.out (by decide)
 have hvL:Value.ownBlock (.slice aw N rH) ≠ some gl:=rE Ju V3 (by decide)
 have hvM:Value.ownBlock (.slice aw N rH) ≠ some bm:=FU Ju (ws:=ws++[(a,l)]) ⟨_,MapOf.more ws m (a,l) hm,by rw [List.length_append,HN.out]; rw [HN.out] at Qa; exact Qa⟩
 have k9:∀ k,k<w8.heap.size→Value.ownBlock (.slice aw N rH) ≠ some k→w9.heap[k]? = w8.heap[k]? := fun k hk hb=>hg9.block k hk (fun e=>hb e.symm)
 have hd9:=(k9 D (Jr hd8) hvD).trans hd8
 have agV:=hid agT
 have yF:=hid (show w9.rangeAt bx 0 (aG l).toList from wQ (show aW w9 bx _ l from (k9 bx (RN Yc.out) hvB).trans Yc.out))
 have C9:=hid (show w9.cell? ⟨D,1,none⟩=some (.slice aw N rH) from (um hd9).2.1)
 have F9:=hid (LH hd9 1)
 have YC:Only D w9 (w9.setCell ⟨D,1,none⟩ (.slice a9 (N+1) Dl)):=(Only.refl _ _).setCell _ _
 have hB9:aW w9 bx 5 l:=(k9 bx (RN Yc.out) hvB).trans Yc.out
 have lQ:=hid (show (w9.setCell ⟨D,1,none⟩ (.slice a9 (N+1) Dl)).rangeAt bx 0 (aG l).toList from wQ (YC.arr hB9 (Ne.symm ail)))
 have hd10:=heap_setCell_same _ D 1 _ _ (.slice a9 (N+1) Dl) hd9
 have acF:aW w9 gl 140 F:=(k9 gl (RN V3) hvL).trans V3
 have acG:MapAt w8 bm (ws++[(a,l)]):=⟨_,MapOf.more ws m (a,l) hm,by rw [List.length_append,HN.out]; rw [HN.out] at Qa; exact Qa⟩
 have acH:MapAt w9 bm (ws++[(a,l)]):=acG.keep (k9 bm acG.lt hvM)
 have amb:Value.ownBlock (.slice a9 (N+1) Dl) ≠ some D:=rE V4 hd9 (by decide)
 have GI:=hid (show PD (w9.setCell ⟨D,1,none⟩ (.slice a9 (N+1) Dl)) D gl bm n (.slice a9 (N+1) Dl) F (ws++[(a,l)]) lim' false from
  ⟨⟨left,hd10,hle⟩,YC.arr acF (LG acF hd9 (by decide)),hP2.len,by
    rw [P9,List.length_append,HN.out]
    exact PU V4 YC amb,fun p hp=>by
    rcases List.mem_append.1 hp with hp | hp
    ·exact hP2.wok p hp
    ·simp only [List.mem_cons,List.not_mem_nil,or_false] at hp
     subst hp
     exact ⟨HL.out,HA.out⟩,aoU.out,hP2.aii,acH.keep (YC.rest bm (Ne.symm (acH.ne hd9)))⟩)
 have HTT:=hid (show Touch (oI D gl bm (.slice aw N rH)) w1 (w9.setCell ⟨D,1,none⟩ (.slice a9 (N+1) Dl)) from by
  have t1:Touch (oI D gl bm (.slice aw N rH)) w1 w6:=QQ.more (by intro k hk; simp only [List.mem_cons,List.not_mem_nil,or_false] at hk; rcases hk with rfl | rfl <;> simp [oI])
  have t2:Touch (oI D gl bm (.slice aw N rH)) w6 w8:=hT8.more (by simp)
  have t3:Touch (oI D gl bm (.slice aw N rH)) w8 w9:=⟨hg9.os,hg9.tape,hg9.output,hg9.size,fun k hk hn=>k9 k hk (fun e=>hn (by simp [oI,e]))⟩
  exact ((t1.trans t2).trans t3).trans (Touch.dQ YC (by simp [oI])))
 have HLOC:=hid (show ∀ g,Value.ownBlock (.slice a9 (N+1) Dl)=some g→Value.ownBlock (.slice aw N rH)=some g∨w1.heap.size≤g from fun g hg=>by
  rcases agU with e | e
  ·exact .inl (e ▸ hg)
  ·rw [hg] at e
   injection e with e
   have h8:=hT8.size
   have h6:=QQ.size
   exact .inr (by omega))
 have aoZ:=Nc
 rw [← hW8] at Nc
 clear hP2 hO2 hd hle hm hown hown6 Vk hrun hdm aoW k6 hd6 acE QQ agR afG agS hT8 Ju hd8 V3 Qa hi8 hz8 hs8 ama hwl agT V4 hg9 agU hvD hvB hvL hvM k9 hd9 YC hB9 hd10 acF acG acH amb c1 c2 ail hbm hDm
 go_upto_region 6 with fail
 try simp only [Act.put]
 refine wp_region_noPanic ?_
 refine wp_region_held_drew (S:=fun W=>W.cell? ⟨D,2,none⟩=some (.map (some bm))∧W.cell? ⟨D,1,none⟩=some (.slice aw N rH)) (by kernel_rfl) (HS0.out) (fun hHeld=>?_)
 refine tR 0 18 (h:=tR 1 19 (h:=tR 2 20 (h:=?_)))
 refine tK 3 21 ?_ rfl (Or.inl ⟨by rfl, ?_⟩) ?_
 rotate_left 1
 ·(intro w' hSw; have hcell:=hSw.1; clear hSw; go_simp; try with_reducible rfl)
 try simp only [Act.put,pZ]
 refine tR 4 22 (h:=tR 5 23 (h:=tR 6 24 (h:=tR 7 25 (h:=?_))))
 refine tK 8 26 ?_ rfl (Or.inl ⟨by rfl, ?_⟩) ?_
 rotate_left 1
 ·(intro w' hSw; have hcell:=hSw.2; clear hSw; go_simp; try with_reducible rfl)
 try simp only [Act.put,pZ]
 refine tR 9 27 (h:=?_)
 clear hHeld
 refine rD 10 rfl fun K hK=>?_
 rw [if_pos (by kernel_rfl)]
 refine Dk (o:=⟨none,.mapUpdate _ (.tmp 21) (.tmp 22) (.tmp 27),_,_,_,_⟩) _ _ _ _ rfl _ _ _ rfl rfl rfl w6 aoX.out ?_
 refine hK.out _ _ (S9.out) (fun hHeld=>?_)
 clear hK K hHeld
 try simp only [Act.put]
 refine wpAnyH_done (by decide +kernel) ?_ _
 refine NoPanic.normal ?_
 go_upto_region 7 with fail
 try simp only [Act.put]
 refine wp_region_noPanic ?_
 refine wp_region_held_drew (S:=fun W=>W.rangeAt bx 0 (aG l).toList) (by kernel_rfl) (HS2.out) (fun hHeld=>?_)
 refine tR 0 28 (h:=tR 1 29 (h:=tR 2 30 (h:=tR 3 31 (h:=tR 5 33 (h:=tR 6 34 (h:=tR 7 35 (h:=?_)))))))
 refine tK 8 36 _ rfl (yieldsIf_load_mid (by rfl) _ _ rfl (bx) (0) rfl (aG l).toList _ (fun w' h=>h) Tryz.underlying140 rfl IP.out) ?_
 try simp only [Act.put,pZ,Array.toArray_toList]
 refine tK 9 37 _ rfl (uo (by rfl) _ _ rfl #[(0,.int .u32 (a:Int)),(1,.agg (aG l))] _ (by simp [Act.eval]) hbuild.out) ?_
 try simp only [Act.put,pZ]
 clear hHeld
 refine wpAnyH_ready (rs:=[4,10]) (by decide +kernel) (by simp) ?_
 refine AllReadyH.cons rfl (fun K hK=>?_) (AllReadyH.cons rfl (fun K hK=>?_) AllReadyH.nil)
 ·have co':=C6.out
  go_simp
  refine hK.out _ _ (HS2.out) (fun hHeld=>?_)
  clear hK K co' hHeld
  try simp only [Act.put,pZ]
  refine rD 10 rfl fun K hK=>?_
  rw [if_pos (by kernel_rfl)]
  refine yE (o:=⟨some 38,_,_,_,_,_⟩) _ _ _ rfl #[(0,.agg (je (a,l)))] (by simp [Act.eval]) _ _ (aeZ.out w6.drew) ?_
  refine hK.out _ (w6.drew.alloc (.cells (je (a,l)) 142)) (Nc.out) (fun hHeld=>?_)
  clear hK K hHeld
  try simp only [Act.put,pZ]
  rw [hW8]
  refine rD 11 rfl fun K hK=>?_
  rw [if_pos (by kernel_rfl)]
  refine xB (o:=⟨some 39,_,_,_,_,_⟩) _ _ _ rfl (.slice aw N rH) (.slice (some ⟨w6.heap.size,0,none⟩) 1 1) rfl rfl (.slice a9 (N+1) Dl) w9 agV.out ?_
  refine hK.out _ _ (yF.out) (fun hHeld=>?_)
  clear hK K
  try simp only [Act.put,pZ]
  refine tR 12 40 (h:=tR 13 41 (h:=?_))
  clear hHeld
  refine rD 14 rfl fun K hK=>?_
  have co':=C9.out
  have fo':=F9.out
  go_simp
  refine hK.out _ _ (lQ.out) (fun hHeld=>?_)
  clear hK K co' fo' hHeld
  try simp only [Act.put,pZ]
  refine wpAnyH_done (by decide +kernel) ?_ _
  refine NoPanic.normal ?_
  go_wp2_with fail
  go_ret
  exact ⟨rfl,.slice a9 (N+1) Dl,GI.out,HTT.out,HLOC.out⟩
 ·rw [if_pos (by kernel_rfl)]
  refine yE (o:=⟨some 38,_,_,_,_,_⟩) _ _ _ rfl #[(0,.agg (je (a,l)))] (by simp [Act.eval]) _ _ (aeZ.out w6.drew) ?_
  refine hK.out _ (w6.drew.alloc (.cells (je (a,l)) 142)) (Nc.out) (fun hHeld=>?_)
  clear hK K hHeld
  try simp only [Act.put,pZ]
  rw [hW8]
  refine rD 4 rfl fun K hK=>?_
  have co':=C8.out
  go_simp
  refine hK.out _ _ (aoZ.out) (fun hHeld=>?_)
  clear hK K co' hHeld
  try simp only [Act.put,pZ]
  refine rD 11 rfl fun K hK=>?_
  rw [if_pos (by kernel_rfl)]
  refine xB (o:=⟨some 39,_,_,_,_,_⟩) _ _ _ rfl (.slice aw N rH) (.slice (some ⟨w6.heap.size,0,none⟩) 1 1) rfl rfl (.slice a9 (N+1) Dl) w9 agV.out ?_
  refine hK.out _ _ (yF.out) (fun hHeld=>?_)
  clear hK K
  try simp only [Act.put,pZ]
  refine tR 12 40 (h:=tR 13 41 (h:=?_))
  clear hHeld
  refine rD 14 rfl fun K hK=>?_
  have co':=C9.out
  have fo':=F9.out
  go_simp
  refine hK.out _ _ (lQ.out) (fun hHeld=>?_)
  clear hK K co' fo' hHeld
  try simp only [Act.put,pZ]
  refine wpAnyH_done (by decide +kernel) ?_ _
  refine NoPanic.normal ?_
  go_wp2_with fail
  go_ret
  exact ⟨rfl,.slice a9 (N+1) Dl,GI.out,HTT.out,HLOC.out⟩
end
section
open Go.RowKit
end
section
open Go.RowKit
end
section
open Go.RowKit
def PO (w0 w:World)(K:List Nat)(D gl n:Nat)(F:bY)(ws:bW)(lim:Int)(dn:Bool):Prop :=
 ∃ bm vw,PD w D gl bm n vw F ws lim dn∧(∀ g ∈ oI D gl bm vw,w0.heap.size≤g∧g ∉ K)∧(∀ k ∈ K,k<w.heap.size)∧Below w0.heap.size w0 w
def qB (K:List Nat)(w w':World):Prop:=∀ k ∈ K,w'.heap[k]? = w.heap[k]?
theorem PO.below {w0 w w':World}{K:List Nat}{D gl n:Nat}{F:bY}{ws:bW}{lim:Int}{dn:Bool}(h:PO w0 w K D gl n F ws lim dn)(q:Below w.heap.size w w'):PO w0 w' K D gl n F ws lim dn:=by
 obtain ⟨bm,vw,h,hf,hk,hb⟩:=h
 exact ⟨bm,vw,h.below q,hf,fun k hm=>Nat.lt_of_lt_of_le (hk k hm) q.size,hb.trans (q.mono hb.size)⟩
theorem PO.add {w0 w w':World}{K:List Nat}{D gl n:Nat}{F:bY}{ws:bW}{lim:Int}{dn:Bool}(h:PO w0 w K D gl n F ws lim dn)(q:Below w.heap.size w w')(k:Nat)(h1:w.heap.size≤k)(h2:k<w'.heap.size):PO w0 w' (k::K) D gl n F ws lim dn:=by
 obtain ⟨bm,vw,h,hf,hk,hb⟩:=h
 refine ⟨bm,vw,h.below q,fun g hg=>⟨(hf g hg).1, ?_⟩, ?_,hb.trans (q.mono hb.size)⟩
 ·have h3:=h.lt g hg
  simp only [List.mem_cons,not_or]
  exact ⟨by omega,(hf g hg).2⟩
 ·intro j hj
  rcases List.mem_cons.1 hj with rfl | hj
  ·exact h2
  ·exact Nat.lt_of_lt_of_le (hk j hj) q.size
theorem PO.bel {w0 w:World}{K:List Nat}{D gl n:Nat}{F:bY}{ws:bW}{lim:Int}{dn:Bool}(h:PO w0 w K D gl n F ws lim dn):Below w0.heap.size w0 w:=by
 obtain ⟨_,_,_,_,_,hb⟩:=h; exact hb
theorem acI:zS (-1) false=(-1,false):=by decide
end
section
open Go.ChangeShapes Go.WideShapes Go.ChangeAt Go.RowKit
section
variable {H:Type} {enc:TypeId×Value→H}
end
end
section
open Go.RowKit
theorem PO.touch {w0 w w':World}{K l:List Nat}{D gl n:Nat}{F:bY}{ws:bW}{lim:Int}{dn:Bool}(h:PO w0 w K D gl n F ws lim dn)(t:Touch l w w')(hl:∀ k ∈ l,k ∈ K∧w0.heap.size≤k):PO w0 w' K D gl n F ws lim dn:=by
 obtain ⟨bm,vw,h,hf,hk,hb⟩:=h
 exact ⟨bm,vw,h.touch t (fun g hg e=>(hf g hg).2 (hl g e).1),hf,fun k hm=>Nat.lt_of_lt_of_le (hk k hm) t.size,hb.trans (t.below hb.size (fun k hm=>(hl k hm).2))⟩
theorem PO.grow {w0 w w':World}{K l:List Nat}{D gl n:Nat}{F:bY}{ws:bW}{lim:Int}{dn:Bool}(h:PO w0 w K D gl n F ws lim dn)(t:Touch l w w')(hl:∀ k ∈ l,k ∈ K∧w0.heap.size≤k)(k:Nat)(h1:w.heap.size≤k)(h2:k<w'.heap.size):PO w0 w' (k::K) D gl n F ws lim dn:=by
 obtain ⟨bm,vw,h,hf,hk,hb⟩:=h
 refine ⟨bm,vw,h.touch t (fun g hg e=>(hf g hg).2 (hl g e).1),fun g hg=>⟨(hf g hg).1, ?_⟩, ?_,hb.trans (t.below hb.size (fun k hm=>(hl k hm).2))⟩
 ·have h3:=h.lt g hg
  simp only [List.mem_cons,not_or]
  exact ⟨by omega,(hf g hg).2⟩
 ·intro j hj
  rcases List.mem_cons.1 hj with rfl | hj
  ·exact h2
  ·exact Nat.lt_of_lt_of_le (hk j hj) t.size
end
end Go.Proofs.YtljjcbmkbmloaaaGreatDoor
