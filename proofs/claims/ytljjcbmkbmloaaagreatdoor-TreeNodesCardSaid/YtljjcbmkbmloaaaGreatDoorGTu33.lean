import Derived.Test.YtljjcbmkbmloaaaGreatDoorGTu5
import Derived.Test.YtljjcbmkbmloaaaGreatDoorGTu32
import Derived.Test.YtljjcbmkbmloaaaGreatDoorGTu11
import Derived.Test.YtljjcbmkbmloaaaGreatDoorGTu19
import Derived.Test.YtljjcbmkbmloaaaGreatDoorGTuA
namespace Go.Proofs.YtljjcbmkbmloaaaGreatDoor
set_option maxHeartbeats 3200000
set_option maxRecDepth 100000
set_option linter.unusedVariables false
open Lib (hid)
open Go.ChangeShapes Go.WideShapes Go.ChangeAt Go.RowKit
def fU (k:bY)(a c:Nat)(l:bY):bY:=mg l (Io (keysL k) (qi 8 a++qi 4 c) 0 512)
theorem jc (k:bY)(a c:Nat)(l:bY)(hl:l.length=512):(fU k a c l).length=512:=iQ _ _ _ hl (by rw [qp])
theorem Qz (k:bY)(a c:Nat)(l:bY)(hl:l.length=512):fU k a c (fU k a c l)=l:=Ti _ _ (by rw [qp,hl])
def eP (a c:Nat)(l:bI):ay:=if h:c<4294967296∧a<18446744073709551616 then ⟨(c:Int),(a:Int),di l,by omega,by omega,⟨dO l,oO l⟩⟩ else ai
theorem qU (a c:Nat)(l:bI)(hc:c<4294967296)(ha:a<18446744073709551616):(eP a c l).ad=(c:Int)∧(eP a c l).bi=(a:Int)∧(eP a c l).su=di l:=by
 unfold eP;rw [dif_pos ⟨hc,ha⟩];exact ⟨rfl,rfl,rfl⟩
theorem ac3 (k m Z:List Value)(hk:k.length=32)(hm:m.length=32)(hz:Z.length=64) :
 Instr.fill (#[(0,32),(32,32)][·]?) Z.toArray [(0,.agg k.toArray),(1,.agg m.toArray)]=some (k++m).toArray:=by
 rw [gq _ _ (k++Z.drop 32).toArray k.toArray (.agg k.toArray) 0 0 32 _ rfl rfl (by simp [hk]) (by simp [hk,hz]) (fun i=>by
  simp only [List.getElem?_toArray,List.size_toArray,hk,Nat.sub_zero];by_cases h:i<32
  ·rw [if_pos (by omega),List.getElem?_append_left (by omega)]
  rw [if_neg (by omega),List.getElem?_append_right (by omega),List.getElem?_drop,hk,show 32+(i - 32)=i by omega])]
 rw [gq _ _ (k++m).toArray m.toArray (.agg m.toArray) 1 32 32 _ rfl rfl (by simp [hm]) (by simp [hk,hz,hm]) (fun i=>by
  simp only [List.getElem?_toArray,List.size_toArray,hm];by_cases h:i<32
  ·rw [if_neg (by omega),List.getElem?_append_left (by omega),List.getElem?_append_left (by omega)]
  rw [List.getElem?_append_right (by omega),hk];by_cases h2:i<64
  ·rw [if_pos (by omega)]
  rw [if_neg (by omega),List.getElem?_eq_none (by omega),List.getElem?_eq_none (by simp [hk,hz]; omega)])]
 rfl
theorem WG (k m:bI):bg (k++m)=(k.map (Value.int .u8)++m.map (Value.int .u8)).toArray:=by unfold bg; rw [List.map_append]
def QA (w:World)(b t:Nat)(k m:bY):Prop:=aU w b t (k++m)
theorem QA.enc {w:World}{b t:Nat}{k m:bY}(h:QA w b t k m)(hk:k.length=32):w.rangeAt b 0 (aF k).toList:=by
 have:=aU.range h 0 32;rwa [List.drop_zero,← hk,List.take_left] at this
theorem QA.below {w w':World}{b t B:Nat}{k m:bY}(h:QA w b t k m)(hb:Below B w w')(hg:b<B):QA w' b t k m:=aU.below h hb hg
theorem xh (l:bY)(h:l.length=64):(Tryz.prog.info? 60).map (·.size)=some (aF l).size:=by rw [show (Tryz.prog.info? 60).map (·.size)=some 64 by kernel_rfl,aN,h]
theorem Y9 (l:bY)(h:l.length=32):(Tryz.prog.info? 58).map (·.size)=some (aF l).toList.length:=by rw [Array.length_toList]; exact rC l h
theorem GX (l:bI):(ZQ l).length=l.length:=by simp [ZQ]
theorem Dc (k m:bY)(a c:Nat)(l:bY)(ad:bO)(cap:Nat)(w:World)(hk:k.length=32)(hl:l.length=512)(hB:BS w (.slice ad 512 cap) (l.map yv))(hc:c<4294967296) :
 Calls Tryz.prog 85 #[.agg (aF (k++m)),.int .u64 (a:Int),.int .u32 (c:Int),.slice ad 512 cap] w fun e w'=>∃ g,w.heap.size≤g∧e = .returned (.slice (some ⟨g,0,none⟩) 512 512)∧aU w' g 5 (fU k a c l)∧Below w.heap.size w w':=by
 have hb1:=(Below.refl w.heap.size w).alloc (Nat.le_refl _) (.cells (aF (k++m)) 60)
 have hA1:=heap_alloc_new w (.cells (aF (k++m)) 60)
 have HN:=hid (fun W=>aaO a c W hc)
 have HIK:=hid (Y9 k hk)
 have HC:=hid (fun (W:World) (hb:Below w.heap.size w W)=>aaQ k (qi 8 a++qi 4 c) l ad 512 cap W (hB.kept hb) hl (by decide) hk (by simp [fM]))
 obtain ⟨S,hS⟩:∃ y,mg l (Io (keysL k) (qi 8 a++qi 4 c) 0 512)=y:=⟨_,rfl⟩
 have hS2:fU k a c l=S:=hS
 rw [hS] at HC
 rw [hS2]
 generalize qi 8 a++qi 4 c=NL at *
 generalize hw1:w.alloc (.cells (aF (k++m)) 60)=w1 at *
 have xO:=hid (show ∀ W,Below w1.heap.size w1 W→W.rangeAt w.heap.size 0 (aF k).toList from fun W hW=>QA.enc (QA.below (show QA w1 w.heap.size 60 k m from hA1) hW (lt_of_block hA1)) hk)
 have HB1:=hid hb1
 clear hb1 hA1 hS hS2 hk hl hB hc
 generalize aF (k++m)=KM at *
 go_in
 go_upto_region 1 with fail
 try rw [hw1]
 clear hw1
 try simp only [Act.put]
 refine wp_region_noPanic ?_
 refine wp_region_held_drew (S:=fun W=>W.rangeAt w.heap.size 0 (aF k).toList) (by kernel_rfl) (xO.out _ (Below.refl _ w1).drew) (fun hHeld=>?_)
 refine tR 0 12 (h:=?_)
 refine tK 1 13 _ rfl (yieldsIf_load_mid (by rfl) _ _ rfl (w.heap.size) (0) rfl (aF k).toList _ (fun w' h=>h) Tryz.underlying58 rfl HIK.out) ?_
 try simp only [Act.put,pZ,Array.toArray_toList]
 refine tR 2 14 (h:=tR 3 15 (h:=tR 5 17 (h:=?_)))
 clear hHeld
 refine rD 4 rfl fun K hK=>?_
 go_simp
 go_at_call 117
 refine (HN.out _).mono ?_
 rintro e w2 ⟨rfl,hb⟩
 have HB2:=hid ((Below.refl w1.heap.size w1).drew.trans (hb.mono (Below.refl w1.heap.size w1).drew.size))
 clear hb
 go_wp2_with fail
 refine hK.out _ _ (xO.out _ HB2.out) (fun hHeld=>?_)
 clear hK K
 try simp only [Act.put,pZ]
 clear hHeld
 refine rD 6 rfl fun K hK=>?_
 go_simp
 go_at_call 116
 refine (HC.out _ (HB1.out.trans (HB2.out.mono HB1.out.size))).mono ?_
 rintro e w3 ⟨rfl,hA3,hb⟩
 have HB3:=hid (HB2.out.trans (hb.mono HB2.out.size))
 have HG:=hid (show w.heap.size≤w2.heap.size+1+1+1+1 by have:=HB1.out.size; have:=HB2.out.size; omega)
 generalize w2.heap.size+1+1+1+1=G3 at *
 have Am:=hid hA3
 clear hb hA3
 go_wp2_with fail
 refine hK.out _ _ (xO.out _ HB3.out) (fun hHeld=>?_)
 clear hK K
 try simp only [Act.put,pZ]
 refine tR 7 11 (h:=tR 8 19 (h:=tR 9 20 (h:=tR 10 9 (h:=tR 11 10 (h:=?_)))))
 clear hHeld
 refine wpAnyH_done (by decide +kernel) ?_ _
 refine NoPanic.normal ?_
 go_wp2_with fail
 go_ret
 exact ⟨G3,HG.out,rfl,Am.out,HB1.out.trans (HB3.out.mono HB1.out.size)⟩
theorem QB (k m:bI)(hk:k.length=32)(hm:m.length=32)(W:World):(Instr.build 60 #[(0,.agg (bg k)),(1,.agg (bg m))]).run Tryz.prog W = .ok (.agg (bg (k++m))) W:=by
 refine run_build W 60 _ _ ?_;rw [show ∀ parts:List (Nat×Value),Tryz.prog.built 60 parts=Instr.fill (#[(0,32),(32,32)][·]?) (bg (List.replicate 64 0)) parts from fun _=>by kernel_rfl];rw [WG];exact ac3 _ _ _ (by simp [hk]) (by simp [hm]) (by simp)
theorem Za (x:bI)(v:Value)(w:World)(hv:BS w v x)(hr:Room v)(hK:KT w)(hn:x.length≤140737488355328) :
 Calls Tryz.prog 19 #[v] w fun e w'=>e = .returned (.agg (bg (gJ x [101,110,99]++gJ x [109,97,99])))∧Below w.heap.size w w':=by
 have hb1:=(Below.refl w.heap.size w).alloc (Nat.le_refl _) (.cells (bg (List.replicate 64 0)) 60)
 have hA1:=heap_alloc_new w (.cells (bg (List.replicate 64 0)) 60)
 have HD1:=hid (fun (W:World) (hb:Below w.heap.size w W)=>show Calls Tryz.prog 44 #[v,.string ⟨#[101,110,99]⟩] W fun e w'=>e = .returned (.agg (bg (gJ x [101,110,99])))∧Below W.heap.size W w' from GV x v ⟨#[101,110,99]⟩ W (hK.below hb hK.pos) (hv.kept hb) hr hn (by decide))
 have HD2:=hid (fun (W:World) (hb:Below w.heap.size w W)=>show Calls Tryz.prog 44 #[v,.string ⟨#[109,97,99]⟩] W fun e w'=>e = .returned (.agg (bg (gJ x [109,97,99])))∧Below W.heap.size W w' from GV x v ⟨#[109,97,99]⟩ W (hK.below hb hK.pos) (hv.kept hb) hr hn (by decide))
 have Iz:=hid (QB (gJ x [101,110,99]) (gJ x [109,97,99]) (dU _ _) (dU _ _))
 have SE:=hid (show (Tryz.prog.info? 60).map (·.size)=some (bg (gJ x [101,110,99]++gJ x [109,97,99])).size by rw [show (Tryz.prog.info? 60).map (·.size)=some 64 by kernel_rfl,aT,List.length_append,dU,dU])
 have SL:=hid (show (bg (List.replicate 64 0)).size=(bg (gJ x [101,110,99]++gJ x [109,97,99])).size by rw [aT,aT,List.length_append,dU,dU,List.length_replicate])
 have SO:=hid (gK (gJ x [101,110,99]++gJ x [109,97,99]))
 have hz:∀ W:World,(zeroValue 60).run Tryz.prog W = .ok (.agg (bg (List.replicate 64 0))) W:=fun W=>by kernel_rfl
 generalize bg (gJ x [101,110,99]++gJ x [109,97,99])=KM at *
 generalize bg (gJ x [101,110,99])=K1 at *
 generalize bg (gJ x [109,97,99])=M1 at *
 generalize bg (List.replicate 64 0)=ZK at *
 generalize hw1:w.alloc (.cells ZK 60)=w1 at *
 have HB1:=hid hb1
 have HA1:=hid hA1
 clear hb1 hA1 hv hr hn
 go_in
 go_upto_region 1 with fail
 try rw [hw1]
 clear hw1 hz
 go_wp2_with fail
 refine (HD1.out w1 HB1.out).mono ?_
 rintro e w2 ⟨rfl,hb2⟩
 have HB2:=hid (HB1.out.trans (hb2.mono HB1.out.size))
 have HA2:=hid ((hb2.block w.heap.size (lt_of_block HA1.out)).trans HA1.out)
 clear hb2 HD1
 go_wp2_with fail
 refine (HD2.out w2 HB2.out).mono ?_
 rintro e w3 ⟨rfl,hb3⟩
 have HB3:=hid (HB2.out.trans (hb3.mono HB2.out.size))
 have Am:=hid ((hb3.block w.heap.size (lt_of_block HA2.out)).trans HA2.out)
 clear hb3 HD2 HA1 HA2 HB1 HB2
 go_wp2_with (first
  | (with_reducible refine bD (o:=⟨some 7,_,_,_,_,_⟩) rfl 60 _ rfl #[(0,.agg K1),(1,.agg M1)] (by simp [Act.eval]) (.agg KM) (Iz.out _) ?_)
  | (with_reducible refine wpList_store_row (o:=⟨none,.store _ (.tmp 2) _,_,_,_,_⟩) rfl 60 _ _ rfl w.heap.size KM rfl rfl 60 ZK Am.out SE.out SL.out SO.out ?_))
 exact bodyPost_ret (v := .agg KM) (results_cell_row Tryz.results19 _ _ w.heap.size 60 KM (0,0) _ rfl (setRow_heap _ w.heap.size _ KM _ _ Am.out) Tryz.underlying60 rfl SE.out) rfl ⟨rfl,aG HB3.out (Nat.le_refl _) _⟩
def Df (P:ay)(l:bI):Bool:=decide (l.length=512) && decide (di l=P.su)
theorem Zb (l:bI)(h:l.length=32):(Tryz.prog.info? 49).map (·.size)=some (l.map (Value.int .u8)).length:=by
 rw [show (Tryz.prog.info? 49).map (·.size)=some 32 by kernel_rfl,List.length_map,h]
theorem af9 (l:bI)(P:ay)(W:World):(Op.equalIn 10000 49 (.agg (bg (di l))) (.agg (P.su.map (Value.int .u8)).toArray)).run Tryz.prog W = .ok (decide (di l=P.su)) W :=
 af7 _ _ (dO l) P.s0.1 (oO l) P.s0.2 W
theorem Zc (P:ay)(l:bI)(ad:bO)(n cap:Nat)(w:World)(hK:KT w)(hB:BS w (.slice ad n cap) l)(hl:l.length=n)(hc:n≤cap)(hc63:cap≤9223372036854775807) :
 Calls Tryz.prog 84 #[.agg (ag P).toArray,.slice ad n cap] w fun e w'=>e = .returned (.bool (Df P l))∧Below w.heap.size w w':=by
 have hb1:=(Below.refl w.heap.size w).alloc (Nat.le_refl _) (.cells (ag P).toArray 51)
 have hA1:=heap_alloc_new w (.cells (ag P).toArray 51)
 have lW:=hid (jF (qM hA1).2.2)
 have SH:=hid (Zb P.su P.s0.1)
 unfold Df
 rw [hl]
 by_cases h:n=512
 ·have xJ:=hid (fun p:dW (w.alloc (.cells (ag P).toArray 51))=>xU l (.slice ad n cap) p.now (hK.below (hb1.trans (p.bel.mono hb1.size)) hK.pos) (hB.kept (hb1.trans (p.bel.mono hb1.size))) (qG _ _ _ hc hc63) (by rw [hl,h]; decide))
  have heq:=af9 l P;rw [decide_eq_true h,Bool.true_and];subst h;have HB1:=hid hb1;clear hb1 hA1 hl hc hc63 hB;generalize (P.su.map (Value.int .u8))=SU at *;generalize bg (di l)=HU at *;generalize decide (di l=P.su)=D at *;generalize (ag P).toArray=PR at *;generalize hw1:w.alloc (.cells PR 51)=w1 at *;go_in;go_upto_region 1 with fail
  try rw [hw1]
  clear hw1;refine bZ (by kernel_rfl) (by kernel_rfl) ?_;repeat (first
   | (with_reducible refine dN (o:=⟨some 12,_,_,_,_,_⟩) (by kernel_rfl) 49 _ rfl w.heap.size 2 rfl SU _ lW.out Tryz.underlying49 rfl SH.out ?_
      simp only [Act.put,pZ])
   | (go_big_quiet_step (first
       | (go_at_call 115; exact fE (xJ.out _)))))
  refine wpQuiet_nil ?_;intro _ hw';obtain ⟨p,hw''⟩:=hw';subst hw'';go_wp2_with fail;go_ret;exact ⟨by simp,HB1.out.trans (p.bel.mono HB1.out.size)⟩
 ·rw [decide_eq_false h,Bool.false_and]
  have hzi:((n:Int) == 512)=false:=by simp; omega
  have HB1:=hid hb1;clear hb1 hA1 hl hc hc63 hB h lW;generalize (ag P).toArray=PR at *;generalize hw1:w.alloc (.cells PR 51)=w1 at *;go_in;go_upto_region 1 with fail
  try rw [hw1]
  clear hw1;refine bZ (by kernel_rfl) (by kernel_rfl) ?_;repeat (go_big_quiet_step (fail))
  refine wpQuiet_nil ?_;intro _ hw';obtain ⟨p,hw''⟩:=hw';subst hw'';go_wp2_with fail;go_ret;exact ⟨by simp,HB1.out.trans (p.bel.mono HB1.out.size)⟩
theorem qV {P:Program}{fn:Func}{p q r:Tmp}{ty:TypeId}(h:fn.results=#[.tmp p,.cell q ty,.tmp r])(tmps:Array Value)(w:World)(g:Nat)(t:TypeId)(cs:Array Value)(fr:Nat×Nat)(d:TypeDesc)
 (hq:tmps.getD q undef = .pointer (some ⟨g,0,none⟩)) (hg:w.heap[g]? = some (.cells cs t fr))
 (hu:P.underlying ty=some d) (hd:(match d with | .struct _ | .array _ _=>true | _=>false)=true) (hi:(P.info? ty).map (·.size)=some cs.size) (u v:Value) (hp:tmps.getD p undef=u) (hr:tmps.getD r undef=v) :
 (results fn tmps).run P w = .ok (.tuple #[u,.agg cs,v]) w:=by
 have hq':tmps[q]?.getD undef = .pointer (some ⟨g,0,none⟩):=by simpa using hq
 have hp':tmps[p]?.getD undef=u:=by simpa using hp
 have hr':tmps[r]?.getD undef=v:=by simpa using hr
 simp [results,h,hp',hq',hr',asAddr,run_loadVar_row w g t ty cs fr d hg hu hd hi]
theorem QC (a c:Nat)(l:bI)(hc:c<4294967296)(ha:a<18446744073709551616)(W:World):(Instr.build 51 #[(0,.int .u32 (c:Int)),(1,.int .u64 (a:Int)),(2,.agg (bg (di l)))]).run Tryz.prog W = .ok (.agg (ag (eP a c l)).toArray) W:=by
 have h:=Jm (eP a c l) W;obtain ⟨h1,h2,h3⟩:=qU a c l hc ha;rw [h1,h2,h3] at h;exact h
def ani (n a c:Nat):Prop:=n=512∧a ≠ 0∧2≤c∧c<4096
instance (n a c:Nat):Decidable (ani n a c):=by unfold ani; infer_instance
def UU (w:World)(S:bY)(P:ay)(e:Ending)(w':World):Prop:=∃ g,w.heap.size≤g∧e = .returned (.tuple #[.slice (some ⟨g,0,none⟩) 512 512,.agg (ag P).toArray,.int .i64 0])∧aU w' g 5 S∧Below w.heap.size w w'
theorem ac4 (k m:bY)(a c:Nat)(l:bY)(ad:bO)(cap:Nat)(w:World)(hK:KT w)(hk:k.length=32)(hm:m.length=32)(hl:l.length=512)(hB:BS w (.slice ad 512 cap) (l.map yv))(ha:a<18446744073709551616)(ha0:a ≠ 0)(hc2:2≤c)(hc:c<4096) :
 Calls Tryz.prog 136 #[.agg (aF (k++m)),.int .u64 (a:Int),.int .u32 (c:Int),.slice ad 512 cap] w (UU w (fU k a c l) (eP a c ((fU k a c l).map yv))):=by
 have DN:=hid (jc k a c l hl)
 have HC:=hid (fun (W:World) (hb:Below w.heap.size w W)=>Dc k m a c l ad cap W hk hl (hB.kept hb) (by omega))
 have xJ:=hid (fun (W:World) (hb:Below w.heap.size w W) (g:Nat) (hg:aU W g 5 (fU k a c l))=>xU ((fU k a c l).map yv) (.slice (some ⟨g,0,none⟩) 512 512) W (hK.below hb hK.pos) (BS.VD hg (jc k a c l hl)) (qG _ _ _ (Nat.le_refl _) (by decide)) (by rw [List.length_map,jc k a c l hl]; decide))
 have Iz:=hid (QC a c ((fU k a c l).map yv) (by omega) ha)
 have aI:(1:Int)≤(a:Int):=by omega
 have a0:((a:Int) == 0)=false:=by simp; omega
 have c2:(2:Int)≤(c:Int):=by omega
 have c4:(c:Int)<4096:=by omega
 obtain ⟨hA0,hP0,hsz,hb0⟩:=rE w (.cells (aF (k++m)) 60) (.cells (ag ai).toArray 51)
 have SZ:=hid (cZ (eP a c ((fU k a c l).map yv)))
 have SE:=hid (show (ag ai).toArray.size=(ag (eP a c ((fU k a c l).map yv))).toArray.size by simp [aO])
 have SO:=hid (aW (eP a c ((fU k a c l).map yv)))
 have hz:=dF
 have KA:=hid hA0
 have SK:=hid (xh (k++m) (by rw [List.length_append,hk,hm]))
 generalize hw1:(w.alloc (.cells (aF (k++m)) 60)).alloc (.cells (ag ai).toArray 51)=w1 at *
 have kG:=hid hsz
 have HB1:=hid hb0
 have HP1:=hid hP0
 clear hsz hb0 hA0 hP0 hk hm hl hB ha ha0 hc2 hc hK
 generalize fU k a c l=S at *
 generalize Ky:(ag (eP a c (S.map yv))).toArray=PR at *
 have Dq:=hid Ky
 generalize (ag ai).toArray=PZ at *
 generalize bg (di (S.map yv))=HU at *
 clear Ky
 generalize aF (k++m)=KM at *
 go_in
 go_upto_region 1 with fail
 try rw [hw1]
 clear hw1 hz
 go_wp2_with (first
  | (with_reducible refine wpList_load_row (o:=⟨some 28,_,_,_,_,_⟩) rfl 60 _ rfl w.heap.size rfl 60 KM (0,0) _ KA.out Tryz.underlying60 rfl SK.out ?_))
 refine (HC.out w1 HB1.out).mono ?_
 rintro e w3 ⟨g,hg,rfl,hA3,hb3⟩
 have HB3:=hid (HB1.out.trans (hb3.mono HB1.out.size))
 have xw:=hid ((hb3.block (w.heap.size+1) (by rw [kG.out]; omega)).trans HP1.out)
 have Am:=hid hA3
 have HG:=hid (show w.heap.size+2≤g by rw [← kG.out]; exact hg)
 have NS:=hid (xJ.out w3 HB3.out g hA3)
 clear hb3 hA3 hg KA SK HP1 HB1 kG HC xJ
 go_wp2_with fail
 refine NS.out.mono ?_
 rintro e w4 ⟨rfl,hb4⟩
 have HB4:=hid (HB3.out.trans (hb4.mono HB3.out.size))
 have Au:=hid ((hb4.block (w.heap.size+1) (lt_of_block xw.out)).trans xw.out)
 have BI:=hid (Am.out.below hb4 (lt_of_block Am.out))
 clear hb4 HB3 xw Am NS
 go_wp2_with (first
  | (with_reducible refine bD (o:=⟨some 38,_,_,_,_,_⟩) rfl 51 _ rfl #[(0,.int .u32 (c:Int)),(1,.int .u64 (a:Int)),(2,.agg HU)] (by simp [Act.eval]) (.agg PR) (Iz.out _) ?_)
  | (with_reducible refine wpList_store_row (o:=⟨none,.store _ (.tmp 9) _,_,_,_,_⟩) rfl 51 _ _ rfl (w.heap.size+1) PR rfl rfl 51 PZ Au.out SZ.out SE.out SO.out ?_))
 exact bodyPost_ret (v := .tuple #[.slice (some ⟨g,0,none⟩) 512 512,.agg PR,.int .i64 0]) (qV Tryz.results136 _ _ (w.heap.size+1) 51 PR (0,0) _ rfl (setRow_heap _ (w.heap.size+1) _ PR _ _ Au.out) Tryz.underlying51 rfl SZ.out _ _ rfl rfl) rfl
  ⟨g,by have:=HG.out; omega,by rw [Dq.out],(setRow_other _ _ _ _ (by have:=HG.out; omega)).trans BI.out,aG HB4.out (by omega) _⟩
def Bts (w:World)(a:bO)(n c:Nat)(l:bY):Prop:=BS w (.slice a n c) (l.map yv)∧l.length=n∧n≤c∧c≤9223372036854775807
theorem Bts.nil (w:World):Bts w none 0 0 []:=⟨EP w,rfl,Nat.le_refl _,by decide⟩
theorem Bts.arr {w:World}{g t n:Nat}{l:bY}(h:aU w g t l)(hn:l.length=n)(hs:n≤9223372036854775807):Bts w (some ⟨g,0,none⟩) n n l:=⟨BS.VD h hn,hn,Nat.le_refl _,hs⟩
def kV (k:bY)(P:ay)(l:bY):bY×Int :=
 if l.length ≠ 512 then ([],2) else if Df P (l.map yv)=true then (fU k P.bi.toNat P.ad.toNat l,0) else ([],5)
theorem ac5 (P:ay)(l:bY)(h:l.length=512):Df P (l.map yv)=decide (di (l.map yv)=P.su):=by
 unfold Df;rw [List.length_map,h];simp
theorem QD (k m:bY)(P:ay)(l:bY)(ad:bO)(n cap:Nat)(w:World)(hK:KT w)(hk:k.length=32)(hm:m.length=32)(hB:Bts w ad n cap l) :
 Calls Tryz.prog 64 #[.agg (aF (k++m)),.agg (ag P).toArray,.slice ad n cap] w fun e w'=>∃ x y z,e = .returned (.tuple #[.slice x y z,.int .i64 (kV k P l).2])∧Bts w' x y z (kV k P l).1∧Below w.heap.size w w':=by
 obtain ⟨b1,b2,b3,b4⟩:=hB
 obtain ⟨a,ha⟩:∃ a:Nat,P.bi=(a:Int):=⟨P.bi.toNat,by have:=P.b0; omega⟩
 obtain ⟨c,hc⟩:∃ c:Nat,P.ad=(c:Int):=⟨P.ad.toNat,by have:=P.a0; omega⟩
 have ha2:a<18446744073709551616:=by have:=P.b0; omega
 have hc2:c<4294967296:=by have:=P.a0; omega
 have hat:P.bi.toNat=a:=by omega
 have hct:P.ad.toNat=c:=by omega
 have HF:=hid (fun (W:World) (hb:Below w.heap.size w W)=>Zc P (l.map yv) ad n cap W (hK.below hb hK.pos) (b1.kept hb) (by rw [List.length_map]; exact b2) b3 b4)
 obtain ⟨hA0,hP0,hsz,hb0⟩:=rE w (.cells (aF (k++m)) 60) (.cells (ag P).toArray 51)
 have hcells:=qM hP0
 rw [ha,hc] at hcells
 have SZ:=hid (cZ P)
 have kG:=hid hsz
 have SK:=hid (xh (k++m) (by rw [List.length_append,hk,hm]))
 by_cases h:n=512
 ·have hl:l.length=512:=by omega
  rw [show kV k P l=(if Df P (l.map yv)=true then (fU k a c l,0) else ([],5)) by unfold kV; rw [if_neg (by omega),hat,hct]];subst h;have HC:=hid (fun (W:World) (hb:Below w.heap.size w W)=>Dc k m a c l ad cap W hk hl (b1.kept hb) hc2);have DN:=hid (jc k a c l hl);have HCE:=hid hcells;have yS:=hid hP0;have VB:=hid hA0;have HB1:=hid hb0;clear hat hct ha hc ha2 hc2 hA0 hP0 hsz hb0 hcells b1 b2 b3 b4 hl hk hm hK;generalize fU k a c l=S at *;generalize Df P (l.map yv)=D at *;generalize (ag P).toArray=PR at *;generalize aF (k++m)=KM at *;generalize hw1:(w.alloc (.cells (KM) 60)).alloc (.cells PR 51)=w1 at *;go_in;go_upto_region 1 with fail
  try rw [hw1]
  clear hw1;go_wp2_with (first
   | (with_reducible refine wpList_load_row (o:=⟨some 11,_,_,_,_,_⟩) rfl 51 _ rfl (w.heap.size+1) rfl 51 PR (0,0) _ yS.out Tryz.underlying51 rfl SZ.out ?_))
  refine (HF.out w1 HB1.out).mono ?_;rintro e w2 ⟨rfl,hb2⟩;have HB2:=hid (HB1.out.trans (hb2.mono HB1.out.size));have HA2:=hid ((hb2.block (w.heap.size) (lt_of_block VB.out)).trans VB.out);have HC0:=hid ((hb2.cell (p:=⟨w.heap.size+1,0,none⟩) (block_lt_of_cell HCE.out.1)).trans HCE.out.1);have HC1:=hid ((hb2.cell (p:=⟨w.heap.size+1,1,none⟩) (block_lt_of_cell HCE.out.2.1)).trans HCE.out.2.1);clear hb2 HF yS VB HCE;cases D with
  | false =>
    go_wp2_with fail;go_ret2;exact ⟨none,0,0,rfl,Bts.nil _,HB2.out⟩
  | true =>
    have hc0:=HC0.out;have hc1:=HC1.out;go_wp2_with (first
     | (with_reducible refine wpList_load_row (o:=⟨some 15,_,_,_,_,_⟩) rfl 60 _ rfl w.heap.size rfl 60 KM (0,0) _ HA2.out Tryz.underlying60 rfl SK.out ?_))
    refine (HC.out w2 HB2.out).mono ?_;rintro e w3 ⟨g,hg,rfl,hA3,hb3⟩;have HB3:=hid (HB2.out.trans (hb3.mono HB2.out.size));have Am:=hid hA3;clear hb3 hA3 hg HC hc0 hc1;go_wp2_with fail;go_ret2;exact ⟨_,_,_,rfl,Bts.arr Am.out DN.out (by decide),HB3.out⟩
 ·have h1:((n:Int) != 512)=true:=by simp; omega
  rw [show kV k P l=([],2) by unfold kV; rw [if_pos (by omega)]];have HB1:=hid hb0;clear hat hct ha hc ha2 hc2 hA0 hP0 hsz hb0 hcells b1 b2 b3 b4 hk hm HF h;generalize (ag P).toArray=PR at *;generalize aF (k++m)=KM at *;generalize hw1:(w.alloc (.cells (KM) 60)).alloc (.cells PR 51)=w1 at *;go_in;go_upto_region 1 with fail
  try rw [hw1]
  clear hw1;go_wp2_with fail;go_ret2;exact ⟨none,0,0,rfl,Bts.nil _,HB1.out⟩
end Go.Proofs.YtljjcbmkbmloaaaGreatDoor
