import Derived.Test.YtljjcbmkbmloaaaGreatDoorGTu46
import Derived.Test.YtljjcbmkbmloaaaGreatDoorGTu47
import Derived.Test.YtljjcbmkbmloaaaGreatDoorGTuA
namespace Go.Proofs.YtljjcbmkbmloaaaGreatDoor
set_option maxHeartbeats 6400000
set_option maxRecDepth 100000
set_option linter.unusedVariables false
section
open Lib (hid)
open Go.ChangeShapes Go.WideShapes Go.ChangeAt Go.RowKit
inductive J5 (LQ:ay→az→Prop):Rt→ay→Rt→Prop
 | none (q:ay) (h:q.ad=0):J5 LQ none q none
 | some (d a:Nat) (T:Kd (d+1)) (q:ay) (X:Pt d) (h:Lies LQ d q X) (s:Sv d (its T) X):J5 LQ (some ⟨d,T⟩) q (some ⟨d,sK a q X⟩)
theorem J5.cn {LQ:ay→az→Prop}{R R':Rt}{q:ay}(h:J5 LQ R q R'):R'.cn=R.cn:=by
 cases h with
 | none=>rfl
 | some d a T q X h s=>exact zQ s
theorem J5.fr {LQ:ay→az→Prop}{R R':Rt}{q:ay}(h:J5 LQ R q R'):R'.fr=0:=by
 cases h <;> rfl
theorem J5.nul {LQ:ay→az→Prop}{R R':Rt}{q:ay}(h:J5 LQ R q R')(hw:R.wf):(q.ad == 0)=decide (R.cn=[]):=by
 cases h with
 | none _ h=>rw [h]; rfl
 | some d a T q X h s =>
   rw [beq_eq_false_iff_ne.2 h.ne];refine (decide_eq_false fun e=>?_).symm;have h1:=adC (R:=Option.some ⟨d,T⟩) hw (by simp);rw [e] at h1;have:=Nat.two_pow_pos d;simp only [List.length_nil,Rt.dp] at h1;omega
def adL (w0:World)(P D gl n:Nat)(kk m:bY)(b:Nat)(V:bY)(L:List eH)(M:List Nat)(F:Nat→Bool)(ws:bW)(R:Rt)(w:World)(e:Ending)(w':World):Prop :=
 ∃ F' ws' M',QL w0 w' P D gl n (kk++m) F' b V ws' (-1) false L M'∧((∀ x ∈ M,x ∈ M')∧∀ x ∈ M',x ∈ M∨w.heap.size≤x)∧qQ M w w'∧w.heap.size≤w'.heap.size∧More kk n V F ws F' ws' ∧
   ((∃ t' q R',e = .returned (.tuple #[.pointer (some ⟨t',0,none⟩),.agg (ag q).toArray,.int .i64 0])∧t' ∈ M'∧gW (IW kk n V F' ws') (fun k=>k ∈ M') w' t' P R'∧J5 (IW kk n V F' ws') R q R'∧cnt F' n+R.fr=cnt F n) ∨
     (e = .returned (.tuple #[.pointer none,.agg (ag ai).toArray,.int .i64 6])∧cnt F n<R.fr))
theorem J6 {w0 w W1 w2 w5:World}{P D gl n b:Nat}{ks V:bY}{F F':Nat→Bool}{ws ws':bW}{L:List eH}{M:List Nat}(hq:QL w0 w P D gl n ks F b V ws (-1) false L M)(hb1:Below w.heap.size w W1)(h3:w.heap.size ∈ nY w W1)
 (hq2:QL w0 w2 P D gl n ks F' b V ws' (-1) false L (nY w W1++M)) (hs2:qQ (nY w W1++M) W1 w2) (hsz:W1.heap.size≤w2.heap.size) (t:Touch [w.heap.size] w2 w5) :
 QL w0 w5 P D gl n ks F' b V ws' (-1) false L (nY w2 w5++(nY w W1++M))∧qQ M w w5∧w.heap.size≤w5.heap.size∧∀ x ∈ nY w2 w5++(nY w W1++M),x ∈ M∨w.heap.size≤x:=by
 have h0:=hq.bel.size
 have h1:=hb1.size
 refine ⟨hq2.wide t (fun x hx=>?_) (fun r hr hm=>?_),fun x hx=>?_,Nat.le_trans h1 (Nat.le_trans hsz t.size),fun x hx=>?_⟩
 ·rw [List.mem_singleton.1 hx]
  exact ⟨List.mem_append_left _ h3,h0⟩
 ·have:=lt_of_block (hq.rows r hr).1
  rw [List.mem_singleton.1 hm] at this;omega
 ·have hx0:=hq.jY x hx
  refine (t.block x (Nat.lt_of_lt_of_le (Nat.lt_of_lt_of_le hx0 hb1.size) hsz) (fun hm=>?_)).trans ((hs2 x (List.mem_append_right _ hx)).trans (hb1.block x hx0));rw [List.mem_singleton.1 hm] at hx0;omega
 ·rcases List.mem_append.1 hx with e | e
  ·have:=(dV.1 e).2
   right; omega
  rcases List.mem_append.1 e with e | e
  ·exact .inr (dV.1 e).2
  exact .inl e
theorem Zr {LQ:ay→az→Prop}{w2 w3 w4 w5:World}{B3 P:Nat}{q:ay}{rp:bO}{R:Rt}{ok:Nat→Prop}(hw:R.wf)(hr:q.ad=0∧R=none∨∃ d T X,R=some ⟨d,T⟩∧Lies LQ d q X∧Sv d (its T) X)(hrp:q.ad=0∧rp=none∨q.ad ≠ 0∧∃ b,rp=some ⟨b,0,none⟩∧w3.heap.size≤b∧kL w4 b q false (.slice none 0 0) 0)
 (hb3:Below w2.heap.size w2 w3) (hb4:Below w3.heap.size w3 w4) (hB3:B3<w2.heap.size) (t:Touch [B3] (w4.alloc (.cells #[.pointer (some ⟨P,0,none⟩),.pointer rp] 94)) w5) (hok:∀ k,w2.heap.size≤k→k<w5.heap.size→ok k) (hlt:∀ k,ok k→k<w5.heap.size) :
 ok w4.heap.size∧∃ R',gW LQ ok w5 w4.heap.size P R'∧J5 LQ R q R':=by
 have hal:=aK w4 (.cells #[.pointer (some ⟨P,0,none⟩),.pointer rp] 94)
 have hnew:=ah w4 (.cells #[.pointer (some ⟨P,0,none⟩),.pointer rp] 94)
 have h3:=hb3.size
 have h4:=hb4.size
 have h5:w4.heap.size<w5.heap.size:=Nat.lt_of_lt_of_le (lt_of_block hnew) t.size
 have hblk:w5.heap[w4.heap.size]? = some (.cells #[.pointer (some ⟨P,0,none⟩),.pointer rp] 94 (0,0)):=(t.block _ (lt_of_block hnew) (by simp only [List.mem_singleton]; omega)).trans hnew
 refine ⟨hok _ (by omega) h5, ?_⟩
 rcases hrp with ⟨hq0,rfl⟩ | ⟨hq0,b,rfl,hb,htw⟩
 ·rcases hr with ⟨_,rfl⟩ | ⟨d,T,X,_,hl,_⟩
  ·exact ⟨none,⟨hblk,trivial,trivial,hlt⟩,.none q hq0⟩
  exact absurd hq0 hl.ne
 ·rcases hr with ⟨e,_⟩ | ⟨d,T,X,rfl,hl,hs⟩
  ·exact absurd e hq0
  have hbl:=lt_of_block htw;have hb5:w5.heap[b]? = w4.heap[b]? := (t.block b (Nat.lt_of_lt_of_le hbl hal.size) (by simp only [List.mem_singleton]; omega)).trans (hal.block b hbl);refine ⟨some ⟨d,sK b q X⟩,⟨hblk, ?_,MP hs hw,hlt⟩,.some d b T q X hl hs⟩;rw [nz];exact ⟨hok b (by omega) (by have:=hal.size; have:=t.size; show b<_; omega),hb5.trans htw,hl⟩
def aju (w0:World)(P D gl n:Nat)(kk m:bY)(b:Nat)(V:bY)(L:List eH)(M:List Nat)(F:Nat→Bool)(ws:bW)(R:Rt)(w:World)(q:ay)(er:Int)(w':World):Prop :=
 ∃ F' ws',QL w0 w' P D gl n (kk++m) F' b V ws' (-1) false L M∧qQ M w w'∧w.heap.size≤w'.heap.size∧More kk n V F ws F' ws' ∧
   (er=0∧(q.ad=0∧R=none∨∃ d T X,R=some ⟨d,T⟩∧Lies (IW kk n V F' ws') d q X∧Sv d (its T) X)∧cnt F' n+R.fr=cnt F n∨er=6∧q=ai∧cnt F n<R.fr)
theorem Ve (w0:World)(P D gl n:Nat)(kk m:bY)(b:Nat)(V:bY)(L:List eH)(M:List Nat)(F:Nat→Bool)(ws:bW)(t:Nat)(R:Rt)(w:World)(hkk:kk.length=32∧m.length=32∧b<18446744073709551616∧b ≠ 0)(hq:QL w0 w P D gl n (kk++m) F b V ws (-1) false L M)(ht:gW (IW kk n V F ws) (fun k=>k ∈ M) w t P R)(U8:t ∈ M)(hwl:ws.length+cnt F n≤100000) :
 Calls Tryz.prog 38 #[.pointer (some ⟨t,0,none⟩),.pointer R.ptr] w fun e w'=>∃ q er,e = .returned (.tuple #[.agg (ag q).toArray,.int .i64 er])∧aju w0 P D gl n kk m b V L M F ws R w q er w':=by
 cases R with
 | none =>
   refine (Zk w0 P D gl n kk m F b V ws L M _ w hq).mono ?_;rintro e w' ⟨rfl,h1,h2⟩;exact ⟨ai,0,rfl,F,ws,h1,aX hq.jY h2,h2.size,More.refl,.inl ⟨rfl,.inl ⟨rfl,rfl⟩,rfl⟩⟩
 | some p =>
   obtain ⟨d,T⟩:=p;have hT:=ht.at_;rw [nz] at hT;refine (Vb w0 P D gl n kk m b V L t _ hkk d T aY aY F ws M w hq ht.blk U8 hT ht.wf hwl).mono ?_;rintro e w' ⟨F',ws',hres,hm,h1,h2,h3⟩;rcases hres with ⟨q,X,rfl,hl,hs,hc⟩ | ⟨rfl,hc⟩
   ·exact ⟨q,0,rfl,F',ws',h1,h2,h3,hm,.inl ⟨rfl,.inr ⟨d,T,X,rfl,hl,hs⟩,hc⟩⟩
   exact ⟨ai,6,rfl,F',ws',h1,h2,h3,hm,.inr ⟨rfl,rfl,hc⟩⟩
theorem adM (w0:World)(P D gl n:Nat)(kk m:bY)(b:Nat)(V:bY)(L:List eH)(M:List Nat)(F:Nat→Bool)(ws:bW)(t:Nat)(R:Rt)(w:World)(hkk:kk.length=32∧m.length=32∧b<18446744073709551616∧b ≠ 0)(hq:QL w0 w P D gl n (kk++m) F b V ws (-1) false L M)(ht:gW (IW kk n V F ws) (fun k=>k ∈ M) w t P R)(U8:t ∈ M)(hwl:ws.length+cnt F n≤100000) :
 Calls Tryz.prog 15 #[.pointer (some ⟨t,0,none⟩)] w fun e w'=>adL w0 P D gl n kk m b V L M F ws R w e w':=by
 have hp0:=dF
 have hb0:=zS
 have HQ:=hid hq
 have HTA:=hid ht
 have He:=hid U8
 have SZ:=hid (bz ai)
 have SO:=hid (aW ai)
 have SE:=hid jR
 have hz:=ah w (.cells (ag ai).toArray 51)
 have hb1:=aK w (.cells (ag ai).toArray 51)
 have t1:=ae (cell_of_row w t 1 _ _ _ ht.blk) (hb1.block _ (lt_of_block ht.blk))
 have HZ:=hid hz
 have HB1:=hid hb1
 have D5:=hid (hq.grow hb1)
 have HM1:=hid (show w.heap.size ∈ nY w (w.alloc (.cells (ag ai).toArray 51)) from dV.2 ⟨lt_of_block hz,Nat.le_refl _⟩)
 have HWR:=hid (Ve w0 P D gl n kk m b V L (nY w (w.alloc (.cells (ag ai).toArray 51))++M) F ws t R _ hkk D5.out
  (ht.mono (hb1.block _ (lt_of_block ht.blk)) (fun k hk=>hb1.block k (hq.jY k hk)) (fun _ _ h=>h) (fun k hk=>List.mem_append_right _ hk) (fun k hk=>D5.out.jY k hk)) (List.mem_append_right _ U8) hwl)
 have t0b:=cell_of_row w t 0 _ _ _ ht.blk
 have HT0:=hid t0b
 obtain ⟨ZL,Dk⟩:∃ z,(ag ai).toArray=z:=⟨_,rfl⟩
 rw [Dk] at hp0 hb0 SZ SO SE HZ HB1 D5 HM1 HWR t1
 have Zm:=hid Dk
 clear Dk hz hb1 hq ht U8 hwl hkk t0b
 go_in
 go_wp2_with fail
 refine HWR.out.mono ?_
 rintro e w2 ⟨q,er,rfl,F',ws',hq2,hs2,hsz2,hm2,hres⟩
 have xK:=hid hq2
 have HS2:=hid hs2
 have HM2:=hid hm2
 have ajv:=hid hsz2
 have HR3:=hid (show w2.heap[w.heap.size]? = some (.cells ZL 51 (0,0)) from (hs2 _ (List.mem_append_left _ HM1.out)).trans HZ.out)
 have HT2:=hid (ae HT0.out ((hs2 t (List.mem_append_right _ He.out)).trans (HB1.out.block _ (block_lt_of_cell HT0.out))))
 clear hq2 hs2 hm2 hsz2 HWR t1
 go_upto_region 4 with (with_reducible refine wpList_store_row (o:=⟨none,.store _ (.tmp 5) _,_,_,_,_⟩) rfl 51 _ _ rfl w2.heap.size (ag q).toArray rfl rfl 51 ZL (heap_alloc_new w2 _) (bz q) (SE.out q) (aW q) ?_)
 generalize hWs:World.setRow _ w2.heap.size _=w3
 have hst:=nD w2 ZL (ag q).toArray 51 w3 hWs.symm
 have HB3:=hid hst.2
 have Nq:=hid hst.1
 have agu:=hid ((hst.2.block _ (lt_of_block HR3.out)).trans HR3.out)
 have HT3:=hid (ae HT2.out (hst.2.block _ (block_lt_of_cell HT2.out)))
 have Hz:=hid (show w2.heap.size ≠ w.heap.size by have:=lt_of_block HR3.out; omega)
 have kZ:=hid (show t<w.heap.size from block_lt_of_cell HT0.out)
 clear hWs hst HR3 HT2
 obtain ⟨B5,hB5⟩:∃ z,w2.heap.size=z:=⟨_,rfl⟩
 have aqx:=hid hB5
 rw [hB5] at Nq Hz ⊢
 clear hB5
 rcases hres with ⟨rfl,hr,hc⟩ | ⟨rfl,rfl,hc⟩
 ·have HR:=hid hr
  have HC:=hid hc;clear hr hc;have HLY:=hid (fun W=>Bl q W);have k0:=HT3.out;have k5:=Nq.out;go_upto_region 6 with fail
  try simp only [Act.put]
  refine wp_region_noPanic ?_;refine wp_region_held_drew (S:=fun W=>W.cell? ⟨t,0,none⟩=some (.pointer (some ⟨P,0,none⟩))∧W.heap[B5]? = some (.cells (ag q).toArray 51 (0,0))) (by kernel_rfl) ⟨k0,k5⟩ (fun hHeld=>?_);refine tR 0 23 (h:=tR 1 24 (h:=tR 2 25 (h:=?_)));refine tK 3 26 (.pointer (some ⟨P,0,none⟩)) rfl (Or.inl ⟨by rfl, ?_⟩) ?_
  ·(intro w' hSw; have q0:=hSw.1; go_simp; try with_reducible rfl)
  try simp only [Act.put,pZ]
  refine tK 4 27 _ rfl (yieldsIf_load_mid (by rfl) _ _ rfl (B5) (0) rfl ((ag q)) _ (fun w' h=>by have q0:=Zj h.2; simpa using q0) Tryz.underlying51 rfl (dL q)) ?_;try simp only [Act.put,pZ]
  refine tK 8 31 _ rfl (yieldsIf_load_mid (by rfl) _ _ rfl (B5) (0) rfl ((ag q)) _ (fun w' h=>by have q0:=Zj h.2; simpa using q0) Tryz.underlying51 rfl (dL q)) ?_;try simp only [Act.put,pZ]
  refine rD 5 rfl fun K9 hK=>?_;go_simp;go_at_call 39
  refine (HLY.out _).mono ?_;rintro e w4 ⟨hq4,hb4⟩;have HB4:=hid (show Below w3.heap.size w3 w4 from (Below.refl _ w3).drew.trans hb4);obtain ⟨rp,rfl,hrp⟩:∃ rp,e = .returned (.pointer rp)∧(q.ad=0∧rp=none∨q.ad ≠ 0∧∃ b,rp=some ⟨b,0,none⟩∧w3.heap.size≤b∧kL w4 b q false (.slice none 0 0) 0):=by
   rcases hq4 with ⟨h1,rfl⟩ | ⟨h1,b,rfl,h2,h3⟩
   ·exact ⟨none,rfl,.inl ⟨h1,rfl⟩⟩
   exact ⟨_,rfl,.inr ⟨h1,b,rfl,h2,h3⟩⟩
  have HRP:=hid hrp;clear hq4 hb4 hrp k0 k5 HLY;go_wp2_with fail;refine hK.out _ _ ⟨ae HT3.out (HB4.out.block _ (block_lt_of_cell HT3.out)),(HB4.out.block _ (lt_of_block Nq.out)).trans Nq.out⟩ (fun hHeld=>?_);clear hK K9;try simp only [Act.put,pZ]
  refine tR 6 29 (h:=?_);have hal:=aK w4 (.cells #[.pointer (some ⟨P,0,none⟩),.pointer rp] 94);have hnew:=ah w4 (.cells #[.pointer (some ⟨P,0,none⟩),.pointer rp] 94);have gp:=hid (aJ HB4.out hal);have wE:=hid hal;have HNW:=hid hnew;clear hal hnew;refine rD 7 rfl fun K9 hK=>?_;go_simp;refine hK.out _ _ ⟨ae HT3.out (gp.out.block _ (block_lt_of_cell HT3.out)),(gp.out.block _ (lt_of_block Nq.out)).trans Nq.out⟩ (fun hHeld=>?_);clear hK K9;try simp only [Act.put,pZ]
  refine tR 9 2 (h:=?_);refine rD 10 rfl fun K9 hK=>?_;rw [if_pos (by kernel_rfl)];have anJ:=hid ((gp.out.block _ (lt_of_block agu.out)).trans agu.out);refine wp_store_row (o:=⟨none,.store _ (.tmp 3) _,_,_,_,_⟩) 51 _ _ rfl w.heap.size (ag q).toArray rfl rfl 51 ZL anJ.out (bz q) (SE.out q) (aW q) ?_;have HRR:=hid (jH anJ.out (ag q).toArray);have Y0:=hid (bJ (w4.alloc (.cells #[.pointer (some ⟨P,0,none⟩),.pointer rp] 94)) w.heap.size (ag q).toArray);refine hK.out _ _ ⟨ae HT3.out ((Y0.out.block t (Nat.lt_of_lt_of_le (block_lt_of_cell HT3.out) gp.out.size) (by simp only [List.mem_singleton]; have:=kZ.out; omega)).trans (gp.out.block _ (block_lt_of_cell HT3.out))),(Y0.out.block B5 (Nat.lt_of_lt_of_le (lt_of_block Nq.out) gp.out.size) (by simpa using Hz.out)).trans ((gp.out.block _ (lt_of_block Nq.out)).trans Nq.out)⟩ (fun hHeld=>?_);clear hK K9;try simp only [Act.put]
  refine tR 11 4 (h:=?_);refine wpAnyH_done (by decide +kernel) ?_ _;refine NoPanic.normal ?_;clear hHeld;go_wp2_with fail;refine bodyPost_ret (v := .tuple #[.pointer (some ⟨w4.heap.size,0,none⟩),.agg (ag q).toArray,.int .i64 0]) (qV Tryz.results15 _ _ w.heap.size 51 (ag q).toArray (0,0) _ rfl HRR.out Tryz.underlying51 rfl (bz q) _ _ (by simp) (by simp)) rfl ?_;have hsp:=J6 HQ.out HB1.out HM1.out xK.out HS2.out ajv.out ((Touch.of_below (HB3.out.trans (gp.out.mono HB3.out.size))).trans Y0.out);obtain ⟨h1,R',h2,h3⟩:=Zr HTA.out.wf HR.out HRP.out HB3.out HB4.out (by have:=aqx.out; have:=Hz.out; have:=ajv.out; have:=lt_of_block HZ.out; omega) Y0.out (ok:=fun k=>k ∈ nY w2 _++(nY w _++M)) (fun k h1 h2=>List.mem_append_left _ (dV.2 ⟨h2,h1⟩)) hsp.1.jY;exact ⟨F',ws',_,hsp.1,⟨fun x hx=>List.mem_append_right _ (List.mem_append_right _ hx),hsp.2.2.2⟩,hsp.2.1,hsp.2.2.1,HM2.out,.inl ⟨w4.heap.size,q,R',rfl,h1,h2,h3,HC.out⟩⟩
 ·have HC:=hid hc
  clear hc;go_wp2_with (with_reducible refine wpList_store_row (o:=⟨none,.store _ (.tmp 3) _,_,_,_,_⟩) rfl 51 _ _ rfl w.heap.size ZL rfl rfl 51 ZL agu.out SZ.out rfl SO.out ?_)
  refine bodyPost_ret (v := .tuple #[.pointer none,.agg ZL,.int .i64 6]) (qV Tryz.results15 _ _ w.heap.size 51 ZL (0,0) _ rfl (jH agu.out ZL) Tryz.underlying51 rfl SZ.out _ _ (by simp) (by simp)) rfl ?_;have hsp:=J6 HQ.out HB1.out HM1.out xK.out HS2.out ajv.out ((Touch.of_below HB3.out).trans (bJ w3 w.heap.size ZL));exact ⟨F',ws',_,hsp.1,⟨fun x hx=>List.mem_append_right _ (List.mem_append_right _ hx),hsp.2.2.2⟩,hsp.2.1,hsp.2.2.1,HM2.out,.inr ⟨by rw [Zm.out],HC.out⟩⟩
theorem Nr {P:Program}{fn:Func}{p q r s:Tmp}(h:fn.results=#[.tmp p,.tmp q,.tmp r,.tmp s])(tmps:Array Value)(w:World)(a b c d:Value)
 (hp:tmps.getD p undef=a) (hq:tmps.getD q undef=b) (hr:tmps.getD r undef=c) (hs:tmps.getD s undef=d):(results fn tmps).run P w = .ok (.tuple #[a,b,c,d]) w:=by
 have hp':tmps[p]?.getD undef=a:=by simpa using hp
 have hq':tmps[q]?.getD undef=b:=by simpa using hq
 have hr':tmps[r]?.getD undef=c:=by simpa using hr
 have hs':tmps[s]?.getD undef=d:=by simpa using hs
 simp [results,h,hp',hq',hr',hs']
theorem ajw (w0 w:World)(n:Nat)(hK:KT w0)(hT:TZ w0)(hb:Below w0.heap.size w0 w)(h0:16≤n)(h1:n≤4096) :
 Calls Tryz.prog 10 #[.int .i64 (n:Int)] w fun e w'=>∃ t P D gl,e = .returned (.tuple #[.pointer (some ⟨t,0,none⟩),.pointer (some ⟨P,0,none⟩),.pointer (some ⟨D,0,none⟩),.bool true])∧QL w0 w' P D gl n (keyE++uN) (eX n) 1 (aC (n * 512)) [] (-1) false [] [t]∧w'.heap[t]? = some (.cells #[.pointer (some ⟨P,0,none⟩),.pointer none] 94 (0,0))∧w.heap.size≤t∧Below w.heap.size w w':=by
 have Ap:=hid (show (keyE++uN).length=64 by rw [List.length_append,nX,nV])
 have HD:=hid (fun (W:World)=>afZ n W h0 h1)
 have HN:=hid (And.intro h0 h1)
 have qY:=hid hb
 have RG:=hid (And.intro hK hT)
 clear hb hK hT h0 h1
 go_in
 go_wp2_with fail
 refine (HD.out w).mono ?_
 rintro e w2 ⟨rfl,hpd,hb2⟩
 have ajx:=hid (show PO w0 w2 [] (w.heap.size+2) w.heap.size n (aC (n * 512)) [] (-1) false from by
  have h2:=hb2.size;have h3:=qY.out.size;refine ⟨_,_,hpd,fun g hg=>?_,fun k hk=>absurd hk (by simp),qY.out.trans (hb2.mono qY.out.size)⟩;simp only [l9,Value.ownBlock,Option.toList_none,List.mem_cons,List.not_mem_nil,or_false] at hg;simp only [List.not_mem_nil,not_false_eq_true,and_true];omega)
 have HB2:=hid hb2
 clear HD hpd hb2
 generalize w.heap.size+2=D at *
 obtain ⟨gl,hgl⟩:∃ z,w.heap.size=z:=⟨_,rfl⟩
 rw [hgl] at ajx
 clear hgl
 have hcv:=GZ w2 #[.int .u8 109,.int .u8 97,.int .u8 115,.int .u8 116,.int .u8 101,.int .u8 114] 6 6
 have hbl:=(Below.refl w2.heap.size w2).alloc (Nat.le_refl _) (.cells #[.int .u8 109,.int .u8 97,.int .u8 115,.int .u8 116,.int .u8 101,.int .u8 114] 5 (6,7))
 have adN:KT (w2.alloc (.cells #[.int .u8 109,.int .u8 97,.int .u8 115,.int .u8 116,.int .u8 101,.int .u8 114] 5 (6,7))):=RG.out.1.below ((qY.out.trans (HB2.out.mono qY.out.size)).trans (hbl.mono (Nat.le_trans qY.out.size HB2.out.size))) RG.out.1.pos
 have HDE:=hid (G5 QG (.slice (some ⟨w2.heap.size,0,none⟩) 6 6) _ (JV w2) (qG _ _ _ (by decide) (by decide)) adN (by decide))
 rw [Dh,show QE QG=uN from rfl] at HDE
 have EH:=hid hbl
 clear hbl adN
 go_wp2_with fail
 refine HDE.out.mono ?_
 rintro e w3 ⟨rfl,hb3⟩
 have NS:=hid (EH.out.trans (hb3.mono EH.out.size))
 have ajz:=hid (ajx.out.below NS.out)
 have HB3:=hid (aJ HB2.out NS.out)
 clear hcv hb3 HDE EH ajx
 generalize hKM:keyE++uN=KM at *
 have Ar:=hid hKM
 generalize hYK:aF KM=YK at *
 have HYK:=hid hYK
 clear hKM hYK
 have Zt:=hid (show Calls Tryz.prog 18 #[.pointer (some ⟨D,0,none⟩),.agg YK] w3 fun e w'=>∃ P,w3.heap.size≤P∧e = .returned (.tuple #[.pointer (some ⟨P,0,none⟩),.int .i64 0])∧PL w' P D n KM (eX n) 0∧Below w3.heap.size w3 w' from by
  obtain ⟨bm,vw,hd,_⟩:=ajz.out;rw [← HYK.out];exact JU D gl bm n vw _ _ _ _ KM w3 hd Ap.out HN.out.1 HN.out.2)
 go_wp2_with fail
 refine Zt.out.mono ?_
 rintro e w5 ⟨PP,hP,rfl,hpl,hb5⟩
 have qX:=hid (ado ajz.out hb5 hP hpl RG.out.1 RG.out.2)
 have gp:=hid (aJ HB3.out hb5)
 have xy:=hid (Nat.le_trans HB3.out.size hP)
 clear hP hpl hb5 Zt ajz HB3 NS
 go_wp2_with fail
 refine (acH PP w5).mono ?_
 rintro e w6 ⟨t,rfl,ht,hblk,hb6⟩
 have kR:=hid (qX.out.aqi hb6 t ht (lt_of_block hblk))
 have lu:=hid (aJ gp.out hb6)
 have ZU:=hid hblk
 have kZ:=hid (Nat.le_trans gp.out.size ht)
 have Hz:=hid (show t ≠ PP by have:=qX.out.pl.lt; omega)
 clear ht hblk hb6 qX gp
 have yT:=hid (adi 1 kR.out)
 go_wp2_with fail
 refine yT.out.mono ?_
 rintro e w7 ⟨rfl,hq7,Gu⟩
 have Ee:=hid hq7
 have HP7:=hid (show w7.heap[t]? = some (.cells #[.pointer (some ⟨PP,0,none⟩),.pointer none] 94 (0,0)) from (Gu.block t (lt_of_block ZU.out) (by simpa using Hz.out)).trans ZU.out)
 have D6:=hid (show Below w.heap.size w w7 from lu.out.trans (Gu.below lu.out.size (fun k hk=>by rw [List.mem_singleton.1 hk]; exact xy.out)))
 clear hq7 Gu yT
 go_wp2_with fail
 refine bodyPost_ret (v := .tuple #[.pointer (some ⟨t,0,none⟩),.pointer (some ⟨PP,0,none⟩),.pointer (some ⟨D,0,none⟩),.bool true]) (Nr Tryz.results10 _ _ _ _ _ _ (by simp) (by simp) (by simp) (by simp)) rfl ?_
 exact ⟨t,PP,D,gl,rfl,by rw [Ar.out]; exact Ee.out,HP7.out,kZ.out,D6.out⟩
structure dh where
 kd:Int
 nn:Int
 k:ByteArray
 v:ByteArray
def fJ (x:dh):List Value:=[.int .i64 x.kd,.int .i64 x.nn,.string x.k,.string x.v]
structure Hg (x:dh):Prop where
 k0 : -9223372036854775808≤x.kd∧x.kd≤9223372036854775807
 n0 : -9223372036854775808≤x.nn∧x.nn≤9223372036854775807
 ks:x.k.size≤140737488351232
 vs:x.v.size≤140737488351232
def QY:World→dh→List Value→Prop:=fun _ x cs=>cs=fJ x∧Hg x
theorem Zu:Opn 37 QY:=by
 intro H enc W fuel cs y h hw;obtain ⟨xs,k,_,hx,hlen,hxl,hfs⟩:=DataW.trod_struct Tryz.underlying37 h;rw [show Tryz.prog.cellsOf 37=4 by kernel_rfl] at hlen;have hxk:xs.length=4:=hxl;have hd:=congrArg Prod.fst hx;dsimp only at hd;clear hx hxl;match xs,hxk with
 | [y0,y1,y2,y3],_ =>
   have ei:Tryz.prog.cellsOf 3=1:=by kernel_rfl
   have es:Tryz.prog.cellsOf 9=1:=by kernel_rfl
   have hw2:∀ n ∈ DataW.weightsEach Tryz.prog [3,3,9,9] [y0.1,y1.1,y2.1,y3.1],n≤reachBytes:=fun n hn=>hw n (by rw [hd]; simp only [DataW.weights,Tryz.underlying37]; exact hn)
   have g0:DataW.trod enc Tryz.prog W 0 (fun _=>true) true k 3 ((cs.drop 0).take 1)=some y0:=by have q:=hfs 0 _ rfl; simpa [ei] using q
   have g1:DataW.trod enc Tryz.prog W 0 (fun _=>true) true k 3 ((cs.drop 1).take 1)=some y1:=by have q:=hfs 1 _ rfl; simpa [ei] using q
   have g2:DataW.trod enc Tryz.prog W 0 (fun _=>true) true k 9 ((cs.drop 2).take 1)=some y2:=by have q:=hfs 2 _ rfl; simpa [ei,es] using q
   have g3:DataW.trod enc Tryz.prog W 0 (fun _=>true) true k 9 ((cs.drop 3).take 1)=some y3:=by have q:=hfs 3 _ rfl; simpa [ei,es] using q
   obtain ⟨kd,r0,k0,k1⟩:=VE .i64 _ _ Tryz.underlying3 wf_i64 _ _ _ _ _ _ g0 (fun n hn=>hw2 n (DataW.weights_mem_each (j:=0) rfl rfl n hn));obtain ⟨nn,r1,n0,n1⟩:=VE .i64 _ _ Tryz.underlying3 wf_i64 _ _ _ _ _ _ g1 (fun n hn=>hw2 n (DataW.weights_mem_each (j:=1) rfl rfl n hn));obtain ⟨sk,r2,z2⟩:=VF Tryz.underlying9 _ _ _ _ _ _ g2 (fun n hn=>hw2 n (DataW.weights_mem_each (j:=2) rfl rfl n hn));obtain ⟨sv,r3,z3⟩:=VF Tryz.underlying9 _ _ _ _ _ _ g3 (fun n hn=>hw2 n (DataW.weights_mem_each (j:=3) rfl rfl n hn));have hcs:cs=(cs.drop 0).take 1++((cs.drop 1).take 1++((cs.drop 2).take 1++(cs.drop 3).take 1)):=by
    match cs,hlen with
    | [_,_,_,_],_=>rfl
   rw [r0,r1,r2,r3] at hcs;exact ⟨⟨kd,nn,sk,sv⟩,hcs,⟨k0,k1⟩,⟨n0,n1⟩,z2,z3⟩
theorem Hl:Opn 22 (RSl QY 4):=XI 4 Tryz.underlying22 (by kernel_rfl) (by decide) (of_decide_eq_true (by kernel_rfl)) Zu
structure AT (w:World)(a:bO)(x:List dh):Prop where
 at_:∀ i q,x[i]? = some q→∃ b off,a=some ⟨b,off,none⟩∧w.rangeAt b (off+i * 4) (fJ q)
theorem AT.below {w w':World}{a:bO}{x:List dh}(h:AT w a x)(q:Below w.heap.size w w'):AT w' a x :=
 ⟨fun i y hy=>by obtain ⟨b,off,e,h1⟩:=h.at_ i y hy; exact ⟨b,off,e,dm h1 q⟩⟩
theorem ahz {w:World}{x:List dh}{a:bO}{n c:Nat}(h:SlR QY 4 w x a n c):AT w a x∧∀ q ∈ x,Hg q:=by
 refine ⟨⟨fun i q hq=>?_⟩,fun q hq=>?_⟩
 ·obtain ⟨hi,rfl⟩:=List.getElem?_eq_some_iff.1 hq
  obtain ⟨b,off,cs,h1,h2,_,h5⟩:=h.here i hi;obtain ⟨rfl,ho⟩:=h2;exact ⟨b,off,h1,h5⟩
 obtain ⟨i,hi,rfl⟩:=List.getElem_of_mem hq;obtain ⟨b,off,cs,h1,h2,_,h5⟩:=h.here i hi;exact h2.2
theorem jK (b off len cap i:Nat)(h:i<len)(W:World):(Instr.indexAt 22 (.slice (some ⟨b,off,none⟩) len cap) (.int .i64 (i:Int))).run Tryz.prog W = .ok (.pointer (some ⟨b,off+i * 4,none⟩)) W:=by
 obtain ⟨i0,hi,hs⟩:=Option.map_eq_some_iff.1 (show (Tryz.prog.info? 37).map (·.size)=some 4 by kernel_rfl);simp [Instr.indexAt,asIntOf,run_underlying Tryz.underlying22,sizeOf,typeInfo,hi,hs,h,Addr.add_mid]
theorem mY {w:World}{b o:Nat}{x:dh}(h:w.rangeAt b o (fJ x)):w.cell? ⟨b,o,none⟩=some (.int .i64 x.kd)∧w.cell? ⟨b,o+1,none⟩=some (.int .i64 x.nn)∧w.cell? ⟨b,o+2,none⟩=some (.string x.k)∧w.cell? ⟨b,o+3,none⟩=some (.string x.v) :=
 ⟨h 0 _ rfl,h 1 _ rfl,h 2 _ rfl,h 3 _ rfl⟩
def sumT (l:List dh):Nat:=(l.map (fun x=>x.k.size+x.v.size)).sum
theorem Zv (l:List dh)(i:Nat)(x:dh)(h:l[i]? = some x):sumT (l.take (i+1))=sumT (l.take i)+(x.k.size+x.v.size):=by
 unfold sumT;rw [List.take_add_one,h];simp
theorem adO {l:List dh}{x:dh}(h:x ∈ l):x.k.size+x.v.size≤sumT l:=by
 unfold sumT;induction l with
 | nil=>cases h
 | cons y r ih =>
   rw [List.map_cons,List.sum_cons];rcases List.mem_cons.1 h with rfl | h
   ·omega
   have:=ih h; omega
theorem WI (l:List dh)(h:∀ x ∈ l,Hg x):sumT l≤l.length * 281474976702464:=by
 unfold sumT;induction l with
 | nil=>simp
 | cons y r ih =>
   have h1:=ih (fun x hx=>h x (List.mem_cons_of_mem _ hx));have h2:=h y (List.mem_cons_self ..);have:=h2.ks;have:=h2.vs;rw [List.map_cons,List.sum_cons,List.length_cons];omega
def xn (x:List dh)(w:World)(e:Ending)(w':World):Prop :=
 (e = .returned (.int .i64 1)∨e = .returned (.int .i64 0)∧x.length≤150∧∀ q ∈ x,q.k.size≤8000∧q.v.size≤8000)∧Below w.heap.size w w'
theorem WJ (a:bO)(c:Nat)(x:List dh)(w:World)(h:AT w a x)(ho:∀ q ∈ x,Hg q)(hc:x.length≤140737488351232) :
 Calls Tryz.prog 9 #[.slice a x.length c] w fun e w'=>xn x w e w':=by
 have HA:=hid h
 have HO:=hid ho
 obtain ⟨n,hn⟩:∃ n,x.length=n:=⟨_,rfl⟩
 have HN:=hid hn
 rw [hn] at hc ⊢
 have nI:(n:Int)≤140737488351232:=by omega
 have DN:=hid (WI x ho)
 clear h ho hn
 by_cases hb:n≤150
 ·have nB:¬ ((150:Int)<(n:Int)):=by omega
  have HB:=hid hb;clear hb;go_in;go_wp2_with fail;go_loopw [3,5,8] (fun v3 _ v8 wr=>∃ i:Nat,i≤n∧v8 = .int .i64 (i:Int)∧v3 = .int .i64 ((sumT (x.take i):Nat):Int)∧Below w.heap.size w wr) (fun _ _ v _=>n - (intOf v).toNat)
  case atStart=>exact ⟨0,Nat.zero_le _,rfl,rfl,Below.refl _ _⟩
  case round =>
   obtain ⟨i,hi,rfl,rfl,hbw⟩:=hrel;have qY:=hid hbw;clear hbw;by_cases hlt:i<n
   ·obtain ⟨q,hq⟩:∃ q,x[i]? = some q:=⟨_,List.getElem?_eq_getElem (by rw [HN.out]; exact hlt)⟩
    obtain ⟨b,off,rfl,hrg⟩:=(HA.out.below qY.out).at_ i q hq;obtain ⟨c0,c1,c2,c3⟩:=mY hrg;have hix:=jK b off n c i hlt;have bn:=hid hlt;have xB:=hid (Zv x i q hq);have iI:(i:Int)<(n:Int):=by omega
    have i0:(0:Int)≤(i:Int):=by omega
    have hqo:=HO.out q (List.mem_of_getElem? hq);have hs1:=WI (x.take i) (fun y hy=>HO.out y (List.mem_of_mem_take hy));have hl1:(x.take i).length≤150:=by rw [List.length_take]; have:=HB.out; omega
    have hs2:sumT (x.take i)≤42221246505369600:=Nat.le_trans hs1 (Nat.mul_le_mul_right _ hl1);have kI:(q.k.size:Int)≤140737488351232:=by have:=hqo.ks; omega
    have vI:(q.v.size:Int)≤140737488351232:=by have:=hqo.vs; omega
    generalize sumT (x.take i)=Z at *;have zI:(Z:Int)≤42221246505369600:=by omega
    have z0:(0:Int)≤(Z:Int):=by omega
    have k0:(0:Int)≤(q.k.size:Int):=by omega
    have v0:(0:Int)≤(q.v.size:Int):=by omega
    clear hi hlt hq hrg hqo hs1 hl1 hs2;go_wp2_with fail;go_roundw
    case rel=>exact ⟨i+1,by have:=bn.out; omega,by go_num,by rw [xB.out]; first | rfl | (congr 1; done),qY.out.trans ((aK _ _).mono qY.out.size)⟩
    case measure=>simp [intOf]; have:=bn.out; omega
   obtain rfl:i=n:=by omega
   rw [List.take_of_length_le (Nat.le_of_eq HN.out)];have HS:=hid (fun q (hq:q ∈ x)=>adO hq);generalize sumT x=Z at *;by_cases hz:Z≤8000
   ·have zI:¬ ((8000:Int)<(Z:Int)):=by omega
    have HP:=hid (show xn x w (.returned (.int .i64 0)) wr from ⟨.inr ⟨rfl,by rw [HN.out]; exact HB.out,fun q hq=>by have:=HS.out q hq; omega⟩,qY.out⟩);clear hz hi hlt;go_wp2_with fail;go_ret;exact HP.out
   have zI:(8000:Int)<(Z:Int):=by omega
   have HP:=hid (show xn x w (.returned (.int .i64 1)) wr from ⟨.inl rfl,qY.out⟩);clear hz hi hlt;go_wp2_with fail;go_ret;exact HP.out
 ·have nB:(150:Int)<(n:Int):=by omega
  clear hb;go_in;go_wp2_with fail;go_loopw [3,5,8] (fun v3 _ v8 wr=>∃ (i:Nat) (z:Int),i≤n∧v8 = .int .i64 (i:Int)∧v3 = .int .i64 z∧Below w.heap.size w wr) (fun _ _ v _=>n - (intOf v).toNat)
  case atStart=>exact ⟨0,0,Nat.zero_le _,rfl,rfl,Below.refl _ _⟩
  case round =>
   obtain ⟨i,z,hi,rfl,rfl,hbw⟩:=hrel;have qY:=hid hbw;clear hbw;by_cases hlt:i<n
   ·obtain ⟨q,hq⟩:∃ q,x[i]? = some q:=⟨_,List.getElem?_eq_getElem (by rw [HN.out]; exact hlt)⟩
    obtain ⟨b,off,rfl,hrg⟩:=(HA.out.below qY.out).at_ i q hq;obtain ⟨c0,c1,c2,c3⟩:=mY hrg;have hix:=jK b off n c i hlt;have bn:=hid hlt;have iI:(i:Int)<(n:Int):=by omega
    have i0:(0:Int)≤(i:Int):=by omega
    clear hi hlt hq hrg;go_wp2_with fail;go_roundw
    case rel=>exact ⟨i+1,_,by have:=bn.out; omega,by go_num,rfl,qY.out.trans ((aK _ _).mono qY.out.size)⟩
    case measure=>simp [intOf]; have:=bn.out; omega
   obtain rfl:i=n:=by omega
   have HP:=hid (show xn x w (.returned (.int .i64 1)) wr from ⟨.inl rfl,qY.out⟩);clear hi hlt;go_wp2_with fail;go_ret;exact HP.out
end
section
open Go.ChangeShapes Go.WideShapes Go.ChangeAt Go.RowKit
theorem Ae {w w':World}{M:List Nat}:∀ k ∈ nY w w'++M,k ∈ M∨w.heap.size≤k:=fun k hk=>by
 rcases List.mem_append.1 hk with e | e
 ·exact .inr (dV.1 e).2
 exact .inl e
structure TQ (w0 w:World)(P D gl n:Nat)(V:bY)(F:Nat→Bool)(ws:bW)(L:List eH)(M:List Nat):Prop where
 q:QL w0 w P D gl n (keyE++uN) F 1 V ws (-1) false L M
 few:ws.length+cnt F n≤100000
abbrev LT (n:Nat)(V:bY)(F:Nat→Bool)(ws:bW):ay→az→Prop:=IW keyE n V F ws
structure TM (w:World)(P n:Nat)(V:bY)(F:Nat→Bool)(ws:bW)(M:List Nat)(t:Nat)(R:Rt):Prop where
 at_:gW (LT n V F ws) (fun k=>k ∈ M) w t P R
 mem:t ∈ M
theorem TM.mono {w w':World}{P n:Nat}{V:bY}{F F':Nat→Bool}{ws ws':bW}{M M':List Nat}{t:Nat}{R:Rt}(h:TM w P n V F ws M t R)(hs:qQ M w w')(hm:∀ k ∈ M,k ∈ M')(hl:∀ k ∈ M',k<w'.heap.size)(hq:∀ q nd,LT n V F ws q nd→LT n V F' ws' q nd):TM w' P n V F' ws' M' t R :=
 ⟨h.at_.mono (hs t h.mem) (fun k hk=>hs k hk) hq hm hl,hm t h.mem⟩
section
variable {w0 w w':World} {P D gl n:Nat} {V:bY} {F:Nat→Bool} {ws:bW} {L:List eH} {M:List Nat} {t:Nat} {R:Rt}
theorem TQ.below (h:TQ w0 w P D gl n V F ws L M)(q:Below w.heap.size w w'):TQ w0 w' P D gl n V F ws L M:=⟨h.q.below q,h.few⟩
theorem TQ.grow (h:TQ w0 w P D gl n V F ws L M)(q:Below w.heap.size w w'):TQ w0 w' P D gl n V F ws L (nY w w'++M):=⟨h.q.grow q,h.few⟩
theorem TQ.rd (h:TQ w0 w P D gl n V F ws L M):RD (LT n V F ws) w P:=fun W hW q nd hq=>by
 have h2:=h.q.below hW;refine (WH P 1 F keyE uN q h2 h2.pl nX nV).mono ?_;rintro e w' ⟨k,v,p,rfl,hn,hb⟩;rw [hq.1] at hn ⊢;exact ⟨k,v,p,rfl,hn,hb⟩
theorem mZ (hw:R.wf)(h:R.cn.length≤1000):R.fr+4 * R.dp+10≤1000000∧R.fr≤2000∧R.dp≤9∧R.fr≤2 * R.cn.length:=by
 cases R with
 | none=>exact ⟨by decide,by decide,by decide,by decide⟩
 | some q =>
   obtain ⟨d,T⟩:=q;have h1:2 ^ d≤(cont d (its T)).length:=pO d T aY aY hw;have h2:=Wq d T aY aY hw;have h3:(cont d (its T)).length≤1000:=h;have h4:d≤9:=by
    rcases Nat.lt_or_ge d 10 with e | e
    ·omega
    have:=Nat.pow_le_pow_right (show 0<2 by decide) e;omega
   refine ⟨?_, ?_,h4, ?_⟩
   ·show jl (d+1) T+4 * d+10≤_
    omega
   ·show jl (d+1) T≤_
    omega
   show jl (d+1) T≤2 * (cont d (its T)).length;omega
theorem Zw (hw:R.wf)(h:R.cn.length≤255):R.dp≤7:=by
 cases R with
 | none=>exact Nat.zero_le _
 | some q =>
   obtain ⟨d,T⟩:=q;have h1:2 ^ d≤(cont d (its T)).length:=pO d T aY aY hw;have h3:(cont d (its T)).length≤255:=h;show d≤7;rcases Nat.lt_or_ge d 8 with e | e
   ·omega
   have:=Nat.pow_le_pow_right (show 0<2 by decide) e;omega
def Hm (w':World)(P n:Nat)(V:bY)(F:Nat→Bool)(ws:bW)(M':List Nat)(may:Bool)(c:Cg)(R:Rt)(e:Ending):Prop :=
 if may=true then (c.err R.cn ≠ 0∧e = .returned (.tuple #[.pointer none,.int .i64 (c.err R.cn)])∨c.err R.cn=0∧∃ t' R',e = .returned (.tuple #[.pointer (some ⟨t',0,none⟩),.int .i64 0])∧TM w' P n V F ws M' t' R'∧R'.cn=c.app R.cn∧R'.fr≤R.fr+4 * R.dp+3) else e = .returned (.tuple #[.pointer none,.int .i64 2])
theorem WM {may:Bool}{c:Cg}{e:Ending}(h:TQ w0 w P D gl n V F ws L M)(hp:Ec (LT n V F ws) (fun k=>k ∈ M) P may c R w e w') :
 ∃ M',TQ w0 w' P D gl n V F ws L M'∧((∀ k ∈ M,k ∈ M')∧∀ k ∈ M',k ∈ M∨w.heap.size≤k)∧Below w.heap.size w w'∧Hm w' P n V F ws M' may c R e:=by
 unfold Ec at hp
 have hb:Below w.heap.size w w':=by
  split at hp
  ·exact hp.2
  exact hp.2
 refine ⟨nY w w'++M,h.grow hb,⟨fun k hk=>List.mem_append_right _ hk,Ae⟩,hb, ?_⟩
 unfold Hm
 split
 ·rename_i hm
  rw [if_pos hm] at hp;rcases hp.1 with ⟨h1,h2⟩ | ⟨h1,t',R',h2,h3,h4,h5,h6⟩
  ·exact .inl ⟨h1,h2⟩
  have hl:=lt_of_block h4.blk;refine .inr ⟨h1,t',R',h2,⟨⟨h4.blk, ?_,h4.wf,fun k hk=>(h.q.grow hb).jY k hk⟩,List.mem_append_left _ (dV.2 ⟨hl,h3⟩)⟩,h5,h6⟩;refine Eb h4.at_ (fun _ _ _=>rfl) (fun k hk hl=>?_);rcases hk.1 with e | e
  ·exact List.mem_append_right _ e
  exact List.mem_append_left _ (dV.2 ⟨hl,e⟩)
 ·rename_i hm
  rw [if_neg hm] at hp;exact hp.1
theorem Ho (k v:ByteArray)(h:TQ w0 w P D gl n V F ws L M)(ht:TM w P n V F ws M t R)(hf:R.cn.length≤1000)(hk:k.size≤1000000)(hv:v.size≤1000000) :
 Calls Tryz.prog 27 #[.pointer (some ⟨t,0,none⟩),.string k,.string v] w fun e w'=>∃ M',TQ w0 w' P D gl n V F ws L M'∧((∀ k ∈ M,k ∈ M')∧∀ k ∈ M',k ∈ M∨w.heap.size≤k)∧Below w.heap.size w w'∧Hm w' P n V F ws M' (jf k && decide (v.size≤96)) (.put k v) R e :=
 (acD _ _ t P R k v w ht.at_ h.rd hk hv (mZ ht.at_.wf hf).1).mono fun e w' hp=>WM h hp
theorem adP (k:ByteArray)(h:TQ w0 w P D gl n V F ws L M)(ht:TM w P n V F ws M t R)(hf:R.cn.length≤1000)(hk:k.size≤1000000) :
 Calls Tryz.prog 28 #[.pointer (some ⟨t,0,none⟩),.string k] w fun e w'=>∃ M',TQ w0 w' P D gl n V F ws L M'∧((∀ k ∈ M,k ∈ M')∧∀ k ∈ M',k ∈ M∨w.heap.size≤k)∧Below w.heap.size w w'∧Hm w' P n V F ws M' (jf k) (.del k) R e :=
 (acE _ _ t P R k w ht.at_ h.rd hk (mZ ht.at_.wf hf).1).mono fun e w' hp=>WM h hp
theorem ajA (k:ByteArray)(h:TQ w0 w P D gl n V F ws L M)(ht:TM w P n V F ws M t R)(hf:R.cn.length≤1000)(hk:k.size≤1000000) :
 Calls Tryz.prog 26 #[.pointer (some ⟨t,0,none⟩),.string k] w fun e w'=>GetPost (jf k) (nR k R.cn) w e w' :=
 acG _ _ t P R k w ht.at_ h.rd (by omega) hk
theorem xq (f s:ByteArray)(h:TQ w0 w P D gl n V F ws L M)(ht:TM w P n V F ws M t R)(hf:R.cn.length≤1000) :
 Calls Tryz.prog 12 #[.pointer (some ⟨t,0,none⟩),.string f,.string s] w fun e w'=>kF w (gV (f,s) R.cn) e w' :=
 JM _ _ t P R f s w ht.at_ h.rd (by omega)
theorem lU (ht:TM w P n V F ws M t R) :
 Calls Tryz.prog 24 #[.pointer (some ⟨t,0,none⟩)] w fun e w'=>e = .returned (.int .i64 (R.fr:Nat))∧w'=w:=Qc _ _ t P R w ht.at_
structure Vf (w0 w w':World)(P D gl n:Nat)(V:bY)(F:Nat→Bool)(ws:bW)(L:List eH)(M:List Nat)(F':Nat→Bool)(ws':bW)(M':List Nat):Prop where
 tq:TQ w0 w' P D gl n V F' ws' L M'
 sub:∀ k ∈ M,k ∈ M'
 new:∀ k ∈ M',k ∈ M∨w.heap.size≤k
 st:qQ M w w'
 sz:w.heap.size≤w'.heap.size
 more:More keyE n V F ws F' ws'
theorem Af (h:TQ w0 w P D gl n V F ws L M)(ht:TM w P n V F ws M t R) :
 Calls Tryz.prog 15 #[.pointer (some ⟨t,0,none⟩)] w fun e w'=>∃ F' ws' M' q er tp,Vf w0 w w' P D gl n V F ws L M F' ws' M'∧e = .returned (.tuple #[.pointer tp,.agg (ag q).toArray,.int .i64 er]) ∧
  (er=0∧(∃ t' R',tp=some ⟨t',0,none⟩∧TM w' P n V F' ws' M' t' R'∧J5 (LT n V F' ws') R q R'∧cnt F' n+R.fr=cnt F n)∨er=6∧tp=none∧q=ai∧cnt F n<R.fr):=by
 refine (adM w0 P D gl n keyE uN 1 V L M F ws t R w ⟨nX,nV,by decide,by decide⟩ h.q ht.at_ ht.mem h.few).mono ?_
 rintro e w' ⟨F',ws',M',h1,h2,h3,h4,h5,h6⟩
 have hs:Vf w0 w w' P D gl n V F ws L M F' ws' M':=⟨⟨h1,by have:=h5.len; have:=h.few; omega⟩,h2.1,h2.2,h3,h4,h5⟩
 rcases h6 with ⟨t',q,R',rfl,h7,h8,h9,h10⟩ | ⟨rfl,h7⟩
 ·exact ⟨F',ws',M',q,0,_,hs,rfl,.inl ⟨rfl,t',R',rfl,⟨h8,h7⟩,h9,h10⟩⟩
 ·exact ⟨F',ws',M',ai,6,none,hs,rfl,.inr ⟨rfl,rfl,rfl,h7⟩⟩
theorem agv {R':Rt}{q:ay}(h:TQ w0 w P D gl n V F ws L M)(hs:J5 (LT n V F ws) R q R')(hw:R.wf) :
 Calls Tryz.prog 20 #[.pointer (some ⟨P,0,none⟩),.agg (ag q).toArray] w fun e w'=>∃ M' t' R2,TQ w0 w' P D gl n V F ws L M'∧((∀ k ∈ M,k ∈ M')∧∀ k ∈ M',k ∈ M∨w.heap.size≤k)∧Below w.heap.size w w'∧e = .returned (.tuple #[.pointer (some ⟨t',0,none⟩),.int .i64 0])∧TM w' P n V F ws M' t' R2∧R2.cn=R.cn∧R2.fr=0:=by
 refine (BA P q w).mono ?_
 rintro e w' ⟨t',root,rfl,h1,h2,h3,hb⟩
 have hl:=lt_of_block h2
 refine ⟨nY w w'++M,t', ?_⟩
 have hT:=h.grow hb
 have hmem:=List.mem_append_left M (dV.2 ⟨hl,h1⟩)
 cases hs with
 | none _ hq =>
   rcases h3 with ⟨_,rfl⟩ | ⟨h3,_⟩
   ·exact ⟨none,hT,⟨fun k hk=>List.mem_append_right _ hk,Ae⟩,hb,rfl,⟨⟨h2,trivial,trivial,fun k hk=>hT.q.jY k hk⟩,hmem⟩,rfl,rfl⟩
   exact absurd hq h3
 | some d a T q X hl2 hs2 =>
   rcases h3 with ⟨h3,_⟩ | ⟨h3,b,rfl,h4,h5⟩
   ·exact absurd h3 hl2.ne
   refine ⟨some ⟨d,sK b q X⟩,hT,⟨fun k hk=>List.mem_append_right _ hk,Ae⟩,hb,rfl,⟨⟨h2, ?_,MP hs2 hw,fun k hk=>hT.q.jY k hk⟩,hmem⟩,zQ hs2,rfl⟩;rw [nz];exact ⟨List.mem_append_left M (dV.2 ⟨lt_of_block h5,h4⟩),h5,hl2⟩
theorem Eg (h:TQ w0 w P D gl n V F ws L M) :
 Calls Tryz.prog 25 #[.pointer (some ⟨P,0,none⟩)] w fun e w'=>e = .returned (.int .i64 (cnt F n:Nat))∧w'=w:=agq h.q
theorem TM.cO {M':List Nat}(ht:TM w P n V F ws M t R)(h:TQ w0 w P D gl n V F ws L M)(h':TQ w0 w' P D gl n V F ws L M')(hs:∀ k ∈ M,k ∈ M')(hb:Below w.heap.size w w'):TM w' P n V F ws M' t R :=
 ht.mono (aX h.q.jY hb) hs h'.q.jY (fun _ _ e=>e)
theorem TM.stepS {F':Nat→Bool}{ws':bW}{M':List Nat}(ht:TM w P n V F ws M t R)(h:Vf w0 w w' P D gl n V F ws L M F' ws' M'):TM w' P n V F' ws' M' t R :=
 ht.mono h.st h.sub h.tq.q.jY h.more.lq
end
theorem Ns (w0 w:World)(n:Nat)(hK:KT w0)(hT:TZ w0)(hb:Below w0.heap.size w0 w)(h0:16≤n)(h1:n≤4096) :
 Calls Tryz.prog 10 #[.int .i64 (n:Int)] w fun e w'=>∃ t P D gl M,e = .returned (.tuple #[.pointer (some ⟨t,0,none⟩),.pointer (some ⟨P,0,none⟩),.pointer (some ⟨D,0,none⟩),.bool true])∧TQ w0 w' P D gl n (aC (n * 512)) (eX n) [] [] M∧TM w' P n (aC (n * 512)) (eX n) [] M t none∧Below w.heap.size w w':=by
 refine (ajw w0 w n hK hT hb h0 h1).mono ?_
 rintro e w' ⟨t,P,D,gl,rfl,hq,ht,ht0,hb'⟩
 refine ⟨t,P,D,gl, [t],rfl,⟨hq, ?_⟩,⟨⟨ht,trivial,trivial,fun k hk=>hq.jY k hk⟩,List.mem_singleton.2 rfl⟩,hb'⟩
 have:=cnt_le (eX n) n
 simp only [List.length_nil]
 omega
end
section
open Lib (hid)
open Go.ChangeShapes Go.WideShapes Go.ChangeAt Go.RowKit
theorem agw {n:Nat}{V:bY}{ws:bW}{q:ay}{nd:az}(h:LT n V (eX n) ws q nd):False:=by
 obtain ⟨h1,h2⟩:=h;unfold xQ at h1;split at h1
 ·injection h1 with _ h1; cases h1
 rename_i hn
 obtain ⟨a,h3,h4,h5,_⟩:=U4 (q:=q) (n:=n) (fun e=>hn (.inl e)) (Decidable.byContradiction fun e=>hn (.inr e));rw [h3,Int.toNat_natCast] at h2;unfold eX at h2;simp at h2;omega
theorem ajB {w:World}{P n:Nat}{V:bY}{ws:bW}{M:List Nat}{t:Nat}{R:Rt}(h:TM w P n V (eX n) ws M t R)(hR:R.cn ≠ []):1≤R.fr:=by
 cases R with
 | none=>exact absurd rfl hR
 | some q =>
   obtain ⟨d,T⟩:=q;have h1:=h.at_.at_;rw [nz] at h1;have h2:=h1.2;show 1≤jl (d+1) T;cases e:kX T with
   | inl q =>
     rw [e] at h2;exact (agw h2.2.reads).elim
   | inr l =>
     rw [uj e];omega
theorem adQ (k:ByteArray)(w:World):Calls Tryz.prog 26 #[.pointer none,.string k] w fun e w'=>e = .returned (.tuple #[.string aY,.int .i64 1])∧w'=w:=by
 go_in;go_wp2_with fail;go_ret2;exact ⟨rfl,rfl⟩
def kA:ByteArray:=⟨#[97]⟩
def kB:ByteArray:=⟨#[98]⟩
def k1:ByteArray:=⟨#[49]⟩
def k2:ByteArray:=⟨#[50]⟩
theorem ajC:(Cg.put kA k1).app []=[(kA,k1)]:=rfl
theorem ajD:(Cg.put kB k2).app [(kA,k1)]=[(kA,k1),(kB,k2)]:=by
 show (if lo kA kB=true then (kA,k1)::ja kB k2 [] else _)=_;rw [if_pos (by decide +kernel)];rfl
theorem Dl (w:World)(hK:KT w)(hT:TZ w):Calls Tryz.prog 8 #[] w fun e w'=>e = .returned (.bool true)∧Below w.heap.size w w':=by
 have hp0:=dF;have YB:=hid (Ns w w 64 hK hT (Below.refl _ _) (by decide) (by decide));have SZ:=hid jR;obtain ⟨ZL,Dk⟩:∃ z,(ag ai).toArray=z:=⟨_,rfl⟩
 rw [Dk] at hp0 SZ;clear hK hT Dk;go_in;go_wp2_with fail;refine YB.out.mono ?_;rintro e w1 ⟨t,P,D,gl,M1,rfl,hq1,ht1,hb1⟩;have D5:=hid hq1;have HT1:=hid ht1;clear hq1 ht1 hb1 YB;go_wp2_with fail;refine (Ho kA k1 D5.out HT1.out (by simp [Rt.cn]) (by decide) (by decide)).mono ?_;rintro e w2 ⟨M2,hq2,hs2,hb2,hc2⟩;have xK:=hid hq2;unfold Hm at hc2;rw [if_pos (by decide +kernel)] at hc2;rcases hc2 with ⟨h,_⟩ | ⟨_,ta,R1,rfl,hta,anL,aqy⟩
 ·exact absurd rfl h
 have HTA:=hid hta;have ahA:R1.cn=[(kA,k1)]:=anL.trans ajC;have HC1:=hid ahA;clear hq2 hs2 hb2 hta anL ahA aqy D5 HT1;go_wp2_with fail;refine (Ho kB k2 xK.out HTA.out (by rw [HC1.out]; simp) (by decide) (by decide)).mono ?_;rintro e w3 ⟨M3,hq3,hs3,hb3,hc3⟩;have lg:=hid hq3;have anM:=hid (HTA.out.cO xK.out hq3 hs3.1 hb3);unfold Hm at hc3;rw [if_pos (by decide +kernel)] at hc3;rcases hc3 with ⟨h,_⟩ | ⟨_,tb,R2,rfl,htb,anN,hfr2⟩
 ·exact absurd rfl h
 have HTB:=hid htb;have ahB:R2.cn=[(kA,k1),(kB,k2)]:=by rw [anN,HC1.out]; exact ajD
 have HC2:=hid ahB;have aqz:=htb;clear hq3 hs3 hb3 htb anN ahB hfr2 HTA xK;go_wp2_with fail;refine (xq aY aY lg.out anM.out (by rw [HC1.out]; simp)).mono ?_;rintro e w4 ⟨v4,rfl,hv4,hb4⟩;rw [HC1.out,rO] at hv4;have nC:=hid (lg.out.below hb4);have ajE:=hid (HTB.out.cO lg.out nC.out (fun k hk=>hk) hb4);obtain ⟨a4,c4,rfl,hc4⟩:=hv4.shape;simp only [List.length_cons,List.length_nil] at hc4 ⊢;clear hv4 hb4 lg HTB anM hc4;go_wp2_with fail;refine (xq aY aY nC.out ajE.out (by rw [HC2.out]; simp)).mono ?_;rintro e w5 ⟨v5,rfl,hv5,hb5⟩;rw [HC2.out,rO] at hv5;have qX:=hid (nC.out.grow hb5);have adR:=hid (ajE.out.cO nC.out qX.out (fun k hk=>List.mem_append_right _ hk) hb5);obtain ⟨a5,c5,rfl,anO⟩:=hv5.ks;have h5:=anO.at_ 1 (kB,k2) rfl;obtain ⟨g5,o5,rfl,hk5,anP⟩:=h5;have HV5:=hid anP;have hg5:g5 ∈ nY w4 w5++M3:=by
  have hl:=hv5.lt g5 (by rfl);exact List.mem_append_left _ (dV.2 ⟨hl.2,hl.1⟩)
 have ZO:=hid hg5;simp only [List.length_cons,List.length_nil];clear hv5 hb5 anO hk5 anP hg5 nC ajE;go_wp2_with fail;refine (Af qX.out adR.out).mono ?_;rintro e w6 ⟨F6,ws6,M6,q,er,tp,hs6,rfl,iO⟩;have ny:=hid hs6;have anQ:=hid (adR.out.stepS hs6);obtain ⟨rfl,tc,R3,rfl,htc,hsv,hcnt⟩:er=0∧∃ t' R',tp=some ⟨t',0,none⟩∧TM w6 P 64 (aC (64 * 512)) F6 ws6 M6 t' R'∧J5 (LT 64 (aC (64 * 512)) F6 ws6) R2 q R'∧cnt F6 64+R2.fr=cnt (eX 64) 64:=by
  rcases iO with h | ⟨_,_,_,hcnt⟩
  ·exact h
  exfalso;have h1:=(mZ adR.out.at_.wf (by rw [HC2.out]; simp)).2.2.2;rw [HC2.out] at h1;rw [QQ 64 (by decide)] at hcnt;simp only [List.length_cons,List.length_nil] at h1;omega
 have HTC:=hid htc;have G7:=hid (show (q.ad == 0)=false from by rw [hsv.nul adR.out.at_.wf,HC2.out]; rfl);have HF3:=hid hsv.fr;have RH:=hid (show w6.cell? ⟨g5,o5+1 * 2+1,none⟩=some (.string ⟨#[50]⟩) from ae HV5.out (hs6.st g5 ZO.out));clear hs6 htc hsv hcnt adR qX HV5;go_upto_region 9 with (with_reducible refine wpList_store_row (o:=⟨none,.store _ (.tmp 14) _,_,_,_,_⟩) rfl 51 _ _ rfl w6.heap.size (ag q).toArray rfl rfl 51 ZL (heap_alloc_new w6 _) (bz q) (SZ.out q) (aW q) ?_)
 generalize hWs:World.setRow _ w6.heap.size _=w7;have hst:=nD w6 ZL (ag q).toArray 51 w7 hWs.symm;have Ee:=hid (ny.out.tq.below hst.2);have D6:=hid hst.2;have HR7:=hid hst.1;have aqA:=hid (anQ.out.cO ny.out.tq Ee.out (fun k hk=>hk) hst.2);have aqB:=hid (HTC.out.cO ny.out.tq Ee.out (fun k hk=>hk) hst.2);have p5:=ae RH.out (hst.2.block _ (block_lt_of_cell RH.out));clear hWs hst anQ HTC RH hp0;generalize w6.heap.size=B14 at *;go_wp2_with fail;refine (adQ kA w7).mono ?_;rintro e w8 ⟨rfl,hw8⟩;subst w8;have hix:=oW g5 o5 2 c5 1 (by decide);have Xm:=hid (dR q w7);rw [G7.out] at Xm;go_wp2_with (with_reducible refine jW (o:=⟨some 94,_,_,_,_,_⟩) (by kernel_rfl) 51 _ rfl B14 rfl 51 (ag q).toArray (0,0) _ HR7.out Tryz.underlying51 rfl (bz q) ?_)
 refine Xm.out.mono ?_;rintro e w8 ⟨rfl,hb8⟩;have HQ8:=hid (Ee.out.below hb8);have aqC:=hid (aqA.out.cO Ee.out HQ8.out (fun k hk=>hk) hb8);have aqD:=hid (aqB.out.cO Ee.out HQ8.out (fun k hk=>hk) hb8);have HFB:=hid (lU aqC.out);have HFC:=hid (lU aqD.out);rw [HF3.out] at HFC;have hfb:=ajB aqz (by rw [HC2.out]; simp);have HPB:=hid hfb;clear hb8 p5 hix hfb;go_wp2_with fail;refine HFC.out.mono ?_;rintro e w9 ⟨rfl,Rn⟩;subst w9;have fI:(0:Int)<((R2.fr:Nat):Int):=by have:=HPB.out; omega
 go_wp2_with fail;refine HFB.out.mono ?_;rintro e w9 ⟨rfl,Rn⟩;subst w9;go_wp2_with fail;go_ret;exact ⟨rfl,HQ8.out.q.bel⟩
structure LM (w:World)(M:List Nat)(K:List bH)(a:bO)(c:Nat):Prop where
 kv:Qd w a K
 nil:a=none→K=[]∧c=0
 sum:∀ p,a=some p→∃ g o,p=⟨g,o,none⟩∧g ∈ M
 cap:K.length≤c
theorem LM.mid {w:World}{M:List Nat}{K:List bH}{a:bO}{c:Nat}(h:LM w M K a c):∀ p,a=some p→∃ g o,p=⟨g,o,none⟩:=fun p e=>by
 obtain ⟨g,o,h1,_⟩:=h.sum p e;exact ⟨g,o,h1⟩
theorem LM.mono {w w':World}{M M':List Nat}{K:List bH}{a:bO}{c:Nat}(h:LM w M K a c)(hs:qQ M w w')(hm:∀ k ∈ M,k ∈ M'):LM w' M' K a c:=by
 refine ⟨⟨fun i x hx=>?_⟩,h.nil,fun p e=>?_,h.cap⟩
 ·obtain ⟨g,o,e,q1,q2⟩:=h.kv.at_ i x hx
  obtain ⟨g',o',e2,hg⟩:=h.sum _ e;injection e2 with e2;subst e2;exact ⟨g,o,e,ae q1 (hs g hg),ae q2 (hs g hg)⟩
 obtain ⟨g,o,e2,hg⟩:=h.sum p e;exact ⟨g,o,e2,hm g hg⟩
theorem ahC {w w':World}{v:Value}{K:List bH}{M:List Nat}(h:sJ w' w.heap.size v K):∃ a c,v = .slice a K.length c∧LM w' (nY w w'++M) K a c:=by
 have hs:=h.ks;obtain ⟨a,c,rfl,hk⟩:=hs;obtain ⟨a',c',e,hc⟩:=h.shape;injection e with e1 _ e2;subst e1 e2;refine ⟨a,c,rfl,hk,fun e=>?_,fun p e=>?_,hc⟩
 ·subst e
  rcases h.2 with ⟨e,h0⟩ | ⟨g,cap,cur,e,_⟩
  ·injection e with _ e1 e2
   exact ⟨List.length_eq_zero_iff.1 e1,e2⟩
  cases e
 subst e;rcases h.2 with ⟨e,h0⟩ | ⟨g,cap,cur,e,hb,hg,_⟩
 ·cases e
 injection e with e;injection e with e;subst e;exact ⟨g,0,rfl,List.mem_append_left _ (dV.2 ⟨lt_of_block hg,hb⟩)⟩
structure PM (w:World)(P n:Nat)(V:bY)(F:Nat→Bool)(ws:bW)(M:List Nat)(t:Nat)(R:Rt)(a:bO)(c:Nat):Prop where
 tm:TM w P n V F ws M t R
 lm:LM w M R.cn a c
theorem PM.mono {w w':World}{P n:Nat}{V:bY}{F F':Nat→Bool}{ws ws':bW}{M M':List Nat}{t:Nat}{R:Rt}{a:bO}{c:Nat}(h:PM w P n V F ws M t R a c)(hs:qQ M w w')(hm:∀ k ∈ M,k ∈ M')(hl:∀ k ∈ M',k<w'.heap.size)(hq:∀ q nd,LT n V F ws q nd→LT n V F' ws' q nd):PM w' P n V F' ws' M' t R a c :=
 ⟨h.tm.mono hs hm hl hq,h.lm.mono hs hm⟩
theorem PM.cO {w0 w w':World}{P D gl n:Nat}{V:bY}{F:Nat→Bool}{ws:bW}{L:List eH}{M M':List Nat}{t:Nat}{R:Rt}{a:bO}{c:Nat}(ht:PM w P n V F ws M t R a c)(h:TQ w0 w P D gl n V F ws L M)(h':TQ w0 w' P D gl n V F ws L M')(hs:∀ k ∈ M,k ∈ M')(hb:Below w.heap.size w w'):PM w' P n V F ws M' t R a c :=
 ht.mono (aX h.q.jY hb) hs h'.q.jY (fun _ _ e=>e)
theorem PM.stepS {w0 w w':World}{P D gl n:Nat}{V:bY}{F F':Nat→Bool}{ws ws':bW}{L:List eH}{M M':List Nat}{t:Nat}{R:Rt}{a:bO}{c:Nat}(ht:PM w P n V F ws M t R a c)(h:Vf w0 w w' P D gl n V F ws L M F' ws' M'):PM w' P n V F' ws' M' t R a c :=
 ht.mono h.st h.sub h.tq.q.jY h.more.lq
def uG (w0:World)(P D gl n:Nat)(V:bY)(F:Nat→Bool)(ws:bW)(L:List eH)(M:List Nat)(kd:Int)(R:Rt)(w:World)(e:Ending)(w':World):Prop :=
 ∃ F' ws' M' t' R' a' c',Vf w0 w w' P D gl n V F ws L M F' ws' M'∧PM w' P n V F' ws' M' t' R' a' c'∧e = .returned (.tuple #[.agg #[.pointer (some ⟨t',0,none⟩),.slice a' R'.cn.length c'],.bool true])∧R'.cn.length≤R.cn.length+1∧(kd ≠ 4→kd ≠ 5→F'=F∧ws'=ws)
def sG (t:Nat)(a:bO)(m c:Nat):Array Value:=#[.pointer (some ⟨t,0,none⟩),.slice a m c]
def uH:Array Value:=#[.pointer none,.slice none 0 0]
def Hq (B:Nat)(t:Nat)(a:bO)(m c:Nat)(x:dh):List eH:=[(B+1+1,uH,34),(B+1,(fJ x).toArray,37),(B,sG t a m c,34)]
theorem qf {w0 w:World}{P D gl n:Nat}{V:bY}{F:Nat→Bool}{ws:bW}{L:List eH}{M:List Nat}(h:TQ w0 w P D gl n V F ws L M)(t:Nat)(a:bO)(m c:Nat)(x:dh) :
 ∀ w3,w3=((w.alloc (.cells (sG t a m c) 34)).alloc (.cells (fJ x).toArray 37)).alloc (.cells uH 34)→TQ w0 w3 P D gl n V F ws (Hq w.heap.size t a m c x++L) M∧Below w.heap.size w w3∧w.heap.size+3≤w3.heap.size:=by
 intro w3 e
 have h1:=h.q.add (aK w (.cells (sG t a m c) 34)) w.heap.size _ _ (Nat.le_refl _) (ah w _)
 have e1:(w.alloc (.cells (sG t a m c) 34)).heap.size=w.heap.size+1:=by simp
 have e2:((w.alloc (.cells (sG t a m c) 34)).alloc (.cells (fJ x).toArray 37)).heap.size=w.heap.size+1+1:=by simp
 have h2:=h1.add (aK _ (.cells (fJ x).toArray 37)) (w.heap.size+1) _ _ (by omega) (by rw [← e1]; exact ah _ _)
 have h3:=h2.add (aK _ (.cells uH 34)) (w.heap.size+1+1) _ _ (by omega) (by rw [← e2]; exact ah _ _)
 subst e
 exact ⟨⟨h3,h.few⟩,aJ (aJ (aK w _) (aK _ _)) (aK _ _),by simp⟩
theorem qh {w0 w w3 w5 w6:World}{P D gl n:Nat}{V:bY}{F F':Nat→Bool}{ws ws':bW}{L:List eH}{M M':List Nat}{t t':Nat}{a a':bO}{m c c':Nat}{x:dh}{R R':Rt}(h:TQ w0 w P D gl n V F ws L M)(hb:Below w.heap.size w w3)(h3s:w.heap.size+3≤w3.heap.size)
 (hs:Vf w0 w3 w5 P D gl n V F ws (Hq w.heap.size t a m c x++L) M F' ws' M') (hp:PM w5 P n V F' ws' M' t' R' a' c') (hw6:w6=(w5.setCell ⟨w.heap.size+1+1,0,none⟩ (.pointer (some ⟨t',0,none⟩))).setCell ⟨w.heap.size+1+1,1,none⟩ (.slice a' R'.cn.length c')) (hn:R'.cn.length≤R.cn.length+1) (hf:x.kd ≠ 4→x.kd ≠ 5→F'=F∧ws'=ws) (fl:Value) (hfl:fl = .bool true) :
 w6.heap[w.heap.size+1+1]? = some (.cells #[.pointer (some ⟨t',0,none⟩),.slice a' R'.cn.length c'] 34 (0,0))∧uG w0 P D gl n V F ws L M x.kd R w (.returned (.tuple #[.agg #[.pointer (some ⟨t',0,none⟩),.slice a' R'.cn.length c'],fl])) w6:=by
 have hr:w5.heap[w.heap.size+1+1]? = some (.cells [Value.pointer none,.slice none 0 0].toArray 34 (0,0)):=hs.tq.q.row 0 _ rfl
 have ht:Touch [w.heap.size+1+1] w5 w6:=by
  subst hw6;exact (aV w5 (w.heap.size+1+1) 0 _).trans (aV _ (w.heap.size+1+1) 1 _)
 have iO:w6.heap[w.heap.size+1+1]? = some (.cells #[.pointer (some ⟨t',0,none⟩),.slice a' R'.cn.length c'] 34 (0,0)):=by
  subst hw6;exact fC (fC hr 0 _) 1 _
 refine ⟨iO,F',ws',M',t',R',a',c', ?_, ?_,by rw [hfl],hn,hf⟩
 ·have hM:∀ k ∈ M',k ∈ M∨w.heap.size+3≤k:=fun k hk=>(hs.new k hk).imp id (fun e=>by omega)
  have hq6:=hs.tq.q.upd ht iO (fun r hr=>?_)
  ·have hq7:=hq6.less (L':=L) (M':=M') (fun r hr=>by simp [hr]) (fun k hk=>hk)
   refine ⟨⟨hq7,hs.tq.few⟩,hs.sub,fun k hk=>(hM k hk).imp id (fun e=>by omega),fun k hk=>?_,Nat.le_trans hb.size (Nat.le_trans hs.sz ht.size),hs.more⟩;have hk0:=h.q.jY k hk;refine (ht.block k (Nat.lt_of_lt_of_le hk0 (Nat.le_trans hb.size hs.sz)) (by simp only [List.mem_singleton]; omega)).trans ((hs.st k hk).trans (hb.block k hk0))
  have hr':r ∈ [(w.heap.size+1,(fJ x).toArray,37),(w.heap.size,sG t a m c,34)]++L:=hr;rcases List.mem_append.1 hr' with hr | hr
  ·rcases List.mem_cons.1 hr with rfl | hr
   ·show w.heap.size+1 ≠ w.heap.size+1+1; omega
   rw [List.mem_singleton.1 hr];show w.heap.size ≠ w.heap.size+1+1; omega
  have:=lt_of_block (h.q.rows r hr).1;omega
 ·refine hp.mono (fun k hk=>ht.block k (hs.tq.q.jY k hk) ?_) (fun k hk=>hk) (fun k hk=>Nat.lt_of_lt_of_le (hs.tq.q.jY k hk) ht.size) (fun _ _ e=>e)
  simp only [List.mem_singleton];rcases hs.new k hk with e | e
  ·have:=h.q.jY k e; omega
  omega
def errOf (may:Bool)(c:Cg)(K:List bH):Int:=if may=true then c.err K else 2
theorem QZ {w':World}{P n:Nat}{V:bY}{F:Nat→Bool}{ws:bW}{M':List Nat}{may:Bool}{c:Cg}{R:Rt}{e:Ending}(h:Hm w' P n V F ws M' may c R e) :
 (errOf may c R.cn ≠ 0→e = .returned (.tuple #[.pointer none,.int .i64 (errOf may c R.cn)]))∧(errOf may c R.cn=0→∃ t' R',e = .returned (.tuple #[.pointer (some ⟨t',0,none⟩),.int .i64 0])∧TM w' P n V F ws M' t' R'∧R'.cn=c.app R.cn∧R'.fr≤R.fr+4 * R.dp+3):=by
 unfold Hm at h
 unfold errOf
 cases may with
 | false=>exact ⟨fun _=>h,fun e=>by cases e⟩
 | true =>
   rw [if_pos rfl] at h ⊢;rcases h with ⟨h1,h2⟩ | ⟨h1,h2⟩
   ·exact ⟨fun _=>h2,fun e=>absurd e h1⟩
   exact ⟨fun e=>absurd h1 e,fun _=>h2⟩
theorem Ag {w w':World}{may:Bool}{c:Cg}{K:List bH}{e:Ending}(h:ajt may c K w e w') :
 (errOf may c K ≠ 0→e = .returned (.tuple #[.agg #[.slice none 0 0],.int .i64 (errOf may c K)]))∧(errOf may c K=0→∃ v',e = .returned (.tuple #[.agg #[v'],.int .i64 0])∧sJ w' w.heap.size v' (c.app K)):=by
 have h:=h.1
 unfold errOf
 cases may with
 | false=>exact ⟨fun _=>h,fun e=>by cases e⟩
 | true =>
   rw [if_pos rfl] at h ⊢;rcases h with ⟨h1,h2⟩ | ⟨h1,h2⟩
   ·exact ⟨fun _=>h2,fun e=>absurd e h1⟩
   exact ⟨fun e=>absurd h1 e,fun _=>h2⟩
theorem Hr (k v:ByteArray):∀ K:List bH,(ja k v K).length≤K.length+1
 | []=>Nat.le_refl _
 | x::r=>by
   have:=Hr k v r;unfold ja;split
   ·simp only [List.length_cons]; omega
   split
   ·simp
   simp
theorem Q3 (k:ByteArray):∀ K:List bH,(delS k K).length≤K.length
 | []=>Nat.le_refl _
 | x::r=>by
   have:=Q3 k r;unfold delS;split
   ·simp only [List.length_cons]; omega
   split
   ·simp
   simp
theorem WN (c:Cg)(K:List bH):(c.app K).length≤K.length+1:=by
 cases c with
 | put k v=>exact Hr k v K
 | del k=>exact Nat.le_succ_of_le (Q3 k K)
theorem adS {w0 w:World}{P D gl n:Nat}{V:bY}{F:Nat→Bool}{ws:bW}{L:List eH}{M:List Nat}(h:TQ w0 w P D gl n V F ws L M):Vf w0 w w P D gl n V F ws L M F ws M:=⟨h,fun _ e=>e,fun _ e => .inl e,fun _ _=>rfl,Nat.le_refl _,More.refl⟩
theorem Vf.trans {w0 w w' w'':World}{P D gl n:Nat}{V:bY}{F F' F'':Nat→Bool}{ws ws' Nb:bW}{L:List eH}{M M' M'':List Nat}(h:Vf w0 w w' P D gl n V F ws L M F' ws' M')(q:Vf w0 w' w'' P D gl n V F' ws' L M' F'' Nb M''):Vf w0 w w'' P D gl n V F ws L M F'' Nb M'' :=
 ⟨q.tq,fun k hk=>q.sub k (h.sub k hk),fun k hk=>(q.new k hk).elim (fun e=>h.new k e) (fun e => .inr (Nat.le_trans h.sz e)),fun k hk=>(q.st k (h.sub k hk)).trans (h.st k hk),Nat.le_trans h.sz q.sz,h.more.trans q.more⟩
theorem bV {w0 w w':World}{P D gl n:Nat}{V:bY}{F:Nat→Bool}{ws:bW}{L:List eH}{M M':List Nat}(h:TQ w0 w P D gl n V F ws L M)(h':TQ w0 w' P D gl n V F ws L M')(hs:(∀ k ∈ M,k ∈ M')∧∀ k ∈ M',k ∈ M∨w.heap.size≤k)(hb:Below w.heap.size w w'):Vf w0 w w' P D gl n V F ws L M F ws M' :=
 ⟨h',hs.1,hs.2,aX h.q.jY hb,hb.size,More.refl⟩
theorem Ah {w0 w w':World}{P D gl n:Nat}{V:bY}{F:Nat→Bool}{ws:bW}{L:List eH}{M:List Nat}(h:TQ w0 w P D gl n V F ws L M)(hb:Below w.heap.size w w'):Vf w0 w w' P D gl n V F ws L M F ws (nY w w'++M) :=
 bV h (h.grow hb) ⟨fun k hk=>List.mem_append_right _ hk,Ae⟩ hb
theorem uG.below {w0 w w' w'':World}{P D gl n:Nat}{V:bY}{F:Nat→Bool}{ws:bW}{L:List eH}{M:List Nat}{kd:Int}{R:Rt}{e:Ending}(h:uG w0 P D gl n V F ws L M kd R w e w')(q:Below w'.heap.size w' w''):uG w0 P D gl n V F ws L M kd R w e w'':=by
 obtain ⟨F',ws',M',t',R',a',c',h1,h2,h3,h4,h5⟩:=h;exact ⟨F',ws',M',t',R',a',c',h1.trans (bV h1.tq (h1.tq.below q) ⟨fun _ e=>e,fun _ e => .inl e⟩ q),h2.cO h1.tq (h1.tq.below q) (fun _ e=>e) q,h3,h4,h5⟩
theorem ig:(Tryz.prog.info? 34).map (·.size)=some 2:=by kernel_rfl
theorem ajF (w0 w:World)(P D gl n:Nat)(V:bY)(F:Nat→Bool)(ws:bW)(L:List eH)(M:List Nat)(t:Nat)(R:Rt)(a:bO)(c:Nat)(x:dh)(h:TQ w0 w P D gl n V F ws L M)(hp:PM w P n V F ws M t R a c)(hf:R.cn.length≤255)(hk:x.k.size≤1000000)(hv:x.v.size≤1000000)(hkd:x.kd=1) :
 Calls Tryz.prog 11 #[.pointer (some ⟨P,0,none⟩),.agg #[.pointer (some ⟨t,0,none⟩),.slice a R.cn.length c],.agg #[.int .i64 x.kd,.int .i64 x.nn,.string x.k,.string x.v]] w fun e w'=>uG w0 P D gl n V F ws L M x.kd R w e w':=by
 obtain ⟨kd,nn,k,v⟩:=x
 dsimp only at hk hv hkd ⊢
 subst kd
 have HQ:=hid h
 have HP:=hid hp
 have kG:=hid (And.intro hf (And.intro hk hv))
 have yT:=hid (qf h t a R.cn.length c ⟨1,nn,k,v⟩)
 obtain ⟨mm,hmm⟩:∃ z,R.cn.length=z:=⟨_,rfl⟩
 have GN:=hid hmm
 rw [hmm] at yT ⊢
 clear h hp hf hk hv hmm
 go_in
 go_upto_region 1 with fail
 generalize hw3:World.alloc _ (.cells #[.pointer none,.slice none 0 0] 34)=w3
 obtain ⟨hq3,hb3,hs3⟩:=yT.out w3 (by rw [← hw3]; rfl)
 have hp3:=HP.out.mono (aX HQ.out.q.jY hb3) (fun k hk=>hk) hq3.q.jY (fun _ _ e=>e)
 have lg:=hid hq3
 have xw:=hid hp3
 have HB3:=hid (And.intro hb3 hs3)
 have hr4:w3.heap[w.heap.size]? = some (.cells #[.pointer (some ⟨t,0,none⟩),.slice a mm c] 34 (0,0)):=hq3.q.row 2 _ rfl
 have lZ:w3.heap[w.heap.size+1]? = some (.cells #[.int .i64 1,.int .i64 nn,.string k,.string v] 37 (0,0)):=hq3.q.row 1 _ rfl
 have p40:=cell_of_row w3 w.heap.size 0 _ _ _ hr4
 have p41:=cell_of_row w3 w.heap.size 1 _ _ _ hr4
 have p50:=cell_of_row w3 (w.heap.size+1) 0 _ _ _ lZ
 have p52:=cell_of_row w3 (w.heap.size+1) 2 _ _ _ lZ
 have p53:=cell_of_row w3 (w.heap.size+1) 3 _ _ _ lZ
 clear hw3 hq3 hp3 hb3 hs3 hr4 lZ yT
 have HD:=hid (adP k lg.out xw.out.tm (by have:=kG.out.1; omega) kG.out.2.1)
 go_wp2_with fail
 refine HD.out.mono ?_
 rintro e w4 ⟨M4,hq4,hs4,hb4,hc4⟩
 have nC:=hid hq4
 have yO:=hid (bV lg.out hq4 hs4 hb4)
 have Au:=hid (xw.out.cO lg.out hq4 hs4.1 hb4)
 have Zx:=ae p40 (hb4.block _ (block_lt_of_cell p40))
 have Zy:=ae p41 (hb4.block _ (block_lt_of_cell p41))
 have q52:=ae p52 (hb4.block _ (block_lt_of_cell p52))
 have HB4:=hid hb4
 obtain ⟨hc1,hc2⟩:=QZ hc4
 have nZ:=hid (adK a c R.cn k w4 Au.out.lm.kv Au.out.lm.nil Au.out.lm.mid Au.out.lm.cap (by have:=kG.out; omega) (Nk Au.out.tm.at_.wf) kG.out.2.1)
 rw [GN.out] at nZ
 obtain ⟨E,hE⟩:∃ z,errOf (jf k) (.del k) R.cn=z:=⟨_,rfl⟩
 have YL:=hid hE
 rw [hE] at hc1 hc2
 clear hq4 hs4 hb4 hc4 HD p40 p41 p52 hE
 by_cases hz:E=0
 ·obtain ⟨t',R',rfl,Rj,hcn,_⟩:=hc2 hz
  subst hz;have He:=hid Rj;have HCN:=hid hcn;clear hc1 hc2 Rj hcn;go_wp2_with fail;refine nZ.out.mono ?_;rintro e w5 lZ;have gp:=hid lZ.2;obtain ⟨v5,rfl,hv5⟩:=(Ag lZ).2 YL.out;obtain ⟨a5,c5,rfl,hlm⟩:=ahC (M:=M4) hv5;obtain ⟨m5,uC⟩:∃ z,(Cg.app (.del k) R.cn).length=z:=⟨_,rfl⟩
  have IJ:=hid uC;have HLM:=hid hlm;rw [uC];clear lZ hv5 hlm uC nZ;have r40:=ae Zx (gp.out.block _ (block_lt_of_cell Zx));have r41:=ae Zy (gp.out.block _ (block_lt_of_cell Zy));have nT:=hid (yO.out.trans (Ah nC.out gp.out));go_upto_region 5 with fail
  generalize hw6:World.alloc w5 (.cells #[.slice a5 m5 c5] 32)=w6;have hb6:=aK w5 (.cells #[.slice a5 m5 c5] 32);have x10:=cell_of_row (w5.alloc (.cells #[.slice a5 m5 c5] 32)) w5.heap.size 0 _ _ _ (ah w5 _);rw [hw6] at hb6 x10;have lu:=hid hb6;have ny:=hid (nT.out.trans (bV nT.out.tq (nT.out.tq.below hb6) ⟨fun _ e=>e,fun _ e => .inl e⟩ hb6));have iO:w6.heap[w.heap.size+1+1]? = some (.cells #[.pointer none,.slice none 0 0] 34 (0,0)):=ny.out.tq.q.row 0 _ rfl;have b60:=cell_of_row w6 (w.heap.size+1+1) 0 _ _ _ iO;have f60:=frozen_of_row w6 (w.heap.size+1+1) 0 _ _ iO;have b61:=cell_of_row w6 (w.heap.size+1+1) 1 _ _ _ iO;have f61:=frozen_of_row w6 (w.heap.size+1+1) 1 _ _ iO;clear hw6 hb6 iO;have HE:=hid (qh HQ.out HB3.out.1 HB3.out.2 ny.out (R:=R) (R':=R') (a':=a5) (c':=c5) (t':=t') ⟨(He.out.cO nC.out (nC.out.grow gp.out) (fun k hk=>List.mem_append_right _ hk) gp.out).cO nT.out.tq ny.out.tq (fun k hk=>hk) lu.out,by rw [HCN.out]; exact HLM.out.mono (aX nT.out.tq.q.jY lu.out) (fun k hk=>hk)⟩ rfl (by rw [HCN.out]; exact WN _ _) (fun _ _=>⟨rfl,rfl⟩) _ rfl);rw [show R'.cn.length=m5 by rw [HCN.out]; exact IJ.out] at HE;go_wp2_with fail;refine bodyPost_ret (v := .tuple #[.agg #[.pointer (some ⟨t',0,none⟩),.slice a5 m5 c5],.bool true]) (aj Tryz.results11 _ _ (w.heap.size+1+1) 34 #[.pointer (some ⟨t',0,none⟩),.slice a5 m5 c5] (0,0) _ rfl HE.out.1 Tryz.underlying34 rfl ig _ (by simp)) rfl HE.out.2
 ·obtain rfl:=hc1 hz
  clear hc1 hc2;have HZ:=hid hz;have z1:(E == 0)=false:=by simpa using hz
  have z2:decide (E=0)=false:=by simpa using hz
  have z3:(E != 0)=true:=by simpa using hz
  go_wp2_with fail;refine nZ.out.mono ?_;rintro e w5 lZ;have gp:=hid lZ.2;have he5:=(Ag lZ).1 (by rw [YL.out]; exact HZ.out);rw [YL.out] at he5;subst he5;clear lZ nZ;have r40:=ae Zx (gp.out.block _ (block_lt_of_cell Zx));have r41:=ae Zy (gp.out.block _ (block_lt_of_cell Zy));have nT:=hid (yO.out.trans (Ah nC.out gp.out));go_upto_region 5 with fail
  generalize hw6:World.alloc w5 (.cells #[.slice none 0 0] 32)=w6;have hb6:=aK w5 (.cells #[.slice none 0 0] 32);have x10:=cell_of_row (w5.alloc (.cells #[.slice none 0 0] 32)) w5.heap.size 0 _ _ _ (ah w5 _);rw [hw6] at hb6 x10;have lu:=hid hb6;have ny:=hid (nT.out.trans (bV nT.out.tq (nT.out.tq.below hb6) ⟨fun _ e=>e,fun _ e => .inl e⟩ hb6));have iO:w6.heap[w.heap.size+1+1]? = some (.cells #[.pointer none,.slice none 0 0] 34 (0,0)):=ny.out.tq.q.row 0 _ rfl;have b60:=cell_of_row w6 (w.heap.size+1+1) 0 _ _ _ iO;have f60:=frozen_of_row w6 (w.heap.size+1+1) 0 _ _ iO;have b61:=cell_of_row w6 (w.heap.size+1+1) 1 _ _ _ iO;have f61:=frozen_of_row w6 (w.heap.size+1+1) 1 _ _ iO;clear hw6 hb6 iO;have s40:=ae r40 (lu.out.block _ (block_lt_of_cell r40));have s41:=ae r41 (lu.out.block _ (block_lt_of_cell r41));have HE:=hid (qh HQ.out HB3.out.1 HB3.out.2 ny.out (R:=R) (Au.out.cO nC.out (nC.out.grow gp.out) (fun k hk=>List.mem_append_right _ hk) gp.out |>.cO nT.out.tq ny.out.tq (fun k hk=>hk) lu.out) rfl (Nat.le_succ _) (fun _ _=>⟨rfl,rfl⟩) _ rfl);rw [GN.out] at HE;go_wp2_with fail;refine bodyPost_ret (v := .tuple #[.agg #[.pointer (some ⟨t,0,none⟩),.slice a mm c],.bool true]) (aj Tryz.results11 _ _ (w.heap.size+1+1) 34 #[.pointer (some ⟨t,0,none⟩),.slice a mm c] (0,0) _ rfl HE.out.1 Tryz.underlying34 rfl ig _ (by simp)) rfl HE.out.2
theorem agx (w0 w:World)(P D gl n:Nat)(V:bY)(F:Nat→Bool)(ws:bW)(L:List eH)(M:List Nat)(t:Nat)(R:Rt)(a:bO)(c:Nat)(x:dh)(h:TQ w0 w P D gl n V F ws L M)(hp:PM w P n V F ws M t R a c)(hf:R.cn.length≤255)(hk:x.k.size≤1000000)(hv:x.v.size≤1000000)(hkd:¬ x.kd=1∧¬ x.kd=2∧¬ x.kd=3∧¬ x.kd=4∧¬ x.kd=5∧¬ x.kd=0) :
 Calls Tryz.prog 11 #[.pointer (some ⟨P,0,none⟩),.agg #[.pointer (some ⟨t,0,none⟩),.slice a R.cn.length c],.agg #[.int .i64 x.kd,.int .i64 x.nn,.string x.k,.string x.v]] w fun e w'=>uG w0 P D gl n V F ws L M x.kd R w e w':=by
 obtain ⟨kd,nn,k,v⟩:=x
 dsimp only at hk hv hkd ⊢
 have KH:=hid hkd
 clear hkd
 have HQ:=hid h
 have HP:=hid hp
 have kG:=hid (And.intro hf (And.intro hk hv))
 have yT:=hid (qf h t a R.cn.length c ⟨kd,nn,k,v⟩)
 obtain ⟨mm,hmm⟩:∃ z,R.cn.length=z:=⟨_,rfl⟩
 have GN:=hid hmm
 rw [hmm] at yT ⊢
 clear h hp hf hk hv hmm
 go_in
 go_upto_region 1 with fail
 generalize hw3:World.alloc _ (.cells #[.pointer none,.slice none 0 0] 34)=w3
 obtain ⟨hq3,hb3,hs3⟩:=yT.out w3 (by rw [← hw3]; rfl)
 have hp3:=HP.out.mono (aX HQ.out.q.jY hb3) (fun k hk=>hk) hq3.q.jY (fun _ _ e=>e)
 have lg:=hid hq3
 have xw:=hid hp3
 have HB3:=hid (And.intro hb3 hs3)
 have hr4:w3.heap[w.heap.size]? = some (.cells #[.pointer (some ⟨t,0,none⟩),.slice a mm c] 34 (0,0)):=hq3.q.row 2 _ rfl
 have lZ:w3.heap[w.heap.size+1]? = some (.cells #[.int .i64 kd,.int .i64 nn,.string k,.string v] 37 (0,0)):=hq3.q.row 1 _ rfl
 have p40:=cell_of_row w3 w.heap.size 0 _ _ _ hr4
 have p41:=cell_of_row w3 w.heap.size 1 _ _ _ hr4
 have p50:=cell_of_row w3 (w.heap.size+1) 0 _ _ _ lZ
 have p52:=cell_of_row w3 (w.heap.size+1) 2 _ _ _ lZ
 have p53:=cell_of_row w3 (w.heap.size+1) 3 _ _ _ lZ
 clear hw3 hq3 hp3 hb3 hs3 hr4 lZ yT
 have ny:=hid (adS lg.out)
 have iO:w3.heap[w.heap.size+1+1]? = some (.cells #[.pointer none,.slice none 0 0] 34 (0,0)):=ny.out.tq.q.row 0 _ rfl
 have b60:=cell_of_row w3 (w.heap.size+1+1) 0 _ _ _ iO
 have f60:=frozen_of_row w3 (w.heap.size+1+1) 0 _ _ iO
 have b61:=cell_of_row w3 (w.heap.size+1+1) 1 _ _ _ iO
 have f61:=frozen_of_row w3 (w.heap.size+1+1) 1 _ _ iO
 clear iO
 have HE:=hid (qh HQ.out HB3.out.1 HB3.out.2 ny.out (R:=R) (xw.out) rfl (Nat.le_succ _) (fun _ _=>⟨rfl,rfl⟩) _ rfl)
 rw [GN.out] at HE
 obtain ⟨n0,n1,n2,n3,n4,n5⟩:=KH.out
 clear KH
 go_wp2_with fail
 refine bodyPost_ret (v := .tuple #[.agg #[.pointer (some ⟨t,0,none⟩),.slice a mm c],.bool true]) (aj Tryz.results11 _ _ (w.heap.size+1+1) 34 #[.pointer (some ⟨t,0,none⟩),.slice a mm c] (0,0) _ rfl HE.out.1 Tryz.underlying34 rfl ig _ (by simp)) rfl HE.out.2
theorem ajG (w0 w:World)(P D gl n:Nat)(V:bY)(F:Nat→Bool)(ws:bW)(L:List eH)(M:List Nat)(t:Nat)(R:Rt)(a:bO)(c:Nat)(x:dh)(h:TQ w0 w P D gl n V F ws L M)(hp:PM w P n V F ws M t R a c)(hf:R.cn.length≤255)(hk:x.k.size≤1000000)(hv:x.v.size≤1000000)(hkd:x.kd=2) :
 Calls Tryz.prog 11 #[.pointer (some ⟨P,0,none⟩),.agg #[.pointer (some ⟨t,0,none⟩),.slice a R.cn.length c],.agg #[.int .i64 x.kd,.int .i64 x.nn,.string x.k,.string x.v]] w fun e w'=>uG w0 P D gl n V F ws L M x.kd R w e w':=by
 obtain ⟨kd,nn,k,v⟩:=x
 dsimp only at hk hv hkd ⊢
 subst kd
 have HQ:=hid h
 have HP:=hid hp
 have kG:=hid (And.intro hf (And.intro hk hv))
 have yT:=hid (qf h t a R.cn.length c ⟨2,nn,k,v⟩)
 obtain ⟨mm,hmm⟩:∃ z,R.cn.length=z:=⟨_,rfl⟩
 have GN:=hid hmm
 rw [hmm] at yT ⊢
 clear h hp hf hk hv hmm
 go_in
 go_upto_region 1 with fail
 generalize hw3:World.alloc _ (.cells #[.pointer none,.slice none 0 0] 34)=w3
 obtain ⟨hq3,hb3,hs3⟩:=yT.out w3 (by rw [← hw3]; rfl)
 have hp3:=HP.out.mono (aX HQ.out.q.jY hb3) (fun k hk=>hk) hq3.q.jY (fun _ _ e=>e)
 have lg:=hid hq3
 have xw:=hid hp3
 have HB3:=hid (And.intro hb3 hs3)
 have hr4:w3.heap[w.heap.size]? = some (.cells #[.pointer (some ⟨t,0,none⟩),.slice a mm c] 34 (0,0)):=hq3.q.row 2 _ rfl
 have lZ:w3.heap[w.heap.size+1]? = some (.cells #[.int .i64 2,.int .i64 nn,.string k,.string v] 37 (0,0)):=hq3.q.row 1 _ rfl
 have p40:=cell_of_row w3 w.heap.size 0 _ _ _ hr4
 have p41:=cell_of_row w3 w.heap.size 1 _ _ _ hr4
 have p50:=cell_of_row w3 (w.heap.size+1) 0 _ _ _ lZ
 have p52:=cell_of_row w3 (w.heap.size+1) 2 _ _ _ lZ
 have p53:=cell_of_row w3 (w.heap.size+1) 3 _ _ _ lZ
 clear hw3 hq3 hp3 hb3 hs3 hr4 lZ yT
 have HD:=hid (ajA k lg.out xw.out.tm (by have:=kG.out.1; omega) kG.out.2.1)
 have nZ:=hid (fun W (hW:Below w3.heap.size w3 W)=>UE a c R.cn k W (xw.out.lm.kv.below hW) (by have:=kG.out; omega) (Nk xw.out.tm.at_.wf) kG.out.2.1)
 rw [GN.out] at nZ
 obtain ⟨sv,er,hG⟩:∃ sv er,(if jf k=true then (match nR k R.cn with | []=>#[Value.string aY,.int .i64 8] | x::_=>#[.string x.2,.int .i64 0]) else #[.string aY,.int .i64 2])=#[Value.string sv,.int .i64 er]:=by
  cases jf k with
  | false=>exact ⟨_,_,rfl⟩
  | true =>
    cases nR k R.cn with
    | nil=>exact ⟨_,_,rfl⟩
    | cons x r=>exact ⟨_,_,rfl⟩
 have HG:=hid hG
 clear hG
 go_wp2_with fail
 refine HD.out.mono ?_
 rintro e w4 ⟨he,hb4⟩
 obtain rfl:e = .returned (.tuple #[.string sv,.int .i64 er]):=he.trans (congrArg (fun z=>Ending.returned (.tuple z)) HG.out)
 have nC:=hid (lg.out.below hb4)
 have Au:=hid (xw.out.cO lg.out nC.out (fun k hk=>hk) hb4)
 have HB4:=hid hb4
 have Zx:=ae p40 (hb4.block _ (block_lt_of_cell p40))
 have Zy:=ae p41 (hb4.block _ (block_lt_of_cell p41))
 have q52:=ae p52 (hb4.block _ (block_lt_of_cell p52))
 clear hb4 HD p40 p41 p52
 go_wp2_with fail
 refine (nZ.out w4 HB4.out).mono ?_
 rintro e w5 ⟨he,hb5⟩
 obtain rfl:e = .returned (.tuple #[.string sv,.int .i64 er]):=he.trans (congrArg (fun z=>Ending.returned (.tuple z)) HG.out)
 have ny:=hid ((bV lg.out nC.out ⟨fun _ e=>e,fun _ e => .inl e⟩ HB4.out).trans (bV nC.out (nC.out.below hb5) ⟨fun _ e=>e,fun _ e => .inl e⟩ hb5))
 have r40:=ae Zx (hb5.block _ (block_lt_of_cell Zx))
 have r41:=ae Zy (hb5.block _ (block_lt_of_cell Zy))
 have iO:w5.heap[w.heap.size+1+1]? = some (.cells #[.pointer none,.slice none 0 0] 34 (0,0)):=ny.out.tq.q.row 0 _ rfl
 have b60:=cell_of_row w5 (w.heap.size+1+1) 0 _ _ _ iO
 have f60:=frozen_of_row w5 (w.heap.size+1+1) 0 _ _ iO
 have b61:=cell_of_row w5 (w.heap.size+1+1) 1 _ _ _ iO
 have f61:=frozen_of_row w5 (w.heap.size+1+1) 1 _ _ iO
 clear iO
 have HE:=hid (qh HQ.out HB3.out.1 HB3.out.2 ny.out (R:=R) (Au.out.cO nC.out ny.out.tq (fun k hk=>hk) hb5) rfl (Nat.le_succ _) (fun _ _=>⟨rfl,rfl⟩) _ rfl)
 rw [GN.out] at HE
 clear hb5 nZ
 go_wp2_with fail
 refine bodyPost_ret (v := .tuple #[.agg #[.pointer (some ⟨t,0,none⟩),.slice a mm c],.bool true]) (aj Tryz.results11 _ _ (w.heap.size+1+1) 34 #[.pointer (some ⟨t,0,none⟩),.slice a mm c] (0,0) _ rfl HE.out.1 Tryz.underlying34 rfl ig _ (by simp)) rfl HE.out.2
theorem ajH (w0 w:World)(P D gl n:Nat)(V:bY)(F:Nat→Bool)(ws:bW)(L:List eH)(M:List Nat)(t:Nat)(R:Rt)(a:bO)(c:Nat)(x:dh)(h:TQ w0 w P D gl n V F ws L M)(hp:PM w P n V F ws M t R a c)(hf:R.cn.length≤255)(hk:x.k.size≤1000000)(hv:x.v.size≤1000000)(hkd:x.kd=0) :
 Calls Tryz.prog 11 #[.pointer (some ⟨P,0,none⟩),.agg #[.pointer (some ⟨t,0,none⟩),.slice a R.cn.length c],.agg #[.int .i64 x.kd,.int .i64 x.nn,.string x.k,.string x.v]] w fun e w'=>uG w0 P D gl n V F ws L M x.kd R w e w':=by
 obtain ⟨kd,nn,k,v⟩:=x
 dsimp only at hk hv hkd ⊢
 subst kd
 have HQ:=hid h
 have HP:=hid hp
 have kG:=hid (And.intro hf (And.intro hk hv))
 have yT:=hid (qf h t a R.cn.length c ⟨0,nn,k,v⟩)
 obtain ⟨mm,hmm⟩:∃ z,R.cn.length=z:=⟨_,rfl⟩
 have GN:=hid hmm
 rw [hmm] at yT ⊢
 clear h hp hf hk hv hmm
 go_in
 go_upto_region 1 with fail
 generalize hw3:World.alloc _ (.cells #[.pointer none,.slice none 0 0] 34)=w3
 obtain ⟨hq3,hb3,hs3⟩:=yT.out w3 (by rw [← hw3]; rfl)
 have hp3:=HP.out.mono (aX HQ.out.q.jY hb3) (fun k hk=>hk) hq3.q.jY (fun _ _ e=>e)
 have lg:=hid hq3
 have xw:=hid hp3
 have HB3:=hid (And.intro hb3 hs3)
 have hr4:w3.heap[w.heap.size]? = some (.cells #[.pointer (some ⟨t,0,none⟩),.slice a mm c] 34 (0,0)):=hq3.q.row 2 _ rfl
 have lZ:w3.heap[w.heap.size+1]? = some (.cells #[.int .i64 0,.int .i64 nn,.string k,.string v] 37 (0,0)):=hq3.q.row 1 _ rfl
 have p40:=cell_of_row w3 w.heap.size 0 _ _ _ hr4
 have p41:=cell_of_row w3 w.heap.size 1 _ _ _ hr4
 have p50:=cell_of_row w3 (w.heap.size+1) 0 _ _ _ lZ
 have p52:=cell_of_row w3 (w.heap.size+1) 2 _ _ _ lZ
 have p53:=cell_of_row w3 (w.heap.size+1) 3 _ _ _ lZ
 clear hw3 hq3 hp3 hb3 hs3 hr4 lZ yT
 have HFR:=hid (lU xw.out.tm)
 go_wp2_with fail
 refine HFR.out.mono ?_
 rintro e w9 ⟨rfl,Rn⟩
 subst w9
 clear HFR
 have HD:=hid (Ho k v lg.out xw.out.tm (by have:=kG.out.1; omega) kG.out.2.1 kG.out.2.2)
 go_wp2_with fail
 refine HD.out.mono ?_
 rintro e w4 ⟨M4,hq4,hs4,hb4,hc4⟩
 have nC:=hid hq4
 have yO:=hid (bV lg.out hq4 hs4 hb4)
 have Au:=hid (xw.out.cO lg.out hq4 hs4.1 hb4)
 have Zx:=ae p40 (hb4.block _ (block_lt_of_cell p40))
 have Zy:=ae p41 (hb4.block _ (block_lt_of_cell p41))
 have q52:=ae p52 (hb4.block _ (block_lt_of_cell p52))
 have q53:=ae p53 (hb4.block _ (block_lt_of_cell p53))
 have HB4:=hid hb4
 obtain ⟨hc1,hc2⟩:=QZ hc4
 have nZ:=hid (adI a c R.cn k v w4 Au.out.lm.kv Au.out.lm.nil Au.out.lm.mid Au.out.lm.cap (by have:=kG.out; omega) (Nk Au.out.tm.at_.wf) kG.out.2.1 kG.out.2.2)
 rw [GN.out] at nZ
 obtain ⟨E,hE⟩:∃ z,errOf (jf k && decide (v.size≤96)) (.put k v) R.cn=z:=⟨_,rfl⟩
 have YL:=hid hE
 rw [hE] at hc1 hc2
 clear hq4 hs4 hb4 hc4 HD p40 p41 p52 p53 hE
 by_cases hz:E=0
 ·obtain ⟨t',R',rfl,Rj,hcn,hfr⟩:=hc2 hz
  subst hz;have He:=hid Rj;have HCN:=hid hcn;have HFR:=hid hfr;clear hc1 hc2 Rj hcn hfr;go_wp2_with fail;refine nZ.out.mono ?_;rintro e w5 lZ;have gp:=hid lZ.2;obtain ⟨v5,rfl,hv5⟩:=(Ag lZ).2 YL.out;obtain ⟨a5,c5,rfl,hlm⟩:=ahC (M:=M4) hv5;obtain ⟨m5,uC⟩:∃ z,(Cg.app (.put k v) R.cn).length=z:=⟨_,rfl⟩
  have IJ:=hid uC;have HLM:=hid hlm;rw [uC];clear lZ hv5 hlm uC nZ;have r40:=ae Zx (gp.out.block _ (block_lt_of_cell Zx));have r41:=ae Zy (gp.out.block _ (block_lt_of_cell Zy));have nT:=hid (yO.out.trans (Ah nC.out gp.out));go_upto_region 33 with fail
  generalize hw6:World.alloc w5 (.cells #[.slice a5 m5 c5] 32)=w6;have hb6:=aK w5 (.cells #[.slice a5 m5 c5] 32);have x10:=cell_of_row (w5.alloc (.cells #[.slice a5 m5 c5] 32)) w5.heap.size 0 _ _ _ (ah w5 _);rw [hw6] at hb6 x10;have lu:=hid hb6;have ny:=hid (nT.out.trans (bV nT.out.tq (nT.out.tq.below hb6) ⟨fun _ e=>e,fun _ e => .inl e⟩ hb6));have iO:w6.heap[w.heap.size+1+1]? = some (.cells #[.pointer none,.slice none 0 0] 34 (0,0)):=ny.out.tq.q.row 0 _ rfl;have b60:=cell_of_row w6 (w.heap.size+1+1) 0 _ _ _ iO;have f60:=frozen_of_row w6 (w.heap.size+1+1) 0 _ _ iO;have b61:=cell_of_row w6 (w.heap.size+1+1) 1 _ _ _ iO;have f61:=frozen_of_row w6 (w.heap.size+1+1) 1 _ _ iO;clear hw6 hb6 iO;have adT:=hid ((He.out.cO nC.out (nC.out.grow gp.out) (fun k hk=>List.mem_append_right _ hk) gp.out).cO nT.out.tq ny.out.tq (fun k hk=>hk) lu.out);have HE:=hid (qh HQ.out HB3.out.1 HB3.out.2 ny.out (R:=R) (R':=R') (a':=a5) (c':=c5) (t':=t') ⟨adT.out,by rw [HCN.out]; exact HLM.out.mono (aX nT.out.tq.q.jY lu.out) (fun k hk=>hk)⟩ rfl (by rw [HCN.out]; exact WN _ _) (fun _ _=>⟨rfl,rfl⟩) _ rfl);rw [show R'.cn.length=m5 by rw [HCN.out]; exact IJ.out] at HE;have hfb:=(mZ HP.out.tm.at_.wf (by have:=kG.out.1; omega)).2.1;have hfd:=Zw HP.out.tm.at_.wf kG.out.1;have hfr:=HFR.out;have HFS:=hid (fun W=>fun (hW:TM W P n V F ws (nY w4 w5++M4) t' R')=>lU hW);have fI:((R'.fr:Nat):Int)≤((R.fr:Nat):Int)+70:=by omega
  have fW:IntKind.i64.wrap (((R.fr:Nat):Int)+70)=((R.fr:Nat):Int)+70:=IntWalk.i64_in _ (by omega);have HFI:=hid (And.intro fI fW);clear hfb hfd hfr fI fW;go_upto_region 36 with fail
  try simp only [Act.put]
  refine wp_region_noPanic ?_;refine wp_region_held_drew (S:=fun W=>W.cell? ⟨w5.heap.size,0,none⟩=some (.slice a5 m5 c5)) (by kernel_rfl) x10 (fun hHeld=>?_);refine tR 0 230 (h:=?_);refine tK 1 231 (.agg #[.slice a5 m5 c5]) rfl (Or.inl ⟨by rfl, ?_⟩) ?_
  ·(intro w' hSw; have q0:=hSw; go_simp; try with_reducible rfl)
  try simp only [Act.put,pZ]
  refine tR 2 232 (h:=tR 3 233 (h:=tR 5 235 (h:=?_)));refine tK 6 236 (.int .i64 (((R.fr:Nat):Int)+70)) rfl (Or.inl ⟨by rfl, ?_⟩) ?_
  ·(intro w' hSw; have q0:=HFI.out.2; go_simp; try with_reducible rfl)
  try simp only [Act.put,pZ]
  refine rD 4 rfl fun K9 hK=>?_;go_simp;go_at_call 24
  refine (HFS.out w6.drew (adT.out.cO ny.out.tq (ny.out.tq.below (Below.refl _ w6).drew) (fun k hk=>hk) (Below.refl _ w6).drew)).mono ?_;rintro e w9 ⟨rfl,Rn⟩;subst w9;go_wp2_with fail;refine hK.out _ _ x10 (fun hHeld=>?_);clear hK K9;try simp only [Act.put,pZ]
  refine tK 7 237 (.bool true) rfl (Or.inl ⟨by rfl, ?_⟩) ?_
  ·(intro w' hSw; have q0:=HFI.out.1; go_simp; try with_reducible rfl)
  try simp only [Act.put,pZ]
  have hlt:=lt_of_block (ny.out.tq.q.row 0 _ rfl);have x11:=(World.cell?_of_block (((aV w6 (w.heap.size+1+1) 0 (.pointer (some ⟨t',0,none⟩))).trans (aV _ (w.heap.size+1+1) 1 (.slice a5 m5 c5))).block w5.heap.size (block_lt_of_cell x10) (by simp only [List.mem_singleton]; have:=HB3.out.2; have:=yO.out.sz; have:=gp.out.size; omega))).trans x10;clear hlt;refine rD 8 rfl fun K9 hK=>?_;go_simp;refine hK.out _ _ x11 (fun hHeld=>?_);clear hK K9;try simp only [Act.put,pZ]
  refine tR 9 7 (h:=?_);refine wpAnyH_done (by decide +kernel) ?_ _;refine NoPanic.normal ?_;clear hHeld;go_wp2_with fail;refine bodyPost_ret (v := .tuple #[.agg #[.pointer (some ⟨t',0,none⟩),.slice a5 m5 c5],.bool true]) (aj Tryz.results11 _ _ (w.heap.size+1+1) 34 #[.pointer (some ⟨t',0,none⟩),.slice a5 m5 c5] (0,0) _ rfl (show (World.drew ((w6.setCell ⟨w.heap.size+1+1,0,none⟩ (.pointer (some ⟨t',0,none⟩))).setCell ⟨w.heap.size+1+1,1,none⟩ (.slice a5 m5 c5))).heap[w.heap.size+1+1]? = _ from HE.out.1) Tryz.underlying34 rfl ig _ (by simp)) rfl (HE.out.2.below (Below.refl _ _).drew)
 ·obtain rfl:=hc1 hz
  clear hc1 hc2;have HZ:=hid hz;have z1:(E == 0)=false:=by simpa using hz
  have z2:decide (E=0)=false:=by simpa using hz
  have z3:(E != 0)=true:=by simpa using hz
  go_wp2_with fail;refine nZ.out.mono ?_;rintro e w5 lZ;have gp:=hid lZ.2;have he5:=(Ag lZ).1 (by rw [YL.out]; exact HZ.out);rw [YL.out] at he5;subst he5;clear lZ nZ;have r40:=ae Zx (gp.out.block _ (block_lt_of_cell Zx));have r41:=ae Zy (gp.out.block _ (block_lt_of_cell Zy));have nT:=hid (yO.out.trans (Ah nC.out gp.out));go_upto_region 33 with fail
  generalize hw6:World.alloc w5 (.cells #[.slice none 0 0] 32)=w6;have hb6:=aK w5 (.cells #[.slice none 0 0] 32);have x10:=cell_of_row (w5.alloc (.cells #[.slice none 0 0] 32)) w5.heap.size 0 _ _ _ (ah w5 _);rw [hw6] at hb6 x10;have lu:=hid hb6;have ny:=hid (nT.out.trans (bV nT.out.tq (nT.out.tq.below hb6) ⟨fun _ e=>e,fun _ e => .inl e⟩ hb6));have iO:w6.heap[w.heap.size+1+1]? = some (.cells #[.pointer none,.slice none 0 0] 34 (0,0)):=ny.out.tq.q.row 0 _ rfl;have b60:=cell_of_row w6 (w.heap.size+1+1) 0 _ _ _ iO;have f60:=frozen_of_row w6 (w.heap.size+1+1) 0 _ _ iO;have b61:=cell_of_row w6 (w.heap.size+1+1) 1 _ _ _ iO;have f61:=frozen_of_row w6 (w.heap.size+1+1) 1 _ _ iO;clear hw6 hb6 iO;have s40:=ae r40 (lu.out.block _ (block_lt_of_cell r40));have s41:=ae r41 (lu.out.block _ (block_lt_of_cell r41));have HE:=hid (qh HQ.out HB3.out.1 HB3.out.2 ny.out (R:=R) (Au.out.cO nC.out (nC.out.grow gp.out) (fun k hk=>List.mem_append_right _ hk) gp.out |>.cO nT.out.tq ny.out.tq (fun k hk=>hk) lu.out) rfl (Nat.le_succ _) (fun _ _=>⟨rfl,rfl⟩) _ rfl);rw [GN.out] at HE;go_wp2_with fail;refine bodyPost_ret (v := .tuple #[.agg #[.pointer (some ⟨t,0,none⟩),.slice a mm c],.bool true]) (aj Tryz.results11 _ _ (w.heap.size+1+1) 34 #[.pointer (some ⟨t,0,none⟩),.slice a mm c] (0,0) _ rfl HE.out.1 Tryz.underlying34 rfl ig _ (by simp)) rfl HE.out.2
theorem agy (w0 w:World)(P D gl n:Nat)(V:bY)(F:Nat→Bool)(ws:bW)(L:List eH)(M:List Nat)(t:Nat)(R:Rt)(a:bO)(c:Nat)(x:dh)(h:TQ w0 w P D gl n V F ws L M)(hp:PM w P n V F ws M t R a c)(hf:R.cn.length≤255)(hk:x.k.size≤1000000)(hv:x.v.size≤1000000)(hkd:x.kd=3) :
 Calls Tryz.prog 11 #[.pointer (some ⟨P,0,none⟩),.agg #[.pointer (some ⟨t,0,none⟩),.slice a R.cn.length c],.agg #[.int .i64 x.kd,.int .i64 x.nn,.string x.k,.string x.v]] w fun e w'=>uG w0 P D gl n V F ws L M x.kd R w e w':=by
 obtain ⟨kd,nn,k,v⟩:=x
 dsimp only at hk hv hkd ⊢
 subst kd
 have HQ:=hid h
 have HP:=hid hp
 have kG:=hid (And.intro hf (And.intro hk hv))
 have yT:=hid (qf h t a R.cn.length c ⟨3,nn,k,v⟩)
 obtain ⟨mm,hmm⟩:∃ z,R.cn.length=z:=⟨_,rfl⟩
 have GN:=hid hmm
 rw [hmm] at yT ⊢
 clear h hp hf hk hv hmm
 go_in
 go_upto_region 1 with fail
 generalize hw3:World.alloc _ (.cells #[.pointer none,.slice none 0 0] 34)=w3
 obtain ⟨hq3,hb3,hs3⟩:=yT.out w3 (by rw [← hw3]; rfl)
 have hp3:=HP.out.mono (aX HQ.out.q.jY hb3) (fun k hk=>hk) hq3.q.jY (fun _ _ e=>e)
 have lg:=hid hq3
 have xw:=hid hp3
 have HB3:=hid (And.intro hb3 hs3)
 have hr4:w3.heap[w.heap.size]? = some (.cells #[.pointer (some ⟨t,0,none⟩),.slice a mm c] 34 (0,0)):=hq3.q.row 2 _ rfl
 have lZ:w3.heap[w.heap.size+1]? = some (.cells #[.int .i64 3,.int .i64 nn,.string k,.string v] 37 (0,0)):=hq3.q.row 1 _ rfl
 have p40:=cell_of_row w3 w.heap.size 0 _ _ _ hr4
 have p41:=cell_of_row w3 w.heap.size 1 _ _ _ hr4
 have p50:=cell_of_row w3 (w.heap.size+1) 0 _ _ _ lZ
 have p52:=cell_of_row w3 (w.heap.size+1) 2 _ _ _ lZ
 have p53:=cell_of_row w3 (w.heap.size+1) 3 _ _ _ lZ
 clear hw3 hq3 hp3 hb3 hs3 hr4 lZ yT
 have HD:=hid (xq k v lg.out xw.out.tm (by have:=kG.out.1; omega))
 go_wp2_with fail
 refine HD.out.mono ?_
 rintro e w4 ⟨v4,rfl,hv4,hb4⟩
 have nC:=hid (lg.out.below hb4)
 have Au:=hid (xw.out.cO lg.out nC.out (fun k hk=>hk) hb4)
 have yO:=hid (bV lg.out nC.out ⟨fun _ e=>e,fun _ e => .inl e⟩ hb4)
 have Zx:=ae p40 (hb4.block _ (block_lt_of_cell p40))
 have Zy:=ae p41 (hb4.block _ (block_lt_of_cell p41))
 have q52:=ae p52 (hb4.block _ (block_lt_of_cell p52))
 have q53:=ae p53 (hb4.block _ (block_lt_of_cell p53))
 obtain ⟨a4,c4,rfl,hk4⟩:=hv4.ks
 have Sz:=hid hk4
 have hfl:(gV (k,v) R.cn).length≤100000:=Nat.le_trans (List.length_filter_le _ _) (by have:=kG.out.1; omega)
 have Ny:=hid hfl
 have nZ:=hid (fun W (hW:Below w4.heap.size w4 W)=>afW a c R.cn k v W (Au.out.lm.kv.below hW) (by have:=kG.out; omega))
 rw [GN.out] at nZ
 obtain ⟨K4,hKK⟩:∃ z,gV (k,v) R.cn=z:=⟨_,rfl⟩
 rw [hKK] at Sz Ny nZ ⊢
 clear hb4 HD p40 p41 p52 p53 hv4 hk4 hKK hfl
 have mP:=hid (fun (W:World) (M':List Nat) (hW:TQ w0 W P D gl n V F ws (Hq w.heap.size t a mm c ⟨3,nn,k,v⟩++L) M')=>show W.heap[w.heap.size]? = some (.cells #[.pointer (some ⟨t,0,none⟩),.slice a mm c] 34 (0,0))∧W.heap[w.heap.size+1]? = some (.cells #[.int .i64 3,.int .i64 nn,.string k,.string v] 37 (0,0)) from ⟨hW.q.row 2 _ rfl,hW.q.row 1 _ rfl⟩)
 go_upto_region 15 with fail
 try simp only [Act.put]
 refine wp_region_noPanic ?_
 refine wp_region_held_drew (S:=fun W=>W.heap[w.heap.size]? = some (.cells #[.pointer (some ⟨t,0,none⟩),.slice a mm c] 34 (0,0))∧W.heap[w.heap.size+1]? = some (.cells #[.int .i64 3,.int .i64 nn,.string k,.string v] 37 (0,0))) (by kernel_rfl) (mP.out w4 _ nC.out) (fun hHeld=>?_)
 refine tK 0 105 (.agg #[.pointer (some ⟨t,0,none⟩),.slice a mm c]) rfl (Or.inl ⟨by rfl, ?_⟩) ?_
 ·(intro w' hSw; have s0:=cell_of_row w' w.heap.size 0 _ _ _ hSw.1; have s1:=cell_of_row w' w.heap.size 1 _ _ _ hSw.1; have s2:=cell_of_row w' (w.heap.size+1) 2 _ _ _ hSw.2; have s3:=cell_of_row w' (w.heap.size+1) 3 _ _ _ hSw.2; go_simp; try with_reducible rfl)
 try simp only [Act.put,pZ]
 refine tR 1 106 (h:=tR 2 107 (h:=tR 3 108 (h:=tR 4 109 (h:=tR 5 110 (h:=?_)))))
 refine tK 6 111 (.agg #[.slice a mm c]) rfl (Or.inl ⟨by rfl, ?_⟩) ?_
 ·(intro w' hSw; have s0:=cell_of_row w' w.heap.size 0 _ _ _ hSw.1; have s1:=cell_of_row w' w.heap.size 1 _ _ _ hSw.1; have s2:=cell_of_row w' (w.heap.size+1) 2 _ _ _ hSw.2; have s3:=cell_of_row w' (w.heap.size+1) 3 _ _ _ hSw.2; go_simp; try with_reducible rfl)
 try simp only [Act.put,pZ]
 refine tR 7 112 (h:=?_)
 refine tK 8 113 (.string k) rfl (Or.inl ⟨by rfl, ?_⟩) ?_
 ·(intro w' hSw; have s0:=cell_of_row w' w.heap.size 0 _ _ _ hSw.1; have s1:=cell_of_row w' w.heap.size 1 _ _ _ hSw.1; have s2:=cell_of_row w' (w.heap.size+1) 2 _ _ _ hSw.2; have s3:=cell_of_row w' (w.heap.size+1) 3 _ _ _ hSw.2; go_simp; try with_reducible rfl)
 try simp only [Act.put,pZ]
 refine tR 9 114 (h:=?_)
 refine tK 10 115 (.string v) rfl (Or.inl ⟨by rfl, ?_⟩) ?_
 ·(intro w' hSw; have s0:=cell_of_row w' w.heap.size 0 _ _ _ hSw.1; have s1:=cell_of_row w' w.heap.size 1 _ _ _ hSw.1; have s2:=cell_of_row w' (w.heap.size+1) 2 _ _ _ hSw.2; have s3:=cell_of_row w' (w.heap.size+1) 3 _ _ _ hSw.2; go_simp; try with_reducible rfl)
 try simp only [Act.put,pZ]
 refine rD 11 rfl fun K9 hK=>?_
 go_simp
 go_at_call 35
 refine (nZ.out w4.drew (Below.refl _ w4).drew).mono ?_
 rintro e w5 ⟨v5,rfl,hv5,hb5⟩
 obtain ⟨a5,c5,rfl,hk5⟩:=hv5.ks
 have HK5:=hid hk5
 have gp:=hid (show Below w4.heap.size w4 w5 from (Below.refl _ w4).drew.trans hb5)
 have HSA:=hid (zU a4 a5 c4 c5 K4 w5 (Sz.out.below gp.out) hk5 Ny.out)
 obtain ⟨m4,hm4⟩:∃ z,K4.length=z:=⟨_,rfl⟩
 rw [hm4] at HSA ⊢
 clear hv5 hk5 hb5 nZ hm4
 go_wp2_with fail
 refine hK.out _ _ (mP.out w5 _ (nC.out.below gp.out)) (fun hHeld=>?_)
 clear hK K9
 try simp only [Act.put,pZ]
 refine rD 12 rfl fun K9 hK=>?_
 go_simp
 go_at_call 13
 refine HSA.out.mono ?_
 rintro e w6 ⟨rfl,hb6⟩
 have lu:=hid (aJ gp.out hb6)
 clear hb6 HSA
 go_wp2_with fail
 refine hK.out _ _ (mP.out w6 _ (nC.out.below lu.out)) (fun hHeld=>?_)
 clear hK K9
 try simp only [Act.put,pZ]
 refine tR 13 118 (h:=?_)
 have ny:=hid (yO.out.trans (bV nC.out (nC.out.below lu.out) ⟨fun _ e=>e,fun _ e => .inl e⟩ lu.out))
 have iO:w6.heap[w.heap.size+1+1]? = some (.cells #[.pointer none,.slice none 0 0] 34 (0,0)):=ny.out.tq.q.row 0 _ rfl
 have b60:=cell_of_row w6 (w.heap.size+1+1) 0 _ _ _ iO
 have f60:=frozen_of_row w6 (w.heap.size+1+1) 0 _ _ iO
 have b61:=cell_of_row w6 (w.heap.size+1+1) 1 _ _ _ iO
 have f61:=frozen_of_row w6 (w.heap.size+1+1) 1 _ _ iO
 clear iO
 have HE:=hid (qh HQ.out HB3.out.1 HB3.out.2 ny.out (R:=R) (Au.out.cO nC.out ny.out.tq (fun k hk=>hk) lu.out) rfl (Nat.le_succ _) (fun _ _=>⟨rfl,rfl⟩) _ rfl)
 rw [GN.out] at HE
 have hrw:=mP.out w6 _ (nC.out.below lu.out)
 have htz:=((aV w6 (w.heap.size+1+1) 0 (.pointer (some ⟨t,0,none⟩))).trans (aV _ (w.heap.size+1+1) 1 (.slice a mm c)))
 have HX6:=hid (And.intro ((htz.block _ (lt_of_block hrw.1) (by simp only [List.mem_singleton]; omega)).trans hrw.1) ((htz.block _ (lt_of_block hrw.2) (by simp only [List.mem_singleton]; omega)).trans hrw.2))
 clear hrw htz
 refine rD 14 rfl fun K9 hK=>?_
 go_simp
 refine hK.out _ _ HX6.out (fun hHeld=>?_)
 clear hK K9
 try simp only [Act.put,pZ]
 refine tR 15 7 (h:=?_)
 refine wpAnyH_done (by decide +kernel) ?_ _
 refine NoPanic.normal ?_
 clear hHeld
 go_wp2_with fail
 refine bodyPost_ret (v := .tuple #[.agg #[.pointer (some ⟨t,0,none⟩),.slice a mm c],.bool true]) (aj Tryz.results11 _ _ (w.heap.size+1+1) 34 #[.pointer (some ⟨t,0,none⟩),.slice a mm c] (0,0) _ rfl HE.out.1 Tryz.underlying34 rfl ig _ (by simp)) rfl HE.out.2
theorem adU (w0 w:World)(P D gl n:Nat)(V:bY)(F:Nat→Bool)(ws:bW)(L:List eH)(M:List Nat)(t:Nat)(R:Rt)(a:bO)(c:Nat)(x:dh)(h:TQ w0 w P D gl n V F ws L M)(hp:PM w P n V F ws M t R a c)(hf:R.cn.length≤255)(hk:x.k.size≤1000000)(hv:x.v.size≤1000000)(hkd:x.kd=4) :
 Calls Tryz.prog 11 #[.pointer (some ⟨P,0,none⟩),.agg #[.pointer (some ⟨t,0,none⟩),.slice a R.cn.length c],.agg #[.int .i64 x.kd,.int .i64 x.nn,.string x.k,.string x.v]] w fun e w'=>uG w0 P D gl n V F ws L M x.kd R w e w':=by
 obtain ⟨kd,nn,k,v⟩:=x
 dsimp only at hk hv hkd ⊢
 subst kd
 have HQ:=hid h
 have HP:=hid hp
 have kG:=hid (And.intro hf (And.intro hk hv))
 have yT:=hid (qf h t a R.cn.length c ⟨4,nn,k,v⟩)
 obtain ⟨mm,hmm⟩:∃ z,R.cn.length=z:=⟨_,rfl⟩
 have GN:=hid hmm
 rw [hmm] at yT ⊢
 clear h hp hf hk hv hmm
 go_in
 go_upto_region 1 with fail
 generalize hw3:World.alloc _ (.cells #[.pointer none,.slice none 0 0] 34)=w3
 obtain ⟨hq3,hb3,hs3⟩:=yT.out w3 (by rw [← hw3]; rfl)
 have hp3:=HP.out.mono (aX HQ.out.q.jY hb3) (fun k hk=>hk) hq3.q.jY (fun _ _ e=>e)
 have lg:=hid hq3
 have xw:=hid hp3
 have HB3:=hid (And.intro hb3 hs3)
 have hr4:w3.heap[w.heap.size]? = some (.cells #[.pointer (some ⟨t,0,none⟩),.slice a mm c] 34 (0,0)):=hq3.q.row 2 _ rfl
 have lZ:w3.heap[w.heap.size+1]? = some (.cells #[.int .i64 4,.int .i64 nn,.string k,.string v] 37 (0,0)):=hq3.q.row 1 _ rfl
 have p40:=cell_of_row w3 w.heap.size 0 _ _ _ hr4
 have p41:=cell_of_row w3 w.heap.size 1 _ _ _ hr4
 have p50:=cell_of_row w3 (w.heap.size+1) 0 _ _ _ lZ
 have p52:=cell_of_row w3 (w.heap.size+1) 2 _ _ _ lZ
 have p53:=cell_of_row w3 (w.heap.size+1) 3 _ _ _ lZ
 clear hw3 hq3 hp3 hb3 hs3 hr4 lZ yT
 have HFR:=hid (lU xw.out.tm)
 have IA:=hid (Eg lg.out)
 have xO:=hid (Af lg.out xw.out.tm)
 have hp0:=dF
 obtain ⟨ZL,Dk⟩:∃ z,(ag ai).toArray=z:=⟨_,rfl⟩
 have SE:=hid jR
 rw [Dk] at hp0 SE
 clear Dk
 go_wp2_with fail
 refine HFR.out.mono ?_
 rintro e w9 ⟨rfl,Rn⟩
 subst w9
 clear HFR
 go_wp2_with fail
 refine IA.out.mono ?_
 rintro e w9 ⟨rfl,Rn⟩
 subst w9
 clear IA
 go_wp2_with fail
 refine xO.out.mono ?_
 rintro e w4 ⟨F4,ws4,M4,q,er,tp,hs4,rfl,hres⟩
 have yO:=hid hs4
 have Au:=hid (xw.out.stepS hs4)
 clear hs4 xO p40 p41 p50 p52 p53
 go_upto_region 21 with (with_reducible refine wpList_store_row (o:=⟨none,.store _ (.tmp 21) _,_,_,_,_⟩) rfl 51 _ _ rfl w4.heap.size (ag q).toArray rfl rfl 51 ZL (heap_alloc_new w4 _) (bz q) (SE.out q) (aW q) ?_)
 generalize hWs:World.setRow _ w4.heap.size _=w5
 have hst:=nD w4 ZL (ag q).toArray 51 w5 hWs.symm
 have gp:=hid hst.2
 have Nq:=hid hst.1
 have qX:=hid (yO.out.tq.below hst.2)
 have nT:=hid (yO.out.trans (bV yO.out.tq qX.out ⟨fun _ e=>e,fun _ e => .inl e⟩ hst.2))
 have RH:=hid (Au.out.cO yO.out.tq qX.out (fun k hk=>hk) hst.2)
 clear hWs hst hp0
 have mP:=hid (fun (W:World) (F':Nat→Bool) (ws':bW) (M':List Nat) (hW:TQ w0 W P D gl n V F' ws' (Hq w.heap.size t a mm c ⟨4,nn,k,v⟩++L) M')=>show W.heap[w.heap.size]? = some (.cells #[.pointer (some ⟨t,0,none⟩),.slice a mm c] 34 (0,0))∧W.heap[w.heap.size+1]? = some (.cells #[.int .i64 4,.int .i64 nn,.string k,.string v] 37 (0,0)) from ⟨hW.q.row 2 _ rfl,hW.q.row 1 _ rfl⟩)
 have HRA:=hid (jF (w:=w5) (b:=w4.heap.size) (o:=0) (cs:=ag q) (by have h0:=Zj Nq.out; simpa using h0))
 have c41:∀ p:dW w5,p.now.cell? ⟨w.heap.size,1,none⟩=some (.slice a mm c):=oL (cell_of_row w5 w.heap.size 1 _ _ _ (mP.out _ _ _ _ qX.out).1)
 have IC:=hid (fun W=>dR q W)
 rcases hres with ⟨rfl,t4,R4,rfl,Rj,hsv,hcn⟩ | ⟨rfl,rfl,hq0,hcn⟩
 ·have adV:=hid (Rj.cO yO.out.tq qX.out (fun k hk=>hk) gp.out)
  have adW:=hsv.nul HP.out.tm.at_.wf;have ND:=hid hsv;have Jt:=hid (fun (p:dW w5)=>lU (adV.out.cO qX.out (qX.out.below p.bel) (fun k hk=>hk) p.bel));rw [hsv.fr] at Jt;have CP:=hid (fun (p:dW w5)=>Eg (qX.out.below p.bel));rw [adW] at IC;have hcE:((cnt F4 n:Nat):Int)=((cnt F n:Nat):Int) - ((R.fr:Nat):Int):=by omega
  have hcl:=cnt_le F n;have hnn:=HQ.out.q.pl.sp.hi;have hcW:IntKind.i64.wrap (((cnt F n:Nat):Int) - ((R.fr:Nat):Int))=((cnt F4 n:Nat):Int):=by rw [← hcE]; exact IntWalk.i64_in _ (by omega)
  have hm0:decide (R.cn=[])=((mm:Int) == 0):=by
   rw [← GN.out];cases R.cn with
   | nil=>rfl
   | cons x r=>simp; omega
  rw [hm0] at IC;generalize cnt F4 n=N4 at *;generalize cnt F n=N0 at *;obtain ⟨R0,hR0⟩:∃ z,R.fr=z:=⟨_,rfl⟩
  rw [hR0] at hcE hcW ⊢;clear hcl hnn adW hm0 hR0 Rj hsv hcE;go_upto_region 21 with fail
  refine bZ (by kernel_rfl) (by kernel_rfl) ?_;repeat (first
   | (with_reducible refine dN (o:=⟨some 150,_,_,_,_,_⟩) (by kernel_rfl) 51 _ rfl w4.heap.size 0 rfl (ag q) _ HRA.out Tryz.underlying51 rfl (dL q) ?_
      simp only [Act.put,pZ])
   | (go_big_quiet_step (first | (go_at_call 24; exact fA (Jt.out _)) | (go_at_call 25; exact fA (CP.out _)) | (go_at_call 21; exact fE (IC.out _)))))
  refine wpQuiet_nil ?_;intro _ hw';obtain ⟨pp,hw''⟩:=hw';subst hw'';have lu:=hid pp.bel;generalize pp.now=w6 at *;clear pp;have kR:=hid (qX.out.below lu.out);have ny:=hid (nT.out.trans (bV qX.out kR.out ⟨fun _ e=>e,fun _ e => .inl e⟩ lu.out));have adT:=hid (adV.out.cO qX.out kR.out (fun k hk=>hk) lu.out);have HL6:=hid ((RH.out.lm.mono (aX qX.out.q.jY lu.out) (fun k hk=>hk)));have k41:=cell_of_row w6 w.heap.size 1 _ _ _ (mP.out _ _ _ _ kR.out).1;have k50:=cell_of_row w6 (w.heap.size+1) 0 _ _ _ (mP.out _ _ _ _ kR.out).2;clear c41 IC Jt CP HRA;have iO:w6.heap[w.heap.size+1+1]? = some (.cells #[.pointer none,.slice none 0 0] 34 (0,0)):=ny.out.tq.q.row 0 _ rfl;have b60:=cell_of_row w6 (w.heap.size+1+1) 0 _ _ _ iO;have f60:=frozen_of_row w6 (w.heap.size+1+1) 0 _ _ iO;have b61:=cell_of_row w6 (w.heap.size+1+1) 1 _ _ _ iO;have f61:=frozen_of_row w6 (w.heap.size+1+1) 1 _ _ iO;clear iO;have HE:=hid (qh HQ.out HB3.out.1 HB3.out.2 ny.out (R:=R) (R':=R4) (a':=a) (c':=c) ⟨adT.out,by rw [ND.out.cn]; exact HL6.out⟩ rfl (by rw [ND.out.cn]; exact Nat.le_succ _) (fun h=>absurd rfl h) _ rfl);rw [show R4.cn.length=mm by rw [ND.out.cn]; exact GN.out] at HE;go_wp2_with fail;refine bodyPost_ret (v := .tuple #[.agg #[.pointer (some ⟨t4,0,none⟩),.slice a mm c],.bool true]) (aj Tryz.results11 _ _ (w.heap.size+1+1) 34 #[.pointer (some ⟨t4,0,none⟩),.slice a mm c] (0,0) _ rfl HE.out.1 Tryz.underlying34 rfl ig _ (by simp)) rfl HE.out.2
 ·have hqz:(q.ad == 0)=true:=by rw [hq0]; rfl
  rw [hqz] at IC;clear hq0 hqz hcn;go_upto_region 21 with fail
  refine bZ (by kernel_rfl) (by kernel_rfl) ?_;repeat (go_big_quiet_step (fail))
  refine wpQuiet_nil ?_;intro _ hw';obtain ⟨pp,hw''⟩:=hw';subst hw'';have lu:=hid pp.bel;generalize pp.now=w6 at *;clear pp;have kR:=hid (qX.out.below lu.out);have ny:=hid (nT.out.trans (bV qX.out kR.out ⟨fun _ e=>e,fun _ e => .inl e⟩ lu.out));have U3:=hid (RH.out.cO qX.out kR.out (fun k hk=>hk) lu.out);have Ew:=hid ((lu.out.block _ (lt_of_block Nq.out)).trans Nq.out);clear c41 HRA;go_upto_region 22 with fail
  try simp only [Act.put]
  refine wp_region_noPanic ?_;refine wp_region_held_drew (S:=fun W=>W.heap[w.heap.size]? = some (.cells #[.pointer (some ⟨t,0,none⟩),.slice a mm c] 34 (0,0))∧W.heap[w4.heap.size]? = some (.cells (ag q).toArray 51 (0,0))) (by kernel_rfl) ⟨(mP.out _ _ _ _ kR.out).1,Ew.out⟩ (fun hHeld=>?_);refine tK 0 159 (.agg #[.pointer (some ⟨t,0,none⟩),.slice a mm c]) rfl (Or.inl ⟨by rfl, ?_⟩) ?_
  ·(intro w' hSw; have s0:=cell_of_row w' w.heap.size 0 _ _ _ hSw.1; have s1:=cell_of_row w' w.heap.size 1 _ _ _ hSw.1; go_simp; try with_reducible rfl)
  try simp only [Act.put,pZ]
  refine tR 1 160 (h:=tR 2 161 (h:=tR 3 162 (h:=tR 4 163 (h:=tR 5 164 (h:=tR 6 165 (h:=tR 7 166 (h:=?_)))))));refine tK 8 167 _ rfl (yieldsIf_load_mid (by rfl) _ _ rfl (w4.heap.size) (0) rfl ((ag q)) _ (fun w' h=>by have q0:=Zj h.2; simpa using q0) Tryz.underlying51 rfl (dL q)) ?_;try simp only [Act.put,pZ]
  refine rD 9 rfl fun K9 hK=>?_;go_simp;go_at_call 21
  refine (IC.out w6.drew).mono ?_;rintro e w7 ⟨rfl,hb7⟩;have D6:=hid (show Below w6.heap.size w6 w7 from (Below.refl _ w6).drew.trans hb7);have Ee:=hid (kR.out.below D6.out);have Wj:=hid (ny.out.trans (bV kR.out Ee.out ⟨fun _ e=>e,fun _ e => .inl e⟩ D6.out));clear hb7 IC;go_wp2_with fail;refine hK.out _ _ ⟨(mP.out _ _ _ _ Ee.out).1,(D6.out.block _ (lt_of_block Ew.out)).trans Ew.out⟩ (fun hHeld=>?_);clear hK K9;try simp only [Act.put,pZ]
  refine tR 10 169 (h:=?_);have iO:w7.heap[w.heap.size+1+1]? = some (.cells #[.pointer none,.slice none 0 0] 34 (0,0)):=Wj.out.tq.q.row 0 _ rfl;have b60:=cell_of_row w7 (w.heap.size+1+1) 0 _ _ _ iO;have f60:=frozen_of_row w7 (w.heap.size+1+1) 0 _ _ iO;have b61:=cell_of_row w7 (w.heap.size+1+1) 1 _ _ _ iO;have f61:=frozen_of_row w7 (w.heap.size+1+1) 1 _ _ iO;clear iO;have HE:=hid (qh HQ.out HB3.out.1 HB3.out.2 Wj.out (R:=R) (U3.out.cO kR.out Ee.out (fun k hk=>hk) D6.out) rfl (Nat.le_succ _) (fun h=>absurd rfl h) _ rfl);rw [GN.out] at HE;have hrw:=(mP.out w7 _ _ _ Ee.out).1;have hr7:=(D6.out.block _ (lt_of_block Ew.out)).trans Ew.out;have htz:=((aV w7 (w.heap.size+1+1) 0 (.pointer (some ⟨t,0,none⟩))).trans (aV _ (w.heap.size+1+1) 1 (.slice a mm c)))
  have HX7:=hid (And.intro ((htz.block _ (lt_of_block hrw) (by simp only [List.mem_singleton]; omega)).trans hrw) ((htz.block _ (lt_of_block hr7) (by simp only [List.mem_singleton]; have:=HB3.out.2; have:=yO.out.sz; omega)).trans hr7));clear hrw htz hr7;refine rD 11 rfl fun K9 hK=>?_;go_simp;refine hK.out _ _ HX7.out (fun hHeld=>?_);clear hK K9;try simp only [Act.put,pZ]
  refine tR 12 7 (h:=?_);refine wpAnyH_done (by decide +kernel) ?_ _;refine NoPanic.normal ?_;clear hHeld;go_wp2_with fail;refine bodyPost_ret (v := .tuple #[.agg #[.pointer (some ⟨t,0,none⟩),.slice a mm c],.bool true]) (aj Tryz.results11 _ _ (w.heap.size+1+1) 34 #[.pointer (some ⟨t,0,none⟩),.slice a mm c] (0,0) _ rfl HE.out.1 Tryz.underlying34 rfl ig _ (by simp)) rfl HE.out.2
theorem adX (w0 w:World)(P D gl n:Nat)(V:bY)(F:Nat→Bool)(ws:bW)(L:List eH)(M:List Nat)(t:Nat)(R:Rt)(a:bO)(c:Nat)(x:dh)(h:TQ w0 w P D gl n V F ws L M)(hp:PM w P n V F ws M t R a c)(hf:R.cn.length≤255)(hk:x.k.size≤1000000)(hv:x.v.size≤1000000)(hkd:x.kd=5) :
 Calls Tryz.prog 11 #[.pointer (some ⟨P,0,none⟩),.agg #[.pointer (some ⟨t,0,none⟩),.slice a R.cn.length c],.agg #[.int .i64 x.kd,.int .i64 x.nn,.string x.k,.string x.v]] w fun e w'=>uG w0 P D gl n V F ws L M x.kd R w e w':=by
 obtain ⟨kd,nn,k,v⟩:=x
 dsimp only at hk hv hkd ⊢
 subst kd
 have HQ:=hid h
 have HP:=hid hp
 have kG:=hid (And.intro hf (And.intro hk hv))
 have yT:=hid (qf h t a R.cn.length c ⟨5,nn,k,v⟩)
 obtain ⟨mm,hmm⟩:∃ z,R.cn.length=z:=⟨_,rfl⟩
 have GN:=hid hmm
 rw [hmm] at yT ⊢
 clear h hp hf hk hv hmm
 go_in
 go_upto_region 1 with fail
 generalize hw3:World.alloc _ (.cells #[.pointer none,.slice none 0 0] 34)=w3
 obtain ⟨hq3,hb3,hs3⟩:=yT.out w3 (by rw [← hw3]; rfl)
 have hp3:=HP.out.mono (aX HQ.out.q.jY hb3) (fun k hk=>hk) hq3.q.jY (fun _ _ e=>e)
 have lg:=hid hq3
 have xw:=hid hp3
 have HB3:=hid (And.intro hb3 hs3)
 have hr4:w3.heap[w.heap.size]? = some (.cells #[.pointer (some ⟨t,0,none⟩),.slice a mm c] 34 (0,0)):=hq3.q.row 2 _ rfl
 have lZ:w3.heap[w.heap.size+1]? = some (.cells #[.int .i64 5,.int .i64 nn,.string k,.string v] 37 (0,0)):=hq3.q.row 1 _ rfl
 have p40:=cell_of_row w3 w.heap.size 0 _ _ _ hr4
 have p41:=cell_of_row w3 w.heap.size 1 _ _ _ hr4
 have p50:=cell_of_row w3 (w.heap.size+1) 0 _ _ _ lZ
 have p52:=cell_of_row w3 (w.heap.size+1) 2 _ _ _ lZ
 have p53:=cell_of_row w3 (w.heap.size+1) 3 _ _ _ lZ
 clear hw3 hq3 hp3 hb3 hs3 hr4 lZ yT
 have HFR:=hid (lU xw.out.tm)
 have IA:=hid (Eg lg.out)
 have xO:=hid (Af lg.out xw.out.tm)
 have hp0:=dF
 obtain ⟨ZL,Dk⟩:∃ z,(ag ai).toArray=z:=⟨_,rfl⟩
 have SE:=hid jR
 rw [Dk] at hp0 SE
 clear Dk
 go_wp2_with fail
 refine HFR.out.mono ?_
 rintro e w9 ⟨rfl,Rn⟩
 subst w9
 clear HFR
 go_wp2_with fail
 refine IA.out.mono ?_
 rintro e w9 ⟨rfl,Rn⟩
 subst w9
 clear IA
 go_wp2_with fail
 refine xO.out.mono ?_
 rintro e w4 ⟨F4,ws4,M4,q,er,tp,hs4,rfl,hres⟩
 have yO:=hid hs4
 have Au:=hid (xw.out.stepS hs4)
 clear hs4 xO p40 p41 p50 p52 p53
 go_upto_region 21 with (with_reducible refine wpList_store_row (o:=⟨none,.store _ (.tmp 21) _,_,_,_,_⟩) rfl 51 _ _ rfl w4.heap.size (ag q).toArray rfl rfl 51 ZL (heap_alloc_new w4 _) (bz q) (SE.out q) (aW q) ?_)
 generalize hWs:World.setRow _ w4.heap.size _=w5
 have hst:=nD w4 ZL (ag q).toArray 51 w5 hWs.symm
 have gp:=hid hst.2
 have Nq:=hid hst.1
 have qX:=hid (yO.out.tq.below hst.2)
 have nT:=hid (yO.out.trans (bV yO.out.tq qX.out ⟨fun _ e=>e,fun _ e => .inl e⟩ hst.2))
 have RH:=hid (Au.out.cO yO.out.tq qX.out (fun k hk=>hk) hst.2)
 clear hWs hst hp0
 have mP:=hid (fun (W:World) (F':Nat→Bool) (ws':bW) (M':List Nat) (hW:TQ w0 W P D gl n V F' ws' (Hq w.heap.size t a mm c ⟨5,nn,k,v⟩++L) M')=>show W.heap[w.heap.size]? = some (.cells #[.pointer (some ⟨t,0,none⟩),.slice a mm c] 34 (0,0))∧W.heap[w.heap.size+1]? = some (.cells #[.int .i64 5,.int .i64 nn,.string k,.string v] 37 (0,0)) from ⟨hW.q.row 2 _ rfl,hW.q.row 1 _ rfl⟩)
 have HRA:=hid (jF (w:=w5) (b:=w4.heap.size) (o:=0) (cs:=ag q) (by have h0:=Zj Nq.out; simpa using h0))
 have c41:∀ p:dW w5,p.now.cell? ⟨w.heap.size,1,none⟩=some (.slice a mm c):=oL (cell_of_row w5 w.heap.size 1 _ _ _ (mP.out _ _ _ _ qX.out).1)
 have IC:=hid (fun W=>dR q W)
 rcases hres with ⟨rfl,t4,R4,rfl,Rj,hsv,hcn⟩ | ⟨rfl,rfl,hq0,hcn⟩
 ·have adV:=hid (Rj.cO yO.out.tq qX.out (fun k hk=>hk) gp.out)
  have adW:=hsv.nul HP.out.tm.at_.wf;have ND:=hid hsv;have Jt:=hid (fun (p:dW w5)=>lU (adV.out.cO qX.out (qX.out.below p.bel) (fun k hk=>hk) p.bel));rw [hsv.fr] at Jt;have CP:=hid (fun (p:dW w5)=>Eg (qX.out.below p.bel));rw [adW] at IC;have hcE:((cnt F4 n:Nat):Int)=((cnt F n:Nat):Int) - ((R.fr:Nat):Int):=by omega
  have hcl:=cnt_le F n;have hnn:=HQ.out.q.pl.sp.hi;have hcW:IntKind.i64.wrap (((cnt F n:Nat):Int) - ((R.fr:Nat):Int))=((cnt F4 n:Nat):Int):=by rw [← hcE]; exact IntWalk.i64_in _ (by omega)
  have hm0:decide (R.cn=[])=((mm:Int) == 0):=by
   rw [← GN.out];cases R.cn with
   | nil=>rfl
   | cons x r=>simp; omega
  rw [hm0] at IC;generalize cnt F4 n=N4 at *;generalize cnt F n=N0 at *;obtain ⟨R0,hR0⟩:∃ z,R.fr=z:=⟨_,rfl⟩
  rw [hR0] at hcE hcW ⊢;clear hcl hnn adW hm0 hR0 Rj hsv hcE;go_upto_region 21 with fail
  refine bZ (by kernel_rfl) (by kernel_rfl) ?_;repeat (first
   | (with_reducible refine dN (o:=⟨some 150,_,_,_,_,_⟩) (by kernel_rfl) 51 _ rfl w4.heap.size 0 rfl (ag q) _ HRA.out Tryz.underlying51 rfl (dL q) ?_
      simp only [Act.put,pZ])
   | (go_big_quiet_step (first | (go_at_call 24; exact fA (Jt.out _)) | (go_at_call 25; exact fA (CP.out _)) | (go_at_call 21; exact fE (IC.out _)))))
  refine wpQuiet_nil ?_;intro _ hw';obtain ⟨pp,hw''⟩:=hw';subst hw'';have lu:=hid pp.bel;generalize pp.now=w6 at *;clear pp;have kR:=hid (qX.out.below lu.out);have ny:=hid (nT.out.trans (bV qX.out kR.out ⟨fun _ e=>e,fun _ e => .inl e⟩ lu.out));have adT:=hid (adV.out.cO qX.out kR.out (fun k hk=>hk) lu.out);have HL6:=hid ((RH.out.lm.mono (aX qX.out.q.jY lu.out) (fun k hk=>hk)));have k41:=cell_of_row w6 w.heap.size 1 _ _ _ (mP.out _ _ _ _ kR.out).1;have k50:=cell_of_row w6 (w.heap.size+1) 0 _ _ _ (mP.out _ _ _ _ kR.out).2;clear c41 IC Jt CP HRA;have Ea:=hid (agv (R:=R) kR.out ND.out HP.out.tm.at_.wf);have Ew:=hid ((lu.out.block _ (lt_of_block Nq.out)).trans Nq.out);go_wp2_with (with_reducible refine wpList_load_row (o:=⟨some 175,_,_,_,_,_⟩) rfl 51 _ rfl w4.heap.size rfl 51 (ag q).toArray (0,0) _ Ew.out Tryz.underlying51 rfl (bz q) ?_)
  refine Ea.out.mono ?_;rintro e w7 ⟨M7,t7,R7,hq7,hs7,hb7,rfl,ajI,anT,anU⟩;have Ee:=hid hq7;have aqG:=hid ajI;have ajJ:=hid anT;have Wj:=hid (ny.out.trans (bV kR.out hq7 hs7 hb7));have HL7:=hid (HL6.out.mono (aX kR.out.q.jY hb7) hs7.1);have HF7:=hid (lU ajI);rw [anU,show ((0:Nat):Int)=0 from rfl] at HF7;have j41:=ae k41 (hb7.block _ (block_lt_of_cell k41));clear hq7 hs7 hb7 ajI anT anU Ea k41 k50;go_wp2_with fail;refine HF7.out.mono ?_;rintro e w8 ⟨rfl,hw8⟩;subst w8;clear HF7;have iO:w7.heap[w.heap.size+1+1]? = some (.cells #[.pointer none,.slice none 0 0] 34 (0,0)):=Wj.out.tq.q.row 0 _ rfl;have b60:=cell_of_row w7 (w.heap.size+1+1) 0 _ _ _ iO;have f60:=frozen_of_row w7 (w.heap.size+1+1) 0 _ _ iO;have b61:=cell_of_row w7 (w.heap.size+1+1) 1 _ _ _ iO;have f61:=frozen_of_row w7 (w.heap.size+1+1) 1 _ _ iO;clear iO;have HE:=hid (qh HQ.out HB3.out.1 HB3.out.2 Wj.out (R:=R) (R':=R7) (a':=a) (c':=c) ⟨aqG.out,by rw [ajJ.out]; exact HL7.out⟩ rfl (by rw [ajJ.out]; exact Nat.le_succ _) (fun _ h=>absurd rfl h) _ rfl);rw [show R7.cn.length=mm by rw [ajJ.out]; exact GN.out] at HE;go_wp2_with fail;refine bodyPost_ret (v := .tuple #[.agg #[.pointer (some ⟨t7,0,none⟩),.slice a mm c],.bool true]) (aj Tryz.results11 _ _ (w.heap.size+1+1) 34 #[.pointer (some ⟨t7,0,none⟩),.slice a mm c] (0,0) _ rfl HE.out.1 Tryz.underlying34 rfl ig _ (by simp)) rfl HE.out.2
 ·have hqz:(q.ad == 0)=true:=by rw [hq0]; rfl
  rw [hqz] at IC;clear hq0 hqz hcn;go_upto_region 21 with fail
  refine bZ (by kernel_rfl) (by kernel_rfl) ?_;repeat (go_big_quiet_step (fail))
  refine wpQuiet_nil ?_;intro _ hw';obtain ⟨pp,hw''⟩:=hw';subst hw'';have lu:=hid pp.bel;generalize pp.now=w6 at *;clear pp;have kR:=hid (qX.out.below lu.out);have ny:=hid (nT.out.trans (bV qX.out kR.out ⟨fun _ e=>e,fun _ e => .inl e⟩ lu.out));have U3:=hid (RH.out.cO qX.out kR.out (fun k hk=>hk) lu.out);have Ew:=hid ((lu.out.block _ (lt_of_block Nq.out)).trans Nq.out);clear c41 HRA;go_upto_region 22 with fail
  try simp only [Act.put]
  refine wp_region_noPanic ?_;refine wp_region_held_drew (S:=fun W=>W.heap[w.heap.size]? = some (.cells #[.pointer (some ⟨t,0,none⟩),.slice a mm c] 34 (0,0))∧W.heap[w4.heap.size]? = some (.cells (ag q).toArray 51 (0,0))) (by kernel_rfl) ⟨(mP.out _ _ _ _ kR.out).1,Ew.out⟩ (fun hHeld=>?_);refine tK 0 159 (.agg #[.pointer (some ⟨t,0,none⟩),.slice a mm c]) rfl (Or.inl ⟨by rfl, ?_⟩) ?_
  ·(intro w' hSw; have s0:=cell_of_row w' w.heap.size 0 _ _ _ hSw.1; have s1:=cell_of_row w' w.heap.size 1 _ _ _ hSw.1; go_simp; try with_reducible rfl)
  try simp only [Act.put,pZ]
  refine tR 1 160 (h:=tR 2 161 (h:=tR 3 162 (h:=tR 4 163 (h:=tR 5 164 (h:=tR 6 165 (h:=tR 7 166 (h:=?_)))))));refine tK 8 167 _ rfl (yieldsIf_load_mid (by rfl) _ _ rfl (w4.heap.size) (0) rfl ((ag q)) _ (fun w' h=>by have q0:=Zj h.2; simpa using q0) Tryz.underlying51 rfl (dL q)) ?_;try simp only [Act.put,pZ]
  refine rD 9 rfl fun K9 hK=>?_;go_simp;go_at_call 21
  refine (IC.out w6.drew).mono ?_;rintro e w7 ⟨rfl,hb7⟩;have D6:=hid (show Below w6.heap.size w6 w7 from (Below.refl _ w6).drew.trans hb7);have Ee:=hid (kR.out.below D6.out);have Wj:=hid (ny.out.trans (bV kR.out Ee.out ⟨fun _ e=>e,fun _ e => .inl e⟩ D6.out));clear hb7 IC;go_wp2_with fail;refine hK.out _ _ ⟨(mP.out _ _ _ _ Ee.out).1,(D6.out.block _ (lt_of_block Ew.out)).trans Ew.out⟩ (fun hHeld=>?_);clear hK K9;try simp only [Act.put,pZ]
  refine tR 10 169 (h:=?_);have iO:w7.heap[w.heap.size+1+1]? = some (.cells #[.pointer none,.slice none 0 0] 34 (0,0)):=Wj.out.tq.q.row 0 _ rfl;have b60:=cell_of_row w7 (w.heap.size+1+1) 0 _ _ _ iO;have f60:=frozen_of_row w7 (w.heap.size+1+1) 0 _ _ iO;have b61:=cell_of_row w7 (w.heap.size+1+1) 1 _ _ _ iO;have f61:=frozen_of_row w7 (w.heap.size+1+1) 1 _ _ iO;clear iO;have HE:=hid (qh HQ.out HB3.out.1 HB3.out.2 Wj.out (R:=R) (U3.out.cO kR.out Ee.out (fun k hk=>hk) D6.out) rfl (Nat.le_succ _) (fun _ h=>absurd rfl h) _ rfl);rw [GN.out] at HE;have hrw:=(mP.out w7 _ _ _ Ee.out).1;have hr7:=(D6.out.block _ (lt_of_block Ew.out)).trans Ew.out;have htz:=((aV w7 (w.heap.size+1+1) 0 (.pointer (some ⟨t,0,none⟩))).trans (aV _ (w.heap.size+1+1) 1 (.slice a mm c)))
  have HX7:=hid (And.intro ((htz.block _ (lt_of_block hrw) (by simp only [List.mem_singleton]; omega)).trans hrw) ((htz.block _ (lt_of_block hr7) (by simp only [List.mem_singleton]; have:=HB3.out.2; have:=yO.out.sz; omega)).trans hr7));clear hrw htz hr7;refine rD 11 rfl fun K9 hK=>?_;go_simp;refine hK.out _ _ HX7.out (fun hHeld=>?_);clear hK K9;try simp only [Act.put,pZ]
  refine tR 12 7 (h:=?_);refine wpAnyH_done (by decide +kernel) ?_ _;refine NoPanic.normal ?_;clear hHeld;go_wp2_with fail;refine bodyPost_ret (v := .tuple #[.agg #[.pointer (some ⟨t,0,none⟩),.slice a mm c],.bool true]) (aj Tryz.results11 _ _ (w.heap.size+1+1) 34 #[.pointer (some ⟨t,0,none⟩),.slice a mm c] (0,0) _ rfl HE.out.1 Tryz.underlying34 rfl ig _ (by simp)) rfl HE.out.2
theorem ajK (w0 w:World)(P D gl n:Nat)(V:bY)(F:Nat→Bool)(ws:bW)(L:List eH)(M:List Nat)(t:Nat)(R:Rt)(a:bO)(c:Nat)(x:dh)(h:TQ w0 w P D gl n V F ws L M)(hp:PM w P n V F ws M t R a c)(hf:R.cn.length≤255)(hk:x.k.size≤1000000)(hv:x.v.size≤1000000) :
 Calls Tryz.prog 11 #[.pointer (some ⟨P,0,none⟩),.agg #[.pointer (some ⟨t,0,none⟩),.slice a R.cn.length c],.agg #[.int .i64 x.kd,.int .i64 x.nn,.string x.k,.string x.v]] w fun e w'=>uG w0 P D gl n V F ws L M x.kd R w e w':=by
 by_cases h1:x.kd=1
 ·exact ajF w0 w P D gl n V F ws L M t R a c x h hp hf hk hv h1
 by_cases h2:x.kd=2
 ·exact ajG w0 w P D gl n V F ws L M t R a c x h hp hf hk hv h2
 by_cases h3:x.kd=3
 ·exact agy w0 w P D gl n V F ws L M t R a c x h hp hf hk hv h3
 by_cases h4:x.kd=4
 ·exact adU w0 w P D gl n V F ws L M t R a c x h hp hf hk hv h4
 by_cases h5:x.kd=5
 ·exact adX w0 w P D gl n V F ws L M t R a c x h hp hf hk hv h5
 by_cases h6:x.kd=0
 ·exact ajH w0 w P D gl n V F ws L M t R a c x h hp hf hk hv h6
 exact agx w0 w P D gl n V F ws L M t R a c x h hp hf hk hv ⟨h1,h2,h3,h4,h5,h6⟩
def GrQ (w0:World)(P D gl n:Nat)(V:bY)(F:Nat→Bool)(ws:bW)(L:List eH)(M:List Nat)(m:Nat)(w:World)(e:Ending)(w':World):Prop :=
 ∃ M' t' R' a' c',Vf w0 w w' P D gl n V F ws L M F ws M'∧PM w' P n V F ws M' t' R' a' c'∧e = .returned (.tuple #[.agg #[.pointer (some ⟨t',0,none⟩),.slice a' R'.cn.length c'],.bool true])∧R'.cn.length≤m
structure GrI (w0 w w2 wr:World)(P D gl n:Nat)(V:bY)(F:Nat→Bool)(ws:bW)(L:List eH)(M:List Nat)(i:Nat)(M':List Nat)(t':Nat)(R':Rt)(a':bO)(m' c':Nat):Prop where
 tq:TQ w0 wr P D gl n V F ws ((w.heap.size+1,sG t' a' m' c',34)::(w.heap.size,uH,34)::L) M'
 pm:PM wr P n V F ws M' t' R' a' c'
 sub:∀ k ∈ M,k ∈ M'
 new:∀ k ∈ M',k ∈ M∨w2.heap.size≤k
 st:qQ M w wr
 sz:w2.heap.size≤wr.heap.size
 len:R'.cn.length≤i
 m:R'.cn.length=m'
theorem GrI.below {w0 w w2 wr w':World}{P D gl n:Nat}{V:bY}{F:Nat→Bool}{ws:bW}{L:List eH}{M:List Nat}{i j:Nat}{M':List Nat}{t':Nat}{R':Rt}{a':bO}{m' c':Nat}(h:GrI w0 w w2 wr P D gl n V F ws L M i M' t' R' a' m' c')(q:Below wr.heap.size wr w')(hj:i≤j):GrI w0 w w2 w' P D gl n V F ws L M j M' t' R' a' m' c' :=
 ⟨h.tq.below q,h.pm.cO h.tq (h.tq.below q) (fun _ e=>e) q,h.sub,h.new,fun k hk=>(q.block k (h.tq.q.jY k (h.sub k hk))).trans (h.st k hk),Nat.le_trans h.sz q.size,Nat.le_trans h.len hj,h.m⟩
theorem GrI.next {w0 w w2 wr w4 w5 w6:World}{P D gl n:Nat}{V:bY}{F:Nat→Bool}{ws:bW}{L:List eH}{M:List Nat}{i:Nat}{M' M4:List Nat}{t' t4:Nat}{R' R4:Rt}{a' a4:bO}{m' c' c4:Nat}(h:GrI w0 w w2 wr P D gl n V F ws L M i M' t' R' a' m' c')(hq:TQ w0 w P D gl n V F ws L M)(h2:w.heap.size+2≤w2.heap.size)
 (hb:Below wr.heap.size wr w4) (hs:Vf w0 w4 w5 P D gl n V F ws ((w.heap.size+1,sG t' a' m' c',34)::(w.heap.size,uH,34)::L) M' F ws M4) (hp:PM w5 P n V F ws M4 t4 R4 a4 c4) (hl:R4.cn.length≤R'.cn.length+1)
 (hw:w6=(w5.setCell ⟨w.heap.size+1,0,none⟩ (.pointer (some ⟨t4,0,none⟩))).setCell ⟨w.heap.size+1,1,none⟩ (.slice a4 R4.cn.length c4)):GrI w0 w w2 w6 P D gl n V F ws L M (i+1) M4 t4 R4 a4 R4.cn.length c4:=by
 have hr:w5.heap[w.heap.size+1]? = some (.cells [Value.pointer (some ⟨t',0,none⟩),.slice a' m' c'].toArray 34 (0,0)):=hs.tq.q.row 0 _ rfl
 have ht:Touch [w.heap.size+1] w5 w6:=by
  subst hw;exact (aV w5 (w.heap.size+1) 0 _).trans (aV _ (w.heap.size+1) 1 _)
 have iO:w6.heap[w.heap.size+1]? = some (.cells (sG t4 a4 R4.cn.length c4) 34 (0,0)):=by
  subst hw;exact fC (fC hr 0 _) 1 _
 have hM:∀ k ∈ M4,k ∈ M∨w2.heap.size≤k:=fun k hk=>(hs.new k hk).elim (fun e=>h.new k e) (fun e => .inr (by have:=h.sz; have:=hb.size; omega))
 have hne:∀ k ∈ M4,k ≠ w.heap.size+1:=fun k hk e=>(hM k hk).elim (fun e2=>by have:=hq.q.jY k e2; omega) (fun e2=>by omega)
 refine ⟨⟨hs.tq.q.upd ht iO (fun r hr=>?_),hs.tq.few⟩, ?_,fun k hk=>hs.sub k (h.sub k hk),hM,fun k hk=>?_,Nat.le_trans h.sz (Nat.le_trans hb.size (Nat.le_trans hs.sz ht.size)),by have:=h.len; omega,rfl⟩
 ·rcases List.mem_cons.1 hr with rfl | hr
  ·show w.heap.size ≠ w.heap.size+1; omega
  have:=lt_of_block (hq.q.rows r hr).1;omega
 ·exact hp.mono (fun k hk=>ht.block k (hs.tq.q.jY k hk) (by simpa using hne k hk)) (fun _ e=>e) (fun k hk=>Nat.lt_of_lt_of_le (hs.tq.q.jY k hk) ht.size) (fun _ _ e=>e)
 ·have hk4:=hs.sub k (h.sub k hk)
  exact (ht.block k (hs.tq.q.jY k hk4) (by simpa using hne k hk4)).trans ((hs.st k (h.sub k hk)).trans ((hb.block k (h.tq.q.jY k (h.sub k hk))).trans (h.st k hk)))
theorem GrI.done {w0 w w2 wr w6:World}{P D gl n:Nat}{V:bY}{F:Nat→Bool}{ws:bW}{L:List eH}{M:List Nat}{i:Nat}{M':List Nat}{t':Nat}{R':Rt}{a':bO}{m' c':Nat}(h:GrI w0 w w2 wr P D gl n V F ws L M i M' t' R' a' m' c')(hq:TQ w0 w P D gl n V F ws L M)(h2:w.heap.size+2≤w2.heap.size)
 (hw:w6=(wr.setCell ⟨w.heap.size,0,none⟩ (.pointer (some ⟨t',0,none⟩))).setCell ⟨w.heap.size,1,none⟩ (.slice a' m' c')):w6.heap[w.heap.size]? = some (.cells #[.pointer (some ⟨t',0,none⟩),.slice a' m' c'] 34 (0,0))∧GrQ w0 P D gl n V F ws L M i w (.returned (.tuple #[.agg #[.pointer (some ⟨t',0,none⟩),.slice a' m' c'],.bool true])) w6:=by
 have hr:wr.heap[w.heap.size]? = some (.cells [Value.pointer none,.slice none 0 0].toArray 34 (0,0)):=h.tq.q.row 1 _ rfl
 have ht:Touch [w.heap.size] wr w6:=by
  subst hw;exact (aV wr w.heap.size 0 _).trans (aV _ w.heap.size 1 _)
 have iO:w6.heap[w.heap.size]? = some (.cells #[.pointer (some ⟨t',0,none⟩),.slice a' m' c'] 34 (0,0)):=by
  subst hw;exact fC (fC hr 0 _) 1 _
 have hne:∀ k ∈ M',k ≠ w.heap.size:=fun k hk e=>(h.new k hk).elim (fun e2=>by have:=hq.q.jY k e2; omega) (fun e2=>by omega)
 have hq1:=h.tq.q.less (L':=(w.heap.size,uH,34)::L) (M':=M') (fun r hr=>List.mem_cons_of_mem _ hr) (fun _ e=>e)
 have hq2:=hq1.upd ht iO (fun r hr=>by have:=lt_of_block (hq.q.rows r hr).1; omega)
 have hq3:=hq2.less (L':=L) (M':=M') (fun r hr=>List.mem_cons_of_mem _ hr) (fun _ e=>e)
 refine ⟨iO,M',t',R',a',c',⟨⟨hq3,h.tq.few⟩,h.sub,fun k hk=>(h.new k hk).imp id (fun e=>by omega),fun k hk=>?_,by have:=h.sz; have:=ht.size; omega,More.refl⟩, ?_,by rw [h.m],h.len⟩
 ·have hk4:=h.sub k hk
  exact (ht.block k (h.tq.q.jY k hk4) (by simpa using hne k hk4)).trans (h.st k hk)
 ·exact h.pm.mono (fun k hk=>ht.block k (h.tq.q.jY k hk) (by simpa using hne k hk)) (fun _ e=>e) (fun k hk=>Nat.lt_of_lt_of_le (h.tq.q.jY k hk) ht.size) (fun _ _ e=>e)
theorem agz (w0 w:World)(P D gl n:Nat)(V:bY)(F:Nat→Bool)(ws:bW)(L:List eH)(M:List Nat)(t:Nat)(a:bO)(c:Nat)(x:List dh)(h:TQ w0 w P D gl n V F ws L M)(hp:TM w P n V F ws M t none)(ha:AT w0 a x)(hx:x.length≤150)(hs:∀ q ∈ x,q.k.size≤8000∧q.v.size≤8000)(ho:∀ q ∈ x,Hg q) :
 Calls Tryz.prog 14 #[.pointer (some ⟨t,0,none⟩),.pointer (some ⟨P,0,none⟩),.slice a x.length c] w fun e w'=>GrQ w0 P D gl n V F ws L M x.length w e w':=by
 have HQ:=hid h
 have HA:=hid ha
 have HS:=hid hs
 have HO:=hid ho
 have hb1:=aK w (.cells uH 34)
 have h1:=h.q.add hb1 w.heap.size _ _ (Nat.le_refl _) (ah w _)
 have e1:(w.alloc (.cells uH 34)).heap.size=w.heap.size+1:=by simp
 have hb2:=aK (w.alloc (.cells uH 34)) (.cells (sG t none 0 0) 34)
 have h2:=h1.add hb2 (w.heap.size+1) _ _ (by omega) (by rw [← e1]; exact ah _ _)
 have HB:=hid (aJ hb1 hb2)
 have HG:=hid (show GrI w0 w ((w.alloc (.cells uH 34)).alloc (.cells (sG t none 0 0) 34)) _ P D gl n V F ws L M 0 M t none none 0 0 from
  ⟨⟨h2,h.few⟩,⟨hp.mono (aX h.q.jY (aJ hb1 hb2)) (fun _ e=>e) (fun k hk=>Nat.lt_of_lt_of_le (h.q.jY k hk) (aJ hb1 hb2).size) (fun _ _ e=>e),⟨⟨fun i x hx=>by simp [Rt.cn] at hx⟩,fun _=>⟨rfl,rfl⟩,fun p e=>(by cases e),Nat.le_refl _⟩⟩,fun _ e=>e,fun _ e => .inl e,aX h.q.jY (aJ hb1 hb2),Nat.le_refl _,Nat.le_refl _,rfl⟩)
 have HW2:=hid (show w.heap.size+2≤((w.alloc (.cells uH 34)).alloc (.cells (sG t none 0 0) 34)).heap.size by simp)
 obtain ⟨m,hm⟩:∃ m,x.length=m:=⟨_,rfl⟩
 have HM:=hid hm
 rw [hm] at hx ⊢
 have mI:(m:Int)≤150:=by omega
 have HMX:=hid hx
 clear h hp ha hs ho hb1 h1 e1 hb2 h2 hm hx
 go_in
 go_upto_region 2 with fail
 generalize hw2:World.alloc _ (.cells #[.pointer (some ⟨t,0,none⟩),.slice none 0 0] 34)=w2
 have anW:(w.alloc (.cells uH 34)).alloc (.cells (sG t none 0 0) 34)=w2:=by rw [← hw2]; rfl
 rw [anW] at HG HB HW2
 clear hw2 anW
 go_wp2_with fail
 go_loopw [10,11,12,17] (fun _ _ _ v17 wr=>∃ (i:Nat) (M':List Nat) (t':Nat) (R':Rt) (a':bO) (m' c':Nat),i≤m∧v17 = .int .i64 (i:Int)∧GrI w0 w w2 wr P D gl n V F ws L M i M' t' R' a' m' c') (fun _ _ _ v _=>m - (intOf v).toNat)
 case atStart=>exact ⟨0,M,t,none,none,0,0,Nat.zero_le _,rfl,HG.out⟩
 case round =>
  obtain ⟨i,M',t',R',a',m',c',hi,rfl,hg⟩:=hrel;have HI:=hid hg;clear hg HG;by_cases hlt:i<m
  ·obtain ⟨q,hq⟩:∃ q,x[i]? = some q:=⟨_,List.getElem?_eq_getElem (by rw [HM.out]; exact hlt)⟩
   obtain ⟨b,off,rfl,hrg⟩:=(HA.out.below (HI.out.tq.q.bel)).at_ i q hq;obtain ⟨c0,c1,c2,c3⟩:=mY hrg;have hix:=jK b off m c i hlt;have bn:=hid hlt;have hqm:=List.mem_of_getElem? hq;have HSQ:=hid (HS.out q hqm);have HOQ:=hid (HO.out q hqm);have iI:(i:Int)<(m:Int):=by omega
   have i0:(0:Int)≤(i:Int):=by omega
   clear hi hlt hq hrg hqm;obtain ⟨kd,nn,k,v⟩:=q;dsimp only at c0 c1 c2 c3;go_upto_region 5 with fail
   generalize hwi:World.alloc wr (.cells #[.int .i64 kd,.int .i64 nn,.string k,.string v] 37)=wi;have hbi:=aK wr (.cells #[.int .i64 kd,.int .i64 nn,.string k,.string v] 37);have hni:=ah wr (.cells #[.int .i64 kd,.int .i64 nn,.string k,.string v] 37);rw [hwi] at hbi hni;have HBI:=hid hbi;have i00:=cell_of_row wi wr.heap.size 0 _ _ _ hni;have i01:=cell_of_row wi wr.heap.size 1 _ _ _ hni;have i02:=cell_of_row wi wr.heap.size 2 _ _ _ hni;have i03:=cell_of_row wi wr.heap.size 3 _ _ _ hni;clear hwi hbi hni c0 c1 c2 c3 hix;by_cases hkd:1<kd
   ·clear i01 i02 i03
    go_wp2_with fail;go_roundw
    case rel=>exact ⟨i+1,M',t',R',a',m',c',by have:=bn.out; omega,by go_num,HI.out.below HBI.out (Nat.le_succ _)⟩
    case measure=>simp [intOf]; have:=bn.out; omega
   have KH:=hid hkd;have hgi:=HI.out.below HBI.out (Nat.le_refl _);have HGI:=hid hgi;have LU:wi.heap[w.heap.size+1]? = some (.cells #[.pointer (some ⟨t',0,none⟩),.slice a' m' c'] 34 (0,0)):=hgi.tq.q.row 0 _ rfl;have p80:=cell_of_row wi (w.heap.size+1) 0 _ _ _ LU;have p81:=cell_of_row wi (w.heap.size+1) 1 _ _ _ LU;have HD:=hid (ajK w0 wi P D gl n V F ws _ M' t' R' a' c' ⟨kd,nn,k,v⟩ hgi.tq hgi.pm (by have:=hgi.len; have:=bn.out; have:=HMX.out; omega) (by have:=HSQ.out.1; dsimp only at this ⊢; omega) (by have:=HSQ.out.2; dsimp only at this ⊢; omega));rw [hgi.m] at HD;clear hgi LU;go_wp2_with fail;refine HD.out.mono ?_;rintro e w5 ⟨F5,xA,M5,t5,R5,a5,c5,hs5,hp5,rfl,hn5,hfw⟩;obtain ⟨rfl,rfl⟩:=hfw (by have:=KH.out; omega) (by have:=KH.out; omega);have nT:=hid hs5;have RH:=hid hp5;have IC:=hid hn5;obtain ⟨m5,uC⟩:∃ z,R5.cn.length=z:=⟨_,rfl⟩
   have IJ:=hid uC;rw [uC];clear hs5 hp5 hn5 hfw uC HD p80 p81 i00 i01 i02 i03;go_upto_region 7 with fail
   generalize hw6:World.alloc w5 (.cells #[.pointer (some ⟨t5,0,none⟩),.slice a5 m5 c5] 34)=w6;have hb6:=aK w5 (.cells #[.pointer (some ⟨t5,0,none⟩),.slice a5 m5 c5] 34);have U5:=ah w5 (.cells #[.pointer (some ⟨t5,0,none⟩),.slice a5 m5 c5] 34);rw [hw6] at hb6 U5;have ny:=hid (nT.out.trans (bV nT.out.tq (nT.out.tq.below hb6) ⟨fun _ e=>e,fun _ e => .inl e⟩ hb6));have U3:=hid (RH.out.cO nT.out.tq ny.out.tq (fun _ e=>e) hb6);have x0:=cell_of_row w6 w5.heap.size 0 _ _ _ U5;have x1:=cell_of_row w6 w5.heap.size 1 _ _ _ U5;have LU:w6.heap[w.heap.size+1]? = some (.cells #[.pointer (some ⟨t',0,none⟩),.slice a' m' c'] 34 (0,0)):=ny.out.tq.q.row 0 _ rfl;have b0:=cell_of_row w6 (w.heap.size+1) 0 _ _ _ LU;have b1:=cell_of_row w6 (w.heap.size+1) 1 _ _ _ LU;have f0:=frozen_of_row w6 (w.heap.size+1) 0 _ _ LU;have f1:=frozen_of_row w6 (w.heap.size+1) 1 _ _ LU;have hnx:=HI.out.next HQ.out HW2.out HBI.out ny.out U3.out IC.out rfl;rw [IJ.out] at hnx;have xB:=hid hnx;clear hw6 hb6 U5 LU hnx;go_wp2_with fail;go_roundw
   case rel=>exact ⟨i+1,M5,t5,R5,a5,m5,c5,by have:=bn.out; omega,by go_num,xB.out⟩
   case measure=>simp [intOf]; have:=bn.out; omega
  obtain rfl:i=m:=by omega
  have LU:wr.heap[w.heap.size+1]? = some (.cells #[.pointer (some ⟨t',0,none⟩),.slice a' m' c'] 34 (0,0)):=HI.out.tq.q.row 0 _ rfl;have iO:wr.heap[w.heap.size]? = some (.cells #[.pointer none,.slice none 0 0] 34 (0,0)):=HI.out.tq.q.row 1 _ rfl;have p80:=cell_of_row wr (w.heap.size+1) 0 _ _ _ LU;have p81:=cell_of_row wr (w.heap.size+1) 1 _ _ _ LU;have b0:=cell_of_row wr w.heap.size 0 _ _ _ iO;have b1:=cell_of_row wr w.heap.size 1 _ _ _ iO;have f0:=frozen_of_row wr w.heap.size 0 _ _ iO;have f1:=frozen_of_row wr w.heap.size 1 _ _ iO;have HE:=hid (HI.out.done HQ.out HW2.out rfl);clear hi hlt LU iO;go_wp2_with fail;refine bodyPost_ret (v := .tuple #[.agg #[.pointer (some ⟨t',0,none⟩),.slice a' m' c'],.bool true]) (aj Tryz.results14 _ _ w.heap.size 34 #[.pointer (some ⟨t',0,none⟩),.slice a' m' c'] (0,0) _ rfl HE.out.1 Tryz.underlying34 rfl ig _ (by simp)) rfl HE.out.2
end
section
theorem oZ {x:bH}{r:List bH}(h:jg (x::r)):(∀ y ∈ r,lo x.1 y.1=true)∧jg r:=List.pairwise_cons.1 h
end
section
open Go.ChangeShapes Go.WideShapes Go.ChangeAt Go.RowKit
abbrev ahG:=Nat×Rt×bO×Nat
section
variable {w0 w w':World} {P D gl n b:Nat} {ks V:bY} {F:Nat→Bool} {ws:bW} {lim:Int} {dn:Bool} {L:List eH} {M:List Nat}
theorem QL.down {X:Nat}{R:Array Value}{Y:TypeId}(h:QL w0 w P D gl n ks F b V ws lim dn ((X,R,Y)::L) M):QL w0 w P D gl n ks F b V ws lim dn L (X::M):=by
 have hk:∀ k ∈ P::(L.map (·.1)++X::M),k ∈ P::(((X,R,Y)::L).map (·.1)++M):=fun k hk=>by
  simp only [List.map_cons,List.mem_cons,List.mem_append] at hk ⊢;rcases hk with h | h | h | h
  ·exact .inl h
  ·exact .inr (.inl (.inr h))
  ·exact .inr (.inl (.inl h))
  exact .inr (.inr h)
 obtain ⟨bm,vw,a1,a2,a3,a4⟩:=h.po;refine ⟨⟨bm,vw,a1,fun g hg=>⟨(a2 g hg).1,fun e=>(a2 g hg).2 (hk g e)⟩,fun k hm=>a3 k (hk k hm),a4⟩,h.pl,h.pn,h.kt,h.tz,fun r hr=>h.rows r (List.mem_cons_of_mem _ hr),fun e=>?_⟩;rcases List.mem_cons.1 e with e | e
 ·exact (h.rows (X,R,Y) (List.mem_cons_self ..)).2.1 e.symm
 exact h.Ro e
theorem QL.up {X:Nat}{R:Array Value}{Y:TypeId}(h:QL w0 w P D gl n ks F b V ws lim dn L M)(hX:X ∈ M)(hR:w.heap[X]? = some (.cells R Y (0,0)))(h0:w0.heap.size≤X):QL w0 w P D gl n ks F b V ws lim dn ((X,R,Y)::L) M:=by
 have hk:∀ k ∈ P::(((X,R,Y)::L).map (·.1)++M),k ∈ P::(L.map (·.1)++M):=fun k hk=>by
  simp only [List.map_cons,List.mem_cons,List.mem_append] at hk ⊢;rcases hk with h | (h | h) | h
  ·exact .inl h
  ·exact .inr (.inr (h ▸ hX))
  ·exact .inr (.inl h)
  exact .inr (.inr h)
 obtain ⟨bm,vw,a1,a2,a3,a4⟩:=h.po;refine ⟨⟨bm,vw,a1,fun g hg=>⟨(a2 g hg).1,fun e=>(a2 g hg).2 (hk g e)⟩,fun k hm=>a3 k (hk k hm),a4⟩,h.pl,h.pn,h.kt,h.tz,fun r hr=>?_,h.Ro⟩;rcases List.mem_cons.1 hr with rfl | hr
 ·exact ⟨hR,fun e=>h.Ro (by rw [← e]; exact hX),h0⟩
 exact h.rows r hr
end
section
variable {w0 w w':World} {P D gl n:Nat} {V:bY} {F F':Nat→Bool} {ws ws':bW} {M M':List Nat} {X g c m i:Nat} {Q:List ahG} {x:ahG}
end
end
section
theorem Eh (k v:ByteArray):∀ {K:List bH},jg K→∀ p:bH,p ∈ ja k v K↔p=(k,v)∨(p ∈ K∧p.1 ≠ k)
 | [],_,p=>by simp [ja]
 | x::r,h,p=>by
   obtain ⟨h1,h2⟩:=oZ h;have ih:=Eh k v h2 p;unfold ja;by_cases e:lo x.1 k=true
   ·have hx:x.1 ≠ k:=fun e2=>by rw [e2,dP] at e; cases e
    rw [if_pos e,List.mem_cons,ih,List.mem_cons];constructor
    ·rintro (rfl | rfl | ⟨a,b⟩)
     ·exact .inr ⟨.inl rfl,hx⟩
     ·exact .inl rfl
     exact .inr ⟨.inr a,b⟩
    rintro (rfl | ⟨rfl | a,b⟩)
    ·exact .inr (.inl rfl)
    ·exact .inl rfl
    exact .inr (.inr ⟨a,b⟩)
   rw [if_neg e];have hr:∀ y ∈ r,lo k y.1=true:=fun y hy=>le_lo (by simpa using e) (h1 y hy)
   have hne:∀ y ∈ r,y.1 ≠ k:=fun y hy e2=>by have:=hr y hy; rw [e2,dP] at this; cases this
   by_cases e2:x.1=k
   ·rw [if_pos e2,List.mem_cons,List.mem_cons]
    constructor
    ·rintro (rfl | a)
     ·exact .inl rfl
     exact .inr ⟨.inr a,hne p a⟩
    rintro (rfl | ⟨rfl | a,b⟩)
    ·exact .inl rfl
    ·exact absurd e2 b
    exact .inr a
   rw [if_neg e2,List.mem_cons,List.mem_cons];constructor
   ·rintro (rfl | rfl | a)
    ·exact .inl rfl
    ·exact .inr ⟨.inl rfl,e2⟩
    exact .inr ⟨.inr a,hne p a⟩
   rintro (rfl | ⟨a,b⟩)
   ·exact .inl rfl
   exact .inr a
theorem Nu (k:ByteArray):∀ {K:List bH},jg K→∀ p:bH,p ∈ delS k K↔p ∈ K∧p.1 ≠ k
 | [],_,p=>by simp [delS]
 | x::r,h,p=>by
   obtain ⟨h1,h2⟩:=oZ h;have ih:=Nu k h2 p;unfold delS;by_cases e:lo x.1 k=true
   ·have hx:x.1 ≠ k:=fun e2=>by rw [e2,dP] at e; cases e
    rw [if_pos e,List.mem_cons,ih,List.mem_cons];constructor
    ·rintro (rfl | ⟨a,b⟩)
     ·exact ⟨.inl rfl,hx⟩
     exact ⟨.inr a,b⟩
    rintro ⟨rfl | a,b⟩
    ·exact .inl rfl
    exact .inr ⟨a,b⟩
   rw [if_neg e];have hr:∀ y ∈ r,lo k y.1=true:=fun y hy=>le_lo (by simpa using e) (h1 y hy)
   have hne:∀ y ∈ r,y.1 ≠ k:=fun y hy e2=>by have:=hr y hy; rw [e2,dP] at this; cases this
   by_cases e2:x.1=k
   ·rw [if_pos e2,List.mem_cons]
    constructor
    ·exact fun a=>⟨.inr a,hne p a⟩
    rintro ⟨rfl | a,b⟩
    ·exact absurd e2 b
    exact a
   rw [if_neg e2];constructor
   ·intro a
    refine ⟨a, ?_⟩;rcases List.mem_cons.1 a with rfl | a
    ·exact e2
    exact hne p a
   exact fun a=>a.1
theorem Q4:∀ {A B:List bH},jg A→jg B→(∀ p,p ∈ A↔p ∈ B)→A=B
 | [], [],_,_,_=>rfl
 | [],b::B,_,_,h=>absurd ((h b).2 (List.mem_cons_self ..)) (by simp)
 | a::A, [],_,_,h=>absurd ((h a).1 (List.mem_cons_self ..)) (by simp)
 | a::A,b::B,hA,hB,h=>by
   obtain ⟨a1,a2⟩:=oZ hA;obtain ⟨b1,b2⟩:=oZ hB;have hab:a=b:=by
    rcases List.mem_cons.1 ((h a).1 (List.mem_cons_self ..)) with e | e
    ·exact e
    rcases List.mem_cons.1 ((h b).2 (List.mem_cons_self ..)) with e2 | e2
    ·exact e2.symm
    have h1:=jd (b1 a e);rw [a1 b e2] at h1;cases h1
   subst hab;congr 1;refine Q4 a2 b2 (fun p=>?_);have h0:=h p;rw [List.mem_cons,List.mem_cons] at h0;constructor
   ·intro hp
    rcases h0.1 (.inr hp) with rfl | e
    ·have:=a1 p hp
     rw [dP] at this;cases this
    exact e
   intro hp;rcases h0.2 (.inr hp) with rfl | e
   ·have:=b1 p hp
    rw [dP] at this;cases this
   exact e
theorem WQ (k v:ByteArray):∀ {K:List bH},(∀ x ∈ K,x.1 ≠ k)→(ja k v K).length=K.length+1
 | [],_=>rfl
 | x::r,h=>by
   have ih:=WQ k v (K:=r) (fun y hy=>h y (List.mem_cons_of_mem _ hy));unfold ja;by_cases e:lo x.1 k=true
   ·rw [if_pos e,List.length_cons,ih,List.length_cons]
   rw [if_neg e,if_neg (h x (List.mem_cons_self ..))];rfl
theorem Ai (k v:ByteArray):∀ {K:List bH},jg K→jg (ja k v K)
 | [],_=>List.pairwise_cons.2 ⟨fun y hy=>by simp at hy,List.Pairwise.nil⟩
 | x::r,h=>by
   obtain ⟨h1,h2⟩:=oZ h;unfold ja;by_cases e:lo x.1 k=true
   ·rw [if_pos e]
    refine List.pairwise_cons.2 ⟨fun y hy=>?_,Ai k v h2⟩;rcases (Eh k v h2 y).1 hy with rfl | ⟨hy,_⟩
    ·exact e
    exact h1 y hy
   rw [if_neg e];have hr:∀ y ∈ r,lo k y.1=true:=fun y hy=>le_lo (by simpa using e) (h1 y hy)
   by_cases e2:x.1=k
   ·rw [if_pos e2]
    exact List.pairwise_cons.2 ⟨hr,h2⟩
   rw [if_neg e2];refine List.pairwise_cons.2 ⟨fun y hy=>?_,h⟩;rcases List.mem_cons.1 hy with rfl | hy
   ·rcases vJ k y.1 with q | q | q
    ·exact q
    ·exact absurd q.symm e2
    exact absurd q e
   exact hr y hy
theorem Q5 (k:ByteArray):∀ {K:List bH},jg K→jg (delS k K)
 | [],_=>List.Pairwise.nil
 | x::r,h=>by
   obtain ⟨h1,h2⟩:=oZ h;unfold delS;by_cases e:lo x.1 k=true
   ·rw [if_pos e]
    exact List.pairwise_cons.2 ⟨fun y hy=>h1 y ((Nu k h2 y).1 hy).1,Q5 k h2⟩
   rw [if_neg e];by_cases e2:x.1=k
   ·rw [if_pos e2]; exact h2
   rw [if_neg e2]; exact h
def gX (S:List dh)(K:List bH):List bH:=S.foldl (fun K a=>ja a.k a.v K) K
def lV (S:List dh)(K:List bH):List bH:=S.foldl (fun K a=>delS a.k K) K
def vZ (S:List dh):Prop:=S.Pairwise (fun a b=>a.k ≠ b.k)
theorem Q7 (S:List dh)(a:dh)(K:List bH):gX (S++[a]) K=ja a.k a.v (gX S K):=by simp [gX]
theorem Q8 (S:List dh)(a:dh)(K:List bH):lV (S++[a]) K=delS a.k (lV S K):=by simp [lV]
theorem wo:∀ (S:List dh) {K:List bH},jg K→jg (gX S K)
 | [],_,h=>h
 | a::S,_,h=>wo S (Ai a.k a.v h)
theorem Aj:∀ (S:List dh) {K:List bH},jg K→vZ S→∀ p:bH,p ∈ gX S K↔(∃ a ∈ S,p=(a.k,a.v))∨(p ∈ K∧∀ a ∈ S,p.1 ≠ a.k)
 | [],K,_,_,p=>by simp [gX]
 | a::S,K,h,hd,p=>by
   obtain ⟨d1,d2⟩:=List.pairwise_cons.1 hd;have ih:=Aj S (Ai a.k a.v h) d2 p;show p ∈ gX S (ja a.k a.v K)↔_;rw [ih,Eh a.k a.v h p];constructor
   ·rintro (⟨b,hb,rfl⟩ | ⟨rfl | ⟨q,hq⟩,hn⟩)
    ·exact .inl ⟨b,List.mem_cons_of_mem _ hb,rfl⟩
    ·exact .inl ⟨a,List.mem_cons_self ..,rfl⟩
    refine .inr ⟨q,fun b hb=>?_⟩;rcases List.mem_cons.1 hb with rfl | hb
    ·exact hq
    exact hn b hb
   rintro (⟨b,hb,rfl⟩ | ⟨q,hn⟩)
   ·rcases List.mem_cons.1 hb with rfl | hb
    ·exact .inr ⟨.inl rfl,fun c hc=>d1 c hc⟩
    exact .inl ⟨b,hb,rfl⟩
   exact .inr ⟨.inr ⟨q,hn a (List.mem_cons_self ..)⟩,fun b hb=>hn b (List.mem_cons_of_mem _ hb)⟩
theorem Ht:∀ (S:List dh) {K:List bH},jg K→∀ p:bH,p ∈ lV S K↔p ∈ K∧∀ a ∈ S,p.1 ≠ a.k
 | [],K,_,p=>by simp [lV]
 | a::S,K,h,p=>by
   have ih:=Ht S (Q5 a.k h) p;show p ∈ lV S (delS a.k K)↔_;rw [ih,Nu a.k h p];constructor
   ·rintro ⟨⟨q,hq⟩,hn⟩
    refine ⟨q,fun b hb=>?_⟩;rcases List.mem_cons.1 hb with rfl | hb
    ·exact hq
    exact hn b hb
   rintro ⟨q,hn⟩;exact ⟨⟨q,hn a (List.mem_cons_self ..)⟩,fun b hb=>hn b (List.mem_cons_of_mem _ hb)⟩
theorem WR:∀ (S:List dh) {K:List bH},jg K→vZ S→(∀ a ∈ S,∀ p ∈ K,p.1 ≠ a.k)→(gX S K).length=K.length+S.length
 | [],K,_,_,_=>rfl
 | a::S,K,h,hd,hn=>by
   obtain ⟨d1,d2⟩:=List.pairwise_cons.1 hd;have ih:=WR S (Ai a.k a.v h) d2 (fun b hb p hp=>by
    rcases (Eh a.k a.v h p).1 hp with rfl | ⟨hp,_⟩
    ·exact d1 b hb
    exact hn b (List.mem_cons_of_mem _ hb) p hp)
   show (gX S (ja a.k a.v K)).length=_;rw [ih,WQ a.k a.v (hn a (List.mem_cons_self ..)),List.length_cons];omega
theorem Vg {S T:List dh}(hS:vZ S)(hT:vZ T)(h:∀ a,a ∈ S↔a ∈ T):gX S []=gX T [] :=
 Q4 (wo S List.Pairwise.nil) (wo T List.Pairwise.nil) (fun p=>by
  rw [Aj S List.Pairwise.nil hS,Aj T List.Pairwise.nil hT];simp [h])
theorem adY {S T:List dh}(hS:vZ S)(h:∀ a,a ∈ S→a ∈ T):lV T (gX S [])=[] :=
 List.eq_nil_iff_forall_not_mem.2 (fun p hp=>by
  obtain ⟨h1,h2⟩:=(Ht T (wo S List.Pairwise.nil) p).1 hp;rcases (Aj S List.Pairwise.nil hS p).1 h1 with ⟨a,ha,rfl⟩ | ⟨h3,_⟩
  ·exact h2 a (h a ha) rfl
  simp at h3)
theorem adZ {S T:List dh}(hS:vZ S)(hT:vZ T)(h:∀ a,a ∈ T→a ∈ S)(i:Nat)(a:dh)(ha:T[i]? = some a):vN a.k (lV (T.take i) (gX S []))=true:=by
 unfold vN;rw [List.any_eq_true];refine ⟨(a.k,a.v),(Ht _ (wo S List.Pairwise.nil) _).2 ⟨(Aj S List.Pairwise.nil hS _).2 (.inl ⟨a,h a (List.mem_of_getElem? ha),rfl⟩),fun b hb=>?_⟩,by simp⟩;obtain ⟨j,hj,rfl⟩:=List.getElem_of_mem hb;obtain ⟨hi,hia⟩:=List.getElem?_eq_some_iff.1 ha;rw [List.length_take] at hj;rw [List.getElem_take,← hia];exact (List.pairwise_iff_getElem.1 hT j i (by omega) hi (by omega)).symm
theorem ad1 {S:List dh}(h:vZ S)(k:Nat):vZ (S.drop k++S.take k):=by
 have e:S.take k++S.drop k=S:=List.take_append_drop k S;unfold vZ at h ⊢;rw [← e,List.pairwise_append] at h;rw [List.pairwise_append];exact ⟨h.2.1,h.1,fun a ha b hb=>(h.2.2 b hb a ha).symm⟩
theorem Vh {S:List dh}(k:Nat)(a:dh):a ∈ S↔a ∈ S.drop k++S.take k:=by
 have e:S.take k++S.drop k=S:=List.take_append_drop k S;rw [List.mem_append];conv=>lhs; rw [← e]
 rw [List.mem_append,or_comm]
end
section
open Go.ChangeShapes Go.WideShapes Go.ChangeAt Go.RowKit
def fF (S:List dh):List Value:=S.flatMap fJ
theorem Hu (a b:List dh):fF (a++b)=fF a++fF b:=by simp [fF]
theorem uw:∀ S:List dh,(fF S).length=S.length * 4
 | []=>rfl
 | x::S=>by
   have:=uw S;show (fJ x++fF S).length=_;rw [List.length_append,this,List.length_cons];show 4+_=_;omega
theorem Vj (S:List dh):∀ v ∈ fF S,v.oneCell'=true:=by
 intro v hv;obtain ⟨x,_,hx⟩:=List.mem_flatMap.1 hv;simp only [fJ,List.mem_cons,List.not_mem_nil,or_false] at hx;rcases hx with rfl | rfl | rfl | rfl <;> rfl
theorem J7:∀ (S:List dh) (i:Nat) (x:dh),S[i]? = some x→∀ j v,(fJ x)[j]? = some v→(fF S)[i * 4+j]? = some v
 | [],i,x,h,_,_,_=>by simp at h
 | y::S,0,x,h,j,v,hv=>by
   obtain rfl:y=x:=by simpa using h
   show (fJ y++fF S)[0 * 4+j]? = _;obtain ⟨hj,_⟩:=List.getElem?_eq_some_iff.1 hv;rw [show 0 * 4+j=j by omega,List.getElem?_append_left hj];exact hv
 | y::S,i+1,x,h,j,v,hv=>by
   have:=J7 S i x (by simpa using h) j v hv;show (fJ y++fF S)[(i+1) * 4+j]? = _;have e:(fJ y).length=4:=rfl;rw [List.getElem?_append_right (by rw [e]; omega),e,show (i+1) * 4+j - 4=i * 4+j by omega];exact this
theorem Ak:(Tryz.prog.info? 37).map (fun i=>(i.zero,i.size,i.bytes))=some (some (.agg #[.int .i64 0,.int .i64 0,.string ⟨#[]⟩,.string ⟨#[]⟩]),4,48):=by kernel_rfl
theorem agA (x:dh)(W:World):(Instr.buildSlice 22 1 #[(0,.agg (fJ x).toArray)]).run Tryz.prog W = .ok (.slice (some ⟨W.heap.size,0,none⟩) 1 1) (W.alloc (.cells (fJ x).toArray 37)) :=
 DR Tryz.underlying22 Ak (by decide) (by decide) (fJ x).toArray rfl W
def Ic (w:World)(B:Nat)(v:Value)(S:List dh):Prop:=w.ownsRow B 37 4 v S.length (fF S)
theorem Ic.nil (w:World)(B:Nat):Ic w B (.slice none 0 0) []:=World.ownsRow_nil w B _ _
theorem Ic.move {w w':World}{B:Nat}{v:Value}{S:List dh}(h:Ic w B v S)(q:∀ g,v.ownBlock=some g→w'.heap[g]? = w.heap[g]?):Ic w' B v S:=by
 refine ⟨h.1, ?_⟩;rcases h.2 with ⟨e,h0⟩ | ⟨g,cap,cur,rfl,hb,hc,h1,h2,h3,h4⟩
 ·exact .inl ⟨e,h0⟩
 exact .inr ⟨g,cap,cur,rfl,hb,(q g rfl).trans hc,h1,h2,h3,h4⟩
theorem Ic.below {w w':World}{B:Nat}{v:Value}{S:List dh}(h:Ic w B v S)(q:Below w.heap.size w w'):Ic w' B v S :=
 h.move (fun g hg=>q.block g (World.ownsRow.lt h g hg).2)
theorem Ic.at_ {w:World}{B:Nat}{v:Value}{S:List dh}(h:Ic w B v S):∃ a c,v = .slice a S.length c∧AT w a S∧S.length≤c∧(a=none→S=[])∧∀ p,a=some p→∃ g,p=⟨g,0,none⟩:=by
 rcases h.2 with ⟨rfl,h0⟩ | ⟨g,cap,cur,rfl,hb,hc,h1,h2,h3,h4⟩
 ·have e:=List.length_eq_zero_iff.1 h0
  subst e;exact ⟨none,0,rfl,⟨fun i q hq=>by simp at hq⟩,Nat.le_refl _,fun _=>rfl,fun p e=>by cases e⟩
 refine ⟨_,cap,rfl,⟨fun i q hq=>⟨g,0,rfl,fun j x hx=>?_⟩⟩,h1,⟨fun e=>(by cases e),fun p e=>(by injection e with e; exact ⟨g,e.symm⟩)⟩⟩;obtain ⟨hi,_⟩:=List.getElem?_eq_some_iff.1 hq;obtain ⟨hj,_⟩:=List.getElem?_eq_some_iff.1 hx;have hj4:j<4:=hj;have h0:=J7 S i q hq j x hx;rw [← h4,List.getElem?_take_of_lt (by omega),Array.getElem?_toList] at h0;rw [Nat.zero_add,cell_of_row w g _ cur _ _ hc];exact h0
theorem WT {w:World}{B:Nat}{v:Value}{K M:List dh}(h:Ic w B v K)(hB:B≤w.heap.size)(u:Addr)(c:Nat)(hu:∀ j y,(fF M)[j]? = some y→w.cell? (u.add j)=some y)(hn:K.length+M.length≤100000)(ty:TypeId) :
 ∃ v' w',(Builtin.append_ #[22,22] ty #[v,.slice (some u) M.length c]).run Tryz.prog w = .ok v' w'∧Ic w' B v' (K++M)∧w.grownBy w' v.ownBlock∧(v'.ownBlock=v.ownBlock∨v'.ownBlock=some w.heap.size):=by
 obtain ⟨i,hi,hz⟩:=Option.map_eq_some_iff.1 Ak
 simp only [Prod.mk.injEq] at hz
 obtain ⟨h1,h2,h3⟩:=hz
 obtain ⟨v',w',hr,ho,hg,_,hnb⟩:=run_append_own_at (P:=Tryz.prog) w B 22 ty 37 i _ 4 48 Tryz.underlying22 hi h1 h2 h3 rfl (by decide) v K.length (fF K) h u M.length c (fF M) (uw M) hu (Vj M) (by unfold maxLen; omega) (by omega) hB
 exact ⟨v',w',hr,by unfold Ic; rw [Hu,List.length_append]; exact ho,hg,hnb⟩
end
section
open Go.ChangeShapes Go.WideShapes Go.ChangeAt Go.RowKit
open Go.Maps (Keyed)
def kS (s:ByteArray):Lit := .string s.data.toList
def Nv (L:List ByteArray)(a:ByteArray):Bool:=L.any (fun x=>decide (x=a))
theorem Q9 {L:List ByteArray}{a:ByteArray}:Nv L a=true↔a ∈ L:=by simp [Nv]
theorem anY {a b:ByteArray}(h:a ≠ b):kS a ≠ kS b:=fun e=>by
 unfold kS at e;injection e with e;exact h (ByteArray.ext (Array.toList_inj.1 e))
theorem WU (s:ByteArray)(h:s.size≤1000000):keyOf Tryz.prog 9 (.string s)=some (kS s):=by
 rw [keyOf_string Tryz.underlying9];have h2:s.size≤maxLen:=by unfold maxLen; omega
 simp [mapKey,Tryz.underlying9,kS,h2]
structure SM (w:World)(b c:Nat)(L:List ByteArray):Prop where
 map:∃ D,w.ownsMap Tryz.prog 9 (plainElem (H:=Unit) Tryz.prog 4) b c D∧Maps.IsMap D∧Maps.Tidy D∧∀ a:ByteArray,D.atKey (kS a) (.lit (.bool false)) = .lit (.bool (Nv L a))
theorem SM.lt {w:World}{b c:Nat}{L:List ByteArray}(h:SM w b c L):b<w.heap.size:=by obtain ⟨D,h1,_⟩:=h.map; exact h1.lt
theorem SM.move {w w':World}{b c:Nat}{L:List ByteArray}(h:SM w b c L)(e:w'.heap[b]? = w.heap[b]?):SM w' b c L:=by
 obtain ⟨D,⟨es,clock,hb,F,hs,hD⟩,h2⟩:=h.map;exact ⟨D,⟨es,clock,e.trans hb,F,hs,hD⟩,h2⟩
theorem SM.below {w w':World}{b c:Nat}{L:List ByteArray}(h:SM w b c L)(q:Below w.heap.size w w'):SM w' b c L:=h.move (q.block b h.lt)
theorem SM.touch {w w':World}{b c:Nat}{L:List ByteArray}{m:List Nat}(h:SM w b c L)(q:Touch m w w')(hb:b ∉ m):SM w' b c L:=h.move (q.block b h.lt hb)
theorem agB (w:World):SM (w.alloc (.map #[] 0)) w.heap.size 0 [] :=
 ⟨_,World.ownsMap_made w _ _ _,Maps.isMap_empty,Maps.tidy_empty,fun a=>rfl⟩
theorem agC {w:World}{b c:Nat}{L:List ByteArray}(h:SM w b c L)(a:ByteArray)(ha:a.size≤1000000) :
 (Instr.lookup 81 (.map (some b)) (.string a) false).run Tryz.prog w = .ok (.bool (Nv L a)) w:=by
 obtain ⟨D,h1,_,_,h5⟩:=h.map
 obtain ⟨v,ps,hr,hv⟩:=h1.lookup (t:=81) (e:=4) (Maps.string_keyed Tryz.underlying9) Tryz.underlying81 (z := .bool false) (by kernel_rfl) (plainElem_bool (H:=Unit) Tryz.underlying4 false) (WU a ha)
 rw [h5 a] at hv
 rw [hr,U6 hv]
theorem ajL {w:World}{b c:Nat}{L:List ByteArray}(h:SM w b c L)(hc:c<1000000)(a:ByteArray)(ha:a.size≤1000000) :
 ∃ w',(Instr.mapUpdate 81 (.map (some b)) (.string a) (.bool true)).run Tryz.prog w = .ok () w'∧SM w' b (c+1) (L++[a])∧Touch [b] w w':=by
 obtain ⟨D,h1,h2,h3,h5⟩:=h.map
 obtain ⟨w',hr,ho,hg⟩:=h1.update (t:=81) (e:=4) (Maps.string_keyed Tryz.underlying9) Tryz.underlying81 (by unfold maxLen; omega) (WU a ha) (plainElem_bool (H:=Unit) Tryz.underlying4 true)
 refine ⟨w',hr,⟨_,ho,h2.put _ _,h3.put (by trivial) _,fun x=>?_⟩,⟨hg.os,hg.tape,hg.output,hg.size,fun k h1 h2=>hg.block k h1 (by simpa using h2)⟩⟩
 by_cases e:x=a
 ·subst e
  rw [Maps.atKey_put_same h2 (by trivial)];simp [Nv]
 ·rw [Maps.atKey_put_other (anY e),h5 x]
  simp only [Nv,List.any_append,List.any_cons,List.any_nil,decide_eq_false (fun e2:a=x=>e e2.symm),Bool.or_false]
end
section
open Go.ChangeShapes Go.WideShapes Go.ChangeAt Go.RowKit
theorem Zz (W:World):(Instr.buildSlice 22 0 #[]).run Tryz.prog W = .ok (.slice (some ⟨W.heap.size,0,none⟩) 0 0) (W.alloc (.cells #[] 37)):=by
 obtain ⟨i0,hi0,hz⟩:=Option.map_eq_some_iff.1 Ak;simp only [Prod.mk.injEq] at hz;simp [Instr.buildSlice,run_underlying Tryz.underlying22,sizeOf,typeInfo,hi0,Instr.fill,newRow];try exact congrArg (fun x=>W.alloc (Obj.cells x 37)) (Array.eq_empty_of_size_eq_zero (by simp))
theorem Vk (W:World):(Instr.buildSlice 22 0 #[]).run Tryz.prog W.drew = .ok (.slice (some ⟨W.heap.size,0,none⟩) 0 0) (W.drew.alloc (.cells #[] 37)):=Zz W.drew
theorem ZB (w:World)(B:Nat)(hB:B≤w.heap.size):Ic (w.drew.alloc (.cells #[] 37)) B (.slice (some ⟨w.heap.size,0,none⟩) 0 0) [] :=
 ⟨rfl,.inr ⟨w.heap.size,0,#[],rfl,hB,heap_alloc_new w.drew _,Nat.le_refl _,by decide,rfl,rfl⟩⟩
def J8 (w:World)(a:bO)(c:Nat)(M:List dh):Prop:=(a=none∧c=0∧M=[])∨∃ b off,a=some ⟨b,off,none⟩∧w.rangeAt b off (fF M)
theorem J8.below {w w':World}{a:bO}{c:Nat}{M:List dh}(h:J8 w a c M)(q:Below w.heap.size w w'):J8 w' a c M :=
 h.imp id (fun ⟨b,off,e,h1⟩=>⟨b,off,e,dm h1 q⟩)
theorem Rf {w:World}{B:Nat}{v:Value}{K M:List dh}(h:Ic w B v K)(hB:B≤w.heap.size)(a:bO)(c:Nat)(hu:J8 w a c M)(hn:K.length+M.length≤100000)(ty:TypeId) :
 ∃ v' w',(Builtin.append_ #[22,22] ty #[v,.slice a M.length c]).run Tryz.prog w = .ok v' w'∧Ic w' B v' (K++M)∧w.grownBy w' v.ownBlock:=by
 rcases hu with ⟨rfl,rfl,rfl⟩ | ⟨b,off,rfl,hr⟩
 ·obtain ⟨i,hi,hz⟩:=Option.map_eq_some_iff.1 Ak
  refine ⟨v,w, ?_,by rw [List.append_nil]; exact h,⟨rfl,rfl,rfl,Nat.le_refl _,fun _ _ _=>rfl⟩⟩;rcases h.2 with ⟨e,h0⟩ | ⟨g,cap,cur,e,hb,hcc,q1,q2,q3,q4⟩
  ·rw [e]
   simp [Builtin.append_,run_underlying Tryz.underlying22,sizeOf,typeInfo,hi,Builtin.lenOf,Builtin.firstCells]
  subst e;simp [Builtin.append_,run_underlying Tryz.underlying22,sizeOf,typeInfo,hi,Builtin.lenOf,Builtin.firstCells,storeCells];intro hq;omega
 ·obtain ⟨v',w',h1,h2,h3,_⟩:=WT h hB ⟨b,off,none⟩ c (fun j y hy=>by rw [Addr.add_mid]; exact hr j y hy) hn ty
  exact ⟨v',w',h1,h2,h3⟩
theorem agD {w:World}{B cap k:Nat}{a:bO}{S:List dh}(h:Ic w B (.slice a S.length cap) S)(hk:k≤S.length) :
 ∃ a1 a2,(∀ W,(Instr.slice 22 (.slice a S.length cap) (some (.int .i64 (k:Int))) none none).run Tryz.prog W = .ok (.slice a1 (S.length - k) (cap - k)) W) ∧
   (∀ W,(Instr.slice 22 (.slice a S.length cap) none (some (.int .i64 (k:Int))) none).run Tryz.prog W = .ok (.slice a2 k cap) W)∧J8 w a1 (cap - k) (S.drop k)∧J8 w a2 cap (S.take k):=by
 obtain ⟨i0,hi0,hs0⟩:=Option.map_eq_some_iff.1 (show (Tryz.prog.info? 37).map (·.size)=some 4 by kernel_rfl)
 have hcap:S.length≤cap:=by
  rcases h.2 with ⟨e,h0⟩ | ⟨g,cp,cur,e,hb,hc,h1,h2,h3,h4⟩
  ·injection e with _ e _; omega
  injection e with _ _ e; omega
 have hat:(a=none∧cap=0∧S=[])∨∃ g cur,a=some ⟨g,0,none⟩∧w.heap[g]? = some (.cells cur 37 (0,0))∧cur.toList.take (S.length * 4)=fF S:=by
  rcases h.2 with ⟨e,h0⟩ | ⟨g,cp,cur,e,hb,hc,h1,h2,h3,h4⟩
  ·injection e with e1 e2 e3
   exact .inl ⟨e1,e3,List.length_eq_zero_iff.1 h0⟩
  injection e with e1 e2 e3;exact .inr ⟨g,cur,e1,hc,h4⟩
 have hrow:∀ g (cur:Array Value),w.heap[g]? = some (.cells cur 37 (0,0))→cur.toList.take (S.length * 4)=fF S→∀ j y,(fF S)[j]? = some y→w.cell? ⟨g,j,none⟩=some y:=by
  intro g cur hc h4 j y hy;obtain ⟨hj,_⟩:=List.getElem?_eq_some_iff.1 hy;rw [uw] at hj;rw [← h4,List.getElem?_take_of_lt hj,Array.getElem?_toList] at hy;rw [cell_of_row w g _ cur _ _ hc];exact hy
 have hsp:fF S=fF (S.take k)++fF (S.drop k):=by rw [← Hu,List.take_append_drop]
 have htl:(fF (S.take k)).length=k * 4:=by rw [uw,List.length_take]; congr 1; omega
 refine ⟨if cap=k then a else a.map (·.add (k * 4)),if cap=0 then a else a.map (·.add (0 * 4)), ?_, ?_, ?_, ?_⟩
 ·intro W
  have b2:=fG k S.length .sliceB hk W;simp [Instr.slice,run_underlying Tryz.underlying22,Instr.sliceBounds,sizeOf,typeInfo,hi0,hs0,b2]
 ·intro W
  have b1:=fG k cap .sliceAcap (by omega) W;simp [Instr.slice,run_underlying Tryz.underlying22,Instr.sliceBounds,sizeOf,typeInfo,hi0,b1]
 ·rcases hat with ⟨rfl,rfl,rfl⟩ | ⟨g,cur,rfl,hc,h4⟩
  ·exact .inl ⟨by split <;> rfl,by omega,by simp⟩
  by_cases e:cap=k
  ·rw [if_pos e]
   have hd:S.drop k=[]:=List.drop_eq_nil_iff.2 (by omega);exact .inr ⟨g,0,rfl,by rw [hd]; intro j y hy; simp [fF] at hy⟩
  rw [if_neg e];refine .inr ⟨g,0+k * 4,by simp [Addr.add_mid],fun j y hy=>?_⟩;rw [Nat.zero_add];refine hrow g cur hc h4 _ _ ?_;rw [hsp,List.getElem?_append_right (by omega),htl,show k * 4+j - k * 4=j by omega];exact hy
 ·rcases hat with ⟨rfl,rfl,rfl⟩ | ⟨g,cur,rfl,hc,h4⟩
  ·exact .inl ⟨by split <;> rfl,rfl,by simp⟩
  refine .inr ⟨g,0,by split <;> simp [Addr.add_mid],fun j y hy=>?_⟩;obtain ⟨hj,_⟩:=List.getElem?_eq_some_iff.1 hy;rw [Nat.zero_add];refine hrow g cur hc h4 _ _ ?_;rw [hsp,List.getElem?_append_left hj];exact hy
theorem ajM {w:World}{B cap k:Nat}{a:bO}{S:List dh}(h:Ic w B (.slice a S.length cap) S)(hk:k≤S.length)(hn:S.length≤1000)(ty:TypeId) :
 ∃ a1 a2 v8 w8 v9 w9,(∀ W,(Instr.slice 22 (.slice a S.length cap) (some (.int .i64 (k:Int))) none none).run Tryz.prog W = .ok (.slice a1 (S.length - k) (cap - k)) W) ∧
   (∀ W,(Instr.slice 22 (.slice a S.length cap) none (some (.int .i64 (k:Int))) none).run Tryz.prog W = .ok (.slice a2 k cap) W) ∧
   (Builtin.append_ #[22,22] ty #[.slice (some ⟨w.heap.size,0,none⟩) 0 0,.slice a1 (S.length - k) (cap - k)]).run Tryz.prog (w.drew.alloc (.cells #[] 37)) = .ok v8 w8 ∧
   (Builtin.append_ #[22,22] ty #[v8,.slice a2 k cap]).run Tryz.prog w8 = .ok v9 w9∧Ic w9 w.heap.size v9 (S.drop k++S.take k)∧Below w.heap.size w w9:=by
 obtain ⟨a1,a2,r1,r2,p1,p2⟩:=agD h hk
 have hWl:=((Below.refl w.heap.size w).drew).alloc (Nat.le_refl _) (.cells #[] 37)
 have hd:(S.drop k).length=S.length - k:=List.length_drop
 have ht:(S.take k).length=k:=by rw [List.length_take]; omega
 have hsz:w.heap.size≤(w.drew.alloc (.cells #[] 37)).heap.size:=hWl.size
 obtain ⟨v8,w8,q1,o1,g1⟩:=Rf (ZB w w.heap.size (Nat.le_refl _)) hsz a1 (cap - k) (p1.below hWl) (by rw [hd,List.length_nil]; omega) ty
 have hb8:=hWl.grown g1 hsz (fun k hk=>by simp [Value.ownBlock] at hk; omega)
 obtain ⟨v9,w9,q2,o2,g2⟩:=Rf o1 hb8.size a2 cap (p2.below hb8) (by rw [ht,List.nil_append,hd]; omega) ty
 rw [hd] at q1
 rw [ht] at q2
 exact ⟨a1,a2,v8,w8,v9,w9,r1,r2,q1,q2,o2,hb8.grown g2 hb8.size (fun k hk=>(World.ownsRow.lt o1 k hk).1)⟩
structure OrI (w4 wr:World)(mb B:Nat)(v:Value)(S:List dh)(i:Nat):Prop where
 own:Ic wr B v S
 map:∃ L c,SM wr mb c L∧c≤i∧∀ x,Nv L x=true↔∃ a ∈ S,a.k=x
 bel:Below w4.heap.size w4 wr
 lo:w4.heap.size≤mb∧mb<B∧B≤wr.heap.size
 keys:vZ S
 may:∀ a ∈ S,jf a.k=true∧a.k.size≤32∧a.v.size≤96
 len:S.length≤i
theorem OrI.below {w4 w w':World}{mb B:Nat}{v:Value}{S:List dh}{i j:Nat}(h:OrI w4 w mb B v S i)(q:Below w.heap.size w w')(hj:i≤j):OrI w4 w' mb B v S j:=by
 obtain ⟨L,c,h1,h2,h3⟩:=h.map;exact ⟨h.own.below q,⟨L,c,h1.below q,Nat.le_trans h2 hj,h3⟩,aJ h.bel q,⟨h.lo.1,h.lo.2.1,Nat.le_trans h.lo.2.2 q.size⟩,h.keys,h.may,Nat.le_trans h.len hj⟩
theorem OrI.look {w4 w:World}{mb B:Nat}{v:Value}{S:List dh}{i:Nat}(h:OrI w4 w mb B v S i)(k:ByteArray)(hk:k.size≤1000000) :
 ∃ b:Bool,(Instr.lookup 81 (.map (some mb)) (.string k) false).run Tryz.prog w = .ok (.bool b) w∧(b=true↔∃ a ∈ S,a.k=k):=by
 obtain ⟨L,c,h1,_,h3⟩:=h.map
 exact ⟨Nv L k,agC h1 k hk,h3 k⟩
theorem OrI.next {w4 w:World}{mb B:Nat}{v:Value}{S:List dh}{i:Nat}(h:OrI w4 w mb B v S i)(x:dh)(hi:i≤10000)(hx:jf x.k=true∧x.k.size≤32∧x.v.size≤96)(hn:¬ ∃ a ∈ S,a.k=x.k)(ty:TypeId) :
 ∃ w5,(Instr.mapUpdate 81 (.map (some mb)) (.string x.k) (.bool true)).run Tryz.prog w = .ok () w5∧Touch [mb] w w5 ∧
   ∀ W5:World,Below w5.heap.size w5 W5→∀ (u c:Nat),W5.heap[u]? = some (.cells (fJ x).toArray 37 (0,0)) →
   ∃ v' w6,(Builtin.append_ #[22,22] ty #[v,.slice (some ⟨u,0,none⟩) 1 c]).run Tryz.prog W5 = .ok v' w6∧OrI w4 w6 mb B v' (S++[x]) (i+1):=by
 obtain ⟨L,c,h1,h2,h3⟩:=h.map
 obtain ⟨w5,r5,m5,t5⟩:=ajL h1 (by omega) x.k (by omega)
 have hB:=h.lo
 have aqK:Ic w5 B v S:=h.own.move (fun g hg=>t5.block g (World.ownsRow.lt h.own g hg).2 (by
  have:=(World.ownsRow.lt h.own g hg).1
  simp only [List.mem_singleton]
  omega))
 have aqL:Below w4.heap.size w4 w5:=h.bel.trans (t5.below h.bel.size (fun k hk=>by rw [List.mem_singleton.1 hk]; exact hB.1))
 refine ⟨w5,r5,t5,fun W5 hb u c' hu=>?_⟩
 have hcells:∀ j y,(fF [x])[j]? = some y→W5.cell? ((⟨u,0,none⟩:Addr).add j)=some y:=by
  intro j y hy;rw [show fF [x]=fJ x by simp [fF]] at hy;rw [Addr.add_mid,Nat.zero_add,cell_of_row W5 u _ _ _ _ hu];simpa using hy
 obtain ⟨v',w6,r6,o6,g6,_⟩:=WT (aqK.below hb) (Nat.le_trans hB.2.2 (Nat.le_trans t5.size hb.size)) ⟨u,0,none⟩ c' hcells (by have:=h.len; simp only [List.length_cons,List.length_nil]; omega) ty
 have t6:Touch v.ownBlock.toList W5 w6:=Touch.grown g6
 have hbel:=aJ aqL hb
 refine ⟨v',w6,r6,⟨o6,⟨L++[x.k],c+1,(m5.below hb).touch t6 (fun hm=>?_),by omega,fun y=>?_⟩,hbel.trans (t6.below hbel.size (fun k hk=>?_)),⟨hB.1,hB.2.1,Nat.le_trans hB.2.2 (Nat.le_trans t5.size (Nat.le_trans hb.size t6.size))⟩, ?_, ?_, ?_⟩⟩
 ·have hm':v.ownBlock=some mb:=by simpa using hm
  have:=(World.ownsRow.lt h.own mb hm').1;omega
 ·rw [Q9,List.mem_append,List.mem_singleton,← Q9,h3 y]
  simp only [List.mem_append,List.mem_singleton];constructor
  ·rintro (⟨a,ha,e⟩ | e)
   ·exact ⟨a,.inl ha,e⟩
   exact ⟨x,.inr rfl,e.symm⟩
  rintro ⟨a,ha | rfl,e⟩
  ·exact .inl ⟨a,ha,e⟩
  exact .inr e.symm
 ·have hk':v.ownBlock=some k:=by simpa using hk
  have:=(World.ownsRow.lt h.own k hk').1;omega
 ·refine List.pairwise_append.2 ⟨h.keys,List.pairwise_singleton ..,fun a ha b hb=>?_⟩
  rw [List.mem_singleton.1 hb];exact fun e=>hn ⟨a,ha,e⟩
 ·intro a ha
  rcases List.mem_append.1 ha with ha | ha
  ·exact h.may a ha
  rw [List.mem_singleton.1 ha]; exact hx
 ·rw [List.length_append]
  have:=h.len;simp only [List.length_cons,List.length_nil];omega
theorem BD:∀ (S:List dh) (K:List bH),(gX S K).length≤K.length+S.length
 | [],K=>Nat.le_refl _
 | a::S,K=>by
   have h1:=BD S (ja a.k a.v K);have h2:=Hr a.k a.v K;show (gX S (ja a.k a.v K)).length≤_;rw [List.length_cons];omega
theorem WV (k:ByteArray):∀ K:List bH,(delS k K).length≤K.length
 | []=>Nat.le_refl _
 | x::r=>by
   have:=WV k r;unfold delS;split
   ·simp only [List.length_cons]; omega
   split
   ·simp only [List.length_cons]; omega
   exact Nat.le_refl _
theorem J9:∀ (S:List dh) (K:List bH),(lV S K).length≤K.length
 | [],K=>Nat.le_refl _
 | a::S,K=>by
   have h1:=J9 S (delS a.k K);have h2:=WV a.k K;show (lV S (delS a.k K)).length≤_;omega
theorem Dn {S:List dh}{i:Nat}{a:dh}(h:S[i]? = some a):gX (S.take (i+1)) []=ja a.k a.v (gX (S.take i) []):=by
 rw [List.take_add_one,h];exact Q7 _ _ _
theorem Rh {S:List dh}{i:Nat}{a:dh}(h:S[i]? = some a)(K:List bH):lV (S.take (i+1)) K=delS a.k (lV (S.take i) K):=by
 rw [List.take_add_one,h];exact Q8 _ _ _
theorem agE:(Tryz.prog.info? 37).map (·.size)=some 4:=by kernel_rfl
theorem Vl (kd nn:Int)(k v:ByteArray):(Tryz.prog.info? 37).map (·.size)=some (#[.int .i64 kd,.int .i64 nn,.string k,.string v]:Array Value).size:=agE
theorem agF {R:Rt}(hw:R.wf)(h:R.cn=[]):R=none:=by
 cases R with
 | none=>rfl
 | some q =>
   obtain ⟨d,T⟩:=q;have h1:2 ^ d≤(cont d (its T)).length:=pO d T aY aY hw;have h2:(cont d (its T))=[]:=h;rw [h2] at h1;have:=Nat.pow_pos (n:=d) (show 0<2 by decide);simp only [List.length_nil] at h1;omega
end
end Go.Proofs.YtljjcbmkbmloaaaGreatDoor
