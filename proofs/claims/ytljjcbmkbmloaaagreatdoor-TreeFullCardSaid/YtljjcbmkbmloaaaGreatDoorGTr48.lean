import Derived.Test.YtljjcbmkbmloaaaGreatDoorGTr46
import Derived.Test.YtljjcbmkbmloaaaGreatDoorGTr47
import Derived.Test.YtljjcbmkbmloaaaGreatDoorGTrA
namespace Go.Proofs.YtljjcbmkbmloaaaGreatDoor
set_option maxHeartbeats 6400000
set_option maxRecDepth 100000
set_option linter.unusedVariables false
section
open Lib (hid)
open Go.ChangeShapes Go.WideShapes Go.ChangeAt Go.RowKit
inductive Y7 (LQ:ay→aC→Prop):Rt→ay→Rt→Prop
 | none (q:ay) (h:q.ad=0):Y7 LQ none q none
 | some (d a:Nat) (T:Kd (d+1)) (q:ay) (X:Pt d) (h:Lies LQ d q X) (s:Sv d (its T) X):Y7 LQ (some ⟨d,T⟩) q (some ⟨d,sK a q X⟩)
theorem Y7.cn {LQ:ay→aC→Prop}{R R':Rt}{q:ay}(h:Y7 LQ R q R'):R'.cn=R.cn:=by
 cases h with
 | none=>rfl
 | some d a T q X h s=>exact LC s
theorem Y7.fr {LQ:ay→aC→Prop}{R R':Rt}{q:ay}(h:Y7 LQ R q R'):R'.fr=0:=by
 cases h <;> rfl
theorem Y7.nul {LQ:ay→aC→Prop}{R R':Rt}{q:ay}(h:Y7 LQ R q R')(hw:R.wf):(q.ad == 0)=decide (R.cn=[]):=by
 cases h with
 | none _ h=>rw [h]; rfl
 | some d a T q X h s =>
   rw [beq_eq_false_iff_ne.2 h.ne]
   refine (decide_eq_false fun e=>?_).symm
   have h1:=adn (R:=Option.some ⟨d,T⟩) hw (by simp)
   rw [e] at h1
   have:=Nat.two_pow_pos d
   simp only [List.length_nil,Rt.dp] at h1
   omega
def adw (w0:World)(P D gl n:Nat)(kk m:bY)(b:Nat)(V:bY)(L:List eU)(M:List Nat)(F:Nat→Bool)(ws:bW)(R:Rt)(w:World)(e:Ending)(w':World):Prop :=
 ∃ F' ws' M',QL w0 w' P D gl n (kk++m) F' b V ws' (-1) false L M'∧((∀ x ∈ M,x ∈ M')∧∀ x ∈ M',x ∈ M∨w.heap.size≤x)∧qB M w w'∧w.heap.size≤w'.heap.size∧More kk n V F ws F' ws' ∧
   ((∃ t' q R',e = .returned (.tuple #[.pointer (some ⟨t',0,none⟩),.agg (ag q).toArray,.int .i64 0])∧t' ∈ M'∧iw (LZ kk n V F' ws') (fun k=>k ∈ M') w' t' P R'∧Y7 (LZ kk n V F' ws') R q R'∧cnt F' n+R.fr=cnt F n) ∨
     (e = .returned (.tuple #[.pointer none,.agg (ag ai).toArray,.int .i64 6])∧cnt F n<R.fr))
theorem JB {w0 w W1 w2 w5:World}{P D gl n b:Nat}{ks V:bY}{F F':Nat→Bool}{ws ws':bW}{L:List eU}{M:List Nat}(hq:QL w0 w P D gl n ks F b V ws (-1) false L M)(hb1:Below w.heap.size w W1)(h3:w.heap.size ∈ nH w W1)
 (hq2:QL w0 w2 P D gl n ks F' b V ws' (-1) false L (nH w W1++M)) (hs2:qB (nH w W1++M) W1 w2) (hsz:W1.heap.size≤w2.heap.size) (t:Touch [w.heap.size] w2 w5) :
 QL w0 w5 P D gl n ks F' b V ws' (-1) false L (nH w2 w5++(nH w W1++M))∧qB M w w5∧w.heap.size≤w5.heap.size∧∀ x ∈ nH w2 w5++(nH w W1++M),x ∈ M∨w.heap.size≤x:=by
 have h0:=hq.bel.size
 have h1:=hb1.size
 refine ⟨hq2.wide t (fun x hx=>?_) (fun r hr hm=>?_),fun x hx=>?_,Nat.le_trans h1 (Nat.le_trans hsz t.size),fun x hx=>?_⟩
 ·rw [List.mem_singleton.1 hx]
  exact ⟨List.mem_append_left _ h3,h0⟩
 ·have:=lt_of_block (hq.rows r hr).1
  rw [List.mem_singleton.1 hm] at this
  omega
 ·have hx0:=hq.gI x hx
  refine (t.block x (Nat.lt_of_lt_of_le (Nat.lt_of_lt_of_le hx0 hb1.size) hsz) (fun hm=>?_)).trans ((hs2 x (List.mem_append_right _ hx)).trans (hb1.block x hx0))
  rw [List.mem_singleton.1 hm] at hx0
  omega
 ·rcases List.mem_append.1 hx with e | e
  ·have:=(dN.1 e).2
   right; omega
  ·rcases List.mem_append.1 e with e | e
   ·exact .inr (dN.1 e).2
   ·exact .inl e
theorem Y8 {LQ:ay→aC→Prop}{w2 w3 w4 w5:World}{B3 P:Nat}{q:ay}{rp:bO}{R:Rt}{ok:Nat→Prop}(hw:R.wf)(hr:q.ad=0∧R=none∨∃ d T X,R=some ⟨d,T⟩∧Lies LQ d q X∧Sv d (its T) X)(hrp:q.ad=0∧rp=none∨q.ad ≠ 0∧∃ b,rp=some ⟨b,0,none⟩∧w3.heap.size≤b∧kH w4 b q false (.slice none 0 0) 0)
 (hb3:Below w2.heap.size w2 w3) (hb4:Below w3.heap.size w3 w4) (hB3:B3<w2.heap.size) (t:Touch [B3] (w4.alloc (.cells #[.pointer (some ⟨P,0,none⟩),.pointer rp] 94)) w5) (hok:∀ k,w2.heap.size≤k→k<w5.heap.size→ok k) (hlt:∀ k,ok k→k<w5.heap.size) :
 ok w4.heap.size∧∃ R',iw LQ ok w5 w4.heap.size P R'∧Y7 LQ R q R':=by
 have hal:=aJ w4 (.cells #[.pointer (some ⟨P,0,none⟩),.pointer rp] 94)
 have hnew:=ah w4 (.cells #[.pointer (some ⟨P,0,none⟩),.pointer rp] 94)
 have h3:=hb3.size
 have h4:=hb4.size
 have h5:w4.heap.size<w5.heap.size:=Nat.lt_of_lt_of_le (lt_of_block hnew) t.size
 have hblk:w5.heap[w4.heap.size]? = some (.cells #[.pointer (some ⟨P,0,none⟩),.pointer rp] 94 (0,0)):=(t.block _ (lt_of_block hnew) (by simp only [List.mem_singleton]; omega)).trans hnew
 refine ⟨hok _ (by omega) h5, ?_⟩
 rcases hrp with ⟨hq0,rfl⟩ | ⟨hq0,b,rfl,hb,htw⟩
 ·rcases hr with ⟨_,rfl⟩ | ⟨d,T,X,_,hl,_⟩
  ·exact ⟨none,⟨hblk,trivial,trivial,hlt⟩,.none q hq0⟩
  ·exact absurd hq0 hl.ne
 ·rcases hr with ⟨e,_⟩ | ⟨d,T,X,rfl,hl,hs⟩
  ·exact absurd e hq0
  ·have hbl:=lt_of_block htw
   have hb5:w5.heap[b]? = w4.heap[b]? := (t.block b (Nat.lt_of_lt_of_le hbl hal.size) (by simp only [List.mem_singleton]; omega)).trans (hal.block b hbl)
   refine ⟨some ⟨d,sK b q X⟩,⟨hblk, ?_,acp hs hw,hlt⟩,.some d b T q X hl hs⟩
   rw [oh]
   exact ⟨hok b (by omega) (by have:=hal.size; have:=t.size; show b<_; omega),hb5.trans htw,hl⟩
def aiT (w0:World)(P D gl n:Nat)(kk m:bY)(b:Nat)(V:bY)(L:List eU)(M:List Nat)(F:Nat→Bool)(ws:bW)(R:Rt)(w:World)(q:ay)(er:Int)(w':World):Prop :=
 ∃ F' ws',QL w0 w' P D gl n (kk++m) F' b V ws' (-1) false L M∧qB M w w'∧w.heap.size≤w'.heap.size∧More kk n V F ws F' ws' ∧
   (er=0∧(q.ad=0∧R=none∨∃ d T X,R=some ⟨d,T⟩∧Lies (LZ kk n V F' ws') d q X∧Sv d (its T) X)∧cnt F' n+R.fr=cnt F n∨er=6∧q=ai∧cnt F n<R.fr)
theorem UX (w0:World)(P D gl n:Nat)(kk m:bY)(b:Nat)(V:bY)(L:List eU)(M:List Nat)(F:Nat→Bool)(ws:bW)(t:Nat)(R:Rt)(w:World)(hkk:kk.length=32∧m.length=32∧b<18446744073709551616∧b ≠ 0)(hq:QL w0 w P D gl n (kk++m) F b V ws (-1) false L M)(ht:iw (LZ kk n V F ws) (fun k=>k ∈ M) w t P R)(UQ:t ∈ M)(hwl:ws.length+cnt F n≤100000) :
 Calls Tryz.prog 38 #[.pointer (some ⟨t,0,none⟩),.pointer R.ptr] w fun e w'=>∃ q er,e = .returned (.tuple #[.agg (ag q).toArray,.int .i64 er])∧aiT w0 P D gl n kk m b V L M F ws R w q er w':=by
 cases R with
 | none =>
   refine (YZ w0 P D gl n kk m F b V ws L M _ w hq).mono ?_
   rintro e w' ⟨rfl,h1,h2⟩
   exact ⟨ai,0,rfl,F,ws,h1,aX hq.gI h2,h2.size,More.refl,.inl ⟨rfl,.inl ⟨rfl,rfl⟩,rfl⟩⟩
 | some p =>
   obtain ⟨d,T⟩:=p
   have hT:=ht.at_
   rw [oh] at hT
   refine (UU w0 P D gl n kk m b V L t _ hkk d T aY aY F ws M w hq ht.blk UQ hT ht.wf hwl).mono ?_
   rintro e w' ⟨F',ws',hres,hm,h1,h2,h3⟩
   rcases hres with ⟨q,X,rfl,hl,hs,hc⟩ | ⟨rfl,hc⟩
   ·exact ⟨q,0,rfl,F',ws',h1,h2,h3,hm,.inl ⟨rfl,.inr ⟨d,T,X,rfl,hl,hs⟩,hc⟩⟩
   ·exact ⟨ai,6,rfl,F',ws',h1,h2,h3,hm,.inr ⟨rfl,rfl,hc⟩⟩
theorem adx (w0:World)(P D gl n:Nat)(kk m:bY)(b:Nat)(V:bY)(L:List eU)(M:List Nat)(F:Nat→Bool)(ws:bW)(t:Nat)(R:Rt)(w:World)(hkk:kk.length=32∧m.length=32∧b<18446744073709551616∧b ≠ 0)(hq:QL w0 w P D gl n (kk++m) F b V ws (-1) false L M)(ht:iw (LZ kk n V F ws) (fun k=>k ∈ M) w t P R)(UQ:t ∈ M)(hwl:ws.length+cnt F n≤100000) :
 Calls Tryz.prog 15 #[.pointer (some ⟨t,0,none⟩)] w fun e w'=>adw w0 P D gl n kk m b V L M F ws R w e w':=by
 have hp0:=dK
 have hb0:=zM
 have HQ:=hid hq
 have HTA:=hid ht
 have QC:=hid UQ
 have SZ:=hid (bG ai)
 have SO:=hid (bf ai)
 have SE:=hid kE
 have hz:=ah w (.cells (ag ai).toArray 51)
 have hb1:=aJ w (.cells (ag ai).toArray 51)
 have t1:=ae (cell_of_row w t 1 _ _ _ ht.blk) (hb1.block _ (lt_of_block ht.blk))
 have HZ:=hid hz
 have HB1:=hid hb1
 have Dz:=hid (hq.grow hb1)
 have HM1:=hid (show w.heap.size ∈ nH w (w.alloc (.cells (ag ai).toArray 51)) from dN.2 ⟨lt_of_block hz,Nat.le_refl _⟩)
 have HWR:=hid (UX w0 P D gl n kk m b V L (nH w (w.alloc (.cells (ag ai).toArray 51))++M) F ws t R _ hkk Dz.out
  (ht.mono (hb1.block _ (lt_of_block ht.blk)) (fun k hk=>hb1.block k (hq.gI k hk)) (fun _ _ h=>h) (fun k hk=>List.mem_append_right _ hk) (fun k hk=>Dz.out.gI k hk)) (List.mem_append_right _ UQ) hwl)
 have t0b:=cell_of_row w t 0 _ _ _ ht.blk
 have HT0:=hid t0b
 obtain ⟨ZL,Gp⟩:∃ z,(ag ai).toArray=z:=⟨_,rfl⟩
 rw [Gp] at hp0 hb0 SZ SO SE HZ HB1 Dz HM1 HWR t1
 have Y1:=hid Gp
 clear Gp hz hb1 hq ht UQ hwl hkk t0b
 go_enter Tryz.func15,Tryz.ntmps15
 go_wp2_with fail
 refine HWR.out.mono ?_
 rintro e w2 ⟨q,er,rfl,F',ws',hq2,hs2,hsz2,hm2,hres⟩
 have xx:=hid hq2
 have HS2:=hid hs2
 have Z7:=hid hm2
 have aiU:=hid hsz2
 have HR3:=hid (show w2.heap[w.heap.size]? = some (.cells ZL 51 (0,0)) from (hs2 _ (List.mem_append_left _ HM1.out)).trans HZ.out)
 have HT2:=hid (ae HT0.out ((hs2 t (List.mem_append_right _ QC.out)).trans (HB1.out.block _ (block_lt_of_cell HT0.out))))
 clear hq2 hs2 hm2 hsz2 HWR t1
 go_upto_region 4 with (with_reducible refine wpList_store_row (o:=⟨none,.store _ (.tmp 5) _,_,_,_,_⟩) rfl 51 _ _ rfl w2.heap.size (ag q).toArray rfl rfl 51 ZL (heap_alloc_new w2 _) (bG q) (SE.out q) (bf q) ?_)
 generalize hWs:World.setRow _ w2.heap.size _=w3
 have hst:=ou w2 ZL (ag q).toArray 51 w3 hWs.symm
 have HB3:=hid hst.2
 have MB:=hid hst.1
 have agb:=hid ((hst.2.block _ (lt_of_block HR3.out)).trans HR3.out)
 have HT3:=hid (ae HT2.out (hst.2.block _ (block_lt_of_cell HT2.out)))
 have Gz:=hid (show w2.heap.size ≠ w.heap.size by have:=lt_of_block HR3.out; omega)
 have mJ:=hid (show t<w.heap.size from block_lt_of_cell HT0.out)
 clear hWs hst HR3 HT2
 obtain ⟨B5,hB5⟩:∃ z,w2.heap.size=z:=⟨_,rfl⟩
 have apw:=hid hB5
 rw [hB5] at MB Gz ⊢
 clear hB5
 rcases hres with ⟨rfl,hr,hc⟩ | ⟨rfl,rfl,hc⟩
 ·have HR:=hid hr
  have HC:=hid hc
  clear hr hc
  have HLY:=hid (fun W=>Bd q W)
  have k0:=HT3.out
  have k5:=MB.out
  go_upto_region 6 with fail
  try simp only [Act.put]
  refine wp_region_noPanic ?_
  refine wp_region_held_drew (S:=fun W=>W.cell? ⟨t,0,none⟩=some (.pointer (some ⟨P,0,none⟩))∧W.heap[B5]? = some (.cells (ag q).toArray 51 (0,0))) (by kernel_rfl) ⟨k0,k5⟩ (fun hHeld=>?_)
  refine tR 0 23 (h:=tR 1 24 (h:=tR 2 25 (h:=?_)))
  refine tK 3 26 (.pointer (some ⟨P,0,none⟩)) rfl (Or.inl ⟨by rfl, ?_⟩) ?_
  ·(intro w' hSw; have q0:=hSw.1; go_simp; try with_reducible rfl)
  try simp only [Act.put,pZ]
  refine tK 4 27 _ rfl (yieldsIf_load_mid (by rfl) _ _ rfl (B5) (0) rfl ((ag q)) _ (fun w' h=>by have q0:=YY h.2; simpa using q0) Tryz.underlying51 rfl (dS q)) ?_
  try simp only [Act.put,pZ]
  refine tK 8 31 _ rfl (yieldsIf_load_mid (by rfl) _ _ rfl (B5) (0) rfl ((ag q)) _ (fun w' h=>by have q0:=YY h.2; simpa using q0) Tryz.underlying51 rfl (dS q)) ?_
  try simp only [Act.put,pZ]
  refine rD 5 rfl fun K9 hK=>?_
  go_simp
  go_at_call 39
  refine (HLY.out _).mono ?_
  rintro e w4 ⟨hq4,hb4⟩
  have HB4:=hid (show Below w3.heap.size w3 w4 from (Below.refl _ w3).drew.trans hb4)
  obtain ⟨rp,rfl,hrp⟩:∃ rp,e = .returned (.pointer rp)∧(q.ad=0∧rp=none∨q.ad ≠ 0∧∃ b,rp=some ⟨b,0,none⟩∧w3.heap.size≤b∧kH w4 b q false (.slice none 0 0) 0):=by
   rcases hq4 with ⟨h1,rfl⟩ | ⟨h1,b,rfl,h2,h3⟩
   ·exact ⟨none,rfl,.inl ⟨h1,rfl⟩⟩
   ·exact ⟨_,rfl,.inr ⟨h1,b,rfl,h2,h3⟩⟩
  have HRP:=hid hrp
  clear hq4 hb4 hrp k0 k5 HLY
  go_wp2_with fail
  refine hK.out _ _ ⟨ae HT3.out (HB4.out.block _ (block_lt_of_cell HT3.out)),(HB4.out.block _ (lt_of_block MB.out)).trans MB.out⟩ (fun hHeld=>?_)
  clear hK K9
  try simp only [Act.put,pZ]
  refine tR 6 29 (h:=?_)
  have hal:=aJ w4 (.cells #[.pointer (some ⟨P,0,none⟩),.pointer rp] 94)
  have hnew:=ah w4 (.cells #[.pointer (some ⟨P,0,none⟩),.pointer rp] 94)
  have fQ:=hid (aK HB4.out hal)
  have uz:=hid hal
  have HNW:=hid hnew
  clear hal hnew
  refine rD 7 rfl fun K9 hK=>?_
  go_simp
  refine hK.out _ _ ⟨ae HT3.out (fQ.out.block _ (block_lt_of_cell HT3.out)),(fQ.out.block _ (lt_of_block MB.out)).trans MB.out⟩ (fun hHeld=>?_)
  clear hK K9
  try simp only [Act.put,pZ]
  refine tR 9 2 (h:=?_)
  refine rD 10 rfl fun K9 hK=>?_
  rw [if_pos (by kernel_rfl)]
  have amH:=hid ((fQ.out.block _ (lt_of_block agb.out)).trans agb.out)
  refine wp_store_row (o:=⟨none,.store _ (.tmp 3) _,_,_,_,_⟩) 51 _ _ rfl w.heap.size (ag q).toArray rfl rfl 51 ZL amH.out (bG q) (SE.out q) (bf q) ?_
  have HRR:=hid (jC amH.out (ag q).toArray)
  have HTT:=hid (bK (w4.alloc (.cells #[.pointer (some ⟨P,0,none⟩),.pointer rp] 94)) w.heap.size (ag q).toArray)
  refine hK.out _ _ ⟨ae HT3.out ((HTT.out.block t (Nat.lt_of_lt_of_le (block_lt_of_cell HT3.out) fQ.out.size) (by simp only [List.mem_singleton]; have:=mJ.out; omega)).trans (fQ.out.block _ (block_lt_of_cell HT3.out))),(HTT.out.block B5 (Nat.lt_of_lt_of_le (lt_of_block MB.out) fQ.out.size) (by simpa using Gz.out)).trans ((fQ.out.block _ (lt_of_block MB.out)).trans MB.out)⟩ (fun hHeld=>?_)
  clear hK K9
  try simp only [Act.put]
  refine tR 11 4 (h:=?_)
  refine wpAnyH_done (by decide +kernel) ?_ _
  refine NoPanic.normal ?_
  clear hHeld
  go_wp2_with fail
  refine bodyPost_ret (v := .tuple #[.pointer (some ⟨w4.heap.size,0,none⟩),.agg (ag q).toArray,.int .i64 0]) (qG Tryz.results15 _ _ w.heap.size 51 (ag q).toArray (0,0) _ rfl HRR.out Tryz.underlying51 rfl (bG q) _ _ (by simp) (by simp)) rfl ?_
  have hsp:=JB HQ.out HB1.out HM1.out xx.out HS2.out aiU.out ((Touch.of_below (HB3.out.trans (fQ.out.mono HB3.out.size))).trans HTT.out)
  obtain ⟨h1,R',h2,h3⟩:=Y8 HTA.out.wf HR.out HRP.out HB3.out HB4.out (by have:=apw.out; have:=Gz.out; have:=aiU.out; have:=lt_of_block HZ.out; omega) HTT.out (ok:=fun k=>k ∈ nH w2 _++(nH w _++M)) (fun k h1 h2=>List.mem_append_left _ (dN.2 ⟨h2,h1⟩)) hsp.1.gI
  exact ⟨F',ws',_,hsp.1,⟨fun x hx=>List.mem_append_right _ (List.mem_append_right _ hx),hsp.2.2.2⟩,hsp.2.1,hsp.2.2.1,Z7.out,.inl ⟨w4.heap.size,q,R',rfl,h1,h2,h3,HC.out⟩⟩
 ·have HC:=hid hc
  clear hc
  go_wp2_with (with_reducible refine wpList_store_row (o:=⟨none,.store _ (.tmp 3) _,_,_,_,_⟩) rfl 51 _ _ rfl w.heap.size ZL rfl rfl 51 ZL agb.out SZ.out rfl SO.out ?_)
  refine bodyPost_ret (v := .tuple #[.pointer none,.agg ZL,.int .i64 6]) (qG Tryz.results15 _ _ w.heap.size 51 ZL (0,0) _ rfl (jC agb.out ZL) Tryz.underlying51 rfl SZ.out _ _ (by simp) (by simp)) rfl ?_
  have hsp:=JB HQ.out HB1.out HM1.out xx.out HS2.out aiU.out ((Touch.of_below HB3.out).trans (bK w3 w.heap.size ZL))
  exact ⟨F',ws',_,hsp.1,⟨fun x hx=>List.mem_append_right _ (List.mem_append_right _ hx),hsp.2.2.2⟩,hsp.2.1,hsp.2.2.1,Z7.out,.inr ⟨by rw [Y1.out],HC.out⟩⟩
theorem MC {P:Program}{fn:Func}{p q r s:Tmp}(h:fn.results=#[.tmp p,.tmp q,.tmp r,.tmp s])(tmps:Array Value)(w:World)(a b c d:Value)
 (hp:tmps.getD p undef=a) (hq:tmps.getD q undef=b) (hr:tmps.getD r undef=c) (hs:tmps.getD s undef=d):(results fn tmps).run P w = .ok (.tuple #[a,b,c,d]) w:=by
 have hp':tmps[p]?.getD undef=a:=by simpa using hp
 have hq':tmps[q]?.getD undef=b:=by simpa using hq
 have hr':tmps[r]?.getD undef=c:=by simpa using hr
 have hs':tmps[s]?.getD undef=d:=by simpa using hs
 simp [results,h,hp',hq',hr',hs']
theorem aiV (w0 w:World)(n:Nat)(hK:KT w0)(hT:TZ w0)(hb:Below w0.heap.size w0 w)(h0:16≤n)(h1:n≤4096) :
 Calls Tryz.prog 10 #[.int .i64 (n:Int)] w fun e w'=>∃ t P D gl,e = .returned (.tuple #[.pointer (some ⟨t,0,none⟩),.pointer (some ⟨P,0,none⟩),.pointer (some ⟨D,0,none⟩),.bool true])∧QL w0 w' P D gl n (keyE++Qw) (dE n) 1 (az (n * 512)) [] (-1) false [] [t]∧w'.heap[t]? = some (.cells #[.pointer (some ⟨P,0,none⟩),.pointer none] 94 (0,0))∧w.heap.size≤t∧Below w.heap.size w w':=by
 have GX:=hid (show (keyE++Qw).length=64 by rw [List.length_append,vP,vO])
 have HD:=hid (fun (W:World)=>afF n W h0 h1)
 have HN:=hid (And.intro h0 h1)
 have qL:=hid hb
 have QN:=hid (And.intro hK hT)
 clear hb hK hT h0 h1
 go_enter Tryz.func10,Tryz.ntmps10
 go_wp2_with fail
 refine (HD.out w).mono ?_
 rintro e w2 ⟨rfl,hpd,hb2⟩
 have aiW:=hid (show PO w0 w2 [] (w.heap.size+2) w.heap.size n (az (n * 512)) [] (-1) false from by
  have h2:=hb2.size
  have h3:=qL.out.size
  refine ⟨_,_,hpd,fun g hg=>?_,fun k hk=>absurd hk (by simp),qL.out.trans (hb2.mono qL.out.size)⟩
  simp only [oI,Value.ownBlock,Option.toList_none,List.mem_cons,List.not_mem_nil,or_false] at hg
  simp only [List.not_mem_nil,not_false_eq_true,and_true]
  omega)
 have HB2:=hid hb2
 clear HD hpd hb2
 generalize w.heap.size+2=D at *
 obtain ⟨gl,hgl⟩:∃ z,w.heap.size=z:=⟨_,rfl⟩
 rw [hgl] at aiW
 clear hgl
 have hcv:=UH w2 #[.int .u8 109,.int .u8 97,.int .u8 115,.int .u8 116,.int .u8 101,.int .u8 114] 6 6
 have hbl:=(Below.refl w2.heap.size w2).alloc (Nat.le_refl _) (.cells #[.int .u8 109,.int .u8 97,.int .u8 115,.int .u8 116,.int .u8 101,.int .u8 114] 5 (6,7))
 have amI:KT (w2.alloc (.cells #[.int .u8 109,.int .u8 97,.int .u8 115,.int .u8 116,.int .u8 101,.int .u8 114] 5 (6,7))):=QN.out.1.below ((qL.out.trans (HB2.out.mono qL.out.size)).trans (hbl.mono (Nat.le_trans qL.out.size HB2.out.size))) QN.out.1.pos
 have HDE:=hid (UJ YR (.slice (some ⟨w2.heap.size,0,none⟩) 6 6) _ (YS w2) (tY _ _ _ (by decide) (by decide)) amI (by decide))
 rw [Qn,show UI YR=Qw from rfl] at HDE
 have Iq:=hid hbl
 clear hbl amI
 go_wp2_with fail
 refine HDE.out.mono ?_
 rintro e w3 ⟨rfl,hb3⟩
 have Nc:=hid (Iq.out.trans (hb3.mono Iq.out.size))
 have aiX:=hid (aiW.out.below Nc.out)
 have HB3:=hid (aK HB2.out Nc.out)
 clear hcv hb3 HDE Iq aiW
 generalize hKM:keyE++Qw=KM at *
 have Dj:=hid hKM
 generalize hYK:aG KM=YK at *
 have HYK:=hid hYK
 clear hKM hYK
 have amJ:=hid (show Calls Tryz.prog 18 #[.pointer (some ⟨D,0,none⟩),.agg YK] w3 fun e w'=>∃ P,w3.heap.size≤P∧e = .returned (.tuple #[.pointer (some ⟨P,0,none⟩),.int .i64 0])∧PL w' P D n KM (dE n) 0∧Below w3.heap.size w3 w' from by
  obtain ⟨bm,vw,hd,_⟩:=aiX.out
  rw [← HYK.out]
  exact YP D gl bm n vw _ _ _ _ KM w3 hd GX.out HN.out.1 HN.out.2)
 go_wp2_with fail
 refine amJ.out.mono ?_
 rintro e w5 ⟨PP,hP,rfl,hpl,hb5⟩
 have qJ:=hid (ac7 aiX.out hb5 hP hpl QN.out.1 QN.out.2)
 have fQ:=hid (aK HB3.out hb5)
 have xh:=hid (Nat.le_trans HB3.out.size hP)
 clear hP hpl hb5 amJ aiX HB3 Nc
 go_wp2_with fail
 refine (acx PP w5).mono ?_
 rintro e w6 ⟨t,rfl,ht,hblk,hb6⟩
 have jL:=hid (qJ.out.aph hb6 t ht (lt_of_block hblk))
 have kX:=hid (aK fQ.out hb6)
 have HBK:=hid hblk
 have mJ:=hid (Nat.le_trans fQ.out.size ht)
 have Gz:=hid (show t ≠ PP by have:=qJ.out.pl.lt; omega)
 clear ht hblk hb6 qJ fQ
 have yL:=hid (ac4 1 jL.out)
 go_wp2_with fail
 refine yL.out.mono ?_
 rintro e w7 ⟨rfl,hq7,yK⟩
 have uD:=hid hq7
 have Zy:=hid (show w7.heap[t]? = some (.cells #[.pointer (some ⟨PP,0,none⟩),.pointer none] 94 (0,0)) from (yK.block t (lt_of_block HBK.out) (by simpa using Gz.out)).trans HBK.out)
 have MN:=hid (show Below w.heap.size w w7 from kX.out.trans (yK.below kX.out.size (fun k hk=>by rw [List.mem_singleton.1 hk]; exact xh.out)))
 clear hq7 yK yL
 go_wp2_with fail
 refine bodyPost_ret (v := .tuple #[.pointer (some ⟨t,0,none⟩),.pointer (some ⟨PP,0,none⟩),.pointer (some ⟨D,0,none⟩),.bool true]) (MC Tryz.results10 _ _ _ _ _ _ (by simp) (by simp) (by simp) (by simp)) rfl ?_
 exact ⟨t,PP,D,gl,rfl,by rw [Dj.out]; exact uD.out,Zy.out,mJ.out,MN.out⟩
structure kC where
 kd:Int
 nn:Int
 k:ByteArray
 v:ByteArray
def qm (x:kC):List Value:=[.int .i64 x.kd,.int .i64 x.nn,.string x.k,.string x.v]
structure Gq (x:kC):Prop where
 k0 : -9223372036854775808≤x.kd∧x.kd≤9223372036854775807
 n0 : -9223372036854775808≤x.nn∧x.nn≤9223372036854775807
 ks:x.k.size≤140737488351232
 vs:x.v.size≤140737488351232
def CQ:World→kC→List Value→Prop:=fun _ x cs=>cs=qm x∧Gq x
theorem Y9:Opn 37 CQ:=by
 intro H enc W fuel cs y h hw
 obtain ⟨xs,k,_,hx,hlen,hxl,hfs⟩:=DataW.trod_struct Tryz.underlying37 h
 rw [show Tryz.prog.cellsOf 37=4 by kernel_rfl] at hlen
 have hxk:xs.length=4:=hxl
 have hd:=congrArg Prod.fst hx
 dsimp only at hd
 clear hx hxl
 match xs,hxk with
 | [y0,y1,y2,y3],_ =>
   have ei:Tryz.prog.cellsOf 3=1:=by kernel_rfl
   have es:Tryz.prog.cellsOf 9=1:=by kernel_rfl
   have hw2:∀ n ∈ DataW.weightsEach Tryz.prog [3,3,9,9] [y0.1,y1.1,y2.1,y3.1],n≤reachBytes:=fun n hn=>hw n (by rw [hd]; simp only [DataW.weights,Tryz.underlying37]; exact hn)
   have g0:DataW.trod enc Tryz.prog W 0 (fun _=>true) true k 3 ((cs.drop 0).take 1)=some y0:=by have q:=hfs 0 _ rfl; simpa [ei] using q
   have g1:DataW.trod enc Tryz.prog W 0 (fun _=>true) true k 3 ((cs.drop 1).take 1)=some y1:=by have q:=hfs 1 _ rfl; simpa [ei] using q
   have g2:DataW.trod enc Tryz.prog W 0 (fun _=>true) true k 9 ((cs.drop 2).take 1)=some y2:=by have q:=hfs 2 _ rfl; simpa [ei,es] using q
   have g3:DataW.trod enc Tryz.prog W 0 (fun _=>true) true k 9 ((cs.drop 3).take 1)=some y3:=by have q:=hfs 3 _ rfl; simpa [ei,es] using q
   obtain ⟨kd,r0,k0,k1⟩:=Vh .i64 _ _ Tryz.underlying3 wf_i64 _ _ _ _ _ _ g0 (fun n hn=>hw2 n (DataW.weights_mem_each (j:=0) rfl rfl n hn))
   obtain ⟨nn,r1,n0,n1⟩:=Vh .i64 _ _ Tryz.underlying3 wf_i64 _ _ _ _ _ _ g1 (fun n hn=>hw2 n (DataW.weights_mem_each (j:=1) rfl rfl n hn))
   obtain ⟨sk,r2,z2⟩:=yZ Tryz.underlying9 _ _ _ _ _ _ g2 (fun n hn=>hw2 n (DataW.weights_mem_each (j:=2) rfl rfl n hn))
   obtain ⟨sv,r3,z3⟩:=yZ Tryz.underlying9 _ _ _ _ _ _ g3 (fun n hn=>hw2 n (DataW.weights_mem_each (j:=3) rfl rfl n hn))
   have hcs:cs=(cs.drop 0).take 1++((cs.drop 1).take 1++((cs.drop 2).take 1++(cs.drop 3).take 1)):=by
    match cs,hlen with
    | [_,_,_,_],_=>rfl
   rw [r0,r1,r2,r3] at hcs
   exact ⟨⟨kd,nn,sk,sv⟩,hcs,⟨k0,k1⟩,⟨n0,n1⟩,z2,z3⟩
theorem yJ:Opn 22 (RSl CQ 4):=Xk 4 Tryz.underlying22 (by kernel_rfl) (by decide) (of_decide_eq_true (by kernel_rfl)) Y9
structure AT (w:World)(a:bO)(x:List kC):Prop where
 at_:∀ i q,x[i]? = some q→∃ b off,a=some ⟨b,off,none⟩∧w.rangeAt b (off+i * 4) (qm q)
theorem AT.below {w w':World}{a:bO}{x:List kC}(h:AT w a x)(q:Below w.heap.size w w'):AT w' a x :=
 ⟨fun i y hy=>by obtain ⟨b,off,e,h1⟩:=h.at_ i y hy; exact ⟨b,off,e,dF h1 q⟩⟩
theorem ady {w:World}{x:List kC}{a:bO}{n c:Nat}(h:SlR CQ 4 w x a n c):AT w a x∧∀ q ∈ x,Gq q:=by
 refine ⟨⟨fun i q hq=>?_⟩,fun q hq=>?_⟩
 ·obtain ⟨hi,rfl⟩:=List.getElem?_eq_some_iff.1 hq
  obtain ⟨b,off,cs,h1,h2,_,h5⟩:=h.here i hi
  obtain ⟨rfl,ho⟩:=h2
  exact ⟨b,off,h1,h5⟩
 ·obtain ⟨i,hi,rfl⟩:=List.getElem_of_mem hq
  obtain ⟨b,off,cs,h1,h2,_,h5⟩:=h.here i hi
  exact h2.2
theorem qo (b off len cap i:Nat)(h:i<len)(W:World):(Instr.indexAt 22 (.slice (some ⟨b,off,none⟩) len cap) (.int .i64 (i:Int))).run Tryz.prog W = .ok (.pointer (some ⟨b,off+i * 4,none⟩)) W:=by
 obtain ⟨i0,hi,hs⟩:=Option.map_eq_some_iff.1 (show (Tryz.prog.info? 37).map (·.size)=some 4 by kernel_rfl)
 simp [Instr.indexAt,asIntOf,run_underlying Tryz.underlying22,sizeOf,typeInfo,hi,hs,h,Addr.add_mid]
theorem wV {w:World}{b o:Nat}{x:kC}(h:w.rangeAt b o (qm x)):w.cell? ⟨b,o,none⟩=some (.int .i64 x.kd)∧w.cell? ⟨b,o+1,none⟩=some (.int .i64 x.nn)∧w.cell? ⟨b,o+2,none⟩=some (.string x.k)∧w.cell? ⟨b,o+3,none⟩=some (.string x.v) :=
 ⟨h 0 _ rfl,h 1 _ rfl,h 2 _ rfl,h 3 _ rfl⟩
def sumT (l:List kC):Nat:=(l.map (fun x=>x.k.size+x.v.size)).sum
theorem Za (l:List kC)(i:Nat)(x:kC)(h:l[i]? = some x):sumT (l.take (i+1))=sumT (l.take i)+(x.k.size+x.v.size):=by
 unfold sumT
 rw [List.take_add_one,h]
 simp
theorem adz {l:List kC}{x:kC}(h:x ∈ l):x.k.size+x.v.size≤sumT l:=by
 unfold sumT
 induction l with
 | nil=>cases h
 | cons y r ih =>
   rw [List.map_cons,List.sum_cons]
   rcases List.mem_cons.1 h with rfl | h
   ·omega
   ·have:=ih h; omega
theorem V9 (l:List kC)(h:∀ x ∈ l,Gq x):sumT l≤l.length * 281474976702464:=by
 unfold sumT
 induction l with
 | nil=>simp
 | cons y r ih =>
   have h1:=ih (fun x hx=>h x (List.mem_cons_of_mem _ hx))
   have h2:=h y (List.mem_cons_self ..)
   have:=h2.ks
   have:=h2.vs
   rw [List.map_cons,List.sum_cons,List.length_cons]
   omega
def wW (x:List kC)(w:World)(e:Ending)(w':World):Prop :=
 (e = .returned (.int .i64 1)∨e = .returned (.int .i64 0)∧x.length≤150∧∀ q ∈ x,q.k.size≤8000∧q.v.size≤8000)∧Below w.heap.size w w'
theorem MF (a:bO)(c:Nat)(x:List kC)(w:World)(h:AT w a x)(ho:∀ q ∈ x,Gq q)(hc:x.length≤140737488351232) :
 Calls Tryz.prog 9 #[.slice a x.length c] w fun e w'=>wW x w e w':=by
 have HA:=hid h
 have HO:=hid ho
 obtain ⟨n,hn⟩:∃ n,x.length=n:=⟨_,rfl⟩
 have HN:=hid hn
 rw [hn] at hc ⊢
 have nI:(n:Int)≤140737488351232:=by omega
 have ML:=hid (V9 x ho)
 clear h ho hn
 by_cases hb:n≤150
 ·have nB:¬ ((150:Int)<(n:Int)):=by omega
  have HB:=hid hb
  clear hb
  go_enter Tryz.func9,Tryz.ntmps9
  go_wp2_with fail
  go_loopw [3,5,8] (fun v3 _ v8 wr=>∃ i:Nat,i≤n∧v8 = .int .i64 (i:Int)∧v3 = .int .i64 ((sumT (x.take i):Nat):Int)∧Below w.heap.size w wr) (fun _ _ v _=>n - (intOf v).toNat)
  case atStart=>exact ⟨0,Nat.zero_le _,rfl,rfl,Below.refl _ _⟩
  case round =>
   obtain ⟨i,hi,rfl,rfl,hbw⟩:=hrel
   have qL:=hid hbw
   clear hbw
   by_cases hlt:i<n
   ·obtain ⟨q,hq⟩:∃ q,x[i]? = some q:=⟨_,List.getElem?_eq_getElem (by rw [HN.out]; exact hlt)⟩
    obtain ⟨b,off,rfl,hrg⟩:=(HA.out.below qL.out).at_ i q hq
    obtain ⟨c0,c1,c2,c3⟩:=wV hrg
    have hix:=qo b off n c i hlt
    have bz:=hid hlt
    have uF:=hid (Za x i q hq)
    have iI:(i:Int)<(n:Int):=by omega
    have i0:(0:Int)≤(i:Int):=by omega
    have hqo:=HO.out q (List.mem_of_getElem? hq)
    have hs1:=V9 (x.take i) (fun y hy=>HO.out y (List.mem_of_mem_take hy))
    have hl1:(x.take i).length≤150:=by rw [List.length_take]; have:=HB.out; omega
    have hs2:sumT (x.take i)≤42221246505369600:=Nat.le_trans hs1 (Nat.mul_le_mul_right _ hl1)
    have kI:(q.k.size:Int)≤140737488351232:=by have:=hqo.ks; omega
    have vI:(q.v.size:Int)≤140737488351232:=by have:=hqo.vs; omega
    generalize sumT (x.take i)=Z at *
    have zI:(Z:Int)≤42221246505369600:=by omega
    have z0:(0:Int)≤(Z:Int):=by omega
    have k0:(0:Int)≤(q.k.size:Int):=by omega
    have v0:(0:Int)≤(q.v.size:Int):=by omega
    clear hi hlt hq hrg hqo hs1 hl1 hs2
    go_wp2_with fail
    go_roundw
    case rel=>exact ⟨i+1,by have:=bz.out; omega,by go_num,by rw [uF.out]; first | rfl | (congr 1; done),qL.out.trans ((aJ _ _).mono qL.out.size)⟩
    case measure=>simp [intOf]; have:=bz.out; omega
   ·obtain rfl:i=n:=by omega
    rw [List.take_of_length_le (Nat.le_of_eq HN.out)]
    have HS:=hid (fun q (hq:q ∈ x)=>adz hq)
    generalize sumT x=Z at *
    by_cases hz:Z≤8000
    ·have zI:¬ ((8000:Int)<(Z:Int)):=by omega
     have HP:=hid (show wW x w (.returned (.int .i64 0)) wr from ⟨.inr ⟨rfl,by rw [HN.out]; exact HB.out,fun q hq=>by have:=HS.out q hq; omega⟩,qL.out⟩)
     clear hz hi hlt
     go_wp2_with fail
     go_ret
     exact HP.out
    ·have zI:(8000:Int)<(Z:Int):=by omega
     have HP:=hid (show wW x w (.returned (.int .i64 1)) wr from ⟨.inl rfl,qL.out⟩)
     clear hz hi hlt
     go_wp2_with fail
     go_ret
     exact HP.out
 ·have nB:(150:Int)<(n:Int):=by omega
  clear hb
  go_enter Tryz.func9,Tryz.ntmps9
  go_wp2_with fail
  go_loopw [3,5,8] (fun v3 _ v8 wr=>∃ (i:Nat) (z:Int),i≤n∧v8 = .int .i64 (i:Int)∧v3 = .int .i64 z∧Below w.heap.size w wr) (fun _ _ v _=>n - (intOf v).toNat)
  case atStart=>exact ⟨0,0,Nat.zero_le _,rfl,rfl,Below.refl _ _⟩
  case round =>
   obtain ⟨i,z,hi,rfl,rfl,hbw⟩:=hrel
   have qL:=hid hbw
   clear hbw
   by_cases hlt:i<n
   ·obtain ⟨q,hq⟩:∃ q,x[i]? = some q:=⟨_,List.getElem?_eq_getElem (by rw [HN.out]; exact hlt)⟩
    obtain ⟨b,off,rfl,hrg⟩:=(HA.out.below qL.out).at_ i q hq
    obtain ⟨c0,c1,c2,c3⟩:=wV hrg
    have hix:=qo b off n c i hlt
    have bz:=hid hlt
    have iI:(i:Int)<(n:Int):=by omega
    have i0:(0:Int)≤(i:Int):=by omega
    clear hi hlt hq hrg
    go_wp2_with fail
    go_roundw
    case rel=>exact ⟨i+1,_,by have:=bz.out; omega,by go_num,rfl,qL.out.trans ((aJ _ _).mono qL.out.size)⟩
    case measure=>simp [intOf]; have:=bz.out; omega
   ·obtain rfl:i=n:=by omega
    have HP:=hid (show wW x w (.returned (.int .i64 1)) wr from ⟨.inl rfl,qL.out⟩)
    clear hi hlt
    go_wp2_with fail
    go_ret
    exact HP.out
end
section
open Go.ChangeShapes Go.WideShapes Go.ChangeAt Go.RowKit
theorem zZ {w w':World}{M:List Nat}:∀ k ∈ nH w w'++M,k ∈ M∨w.heap.size≤k:=fun k hk=>by
 rcases List.mem_append.1 hk with e | e
 ·exact .inr (dN.1 e).2
 ·exact .inl e
structure TQ (w0 w:World)(P D gl n:Nat)(V:bY)(F:Nat→Bool)(ws:bW)(L:List eU)(M:List Nat):Prop where
 q:QL w0 w P D gl n (keyE++Qw) F 1 V ws (-1) false L M
 few:ws.length+cnt F n≤100000
abbrev LT (n:Nat)(V:bY)(F:Nat→Bool)(ws:bW):ay→aC→Prop:=LZ keyE n V F ws
structure TM (w:World)(P n:Nat)(V:bY)(F:Nat→Bool)(ws:bW)(M:List Nat)(t:Nat)(R:Rt):Prop where
 at_:iw (LT n V F ws) (fun k=>k ∈ M) w t P R
 mem:t ∈ M
theorem TM.mono {w w':World}{P n:Nat}{V:bY}{F F':Nat→Bool}{ws ws':bW}{M M':List Nat}{t:Nat}{R:Rt}(h:TM w P n V F ws M t R)(hs:qB M w w')(hm:∀ k ∈ M,k ∈ M')(hl:∀ k ∈ M',k<w'.heap.size)(hq:∀ q nd,LT n V F ws q nd→LT n V F' ws' q nd):TM w' P n V F' ws' M' t R :=
 ⟨h.at_.mono (hs t h.mem) (fun k hk=>hs k hk) hq hm hl,hm t h.mem⟩
section
variable {w0 w w':World} {P D gl n:Nat} {V:bY} {F:Nat→Bool} {ws:bW} {L:List eU} {M:List Nat} {t:Nat} {R:Rt}
theorem TQ.below (h:TQ w0 w P D gl n V F ws L M)(q:Below w.heap.size w w'):TQ w0 w' P D gl n V F ws L M:=⟨h.q.below q,h.few⟩
theorem TQ.grow (h:TQ w0 w P D gl n V F ws L M)(q:Below w.heap.size w w'):TQ w0 w' P D gl n V F ws L (nH w w'++M):=⟨h.q.grow q,h.few⟩
theorem TQ.rd (h:TQ w0 w P D gl n V F ws L M):RD (LT n V F ws) w P:=fun W hW q nd hq=>by
 have h2:=h.q.below hW
 refine (af7 P 1 F keyE Qw q h2 h2.pl vP vO).mono ?_
 rintro e w' ⟨k,v,p,rfl,hn,hb⟩
 rw [hq.1] at hn ⊢
 exact ⟨k,v,p,rfl,hn,hb⟩
theorem pg (hw:R.wf)(h:R.cn.length≤1000):R.fr+4 * R.dp+10≤1000000∧R.fr≤2000∧R.dp≤9∧R.fr≤2 * R.cn.length:=by
 cases R with
 | none=>exact ⟨by decide,by decide,by decide,by decide⟩
 | some q =>
   obtain ⟨d,T⟩:=q
   have h1:2 ^ d≤(cont d (its T)).length:=sQ d T aY aY hw
   have h2:=VT d T aY aY hw
   have h3:(cont d (its T)).length≤1000:=h
   have h4:d≤9:=by
    rcases Nat.lt_or_ge d 10 with e | e
    ·omega
    ·have:=Nat.pow_le_pow_right (show 0<2 by decide) e
     omega
   refine ⟨?_, ?_,h4, ?_⟩
   ·show jc (d+1) T+4 * d+10≤_
    omega
   ·show jc (d+1) T≤_
    omega
   ·show jc (d+1) T≤2 * (cont d (its T)).length
    omega
theorem Zb (hw:R.wf)(h:R.cn.length≤255):R.dp≤7:=by
 cases R with
 | none=>exact Nat.zero_le _
 | some q =>
   obtain ⟨d,T⟩:=q
   have h1:2 ^ d≤(cont d (its T)).length:=sQ d T aY aY hw
   have h3:(cont d (its T)).length≤255:=h
   show d≤7
   rcases Nat.lt_or_ge d 8 with e | e
   ·omega
   ·have:=Nat.pow_le_pow_right (show 0<2 by decide) e
    omega
def Ia (w':World)(P n:Nat)(V:bY)(F:Nat→Bool)(ws:bW)(M':List Nat)(may:Bool)(c:Cg)(R:Rt)(e:Ending):Prop :=
 if may=true then (c.err R.cn ≠ 0∧e = .returned (.tuple #[.pointer none,.int .i64 (c.err R.cn)])∨c.err R.cn=0∧∃ t' R',e = .returned (.tuple #[.pointer (some ⟨t',0,none⟩),.int .i64 0])∧TM w' P n V F ws M' t' R'∧R'.cn=c.app R.cn∧R'.fr≤R.fr+4 * R.dp+3) else e = .returned (.tuple #[.pointer none,.int .i64 2])
theorem We {may:Bool}{c:Cg}{e:Ending}(h:TQ w0 w P D gl n V F ws L M)(hp:DI (LT n V F ws) (fun k=>k ∈ M) P may c R w e w') :
 ∃ M',TQ w0 w' P D gl n V F ws L M'∧((∀ k ∈ M,k ∈ M')∧∀ k ∈ M',k ∈ M∨w.heap.size≤k)∧Below w.heap.size w w'∧Ia w' P n V F ws M' may c R e:=by
 unfold DI at hp
 have hb:Below w.heap.size w w':=by
  split at hp
  ·exact hp.2
  ·exact hp.2
 refine ⟨nH w w'++M,h.grow hb,⟨fun k hk=>List.mem_append_right _ hk,zZ⟩,hb, ?_⟩
 unfold Ia
 split
 ·rename_i hm
  rw [if_pos hm] at hp
  rcases hp.1 with ⟨h1,h2⟩ | ⟨h1,t',R',h2,h3,h4,h5,h6⟩
  ·exact .inl ⟨h1,h2⟩
  ·have hl:=lt_of_block h4.blk
   refine .inr ⟨h1,t',R',h2,⟨⟨h4.blk, ?_,h4.wf,fun k hk=>(h.q.grow hb).gI k hk⟩,List.mem_append_left _ (dN.2 ⟨hl,h3⟩)⟩,h5,h6⟩
   refine DF h4.at_ (fun _ _ _=>rfl) (fun k hk hl=>?_)
   rcases hk.1 with e | e
   ·exact List.mem_append_right _ e
   ·exact List.mem_append_left _ (dN.2 ⟨hl,e⟩)
 ·rename_i hm
  rw [if_neg hm] at hp
  exact hp.1
theorem MG (k v:ByteArray)(h:TQ w0 w P D gl n V F ws L M)(ht:TM w P n V F ws M t R)(hf:R.cn.length≤1000)(hk:k.size≤1000000)(hv:v.size≤1000000) :
 Calls Tryz.prog 27 #[.pointer (some ⟨t,0,none⟩),.string k,.string v] w fun e w'=>∃ M',TQ w0 w' P D gl n V F ws L M'∧((∀ k ∈ M,k ∈ M')∧∀ k ∈ M',k ∈ M∨w.heap.size≤k)∧Below w.heap.size w w'∧Ia w' P n V F ws M' (jk k && decide (v.size≤96)) (.put k v) R e :=
 (acs _ _ t P R k v w ht.at_ h.rd hk hv (pg ht.at_.wf hf).1).mono fun e w' hp=>We h hp
theorem adA (k:ByteArray)(h:TQ w0 w P D gl n V F ws L M)(ht:TM w P n V F ws M t R)(hf:R.cn.length≤1000)(hk:k.size≤1000000) :
 Calls Tryz.prog 28 #[.pointer (some ⟨t,0,none⟩),.string k] w fun e w'=>∃ M',TQ w0 w' P D gl n V F ws L M'∧((∀ k ∈ M,k ∈ M')∧∀ k ∈ M',k ∈ M∨w.heap.size≤k)∧Below w.heap.size w w'∧Ia w' P n V F ws M' (jk k) (.del k) R e :=
 (acu _ _ t P R k w ht.at_ h.rd hk (pg ht.at_.wf hf).1).mono fun e w' hp=>We h hp
theorem MH (k:ByteArray)(h:TQ w0 w P D gl n V F ws L M)(ht:TM w P n V F ws M t R)(hf:R.cn.length≤1000)(hk:k.size≤1000000) :
 Calls Tryz.prog 26 #[.pointer (some ⟨t,0,none⟩),.string k] w fun e w'=>GetPost (jk k) (jl k R.cn) w e w' :=
 acw _ _ t P R k w ht.at_ h.rd (by omega) hk
theorem lM (f s:ByteArray)(h:TQ w0 w P D gl n V F ws L M)(ht:TM w P n V F ws M t R)(hf:R.cn.length≤1000) :
 Calls Tryz.prog 12 #[.pointer (some ⟨t,0,none⟩),.string f,.string s] w fun e w'=>ku w (fF (f,s) R.cn) e w' :=
 Yo _ _ t P R f s w ht.at_ h.rd (by omega)
theorem iZ (ht:TM w P n V F ws M t R) :
 Calls Tryz.prog 24 #[.pointer (some ⟨t,0,none⟩)] w fun e w'=>e = .returned (.int .i64 (R.fr:Nat))∧w'=w:=PH _ _ t P R w ht.at_
structure QY (w0 w w':World)(P D gl n:Nat)(V:bY)(F:Nat→Bool)(ws:bW)(L:List eU)(M:List Nat)(F':Nat→Bool)(ws':bW)(M':List Nat):Prop where
 tq:TQ w0 w' P D gl n V F' ws' L M'
 sub:∀ k ∈ M,k ∈ M'
 new:∀ k ∈ M',k ∈ M∨w.heap.size≤k
 st:qB M w w'
 sz:w.heap.size≤w'.heap.size
 more:More keyE n V F ws F' ws'
theorem Aa (h:TQ w0 w P D gl n V F ws L M)(ht:TM w P n V F ws M t R) :
 Calls Tryz.prog 15 #[.pointer (some ⟨t,0,none⟩)] w fun e w'=>∃ F' ws' M' q er tp,QY w0 w w' P D gl n V F ws L M F' ws' M'∧e = .returned (.tuple #[.pointer tp,.agg (ag q).toArray,.int .i64 er]) ∧
  (er=0∧(∃ t' R',tp=some ⟨t',0,none⟩∧TM w' P n V F' ws' M' t' R'∧Y7 (LT n V F' ws') R q R'∧cnt F' n+R.fr=cnt F n)∨er=6∧tp=none∧q=ai∧cnt F n<R.fr):=by
 refine (adx w0 P D gl n keyE Qw 1 V L M F ws t R w ⟨vP,vO,by decide,by decide⟩ h.q ht.at_ ht.mem h.few).mono ?_
 rintro e w' ⟨F',ws',M',h1,h2,h3,h4,h5,h6⟩
 have hs:QY w0 w w' P D gl n V F ws L M F' ws' M':=⟨⟨h1,by have:=h5.len; have:=h.few; omega⟩,h2.1,h2.2,h3,h4,h5⟩
 rcases h6 with ⟨t',q,R',rfl,h7,h8,h9,h10⟩ | ⟨rfl,h7⟩
 ·exact ⟨F',ws',M',q,0,_,hs,rfl,.inl ⟨rfl,t',R',rfl,⟨h8,h7⟩,h9,h10⟩⟩
 ·exact ⟨F',ws',M',ai,6,none,hs,rfl,.inr ⟨rfl,rfl,rfl,h7⟩⟩
theorem agc {R':Rt}{q:ay}(h:TQ w0 w P D gl n V F ws L M)(hs:Y7 (LT n V F ws) R q R')(hw:R.wf) :
 Calls Tryz.prog 20 #[.pointer (some ⟨P,0,none⟩),.agg (ag q).toArray] w fun e w'=>∃ M' t' R2,TQ w0 w' P D gl n V F ws L M'∧((∀ k ∈ M,k ∈ M')∧∀ k ∈ M',k ∈ M∨w.heap.size≤k)∧Below w.heap.size w w'∧e = .returned (.tuple #[.pointer (some ⟨t',0,none⟩),.int .i64 0])∧TM w' P n V F ws M' t' R2∧R2.cn=R.cn∧R2.fr=0:=by
 refine (Jq P q w).mono ?_
 rintro e w' ⟨t',root,rfl,h1,h2,h3,hb⟩
 have hl:=lt_of_block h2
 refine ⟨nH w w'++M,t', ?_⟩
 have hT:=h.grow hb
 have hmem:=List.mem_append_left M (dN.2 ⟨hl,h1⟩)
 cases hs with
 | none _ hq =>
   rcases h3 with ⟨_,rfl⟩ | ⟨h3,_⟩
   ·exact ⟨none,hT,⟨fun k hk=>List.mem_append_right _ hk,zZ⟩,hb,rfl,⟨⟨h2,trivial,trivial,fun k hk=>hT.q.gI k hk⟩,hmem⟩,rfl,rfl⟩
   ·exact absurd hq h3
 | some d a T q X hl2 hs2 =>
   rcases h3 with ⟨h3,_⟩ | ⟨h3,b,rfl,h4,h5⟩
   ·exact absurd h3 hl2.ne
   ·refine ⟨some ⟨d,sK b q X⟩,hT,⟨fun k hk=>List.mem_append_right _ hk,zZ⟩,hb,rfl,⟨⟨h2, ?_,acp hs2 hw,fun k hk=>hT.q.gI k hk⟩,hmem⟩,LC hs2,rfl⟩
    rw [oh]
    exact ⟨List.mem_append_left M (dN.2 ⟨lt_of_block h5,h4⟩),h5,hl2⟩
theorem Ac (h:TQ w0 w P D gl n V F ws L M) :
 Calls Tryz.prog 25 #[.pointer (some ⟨P,0,none⟩)] w fun e w'=>e = .returned (.int .i64 (cnt F n:Nat))∧w'=w:=af6 h.q
theorem TM.bU {M':List Nat}(ht:TM w P n V F ws M t R)(h:TQ w0 w P D gl n V F ws L M)(h':TQ w0 w' P D gl n V F ws L M')(hs:∀ k ∈ M,k ∈ M')(hb:Below w.heap.size w w'):TM w' P n V F ws M' t R :=
 ht.mono (aX h.q.gI hb) hs h'.q.gI (fun _ _ e=>e)
theorem TM.stepS {F':Nat→Bool}{ws':bW}{M':List Nat}(ht:TM w P n V F ws M t R)(h:QY w0 w w' P D gl n V F ws L M F' ws' M'):TM w' P n V F' ws' M' t R :=
 ht.mono h.st h.sub h.tq.q.gI h.more.lq
end
theorem DN (w0 w:World)(n:Nat)(hK:KT w0)(hT:TZ w0)(hb:Below w0.heap.size w0 w)(h0:16≤n)(h1:n≤4096) :
 Calls Tryz.prog 10 #[.int .i64 (n:Int)] w fun e w'=>∃ t P D gl M,e = .returned (.tuple #[.pointer (some ⟨t,0,none⟩),.pointer (some ⟨P,0,none⟩),.pointer (some ⟨D,0,none⟩),.bool true])∧TQ w0 w' P D gl n (az (n * 512)) (dE n) [] [] M∧TM w' P n (az (n * 512)) (dE n) [] M t none∧Below w.heap.size w w':=by
 refine (aiV w0 w n hK hT hb h0 h1).mono ?_
 rintro e w' ⟨t,P,D,gl,rfl,hq,ht,ht0,hb'⟩
 refine ⟨t,P,D,gl, [t],rfl,⟨hq, ?_⟩,⟨⟨ht,trivial,trivial,fun k hk=>hq.gI k hk⟩,List.mem_singleton.2 rfl⟩,hb'⟩
 have:=cnt_le (dE n) n
 simp only [List.length_nil]
 omega
end
section
open Lib (hid)
open Go.ChangeShapes Go.WideShapes Go.ChangeAt Go.RowKit
theorem DR {n:Nat}{V:bY}{ws:bW}{q:ay}{nd:aC}(h:LT n V (dE n) ws q nd):False:=by
 obtain ⟨h1,h2⟩:=h
 unfold zX at h1
 split at h1
 ·injection h1 with _ h1; cases h1
 ·rename_i hn
  obtain ⟨a,h3,h4,h5,_⟩:=UM (q:=q) (n:=n) (fun e=>hn (.inl e)) (Decidable.byContradiction fun e=>hn (.inr e))
  rw [h3,Int.toNat_natCast] at h2
  unfold dE at h2
  simp at h2
  omega
theorem aiY {w:World}{P n:Nat}{V:bY}{ws:bW}{M:List Nat}{t:Nat}{R:Rt}(h:TM w P n V (dE n) ws M t R)(hR:R.cn ≠ []):1≤R.fr:=by
 cases R with
 | none=>exact absurd rfl hR
 | some q =>
   obtain ⟨d,T⟩:=q
   have h1:=h.at_.at_
   rw [oh] at h1
   have h2:=h1.2
   show 1≤jc (d+1) T
   cases e:kT T with
   | inl q =>
     rw [e] at h2
     exact (DR h2.2.reads).elim
   | inr l =>
     rw [tJ e]
     omega
theorem adB (k:ByteArray)(w:World):Calls Tryz.prog 26 #[.pointer none,.string k] w fun e w'=>e = .returned (.tuple #[.string aY,.int .i64 1])∧w'=w:=by
 go_enter Tryz.func26,Tryz.ntmps26
 go_wp2_with fail
 go_ret2
 exact ⟨rfl,rfl⟩
def kA:ByteArray:=⟨#[97]⟩
def kB:ByteArray:=⟨#[98]⟩
def k1:ByteArray:=⟨#[49]⟩
def k2:ByteArray:=⟨#[50]⟩
theorem aiZ:(Cg.put kA k1).app []=[(kA,k1)]:=rfl
theorem ai0:(Cg.put kB k2).app [(kA,k1)]=[(kA,k1),(kB,k2)]:=by
 show (if lo kA kB=true then (kA,k1)::jT kB k2 [] else _)=_
 rw [if_pos (by decide +kernel)]
 rfl
theorem vT (w:World)(hK:KT w)(hT:TZ w):Calls Tryz.prog 8 #[] w fun e w'=>e = .returned (.bool true)∧Below w.heap.size w w':=by
 have hp0:=dK
 have QU:=hid (DN w w 64 hK hT (Below.refl _ _) (by decide) (by decide))
 have SZ:=hid kE
 obtain ⟨ZL,Gp⟩:∃ z,(ag ai).toArray=z:=⟨_,rfl⟩
 rw [Gp] at hp0 SZ
 clear hK hT Gp
 go_enter Tryz.func8,Tryz.ntmps8
 go_wp2_with fail
 refine QU.out.mono ?_
 rintro e w1 ⟨t,P,D,gl,M1,rfl,hq1,ht1,hb1⟩
 have Dz:=hid hq1
 have HT1:=hid ht1
 clear hq1 ht1 hb1 QU
 go_wp2_with fail
 refine (MG kA k1 Dz.out HT1.out (by simp [Rt.cn]) (by decide) (by decide)).mono ?_
 rintro e w2 ⟨M2,hq2,hs2,hb2,hc2⟩
 have xx:=hid hq2
 unfold Ia at hc2
 rw [if_pos (by decide +kernel)] at hc2
 rcases hc2 with ⟨h,_⟩ | ⟨_,ta,R1,rfl,hta,amK,apy⟩
 ·exact absurd rfl h
 have HTA:=hid hta
 have ag6:R1.cn=[(kA,k1)]:=amK.trans aiZ
 have HC1:=hid ag6
 clear hq2 hs2 hb2 hta amK ag6 apy Dz HT1
 go_wp2_with fail
 refine (MG kB k2 xx.out HTA.out (by rw [HC1.out]; simp) (by decide) (by decide)).mono ?_
 rintro e w3 ⟨M3,hq3,hs3,hb3,hc3⟩
 have kV:=hid hq3
 have amL:=hid (HTA.out.bU xx.out hq3 hs3.1 hb3)
 unfold Ia at hc3
 rw [if_pos (by decide +kernel)] at hc3
 rcases hc3 with ⟨h,_⟩ | ⟨_,tb,R2,rfl,htb,amM,hfr2⟩
 ·exact absurd rfl h
 have HTB:=hid htb
 have ag7:R2.cn=[(kA,k1),(kB,k2)]:=by rw [amM,HC1.out]; exact ai0
 have HC2:=hid ag7
 have apz:=htb
 clear hq3 hs3 hb3 htb amM ag7 hfr2 HTA xx
 go_wp2_with fail
 refine (lM aY aY kV.out amL.out (by rw [HC1.out]; simp)).mono ?_
 rintro e w4 ⟨v4,rfl,hv4,hb4⟩
 rw [HC1.out,ny] at hv4
 have mQ:=hid (kV.out.below hb4)
 have ai1:=hid (HTB.out.bU kV.out mQ.out (fun k hk=>hk) hb4)
 obtain ⟨a4,c4,rfl,hc4⟩:=hv4.shape
 simp only [List.length_cons,List.length_nil] at hc4 ⊢
 clear hv4 hb4 kV HTB amL hc4
 go_wp2_with fail
 refine (lM aY aY mQ.out ai1.out (by rw [HC2.out]; simp)).mono ?_
 rintro e w5 ⟨v5,rfl,hv5,hb5⟩
 rw [HC2.out,ny] at hv5
 have qJ:=hid (mQ.out.grow hb5)
 have adC:=hid (ai1.out.bU mQ.out qJ.out (fun k hk=>List.mem_append_right _ hk) hb5)
 obtain ⟨a5,c5,rfl,amN⟩:=hv5.ks
 have h5:=amN.at_ 1 (kB,k2) rfl
 obtain ⟨g5,o5,rfl,hk5,amO⟩:=h5
 have HV5:=hid amO
 have hg5:g5 ∈ nH w4 w5++M3:=by
  have hl:=hv5.lt g5 (by rfl)
  exact List.mem_append_left _ (dN.2 ⟨hl.2,hl.1⟩)
 have Zp:=hid hg5
 simp only [List.length_cons,List.length_nil]
 clear hv5 hb5 amN hk5 amO hg5 mQ ai1
 go_wp2_with fail
 refine (Aa qJ.out adC.out).mono ?_
 rintro e w6 ⟨F6,ws6,M6,q,er,tp,hs6,rfl,iH⟩
 have nS:=hid hs6
 have amP:=hid (adC.out.stepS hs6)
 obtain ⟨rfl,tc,R3,rfl,htc,hsv,hcnt⟩:er=0∧∃ t' R',tp=some ⟨t',0,none⟩∧TM w6 P 64 (az (64 * 512)) F6 ws6 M6 t' R'∧Y7 (LT 64 (az (64 * 512)) F6 ws6) R2 q R'∧cnt F6 64+R2.fr=cnt (dE 64) 64:=by
  rcases iH with h | ⟨_,_,_,hcnt⟩
  ·exact h
  ·exfalso
   have h1:=(pg adC.out.at_.wf (by rw [HC2.out]; simp)).2.2.2
   rw [HC2.out] at h1
   rw [Qy 64 (by decide)] at hcnt
   simp only [List.length_cons,List.length_nil] at h1
   omega
 have HTC:=hid htc
 have LY:=hid (show (q.ad == 0)=false from by rw [hsv.nul adC.out.at_.wf,HC2.out]; rfl)
 have HF3:=hid hsv.fr
 have GM:=hid (show w6.cell? ⟨g5,o5+1 * 2+1,none⟩=some (.string ⟨#[50]⟩) from ae HV5.out (hs6.st g5 Zp.out))
 clear hs6 htc hsv hcnt adC qJ HV5
 go_upto_region 9 with (with_reducible refine wpList_store_row (o:=⟨none,.store _ (.tmp 14) _,_,_,_,_⟩) rfl 51 _ _ rfl w6.heap.size (ag q).toArray rfl rfl 51 ZL (heap_alloc_new w6 _) (bG q) (SZ.out q) (bf q) ?_)
 generalize hWs:World.setRow _ w6.heap.size _=w7
 have hst:=ou w6 ZL (ag q).toArray 51 w7 hWs.symm
 have uD:=hid (nS.out.tq.below hst.2)
 have MN:=hid hst.2
 have HR7:=hid hst.1
 have apA:=hid (amP.out.bU nS.out.tq uD.out (fun k hk=>hk) hst.2)
 have apB:=hid (HTC.out.bU nS.out.tq uD.out (fun k hk=>hk) hst.2)
 have p5:=ae GM.out (hst.2.block _ (block_lt_of_cell GM.out))
 clear hWs hst amP HTC GM hp0
 generalize w6.heap.size=B14 at *
 go_wp2_with fail
 refine (adB kA w7).mono ?_
 rintro e w8 ⟨rfl,hw8⟩
 subst w8
 have hix:=kN g5 o5 2 c5 1 (by decide)
 have WQ:=hid (eu q w7)
 rw [LY.out] at WQ
 go_wp2_with (with_reducible refine jS (o:=⟨some 94,_,_,_,_,_⟩) (by kernel_rfl) 51 _ rfl B14 rfl 51 (ag q).toArray (0,0) _ HR7.out Tryz.underlying51 rfl (bG q) ?_)
 refine WQ.out.mono ?_
 rintro e w8 ⟨rfl,hb8⟩
 have HQ8:=hid (uD.out.below hb8)
 have apC:=hid (apA.out.bU uD.out HQ8.out (fun k hk=>hk) hb8)
 have apD:=hid (apB.out.bU uD.out HQ8.out (fun k hk=>hk) hb8)
 have HFB:=hid (iZ apC.out)
 have HFC:=hid (iZ apD.out)
 rw [HF3.out] at HFC
 have hfb:=aiY apz (by rw [HC2.out]; simp)
 have HPB:=hid hfb
 clear hb8 p5 hix hfb
 go_wp2_with fail
 refine HFC.out.mono ?_
 rintro e w9 ⟨rfl,QX⟩
 subst w9
 have fI:(0:Int)<((R2.fr:Nat):Int):=by have:=HPB.out; omega
 go_wp2_with fail
 refine HFB.out.mono ?_
 rintro e w9 ⟨rfl,QX⟩
 subst w9
 go_wp2_with fail
 go_ret
 exact ⟨rfl,HQ8.out.q.bel⟩
structure LM (w:World)(M:List Nat)(K:List bV)(a:bO)(c:Nat):Prop where
 kv:PI w a K
 nil:a=none→K=[]∧c=0
 sum:∀ p,a=some p→∃ g o,p=⟨g,o,none⟩∧g ∈ M
 cap:K.length≤c
theorem LM.mid {w:World}{M:List Nat}{K:List bV}{a:bO}{c:Nat}(h:LM w M K a c):∀ p,a=some p→∃ g o,p=⟨g,o,none⟩:=fun p e=>by
 obtain ⟨g,o,h1,_⟩:=h.sum p e
 exact ⟨g,o,h1⟩
theorem LM.mono {w w':World}{M M':List Nat}{K:List bV}{a:bO}{c:Nat}(h:LM w M K a c)(hs:qB M w w')(hm:∀ k ∈ M,k ∈ M'):LM w' M' K a c:=by
 refine ⟨⟨fun i x hx=>?_⟩,h.nil,fun p e=>?_,h.cap⟩
 ·obtain ⟨g,o,e,q1,q2⟩:=h.kv.at_ i x hx
  obtain ⟨g',o',e2,hg⟩:=h.sum _ e
  injection e2 with e2
  subst e2
  exact ⟨g,o,e,ae q1 (hs g hg),ae q2 (hs g hg)⟩
 ·obtain ⟨g,o,e2,hg⟩:=h.sum p e
  exact ⟨g,o,e2,hm g hg⟩
theorem ag8 {w w':World}{v:Value}{K:List bV}{M:List Nat}(h:rO w' w.heap.size v K):∃ a c,v = .slice a K.length c∧LM w' (nH w w'++M) K a c:=by
 have hs:=h.ks
 obtain ⟨a,c,rfl,hk⟩:=hs
 obtain ⟨a',c',e,hc⟩:=h.shape
 injection e with e1 _ e2
 subst e1 e2
 refine ⟨a,c,rfl,hk,fun e=>?_,fun p e=>?_,hc⟩
 ·subst e
  rcases h.2 with ⟨e,h0⟩ | ⟨g,cap,cur,e,_⟩
  ·injection e with _ e1 e2
   exact ⟨List.length_eq_zero_iff.1 e1,e2⟩
  ·cases e
 ·subst e
  rcases h.2 with ⟨e,h0⟩ | ⟨g,cap,cur,e,hb,hg,_⟩
  ·cases e
  ·injection e with e
   injection e with e
   subst e
   exact ⟨g,0,rfl,List.mem_append_left _ (dN.2 ⟨lt_of_block hg,hb⟩)⟩
structure PM (w:World)(P n:Nat)(V:bY)(F:Nat→Bool)(ws:bW)(M:List Nat)(t:Nat)(R:Rt)(a:bO)(c:Nat):Prop where
 tm:TM w P n V F ws M t R
 lm:LM w M R.cn a c
theorem PM.mono {w w':World}{P n:Nat}{V:bY}{F F':Nat→Bool}{ws ws':bW}{M M':List Nat}{t:Nat}{R:Rt}{a:bO}{c:Nat}(h:PM w P n V F ws M t R a c)(hs:qB M w w')(hm:∀ k ∈ M,k ∈ M')(hl:∀ k ∈ M',k<w'.heap.size)(hq:∀ q nd,LT n V F ws q nd→LT n V F' ws' q nd):PM w' P n V F' ws' M' t R a c :=
 ⟨h.tm.mono hs hm hl hq,h.lm.mono hs hm⟩
theorem PM.bU {w0 w w':World}{P D gl n:Nat}{V:bY}{F:Nat→Bool}{ws:bW}{L:List eU}{M M':List Nat}{t:Nat}{R:Rt}{a:bO}{c:Nat}(ht:PM w P n V F ws M t R a c)(h:TQ w0 w P D gl n V F ws L M)(h':TQ w0 w' P D gl n V F ws L M')(hs:∀ k ∈ M,k ∈ M')(hb:Below w.heap.size w w'):PM w' P n V F ws M' t R a c :=
 ht.mono (aX h.q.gI hb) hs h'.q.gI (fun _ _ e=>e)
theorem PM.stepS {w0 w w':World}{P D gl n:Nat}{V:bY}{F F':Nat→Bool}{ws ws':bW}{L:List eU}{M M':List Nat}{t:Nat}{R:Rt}{a:bO}{c:Nat}(ht:PM w P n V F ws M t R a c)(h:QY w0 w w' P D gl n V F ws L M F' ws' M'):PM w' P n V F' ws' M' t R a c :=
 ht.mono h.st h.sub h.tq.q.gI h.more.lq
def uq (w0:World)(P D gl n:Nat)(V:bY)(F:Nat→Bool)(ws:bW)(L:List eU)(M:List Nat)(kd:Int)(R:Rt)(w:World)(e:Ending)(w':World):Prop :=
 ∃ F' ws' M' t' R' a' c',QY w0 w w' P D gl n V F ws L M F' ws' M'∧PM w' P n V F' ws' M' t' R' a' c'∧e = .returned (.tuple #[.agg #[.pointer (some ⟨t',0,none⟩),.slice a' R'.cn.length c'],.bool true])∧R'.cn.length≤R.cn.length+1∧(kd ≠ 4→kd ≠ 5→F'=F∧ws'=ws)
def gu (t:Nat)(a:bO)(m c:Nat):Array Value:=#[.pointer (some ⟨t,0,none⟩),.slice a m c]
def uu:Array Value:=#[.pointer none,.slice none 0 0]
def Gs (B:Nat)(t:Nat)(a:bO)(m c:Nat)(x:kC):List eU:=[(B+1+1,uu,34),(B+1,(qm x).toArray,37),(B,gu t a m c,34)]
theorem pq {w0 w:World}{P D gl n:Nat}{V:bY}{F:Nat→Bool}{ws:bW}{L:List eU}{M:List Nat}(h:TQ w0 w P D gl n V F ws L M)(t:Nat)(a:bO)(m c:Nat)(x:kC) :
 ∀ w3,w3=((w.alloc (.cells (gu t a m c) 34)).alloc (.cells (qm x).toArray 37)).alloc (.cells uu 34)→TQ w0 w3 P D gl n V F ws (Gs w.heap.size t a m c x++L) M∧Below w.heap.size w w3∧w.heap.size+3≤w3.heap.size:=by
 intro w3 e
 have h1:=h.q.add (aJ w (.cells (gu t a m c) 34)) w.heap.size _ _ (Nat.le_refl _) (ah w _)
 have e1:(w.alloc (.cells (gu t a m c) 34)).heap.size=w.heap.size+1:=by simp
 have e2:((w.alloc (.cells (gu t a m c) 34)).alloc (.cells (qm x).toArray 37)).heap.size=w.heap.size+1+1:=by simp
 have h2:=h1.add (aJ _ (.cells (qm x).toArray 37)) (w.heap.size+1) _ _ (by omega) (by rw [← e1]; exact ah _ _)
 have h3:=h2.add (aJ _ (.cells uu 34)) (w.heap.size+1+1) _ _ (by omega) (by rw [← e2]; exact ah _ _)
 subst e
 exact ⟨⟨h3,h.few⟩,aK (aK (aJ w _) (aJ _ _)) (aJ _ _),by simp⟩
theorem pF {w0 w w3 w5 w6:World}{P D gl n:Nat}{V:bY}{F F':Nat→Bool}{ws ws':bW}{L:List eU}{M M':List Nat}{t t':Nat}{a a':bO}{m c c':Nat}{x:kC}{R R':Rt}(h:TQ w0 w P D gl n V F ws L M)(hb:Below w.heap.size w w3)(h3s:w.heap.size+3≤w3.heap.size)
 (hs:QY w0 w3 w5 P D gl n V F ws (Gs w.heap.size t a m c x++L) M F' ws' M') (hp:PM w5 P n V F' ws' M' t' R' a' c') (hw6:w6=(w5.setCell ⟨w.heap.size+1+1,0,none⟩ (.pointer (some ⟨t',0,none⟩))).setCell ⟨w.heap.size+1+1,1,none⟩ (.slice a' R'.cn.length c')) (hn:R'.cn.length≤R.cn.length+1) (hf:x.kd ≠ 4→x.kd ≠ 5→F'=F∧ws'=ws) (fl:Value) (hfl:fl = .bool true) :
 w6.heap[w.heap.size+1+1]? = some (.cells #[.pointer (some ⟨t',0,none⟩),.slice a' R'.cn.length c'] 34 (0,0))∧uq w0 P D gl n V F ws L M x.kd R w (.returned (.tuple #[.agg #[.pointer (some ⟨t',0,none⟩),.slice a' R'.cn.length c'],fl])) w6:=by
 have hr:w5.heap[w.heap.size+1+1]? = some (.cells [Value.pointer none,.slice none 0 0].toArray 34 (0,0)):=hs.tq.q.row 0 _ rfl
 have ht:Touch [w.heap.size+1+1] w5 w6:=by
  subst hw6
  exact (aT w5 (w.heap.size+1+1) 0 _).trans (aT _ (w.heap.size+1+1) 1 _)
 have iH:w6.heap[w.heap.size+1+1]? = some (.cells #[.pointer (some ⟨t',0,none⟩),.slice a' R'.cn.length c'] 34 (0,0)):=by
  subst hw6
  exact dZ (dZ hr 0 _) 1 _
 refine ⟨iH,F',ws',M',t',R',a',c', ?_, ?_,by rw [hfl],hn,hf⟩
 ·have hM:∀ k ∈ M',k ∈ M∨w.heap.size+3≤k:=fun k hk=>(hs.new k hk).imp id (fun e=>by omega)
  have hq6:=hs.tq.q.upd ht iH (fun r hr=>?_)
  ·have hq7:=hq6.less (L':=L) (M':=M') (fun r hr=>by simp [hr]) (fun k hk=>hk)
   refine ⟨⟨hq7,hs.tq.few⟩,hs.sub,fun k hk=>(hM k hk).imp id (fun e=>by omega),fun k hk=>?_,Nat.le_trans hb.size (Nat.le_trans hs.sz ht.size),hs.more⟩
   have hk0:=h.q.gI k hk
   refine (ht.block k (Nat.lt_of_lt_of_le hk0 (Nat.le_trans hb.size hs.sz)) (by simp only [List.mem_singleton]; omega)).trans ((hs.st k hk).trans (hb.block k hk0))
  ·have hr':r ∈ [(w.heap.size+1,(qm x).toArray,37),(w.heap.size,gu t a m c,34)]++L:=hr
   rcases List.mem_append.1 hr' with hr | hr
   ·rcases List.mem_cons.1 hr with rfl | hr
    ·show w.heap.size+1 ≠ w.heap.size+1+1; omega
    ·rw [List.mem_singleton.1 hr]
     show w.heap.size ≠ w.heap.size+1+1; omega
   ·have:=lt_of_block (h.q.rows r hr).1
    omega
 ·refine hp.mono (fun k hk=>ht.block k (hs.tq.q.gI k hk) ?_) (fun k hk=>hk) (fun k hk=>Nat.lt_of_lt_of_le (hs.tq.q.gI k hk) ht.size) (fun _ _ e=>e)
  simp only [List.mem_singleton]
  rcases hs.new k hk with e | e
  ·have:=h.q.gI k e; omega
  ·omega
def errOf (may:Bool)(c:Cg)(K:List bV):Int:=if may=true then c.err K else 2
theorem QG {w':World}{P n:Nat}{V:bY}{F:Nat→Bool}{ws:bW}{M':List Nat}{may:Bool}{c:Cg}{R:Rt}{e:Ending}(h:Ia w' P n V F ws M' may c R e) :
 (errOf may c R.cn ≠ 0→e = .returned (.tuple #[.pointer none,.int .i64 (errOf may c R.cn)]))∧(errOf may c R.cn=0→∃ t' R',e = .returned (.tuple #[.pointer (some ⟨t',0,none⟩),.int .i64 0])∧TM w' P n V F ws M' t' R'∧R'.cn=c.app R.cn∧R'.fr≤R.fr+4 * R.dp+3):=by
 unfold Ia at h
 unfold errOf
 cases may with
 | false=>exact ⟨fun _=>h,fun e=>by cases e⟩
 | true =>
   rw [if_pos rfl] at h ⊢
   rcases h with ⟨h1,h2⟩ | ⟨h1,h2⟩
   ·exact ⟨fun _=>h2,fun e=>absurd e h1⟩
   ·exact ⟨fun e=>absurd h1 e,fun _=>h2⟩
theorem Ad {w w':World}{may:Bool}{c:Cg}{K:List bV}{e:Ending}(h:aiS may c K w e w') :
 (errOf may c K ≠ 0→e = .returned (.tuple #[.agg #[.slice none 0 0],.int .i64 (errOf may c K)]))∧(errOf may c K=0→∃ v',e = .returned (.tuple #[.agg #[v'],.int .i64 0])∧rO w' w.heap.size v' (c.app K)):=by
 have h:=h.1
 unfold errOf
 cases may with
 | false=>exact ⟨fun _=>h,fun e=>by cases e⟩
 | true =>
   rw [if_pos rfl] at h ⊢
   rcases h with ⟨h1,h2⟩ | ⟨h1,h2⟩
   ·exact ⟨fun _=>h2,fun e=>absurd e h1⟩
   ·exact ⟨fun e=>absurd h1 e,fun _=>h2⟩
theorem Gt (k v:ByteArray):∀ K:List bV,(jT k v K).length≤K.length+1
 | []=>Nat.le_refl _
 | x::r=>by
   have:=Gt k v r
   unfold jT
   split
   ·simp only [List.length_cons]; omega
   ·split
    ·simp
    ·simp
theorem QH (k:ByteArray):∀ K:List bV,(delS k K).length≤K.length
 | []=>Nat.le_refl _
 | x::r=>by
   have:=QH k r
   unfold delS
   split
   ·simp only [List.length_cons]; omega
   ·split
    ·simp
    ·simp
theorem Wh (c:Cg)(K:List bV):(c.app K).length≤K.length+1:=by
 cases c with
 | put k v=>exact Gt k v K
 | del k=>exact Nat.le_succ_of_le (QH k K)
theorem adD {w0 w:World}{P D gl n:Nat}{V:bY}{F:Nat→Bool}{ws:bW}{L:List eU}{M:List Nat}(h:TQ w0 w P D gl n V F ws L M):QY w0 w w P D gl n V F ws L M F ws M:=⟨h,fun _ e=>e,fun _ e => .inl e,fun _ _=>rfl,Nat.le_refl _,More.refl⟩
theorem QY.trans {w0 w w' w'':World}{P D gl n:Nat}{V:bY}{F F' F'':Nat→Bool}{ws ws' L6:bW}{L:List eU}{M M' M'':List Nat}(h:QY w0 w w' P D gl n V F ws L M F' ws' M')(q:QY w0 w' w'' P D gl n V F' ws' L M' F'' L6 M''):QY w0 w w'' P D gl n V F ws L M F'' L6 M'' :=
 ⟨q.tq,fun k hk=>q.sub k (h.sub k hk),fun k hk=>(q.new k hk).elim (fun e=>h.new k e) (fun e => .inr (Nat.le_trans h.sz e)),fun k hk=>(q.st k (h.sub k hk)).trans (h.st k hk),Nat.le_trans h.sz q.sz,h.more.trans q.more⟩
theorem cZ {w0 w w':World}{P D gl n:Nat}{V:bY}{F:Nat→Bool}{ws:bW}{L:List eU}{M M':List Nat}(h:TQ w0 w P D gl n V F ws L M)(h':TQ w0 w' P D gl n V F ws L M')(hs:(∀ k ∈ M,k ∈ M')∧∀ k ∈ M',k ∈ M∨w.heap.size≤k)(hb:Below w.heap.size w w'):QY w0 w w' P D gl n V F ws L M F ws M' :=
 ⟨h',hs.1,hs.2,aX h.q.gI hb,hb.size,More.refl⟩
theorem Ae {w0 w w':World}{P D gl n:Nat}{V:bY}{F:Nat→Bool}{ws:bW}{L:List eU}{M:List Nat}(h:TQ w0 w P D gl n V F ws L M)(hb:Below w.heap.size w w'):QY w0 w w' P D gl n V F ws L M F ws (nH w w'++M) :=
 cZ h (h.grow hb) ⟨fun k hk=>List.mem_append_right _ hk,zZ⟩ hb
theorem uq.below {w0 w w' w'':World}{P D gl n:Nat}{V:bY}{F:Nat→Bool}{ws:bW}{L:List eU}{M:List Nat}{kd:Int}{R:Rt}{e:Ending}(h:uq w0 P D gl n V F ws L M kd R w e w')(q:Below w'.heap.size w' w''):uq w0 P D gl n V F ws L M kd R w e w'':=by
 obtain ⟨F',ws',M',t',R',a',c',h1,h2,h3,h4,h5⟩:=h
 exact ⟨F',ws',M',t',R',a',c',h1.trans (cZ h1.tq (h1.tq.below q) ⟨fun _ e=>e,fun _ e => .inl e⟩ q),h2.bU h1.tq (h1.tq.below q) (fun _ e=>e) q,h3,h4,h5⟩
theorem gK:(Tryz.prog.info? 34).map (·.size)=some 2:=by kernel_rfl
theorem ai2 (w0 w:World)(P D gl n:Nat)(V:bY)(F:Nat→Bool)(ws:bW)(L:List eU)(M:List Nat)(t:Nat)(R:Rt)(a:bO)(c:Nat)(x:kC)(h:TQ w0 w P D gl n V F ws L M)(hp:PM w P n V F ws M t R a c)(hf:R.cn.length≤255)(hk:x.k.size≤1000000)(hv:x.v.size≤1000000)(hkd:x.kd=1) :
 Calls Tryz.prog 11 #[.pointer (some ⟨P,0,none⟩),.agg #[.pointer (some ⟨t,0,none⟩),.slice a R.cn.length c],.agg #[.int .i64 x.kd,.int .i64 x.nn,.string x.k,.string x.v]] w fun e w'=>uq w0 P D gl n V F ws L M x.kd R w e w':=by
 obtain ⟨kd,nn,k,v⟩:=x
 dsimp only at hk hv hkd ⊢
 subst kd
 have HQ:=hid h
 have HP:=hid hp
 have jM:=hid (And.intro hf (And.intro hk hv))
 have yL:=hid (pq h t a R.cn.length c ⟨1,nn,k,v⟩)
 obtain ⟨mm,hmm⟩:∃ z,R.cn.length=z:=⟨_,rfl⟩
 have Ib:=hid hmm
 rw [hmm] at yL ⊢
 clear h hp hf hk hv hmm
 go_enter Tryz.func11,Tryz.ntmps11
 go_upto_region 1 with fail
 generalize hw3:World.alloc _ (.cells #[.pointer none,.slice none 0 0] 34)=w3
 obtain ⟨hq3,hb3,hs3⟩:=yL.out w3 (by rw [← hw3]; rfl)
 have hp3:=HP.out.mono (aX HQ.out.q.gI hb3) (fun k hk=>hk) hq3.q.gI (fun _ _ e=>e)
 have kV:=hid hq3
 have xe:=hid hp3
 have HB3:=hid (And.intro hb3 hs3)
 have hr4:w3.heap[w.heap.size]? = some (.cells #[.pointer (some ⟨t,0,none⟩),.slice a mm c] 34 (0,0)):=hq3.q.row 2 _ rfl
 have lT:w3.heap[w.heap.size+1]? = some (.cells #[.int .i64 1,.int .i64 nn,.string k,.string v] 37 (0,0)):=hq3.q.row 1 _ rfl
 have p40:=cell_of_row w3 w.heap.size 0 _ _ _ hr4
 have p41:=cell_of_row w3 w.heap.size 1 _ _ _ hr4
 have p50:=cell_of_row w3 (w.heap.size+1) 0 _ _ _ lT
 have p52:=cell_of_row w3 (w.heap.size+1) 2 _ _ _ lT
 have p53:=cell_of_row w3 (w.heap.size+1) 3 _ _ _ lT
 clear hw3 hq3 hp3 hb3 hs3 hr4 lT yL
 have HD:=hid (adA k kV.out xe.out.tm (by have:=jM.out.1; omega) jM.out.2.1)
 go_wp2_with fail
 refine HD.out.mono ?_
 rintro e w4 ⟨M4,hq4,hs4,hb4,hc4⟩
 have mQ:=hid hq4
 have yF:=hid (cZ kV.out hq4 hs4 hb4)
 have Ai:=hid (xe.out.bU kV.out hq4 hs4.1 hb4)
 have Zc:=ae p40 (hb4.block _ (block_lt_of_cell p40))
 have Zd:=ae p41 (hb4.block _ (block_lt_of_cell p41))
 have q52:=ae p52 (hb4.block _ (block_lt_of_cell p52))
 have HB4:=hid hb4
 obtain ⟨hc1,hc2⟩:=QG hc4
 have ui:=hid (adv a c R.cn k w4 Ai.out.lm.kv Ai.out.lm.nil Ai.out.lm.mid Ai.out.lm.cap (by have:=jM.out; omega) (DK Ai.out.tm.at_.wf) jM.out.2.1)
 rw [Ib.out] at ui
 obtain ⟨E,hE⟩:∃ z,errOf (jk k) (.del k) R.cn=z:=⟨_,rfl⟩
 have Yi:=hid hE
 rw [hE] at hc1 hc2
 clear hq4 hs4 hb4 hc4 HD p40 p41 p52 hE
 by_cases hz:E=0
 ·obtain ⟨t',R',rfl,MK,hcn,_⟩:=hc2 hz
  subst hz
  have QC:=hid MK
  have HCN:=hid hcn
  clear hc1 hc2 MK hcn
  go_wp2_with fail
  refine ui.out.mono ?_
  rintro e w5 lT
  have fQ:=hid lT.2
  obtain ⟨v5,rfl,hv5⟩:=(Ad lT).2 Yi.out
  obtain ⟨a5,c5,rfl,hlm⟩:=ag8 (M:=M4) hv5
  obtain ⟨m5,pJ⟩:∃ z,(Cg.app (.del k) R.cn).length=z:=⟨_,rfl⟩
  have xA:=hid pJ
  have HLM:=hid hlm
  rw [pJ]
  clear lT hv5 hlm pJ ui
  have r40:=ae Zc (fQ.out.block _ (block_lt_of_cell Zc))
  have r41:=ae Zd (fQ.out.block _ (block_lt_of_cell Zd))
  have lQ:=hid (yF.out.trans (Ae mQ.out fQ.out))
  go_upto_region 5 with fail
  generalize hw6:World.alloc w5 (.cells #[.slice a5 m5 c5] 32)=w6
  have hb6:=aJ w5 (.cells #[.slice a5 m5 c5] 32)
  have x10:=cell_of_row (w5.alloc (.cells #[.slice a5 m5 c5] 32)) w5.heap.size 0 _ _ _ (ah w5 _)
  rw [hw6] at hb6 x10
  have kX:=hid hb6
  have nS:=hid (lQ.out.trans (cZ lQ.out.tq (lQ.out.tq.below hb6) ⟨fun _ e=>e,fun _ e => .inl e⟩ hb6))
  have iH:w6.heap[w.heap.size+1+1]? = some (.cells #[.pointer none,.slice none 0 0] 34 (0,0)):=nS.out.tq.q.row 0 _ rfl
  have b60:=cell_of_row w6 (w.heap.size+1+1) 0 _ _ _ iH
  have f60:=frozen_of_row w6 (w.heap.size+1+1) 0 _ _ iH
  have b61:=cell_of_row w6 (w.heap.size+1+1) 1 _ _ _ iH
  have f61:=frozen_of_row w6 (w.heap.size+1+1) 1 _ _ iH
  clear hw6 hb6 iH
  have HE:=hid (pF HQ.out HB3.out.1 HB3.out.2 nS.out (R:=R) (R':=R') (a':=a5) (c':=c5) (t':=t') ⟨(QC.out.bU mQ.out (mQ.out.grow fQ.out) (fun k hk=>List.mem_append_right _ hk) fQ.out).bU lQ.out.tq nS.out.tq (fun k hk=>hk) kX.out,by rw [HCN.out]; exact HLM.out.mono (aX lQ.out.tq.q.gI kX.out) (fun k hk=>hk)⟩ rfl (by rw [HCN.out]; exact Wh _ _) (fun _ _=>⟨rfl,rfl⟩) _ rfl)
  rw [show R'.cn.length=m5 by rw [HCN.out]; exact xA.out] at HE
  go_wp2_with fail
  refine bodyPost_ret (v := .tuple #[.agg #[.pointer (some ⟨t',0,none⟩),.slice a5 m5 c5],.bool true]) (aj Tryz.results11 _ _ (w.heap.size+1+1) 34 #[.pointer (some ⟨t',0,none⟩),.slice a5 m5 c5] (0,0) _ rfl HE.out.1 Tryz.underlying34 rfl gK _ (by simp)) rfl HE.out.2
 ·obtain rfl:=hc1 hz
  clear hc1 hc2
  have HZ:=hid hz
  have z1:(E == 0)=false:=by simpa using hz
  have z2:decide (E=0)=false:=by simpa using hz
  have z3:(E != 0)=true:=by simpa using hz
  go_wp2_with fail
  refine ui.out.mono ?_
  rintro e w5 lT
  have fQ:=hid lT.2
  have he5:=(Ad lT).1 (by rw [Yi.out]; exact HZ.out)
  rw [Yi.out] at he5
  subst he5
  clear lT ui
  have r40:=ae Zc (fQ.out.block _ (block_lt_of_cell Zc))
  have r41:=ae Zd (fQ.out.block _ (block_lt_of_cell Zd))
  have lQ:=hid (yF.out.trans (Ae mQ.out fQ.out))
  go_upto_region 5 with fail
  generalize hw6:World.alloc w5 (.cells #[.slice none 0 0] 32)=w6
  have hb6:=aJ w5 (.cells #[.slice none 0 0] 32)
  have x10:=cell_of_row (w5.alloc (.cells #[.slice none 0 0] 32)) w5.heap.size 0 _ _ _ (ah w5 _)
  rw [hw6] at hb6 x10
  have kX:=hid hb6
  have nS:=hid (lQ.out.trans (cZ lQ.out.tq (lQ.out.tq.below hb6) ⟨fun _ e=>e,fun _ e => .inl e⟩ hb6))
  have iH:w6.heap[w.heap.size+1+1]? = some (.cells #[.pointer none,.slice none 0 0] 34 (0,0)):=nS.out.tq.q.row 0 _ rfl
  have b60:=cell_of_row w6 (w.heap.size+1+1) 0 _ _ _ iH
  have f60:=frozen_of_row w6 (w.heap.size+1+1) 0 _ _ iH
  have b61:=cell_of_row w6 (w.heap.size+1+1) 1 _ _ _ iH
  have f61:=frozen_of_row w6 (w.heap.size+1+1) 1 _ _ iH
  clear hw6 hb6 iH
  have s40:=ae r40 (kX.out.block _ (block_lt_of_cell r40))
  have s41:=ae r41 (kX.out.block _ (block_lt_of_cell r41))
  have HE:=hid (pF HQ.out HB3.out.1 HB3.out.2 nS.out (R:=R) (Ai.out.bU mQ.out (mQ.out.grow fQ.out) (fun k hk=>List.mem_append_right _ hk) fQ.out |>.bU lQ.out.tq nS.out.tq (fun k hk=>hk) kX.out) rfl (Nat.le_succ _) (fun _ _=>⟨rfl,rfl⟩) _ rfl)
  rw [Ib.out] at HE
  go_wp2_with fail
  refine bodyPost_ret (v := .tuple #[.agg #[.pointer (some ⟨t,0,none⟩),.slice a mm c],.bool true]) (aj Tryz.results11 _ _ (w.heap.size+1+1) 34 #[.pointer (some ⟨t,0,none⟩),.slice a mm c] (0,0) _ rfl HE.out.1 Tryz.underlying34 rfl gK _ (by simp)) rfl HE.out.2
theorem age (w0 w:World)(P D gl n:Nat)(V:bY)(F:Nat→Bool)(ws:bW)(L:List eU)(M:List Nat)(t:Nat)(R:Rt)(a:bO)(c:Nat)(x:kC)(h:TQ w0 w P D gl n V F ws L M)(hp:PM w P n V F ws M t R a c)(hf:R.cn.length≤255)(hk:x.k.size≤1000000)(hv:x.v.size≤1000000)(hkd:¬ x.kd=1∧¬ x.kd=2∧¬ x.kd=3∧¬ x.kd=4∧¬ x.kd=5∧¬ x.kd=0) :
 Calls Tryz.prog 11 #[.pointer (some ⟨P,0,none⟩),.agg #[.pointer (some ⟨t,0,none⟩),.slice a R.cn.length c],.agg #[.int .i64 x.kd,.int .i64 x.nn,.string x.k,.string x.v]] w fun e w'=>uq w0 P D gl n V F ws L M x.kd R w e w':=by
 obtain ⟨kd,nn,k,v⟩:=x
 dsimp only at hk hv hkd ⊢
 have JW:=hid hkd
 clear hkd
 have HQ:=hid h
 have HP:=hid hp
 have jM:=hid (And.intro hf (And.intro hk hv))
 have yL:=hid (pq h t a R.cn.length c ⟨kd,nn,k,v⟩)
 obtain ⟨mm,hmm⟩:∃ z,R.cn.length=z:=⟨_,rfl⟩
 have Ib:=hid hmm
 rw [hmm] at yL ⊢
 clear h hp hf hk hv hmm
 go_enter Tryz.func11,Tryz.ntmps11
 go_upto_region 1 with fail
 generalize hw3:World.alloc _ (.cells #[.pointer none,.slice none 0 0] 34)=w3
 obtain ⟨hq3,hb3,hs3⟩:=yL.out w3 (by rw [← hw3]; rfl)
 have hp3:=HP.out.mono (aX HQ.out.q.gI hb3) (fun k hk=>hk) hq3.q.gI (fun _ _ e=>e)
 have kV:=hid hq3
 have xe:=hid hp3
 have HB3:=hid (And.intro hb3 hs3)
 have hr4:w3.heap[w.heap.size]? = some (.cells #[.pointer (some ⟨t,0,none⟩),.slice a mm c] 34 (0,0)):=hq3.q.row 2 _ rfl
 have lT:w3.heap[w.heap.size+1]? = some (.cells #[.int .i64 kd,.int .i64 nn,.string k,.string v] 37 (0,0)):=hq3.q.row 1 _ rfl
 have p40:=cell_of_row w3 w.heap.size 0 _ _ _ hr4
 have p41:=cell_of_row w3 w.heap.size 1 _ _ _ hr4
 have p50:=cell_of_row w3 (w.heap.size+1) 0 _ _ _ lT
 have p52:=cell_of_row w3 (w.heap.size+1) 2 _ _ _ lT
 have p53:=cell_of_row w3 (w.heap.size+1) 3 _ _ _ lT
 clear hw3 hq3 hp3 hb3 hs3 hr4 lT yL
 have nS:=hid (adD kV.out)
 have iH:w3.heap[w.heap.size+1+1]? = some (.cells #[.pointer none,.slice none 0 0] 34 (0,0)):=nS.out.tq.q.row 0 _ rfl
 have b60:=cell_of_row w3 (w.heap.size+1+1) 0 _ _ _ iH
 have f60:=frozen_of_row w3 (w.heap.size+1+1) 0 _ _ iH
 have b61:=cell_of_row w3 (w.heap.size+1+1) 1 _ _ _ iH
 have f61:=frozen_of_row w3 (w.heap.size+1+1) 1 _ _ iH
 clear iH
 have HE:=hid (pF HQ.out HB3.out.1 HB3.out.2 nS.out (R:=R) (xe.out) rfl (Nat.le_succ _) (fun _ _=>⟨rfl,rfl⟩) _ rfl)
 rw [Ib.out] at HE
 obtain ⟨n0,n1,n2,n3,n4,n5⟩:=JW.out
 clear JW
 go_wp2_with fail
 refine bodyPost_ret (v := .tuple #[.agg #[.pointer (some ⟨t,0,none⟩),.slice a mm c],.bool true]) (aj Tryz.results11 _ _ (w.heap.size+1+1) 34 #[.pointer (some ⟨t,0,none⟩),.slice a mm c] (0,0) _ rfl HE.out.1 Tryz.underlying34 rfl gK _ (by simp)) rfl HE.out.2
theorem ai3 (w0 w:World)(P D gl n:Nat)(V:bY)(F:Nat→Bool)(ws:bW)(L:List eU)(M:List Nat)(t:Nat)(R:Rt)(a:bO)(c:Nat)(x:kC)(h:TQ w0 w P D gl n V F ws L M)(hp:PM w P n V F ws M t R a c)(hf:R.cn.length≤255)(hk:x.k.size≤1000000)(hv:x.v.size≤1000000)(hkd:x.kd=2) :
 Calls Tryz.prog 11 #[.pointer (some ⟨P,0,none⟩),.agg #[.pointer (some ⟨t,0,none⟩),.slice a R.cn.length c],.agg #[.int .i64 x.kd,.int .i64 x.nn,.string x.k,.string x.v]] w fun e w'=>uq w0 P D gl n V F ws L M x.kd R w e w':=by
 obtain ⟨kd,nn,k,v⟩:=x
 dsimp only at hk hv hkd ⊢
 subst kd
 have HQ:=hid h
 have HP:=hid hp
 have jM:=hid (And.intro hf (And.intro hk hv))
 have yL:=hid (pq h t a R.cn.length c ⟨2,nn,k,v⟩)
 obtain ⟨mm,hmm⟩:∃ z,R.cn.length=z:=⟨_,rfl⟩
 have Ib:=hid hmm
 rw [hmm] at yL ⊢
 clear h hp hf hk hv hmm
 go_enter Tryz.func11,Tryz.ntmps11
 go_upto_region 1 with fail
 generalize hw3:World.alloc _ (.cells #[.pointer none,.slice none 0 0] 34)=w3
 obtain ⟨hq3,hb3,hs3⟩:=yL.out w3 (by rw [← hw3]; rfl)
 have hp3:=HP.out.mono (aX HQ.out.q.gI hb3) (fun k hk=>hk) hq3.q.gI (fun _ _ e=>e)
 have kV:=hid hq3
 have xe:=hid hp3
 have HB3:=hid (And.intro hb3 hs3)
 have hr4:w3.heap[w.heap.size]? = some (.cells #[.pointer (some ⟨t,0,none⟩),.slice a mm c] 34 (0,0)):=hq3.q.row 2 _ rfl
 have lT:w3.heap[w.heap.size+1]? = some (.cells #[.int .i64 2,.int .i64 nn,.string k,.string v] 37 (0,0)):=hq3.q.row 1 _ rfl
 have p40:=cell_of_row w3 w.heap.size 0 _ _ _ hr4
 have p41:=cell_of_row w3 w.heap.size 1 _ _ _ hr4
 have p50:=cell_of_row w3 (w.heap.size+1) 0 _ _ _ lT
 have p52:=cell_of_row w3 (w.heap.size+1) 2 _ _ _ lT
 have p53:=cell_of_row w3 (w.heap.size+1) 3 _ _ _ lT
 clear hw3 hq3 hp3 hb3 hs3 hr4 lT yL
 have HD:=hid (MH k kV.out xe.out.tm (by have:=jM.out.1; omega) jM.out.2.1)
 have ui:=hid (fun W (hW:Below w3.heap.size w3 W)=>Uk a c R.cn k W (xe.out.lm.kv.below hW) (by have:=jM.out; omega) (DK xe.out.tm.at_.wf) jM.out.2.1)
 rw [Ib.out] at ui
 obtain ⟨sv,er,hG⟩:∃ sv er,(if jk k=true then (match jl k R.cn with | []=>#[Value.string aY,.int .i64 8] | x::_=>#[.string x.2,.int .i64 0]) else #[.string aY,.int .i64 2])=#[Value.string sv,.int .i64 er]:=by
  cases jk k with
  | false=>exact ⟨_,_,rfl⟩
  | true =>
    cases jl k R.cn with
    | nil=>exact ⟨_,_,rfl⟩
    | cons x r=>exact ⟨_,_,rfl⟩
 have HG:=hid hG
 clear hG
 go_wp2_with fail
 refine HD.out.mono ?_
 rintro e w4 ⟨he,hb4⟩
 obtain rfl:e = .returned (.tuple #[.string sv,.int .i64 er]):=he.trans (congrArg (fun z=>Ending.returned (.tuple z)) HG.out)
 have mQ:=hid (kV.out.below hb4)
 have Ai:=hid (xe.out.bU kV.out mQ.out (fun k hk=>hk) hb4)
 have HB4:=hid hb4
 have Zc:=ae p40 (hb4.block _ (block_lt_of_cell p40))
 have Zd:=ae p41 (hb4.block _ (block_lt_of_cell p41))
 have q52:=ae p52 (hb4.block _ (block_lt_of_cell p52))
 clear hb4 HD p40 p41 p52
 go_wp2_with fail
 refine (ui.out w4 HB4.out).mono ?_
 rintro e w5 ⟨he,hb5⟩
 obtain rfl:e = .returned (.tuple #[.string sv,.int .i64 er]):=he.trans (congrArg (fun z=>Ending.returned (.tuple z)) HG.out)
 have nS:=hid ((cZ kV.out mQ.out ⟨fun _ e=>e,fun _ e => .inl e⟩ HB4.out).trans (cZ mQ.out (mQ.out.below hb5) ⟨fun _ e=>e,fun _ e => .inl e⟩ hb5))
 have r40:=ae Zc (hb5.block _ (block_lt_of_cell Zc))
 have r41:=ae Zd (hb5.block _ (block_lt_of_cell Zd))
 have iH:w5.heap[w.heap.size+1+1]? = some (.cells #[.pointer none,.slice none 0 0] 34 (0,0)):=nS.out.tq.q.row 0 _ rfl
 have b60:=cell_of_row w5 (w.heap.size+1+1) 0 _ _ _ iH
 have f60:=frozen_of_row w5 (w.heap.size+1+1) 0 _ _ iH
 have b61:=cell_of_row w5 (w.heap.size+1+1) 1 _ _ _ iH
 have f61:=frozen_of_row w5 (w.heap.size+1+1) 1 _ _ iH
 clear iH
 have HE:=hid (pF HQ.out HB3.out.1 HB3.out.2 nS.out (R:=R) (Ai.out.bU mQ.out nS.out.tq (fun k hk=>hk) hb5) rfl (Nat.le_succ _) (fun _ _=>⟨rfl,rfl⟩) _ rfl)
 rw [Ib.out] at HE
 clear hb5 ui
 go_wp2_with fail
 refine bodyPost_ret (v := .tuple #[.agg #[.pointer (some ⟨t,0,none⟩),.slice a mm c],.bool true]) (aj Tryz.results11 _ _ (w.heap.size+1+1) 34 #[.pointer (some ⟨t,0,none⟩),.slice a mm c] (0,0) _ rfl HE.out.1 Tryz.underlying34 rfl gK _ (by simp)) rfl HE.out.2
theorem ai4 (w0 w:World)(P D gl n:Nat)(V:bY)(F:Nat→Bool)(ws:bW)(L:List eU)(M:List Nat)(t:Nat)(R:Rt)(a:bO)(c:Nat)(x:kC)(h:TQ w0 w P D gl n V F ws L M)(hp:PM w P n V F ws M t R a c)(hf:R.cn.length≤255)(hk:x.k.size≤1000000)(hv:x.v.size≤1000000)(hkd:x.kd=0) :
 Calls Tryz.prog 11 #[.pointer (some ⟨P,0,none⟩),.agg #[.pointer (some ⟨t,0,none⟩),.slice a R.cn.length c],.agg #[.int .i64 x.kd,.int .i64 x.nn,.string x.k,.string x.v]] w fun e w'=>uq w0 P D gl n V F ws L M x.kd R w e w':=by
 obtain ⟨kd,nn,k,v⟩:=x
 dsimp only at hk hv hkd ⊢
 subst kd
 have HQ:=hid h
 have HP:=hid hp
 have jM:=hid (And.intro hf (And.intro hk hv))
 have yL:=hid (pq h t a R.cn.length c ⟨0,nn,k,v⟩)
 obtain ⟨mm,hmm⟩:∃ z,R.cn.length=z:=⟨_,rfl⟩
 have Ib:=hid hmm
 rw [hmm] at yL ⊢
 clear h hp hf hk hv hmm
 go_enter Tryz.func11,Tryz.ntmps11
 go_upto_region 1 with fail
 generalize hw3:World.alloc _ (.cells #[.pointer none,.slice none 0 0] 34)=w3
 obtain ⟨hq3,hb3,hs3⟩:=yL.out w3 (by rw [← hw3]; rfl)
 have hp3:=HP.out.mono (aX HQ.out.q.gI hb3) (fun k hk=>hk) hq3.q.gI (fun _ _ e=>e)
 have kV:=hid hq3
 have xe:=hid hp3
 have HB3:=hid (And.intro hb3 hs3)
 have hr4:w3.heap[w.heap.size]? = some (.cells #[.pointer (some ⟨t,0,none⟩),.slice a mm c] 34 (0,0)):=hq3.q.row 2 _ rfl
 have lT:w3.heap[w.heap.size+1]? = some (.cells #[.int .i64 0,.int .i64 nn,.string k,.string v] 37 (0,0)):=hq3.q.row 1 _ rfl
 have p40:=cell_of_row w3 w.heap.size 0 _ _ _ hr4
 have p41:=cell_of_row w3 w.heap.size 1 _ _ _ hr4
 have p50:=cell_of_row w3 (w.heap.size+1) 0 _ _ _ lT
 have p52:=cell_of_row w3 (w.heap.size+1) 2 _ _ _ lT
 have p53:=cell_of_row w3 (w.heap.size+1) 3 _ _ _ lT
 clear hw3 hq3 hp3 hb3 hs3 hr4 lT yL
 have Wi:=hid (iZ xe.out.tm)
 go_wp2_with fail
 refine Wi.out.mono ?_
 rintro e w9 ⟨rfl,QX⟩
 subst w9
 clear Wi
 have HD:=hid (MG k v kV.out xe.out.tm (by have:=jM.out.1; omega) jM.out.2.1 jM.out.2.2)
 go_wp2_with fail
 refine HD.out.mono ?_
 rintro e w4 ⟨M4,hq4,hs4,hb4,hc4⟩
 have mQ:=hid hq4
 have yF:=hid (cZ kV.out hq4 hs4 hb4)
 have Ai:=hid (xe.out.bU kV.out hq4 hs4.1 hb4)
 have Zc:=ae p40 (hb4.block _ (block_lt_of_cell p40))
 have Zd:=ae p41 (hb4.block _ (block_lt_of_cell p41))
 have q52:=ae p52 (hb4.block _ (block_lt_of_cell p52))
 have q53:=ae p53 (hb4.block _ (block_lt_of_cell p53))
 have HB4:=hid hb4
 obtain ⟨hc1,hc2⟩:=QG hc4
 have ui:=hid (adt a c R.cn k v w4 Ai.out.lm.kv Ai.out.lm.nil Ai.out.lm.mid Ai.out.lm.cap (by have:=jM.out; omega) (DK Ai.out.tm.at_.wf) jM.out.2.1 jM.out.2.2)
 rw [Ib.out] at ui
 obtain ⟨E,hE⟩:∃ z,errOf (jk k && decide (v.size≤96)) (.put k v) R.cn=z:=⟨_,rfl⟩
 have Yi:=hid hE
 rw [hE] at hc1 hc2
 clear hq4 hs4 hb4 hc4 HD p40 p41 p52 p53 hE
 by_cases hz:E=0
 ·obtain ⟨t',R',rfl,MK,hcn,hfr⟩:=hc2 hz
  subst hz
  have QC:=hid MK
  have HCN:=hid hcn
  have Wi:=hid hfr
  clear hc1 hc2 MK hcn hfr
  go_wp2_with fail
  refine ui.out.mono ?_
  rintro e w5 lT
  have fQ:=hid lT.2
  obtain ⟨v5,rfl,hv5⟩:=(Ad lT).2 Yi.out
  obtain ⟨a5,c5,rfl,hlm⟩:=ag8 (M:=M4) hv5
  obtain ⟨m5,pJ⟩:∃ z,(Cg.app (.put k v) R.cn).length=z:=⟨_,rfl⟩
  have xA:=hid pJ
  have HLM:=hid hlm
  rw [pJ]
  clear lT hv5 hlm pJ ui
  have r40:=ae Zc (fQ.out.block _ (block_lt_of_cell Zc))
  have r41:=ae Zd (fQ.out.block _ (block_lt_of_cell Zd))
  have lQ:=hid (yF.out.trans (Ae mQ.out fQ.out))
  go_upto_region 33 with fail
  generalize hw6:World.alloc w5 (.cells #[.slice a5 m5 c5] 32)=w6
  have hb6:=aJ w5 (.cells #[.slice a5 m5 c5] 32)
  have x10:=cell_of_row (w5.alloc (.cells #[.slice a5 m5 c5] 32)) w5.heap.size 0 _ _ _ (ah w5 _)
  rw [hw6] at hb6 x10
  have kX:=hid hb6
  have nS:=hid (lQ.out.trans (cZ lQ.out.tq (lQ.out.tq.below hb6) ⟨fun _ e=>e,fun _ e => .inl e⟩ hb6))
  have iH:w6.heap[w.heap.size+1+1]? = some (.cells #[.pointer none,.slice none 0 0] 34 (0,0)):=nS.out.tq.q.row 0 _ rfl
  have b60:=cell_of_row w6 (w.heap.size+1+1) 0 _ _ _ iH
  have f60:=frozen_of_row w6 (w.heap.size+1+1) 0 _ _ iH
  have b61:=cell_of_row w6 (w.heap.size+1+1) 1 _ _ _ iH
  have f61:=frozen_of_row w6 (w.heap.size+1+1) 1 _ _ iH
  clear hw6 hb6 iH
  have adE:=hid ((QC.out.bU mQ.out (mQ.out.grow fQ.out) (fun k hk=>List.mem_append_right _ hk) fQ.out).bU lQ.out.tq nS.out.tq (fun k hk=>hk) kX.out)
  have HE:=hid (pF HQ.out HB3.out.1 HB3.out.2 nS.out (R:=R) (R':=R') (a':=a5) (c':=c5) (t':=t') ⟨adE.out,by rw [HCN.out]; exact HLM.out.mono (aX lQ.out.tq.q.gI kX.out) (fun k hk=>hk)⟩ rfl (by rw [HCN.out]; exact Wh _ _) (fun _ _=>⟨rfl,rfl⟩) _ rfl)
  rw [show R'.cn.length=m5 by rw [HCN.out]; exact xA.out] at HE
  have hfb:=(pg HP.out.tm.at_.wf (by have:=jM.out.1; omega)).2.1
  have hfd:=Zb HP.out.tm.at_.wf jM.out.1
  have hfr:=Wi.out
  have HFS:=hid (fun W=>fun (hW:TM W P n V F ws (nH w4 w5++M4) t' R')=>iZ hW)
  have fI:((R'.fr:Nat):Int)≤((R.fr:Nat):Int)+70:=by omega
  have fW:IntKind.i64.wrap (((R.fr:Nat):Int)+70)=((R.fr:Nat):Int)+70:=IntWalk.i64_in _ (by omega)
  have HFI:=hid (And.intro fI fW)
  clear hfb hfd hfr fI fW
  go_upto_region 36 with fail
  try simp only [Act.put]
  refine wp_region_noPanic ?_
  refine wp_region_held_drew (S:=fun W=>W.cell? ⟨w5.heap.size,0,none⟩=some (.slice a5 m5 c5)) (by kernel_rfl) x10 (fun hHeld=>?_)
  refine tR 0 230 (h:=?_)
  refine tK 1 231 (.agg #[.slice a5 m5 c5]) rfl (Or.inl ⟨by rfl, ?_⟩) ?_
  ·(intro w' hSw; have q0:=hSw; go_simp; try with_reducible rfl)
  try simp only [Act.put,pZ]
  refine tR 2 232 (h:=tR 3 233 (h:=tR 5 235 (h:=?_)))
  refine tK 6 236 (.int .i64 (((R.fr:Nat):Int)+70)) rfl (Or.inl ⟨by rfl, ?_⟩) ?_
  ·(intro w' hSw; have q0:=HFI.out.2; go_simp; try with_reducible rfl)
  try simp only [Act.put,pZ]
  refine rD 4 rfl fun K9 hK=>?_
  go_simp
  go_at_call 24
  refine (HFS.out w6.drew (adE.out.bU nS.out.tq (nS.out.tq.below (Below.refl _ w6).drew) (fun k hk=>hk) (Below.refl _ w6).drew)).mono ?_
  rintro e w9 ⟨rfl,QX⟩
  subst w9
  go_wp2_with fail
  refine hK.out _ _ x10 (fun hHeld=>?_)
  clear hK K9
  try simp only [Act.put,pZ]
  refine tK 7 237 (.bool true) rfl (Or.inl ⟨by rfl, ?_⟩) ?_
  ·(intro w' hSw; have q0:=HFI.out.1; go_simp; try with_reducible rfl)
  try simp only [Act.put,pZ]
  have hlt:=lt_of_block (nS.out.tq.q.row 0 _ rfl)
  have x11:=(World.cell?_of_block (((aT w6 (w.heap.size+1+1) 0 (.pointer (some ⟨t',0,none⟩))).trans (aT _ (w.heap.size+1+1) 1 (.slice a5 m5 c5))).block w5.heap.size (block_lt_of_cell x10) (by simp only [List.mem_singleton]; have:=HB3.out.2; have:=yF.out.sz; have:=fQ.out.size; omega))).trans x10
  clear hlt
  refine rD 8 rfl fun K9 hK=>?_
  go_simp
  refine hK.out _ _ x11 (fun hHeld=>?_)
  clear hK K9
  try simp only [Act.put,pZ]
  refine tR 9 7 (h:=?_)
  refine wpAnyH_done (by decide +kernel) ?_ _
  refine NoPanic.normal ?_
  clear hHeld
  go_wp2_with fail
  refine bodyPost_ret (v := .tuple #[.agg #[.pointer (some ⟨t',0,none⟩),.slice a5 m5 c5],.bool true]) (aj Tryz.results11 _ _ (w.heap.size+1+1) 34 #[.pointer (some ⟨t',0,none⟩),.slice a5 m5 c5] (0,0) _ rfl (show (World.drew ((w6.setCell ⟨w.heap.size+1+1,0,none⟩ (.pointer (some ⟨t',0,none⟩))).setCell ⟨w.heap.size+1+1,1,none⟩ (.slice a5 m5 c5))).heap[w.heap.size+1+1]? = _ from HE.out.1) Tryz.underlying34 rfl gK _ (by simp)) rfl (HE.out.2.below (Below.refl _ _).drew)
 ·obtain rfl:=hc1 hz
  clear hc1 hc2
  have HZ:=hid hz
  have z1:(E == 0)=false:=by simpa using hz
  have z2:decide (E=0)=false:=by simpa using hz
  have z3:(E != 0)=true:=by simpa using hz
  go_wp2_with fail
  refine ui.out.mono ?_
  rintro e w5 lT
  have fQ:=hid lT.2
  have he5:=(Ad lT).1 (by rw [Yi.out]; exact HZ.out)
  rw [Yi.out] at he5
  subst he5
  clear lT ui
  have r40:=ae Zc (fQ.out.block _ (block_lt_of_cell Zc))
  have r41:=ae Zd (fQ.out.block _ (block_lt_of_cell Zd))
  have lQ:=hid (yF.out.trans (Ae mQ.out fQ.out))
  go_upto_region 33 with fail
  generalize hw6:World.alloc w5 (.cells #[.slice none 0 0] 32)=w6
  have hb6:=aJ w5 (.cells #[.slice none 0 0] 32)
  have x10:=cell_of_row (w5.alloc (.cells #[.slice none 0 0] 32)) w5.heap.size 0 _ _ _ (ah w5 _)
  rw [hw6] at hb6 x10
  have kX:=hid hb6
  have nS:=hid (lQ.out.trans (cZ lQ.out.tq (lQ.out.tq.below hb6) ⟨fun _ e=>e,fun _ e => .inl e⟩ hb6))
  have iH:w6.heap[w.heap.size+1+1]? = some (.cells #[.pointer none,.slice none 0 0] 34 (0,0)):=nS.out.tq.q.row 0 _ rfl
  have b60:=cell_of_row w6 (w.heap.size+1+1) 0 _ _ _ iH
  have f60:=frozen_of_row w6 (w.heap.size+1+1) 0 _ _ iH
  have b61:=cell_of_row w6 (w.heap.size+1+1) 1 _ _ _ iH
  have f61:=frozen_of_row w6 (w.heap.size+1+1) 1 _ _ iH
  clear hw6 hb6 iH
  have s40:=ae r40 (kX.out.block _ (block_lt_of_cell r40))
  have s41:=ae r41 (kX.out.block _ (block_lt_of_cell r41))
  have HE:=hid (pF HQ.out HB3.out.1 HB3.out.2 nS.out (R:=R) (Ai.out.bU mQ.out (mQ.out.grow fQ.out) (fun k hk=>List.mem_append_right _ hk) fQ.out |>.bU lQ.out.tq nS.out.tq (fun k hk=>hk) kX.out) rfl (Nat.le_succ _) (fun _ _=>⟨rfl,rfl⟩) _ rfl)
  rw [Ib.out] at HE
  go_wp2_with fail
  refine bodyPost_ret (v := .tuple #[.agg #[.pointer (some ⟨t,0,none⟩),.slice a mm c],.bool true]) (aj Tryz.results11 _ _ (w.heap.size+1+1) 34 #[.pointer (some ⟨t,0,none⟩),.slice a mm c] (0,0) _ rfl HE.out.1 Tryz.underlying34 rfl gK _ (by simp)) rfl HE.out.2
theorem agf (w0 w:World)(P D gl n:Nat)(V:bY)(F:Nat→Bool)(ws:bW)(L:List eU)(M:List Nat)(t:Nat)(R:Rt)(a:bO)(c:Nat)(x:kC)(h:TQ w0 w P D gl n V F ws L M)(hp:PM w P n V F ws M t R a c)(hf:R.cn.length≤255)(hk:x.k.size≤1000000)(hv:x.v.size≤1000000)(hkd:x.kd=3) :
 Calls Tryz.prog 11 #[.pointer (some ⟨P,0,none⟩),.agg #[.pointer (some ⟨t,0,none⟩),.slice a R.cn.length c],.agg #[.int .i64 x.kd,.int .i64 x.nn,.string x.k,.string x.v]] w fun e w'=>uq w0 P D gl n V F ws L M x.kd R w e w':=by
 obtain ⟨kd,nn,k,v⟩:=x
 dsimp only at hk hv hkd ⊢
 subst kd
 have HQ:=hid h
 have HP:=hid hp
 have jM:=hid (And.intro hf (And.intro hk hv))
 have yL:=hid (pq h t a R.cn.length c ⟨3,nn,k,v⟩)
 obtain ⟨mm,hmm⟩:∃ z,R.cn.length=z:=⟨_,rfl⟩
 have Ib:=hid hmm
 rw [hmm] at yL ⊢
 clear h hp hf hk hv hmm
 go_enter Tryz.func11,Tryz.ntmps11
 go_upto_region 1 with fail
 generalize hw3:World.alloc _ (.cells #[.pointer none,.slice none 0 0] 34)=w3
 obtain ⟨hq3,hb3,hs3⟩:=yL.out w3 (by rw [← hw3]; rfl)
 have hp3:=HP.out.mono (aX HQ.out.q.gI hb3) (fun k hk=>hk) hq3.q.gI (fun _ _ e=>e)
 have kV:=hid hq3
 have xe:=hid hp3
 have HB3:=hid (And.intro hb3 hs3)
 have hr4:w3.heap[w.heap.size]? = some (.cells #[.pointer (some ⟨t,0,none⟩),.slice a mm c] 34 (0,0)):=hq3.q.row 2 _ rfl
 have lT:w3.heap[w.heap.size+1]? = some (.cells #[.int .i64 3,.int .i64 nn,.string k,.string v] 37 (0,0)):=hq3.q.row 1 _ rfl
 have p40:=cell_of_row w3 w.heap.size 0 _ _ _ hr4
 have p41:=cell_of_row w3 w.heap.size 1 _ _ _ hr4
 have p50:=cell_of_row w3 (w.heap.size+1) 0 _ _ _ lT
 have p52:=cell_of_row w3 (w.heap.size+1) 2 _ _ _ lT
 have p53:=cell_of_row w3 (w.heap.size+1) 3 _ _ _ lT
 clear hw3 hq3 hp3 hb3 hs3 hr4 lT yL
 have HD:=hid (lM k v kV.out xe.out.tm (by have:=jM.out.1; omega))
 go_wp2_with fail
 refine HD.out.mono ?_
 rintro e w4 ⟨v4,rfl,hv4,hb4⟩
 have mQ:=hid (kV.out.below hb4)
 have Ai:=hid (xe.out.bU kV.out mQ.out (fun k hk=>hk) hb4)
 have yF:=hid (cZ kV.out mQ.out ⟨fun _ e=>e,fun _ e => .inl e⟩ hb4)
 have Zc:=ae p40 (hb4.block _ (block_lt_of_cell p40))
 have Zd:=ae p41 (hb4.block _ (block_lt_of_cell p41))
 have q52:=ae p52 (hb4.block _ (block_lt_of_cell p52))
 have q53:=ae p53 (hb4.block _ (block_lt_of_cell p53))
 obtain ⟨a4,c4,rfl,hk4⟩:=hv4.ks
 have Rz:=hid hk4
 have hfl:(fF (k,v) R.cn).length≤100000:=Nat.le_trans (List.length_filter_le _ _) (by have:=jM.out.1; omega)
 have HFL:=hid hfl
 have ui:=hid (fun W (hW:Below w4.heap.size w4 W)=>afD a c R.cn k v W (Ai.out.lm.kv.below hW) (by have:=jM.out; omega))
 rw [Ib.out] at ui
 obtain ⟨K4,hKK⟩:∃ z,fF (k,v) R.cn=z:=⟨_,rfl⟩
 rw [hKK] at Rz HFL ui ⊢
 clear hb4 HD p40 p41 p52 p53 hv4 hk4 hKK hfl
 have mD:=hid (fun (W:World) (M':List Nat) (hW:TQ w0 W P D gl n V F ws (Gs w.heap.size t a mm c ⟨3,nn,k,v⟩++L) M')=>show W.heap[w.heap.size]? = some (.cells #[.pointer (some ⟨t,0,none⟩),.slice a mm c] 34 (0,0))∧W.heap[w.heap.size+1]? = some (.cells #[.int .i64 3,.int .i64 nn,.string k,.string v] 37 (0,0)) from ⟨hW.q.row 2 _ rfl,hW.q.row 1 _ rfl⟩)
 go_upto_region 15 with fail
 try simp only [Act.put]
 refine wp_region_noPanic ?_
 refine wp_region_held_drew (S:=fun W=>W.heap[w.heap.size]? = some (.cells #[.pointer (some ⟨t,0,none⟩),.slice a mm c] 34 (0,0))∧W.heap[w.heap.size+1]? = some (.cells #[.int .i64 3,.int .i64 nn,.string k,.string v] 37 (0,0))) (by kernel_rfl) (mD.out w4 _ mQ.out) (fun hHeld=>?_)
 refine tK 0 105 (.agg #[.pointer (some ⟨t,0,none⟩),.slice a mm c]) rfl (Or.inl ⟨by rfl, ?_⟩) ?_
 ·(intro w' hSw; have s0:=cell_of_row w' w.heap.size 0 _ _ _ hSw.1; have s1:=cell_of_row w' w.heap.size 1 _ _ _ hSw.1; have s2:=cell_of_row w' (w.heap.size+1) 2 _ _ _ hSw.2; have s3:=cell_of_row w' (w.heap.size+1) 3 _ _ _ hSw.2; go_simp; try with_reducible rfl)
 try simp only [Act.put,pZ]
 refine tR 1 106 (h:=tR 2 107 (h:=tR 3 108 (h:=tR 4 109 (h:=tR 5 110 (h:=?_)))))
 refine tK 6 111 (.agg #[.slice a mm c]) rfl (Or.inl ⟨by rfl, ?_⟩) ?_
 ·(intro w' hSw; have s0:=cell_of_row w' w.heap.size 0 _ _ _ hSw.1; have s1:=cell_of_row w' w.heap.size 1 _ _ _ hSw.1; have s2:=cell_of_row w' (w.heap.size+1) 2 _ _ _ hSw.2; have s3:=cell_of_row w' (w.heap.size+1) 3 _ _ _ hSw.2; go_simp; try with_reducible rfl)
 try simp only [Act.put,pZ]
 refine tR 7 112 (h:=?_)
 refine tK 8 113 (.string k) rfl (Or.inl ⟨by rfl, ?_⟩) ?_
 ·(intro w' hSw; have s0:=cell_of_row w' w.heap.size 0 _ _ _ hSw.1; have s1:=cell_of_row w' w.heap.size 1 _ _ _ hSw.1; have s2:=cell_of_row w' (w.heap.size+1) 2 _ _ _ hSw.2; have s3:=cell_of_row w' (w.heap.size+1) 3 _ _ _ hSw.2; go_simp; try with_reducible rfl)
 try simp only [Act.put,pZ]
 refine tR 9 114 (h:=?_)
 refine tK 10 115 (.string v) rfl (Or.inl ⟨by rfl, ?_⟩) ?_
 ·(intro w' hSw; have s0:=cell_of_row w' w.heap.size 0 _ _ _ hSw.1; have s1:=cell_of_row w' w.heap.size 1 _ _ _ hSw.1; have s2:=cell_of_row w' (w.heap.size+1) 2 _ _ _ hSw.2; have s3:=cell_of_row w' (w.heap.size+1) 3 _ _ _ hSw.2; go_simp; try with_reducible rfl)
 try simp only [Act.put,pZ]
 refine rD 11 rfl fun K9 hK=>?_
 go_simp
 go_at_call 35
 refine (ui.out w4.drew (Below.refl _ w4).drew).mono ?_
 rintro e w5 ⟨v5,rfl,hv5,hb5⟩
 obtain ⟨a5,c5,rfl,hk5⟩:=hv5.ks
 have HK5:=hid hk5
 have fQ:=hid (show Below w4.heap.size w4 w5 from (Below.refl _ w4).drew.trans hb5)
 have HSA:=hid (o7 a4 a5 c4 c5 K4 w5 (Rz.out.below fQ.out) hk5 HFL.out)
 obtain ⟨m4,hm4⟩:∃ z,K4.length=z:=⟨_,rfl⟩
 rw [hm4] at HSA ⊢
 clear hv5 hk5 hb5 ui hm4
 go_wp2_with fail
 refine hK.out _ _ (mD.out w5 _ (mQ.out.below fQ.out)) (fun hHeld=>?_)
 clear hK K9
 try simp only [Act.put,pZ]
 refine rD 12 rfl fun K9 hK=>?_
 go_simp
 go_at_call 13
 refine HSA.out.mono ?_
 rintro e w6 ⟨rfl,hb6⟩
 have kX:=hid (aK fQ.out hb6)
 clear hb6 HSA
 go_wp2_with fail
 refine hK.out _ _ (mD.out w6 _ (mQ.out.below kX.out)) (fun hHeld=>?_)
 clear hK K9
 try simp only [Act.put,pZ]
 refine tR 13 118 (h:=?_)
 have nS:=hid (yF.out.trans (cZ mQ.out (mQ.out.below kX.out) ⟨fun _ e=>e,fun _ e => .inl e⟩ kX.out))
 have iH:w6.heap[w.heap.size+1+1]? = some (.cells #[.pointer none,.slice none 0 0] 34 (0,0)):=nS.out.tq.q.row 0 _ rfl
 have b60:=cell_of_row w6 (w.heap.size+1+1) 0 _ _ _ iH
 have f60:=frozen_of_row w6 (w.heap.size+1+1) 0 _ _ iH
 have b61:=cell_of_row w6 (w.heap.size+1+1) 1 _ _ _ iH
 have f61:=frozen_of_row w6 (w.heap.size+1+1) 1 _ _ iH
 clear iH
 have HE:=hid (pF HQ.out HB3.out.1 HB3.out.2 nS.out (R:=R) (Ai.out.bU mQ.out nS.out.tq (fun k hk=>hk) kX.out) rfl (Nat.le_succ _) (fun _ _=>⟨rfl,rfl⟩) _ rfl)
 rw [Ib.out] at HE
 have hrw:=mD.out w6 _ (mQ.out.below kX.out)
 have htz:=((aT w6 (w.heap.size+1+1) 0 (.pointer (some ⟨t,0,none⟩))).trans (aT _ (w.heap.size+1+1) 1 (.slice a mm c)))
 have HX6:=hid (And.intro ((htz.block _ (lt_of_block hrw.1) (by simp only [List.mem_singleton]; omega)).trans hrw.1) ((htz.block _ (lt_of_block hrw.2) (by simp only [List.mem_singleton]; omega)).trans hrw.2))
 clear hrw htz
 refine rD 14 rfl fun K9 hK=>?_
 go_simp
 refine hK.out _ _ HX6.out (fun hHeld=>?_)
 clear hK K9
 try simp only [Act.put,pZ]
 refine tR 15 7 (h:=?_)
 refine wpAnyH_done (by decide +kernel) ?_ _
 refine NoPanic.normal ?_
 clear hHeld
 go_wp2_with fail
 refine bodyPost_ret (v := .tuple #[.agg #[.pointer (some ⟨t,0,none⟩),.slice a mm c],.bool true]) (aj Tryz.results11 _ _ (w.heap.size+1+1) 34 #[.pointer (some ⟨t,0,none⟩),.slice a mm c] (0,0) _ rfl HE.out.1 Tryz.underlying34 rfl gK _ (by simp)) rfl HE.out.2
theorem adF (w0 w:World)(P D gl n:Nat)(V:bY)(F:Nat→Bool)(ws:bW)(L:List eU)(M:List Nat)(t:Nat)(R:Rt)(a:bO)(c:Nat)(x:kC)(h:TQ w0 w P D gl n V F ws L M)(hp:PM w P n V F ws M t R a c)(hf:R.cn.length≤255)(hk:x.k.size≤1000000)(hv:x.v.size≤1000000)(hkd:x.kd=4) :
 Calls Tryz.prog 11 #[.pointer (some ⟨P,0,none⟩),.agg #[.pointer (some ⟨t,0,none⟩),.slice a R.cn.length c],.agg #[.int .i64 x.kd,.int .i64 x.nn,.string x.k,.string x.v]] w fun e w'=>uq w0 P D gl n V F ws L M x.kd R w e w':=by
 obtain ⟨kd,nn,k,v⟩:=x
 dsimp only at hk hv hkd ⊢
 subst kd
 have HQ:=hid h
 have HP:=hid hp
 have jM:=hid (And.intro hf (And.intro hk hv))
 have yL:=hid (pq h t a R.cn.length c ⟨4,nn,k,v⟩)
 obtain ⟨mm,hmm⟩:∃ z,R.cn.length=z:=⟨_,rfl⟩
 have Ib:=hid hmm
 rw [hmm] at yL ⊢
 clear h hp hf hk hv hmm
 go_enter Tryz.func11,Tryz.ntmps11
 go_upto_region 1 with fail
 generalize hw3:World.alloc _ (.cells #[.pointer none,.slice none 0 0] 34)=w3
 obtain ⟨hq3,hb3,hs3⟩:=yL.out w3 (by rw [← hw3]; rfl)
 have hp3:=HP.out.mono (aX HQ.out.q.gI hb3) (fun k hk=>hk) hq3.q.gI (fun _ _ e=>e)
 have kV:=hid hq3
 have xe:=hid hp3
 have HB3:=hid (And.intro hb3 hs3)
 have hr4:w3.heap[w.heap.size]? = some (.cells #[.pointer (some ⟨t,0,none⟩),.slice a mm c] 34 (0,0)):=hq3.q.row 2 _ rfl
 have lT:w3.heap[w.heap.size+1]? = some (.cells #[.int .i64 4,.int .i64 nn,.string k,.string v] 37 (0,0)):=hq3.q.row 1 _ rfl
 have p40:=cell_of_row w3 w.heap.size 0 _ _ _ hr4
 have p41:=cell_of_row w3 w.heap.size 1 _ _ _ hr4
 have p50:=cell_of_row w3 (w.heap.size+1) 0 _ _ _ lT
 have p52:=cell_of_row w3 (w.heap.size+1) 2 _ _ _ lT
 have p53:=cell_of_row w3 (w.heap.size+1) 3 _ _ _ lT
 clear hw3 hq3 hp3 hb3 hs3 hr4 lT yL
 have Wi:=hid (iZ xe.out.tm)
 have CZ:=hid (Ac kV.out)
 have xC:=hid (Aa kV.out xe.out.tm)
 have hp0:=dK
 obtain ⟨ZL,Gp⟩:∃ z,(ag ai).toArray=z:=⟨_,rfl⟩
 have SE:=hid kE
 rw [Gp] at hp0 SE
 clear Gp
 go_wp2_with fail
 refine Wi.out.mono ?_
 rintro e w9 ⟨rfl,QX⟩
 subst w9
 clear Wi
 go_wp2_with fail
 refine CZ.out.mono ?_
 rintro e w9 ⟨rfl,QX⟩
 subst w9
 clear CZ
 go_wp2_with fail
 refine xC.out.mono ?_
 rintro e w4 ⟨F4,ws4,M4,q,er,tp,hs4,rfl,hres⟩
 have yF:=hid hs4
 have Ai:=hid (xe.out.stepS hs4)
 clear hs4 xC p40 p41 p50 p52 p53
 go_upto_region 21 with (with_reducible refine wpList_store_row (o:=⟨none,.store _ (.tmp 21) _,_,_,_,_⟩) rfl 51 _ _ rfl w4.heap.size (ag q).toArray rfl rfl 51 ZL (heap_alloc_new w4 _) (bG q) (SE.out q) (bf q) ?_)
 generalize hWs:World.setRow _ w4.heap.size _=w5
 have hst:=ou w4 ZL (ag q).toArray 51 w5 hWs.symm
 have fQ:=hid hst.2
 have MB:=hid hst.1
 have qJ:=hid (yF.out.tq.below hst.2)
 have lQ:=hid (yF.out.trans (cZ yF.out.tq qJ.out ⟨fun _ e=>e,fun _ e => .inl e⟩ hst.2))
 have GM:=hid (Ai.out.bU yF.out.tq qJ.out (fun k hk=>hk) hst.2)
 clear hWs hst hp0
 have mD:=hid (fun (W:World) (F':Nat→Bool) (ws':bW) (M':List Nat) (hW:TQ w0 W P D gl n V F' ws' (Gs w.heap.size t a mm c ⟨4,nn,k,v⟩++L) M')=>show W.heap[w.heap.size]? = some (.cells #[.pointer (some ⟨t,0,none⟩),.slice a mm c] 34 (0,0))∧W.heap[w.heap.size+1]? = some (.cells #[.int .i64 4,.int .i64 nn,.string k,.string v] 37 (0,0)) from ⟨hW.q.row 2 _ rfl,hW.q.row 1 _ rfl⟩)
 have HRA:=hid (jB (w:=w5) (b:=w4.heap.size) (o:=0) (cs:=ag q) (by have h0:=YY MB.out; simpa using h0))
 have c41:∀ p:dw w5,p.now.cell? ⟨w.heap.size,1,none⟩=some (.slice a mm c):=jJ (cell_of_row w5 w.heap.size 1 _ _ _ (mD.out _ _ _ _ qJ.out).1)
 have Hg:=hid (fun W=>eu q W)
 rcases hres with ⟨rfl,t4,R4,rfl,MK,hsv,hcn⟩ | ⟨rfl,rfl,hq0,hcn⟩
 ·have adG:=hid (MK.bU yF.out.tq qJ.out (fun k hk=>hk) fQ.out)
  have adH:=hsv.nul HP.out.tm.at_.wf
  have Tv:=hid hsv
  have I7:=hid (fun (p:dw w5)=>iZ (adG.out.bU qJ.out (qJ.out.below p.bel) (fun k hk=>hk) p.bel))
  rw [hsv.fr] at I7
  have rP:=hid (fun (p:dw w5)=>Ac (qJ.out.below p.bel))
  rw [adH] at Hg
  have hcE:((cnt F4 n:Nat):Int)=((cnt F n:Nat):Int) - ((R.fr:Nat):Int):=by omega
  have hcl:=cnt_le F n
  have hnn:=HQ.out.q.pl.sp.hi
  have hcW:IntKind.i64.wrap (((cnt F n:Nat):Int) - ((R.fr:Nat):Int))=((cnt F4 n:Nat):Int):=by rw [← hcE]; exact IntWalk.i64_in _ (by omega)
  have hm0:decide (R.cn=[])=((mm:Int) == 0):=by
   rw [← Ib.out]
   cases R.cn with
   | nil=>rfl
   | cons x r=>simp; omega
  rw [hm0] at Hg
  generalize cnt F4 n=N4 at *
  generalize cnt F n=N0 at *
  obtain ⟨R0,hR0⟩:∃ z,R.fr=z:=⟨_,rfl⟩
  rw [hR0] at hcE hcW ⊢
  clear hcl hnn adH hm0 hR0 MK hsv hcE
  go_upto_region 21 with fail
  refine bQ (by kernel_rfl) (by kernel_rfl) ?_
  repeat (first
   | (with_reducible refine dM (o:=⟨some 150,_,_,_,_,_⟩) (by kernel_rfl) 51 _ rfl w4.heap.size 0 rfl (ag q) _ HRA.out Tryz.underlying51 rfl (dS q) ?_
      simp only [Act.put,pZ])
   | (go_big_quiet_step (first | (go_at_call 24; exact eY (I7.out _)) | (go_at_call 25; exact eY (rP.out _)) | (go_at_call 21; exact fC (Hg.out _)))))
  refine wpQuiet_nil ?_
  intro _ hw'
  obtain ⟨pp,hw''⟩:=hw'
  subst hw''
  have kX:=hid pp.bel
  generalize pp.now=w6 at *
  clear pp
  have jL:=hid (qJ.out.below kX.out)
  have nS:=hid (lQ.out.trans (cZ qJ.out jL.out ⟨fun _ e=>e,fun _ e => .inl e⟩ kX.out))
  have adE:=hid (adG.out.bU qJ.out jL.out (fun k hk=>hk) kX.out)
  have HL6:=hid ((GM.out.lm.mono (aX qJ.out.q.gI kX.out) (fun k hk=>hk)))
  have k41:=cell_of_row w6 w.heap.size 1 _ _ _ (mD.out _ _ _ _ jL.out).1
  have k50:=cell_of_row w6 (w.heap.size+1) 0 _ _ _ (mD.out _ _ _ _ jL.out).2
  clear c41 Hg I7 rP HRA
  have iH:w6.heap[w.heap.size+1+1]? = some (.cells #[.pointer none,.slice none 0 0] 34 (0,0)):=nS.out.tq.q.row 0 _ rfl
  have b60:=cell_of_row w6 (w.heap.size+1+1) 0 _ _ _ iH
  have f60:=frozen_of_row w6 (w.heap.size+1+1) 0 _ _ iH
  have b61:=cell_of_row w6 (w.heap.size+1+1) 1 _ _ _ iH
  have f61:=frozen_of_row w6 (w.heap.size+1+1) 1 _ _ iH
  clear iH
  have HE:=hid (pF HQ.out HB3.out.1 HB3.out.2 nS.out (R:=R) (R':=R4) (a':=a) (c':=c) ⟨adE.out,by rw [Tv.out.cn]; exact HL6.out⟩ rfl (by rw [Tv.out.cn]; exact Nat.le_succ _) (fun h=>absurd rfl h) _ rfl)
  rw [show R4.cn.length=mm by rw [Tv.out.cn]; exact Ib.out] at HE
  go_wp2_with fail
  refine bodyPost_ret (v := .tuple #[.agg #[.pointer (some ⟨t4,0,none⟩),.slice a mm c],.bool true]) (aj Tryz.results11 _ _ (w.heap.size+1+1) 34 #[.pointer (some ⟨t4,0,none⟩),.slice a mm c] (0,0) _ rfl HE.out.1 Tryz.underlying34 rfl gK _ (by simp)) rfl HE.out.2
 ·have hqz:(q.ad == 0)=true:=by rw [hq0]; rfl
  rw [hqz] at Hg
  clear hq0 hqz hcn
  go_upto_region 21 with fail
  refine bQ (by kernel_rfl) (by kernel_rfl) ?_
  repeat (go_big_quiet_step (fail))
  refine wpQuiet_nil ?_
  intro _ hw'
  obtain ⟨pp,hw''⟩:=hw'
  subst hw''
  have kX:=hid pp.bel
  generalize pp.now=w6 at *
  clear pp
  have jL:=hid (qJ.out.below kX.out)
  have nS:=hid (lQ.out.trans (cZ qJ.out jL.out ⟨fun _ e=>e,fun _ e => .inl e⟩ kX.out))
  have MQ:=hid (GM.out.bU qJ.out jL.out (fun k hk=>hk) kX.out)
  have D7:=hid ((kX.out.block _ (lt_of_block MB.out)).trans MB.out)
  clear c41 HRA
  go_upto_region 22 with fail
  try simp only [Act.put]
  refine wp_region_noPanic ?_
  refine wp_region_held_drew (S:=fun W=>W.heap[w.heap.size]? = some (.cells #[.pointer (some ⟨t,0,none⟩),.slice a mm c] 34 (0,0))∧W.heap[w4.heap.size]? = some (.cells (ag q).toArray 51 (0,0))) (by kernel_rfl) ⟨(mD.out _ _ _ _ jL.out).1,D7.out⟩ (fun hHeld=>?_)
  refine tK 0 159 (.agg #[.pointer (some ⟨t,0,none⟩),.slice a mm c]) rfl (Or.inl ⟨by rfl, ?_⟩) ?_
  ·(intro w' hSw; have s0:=cell_of_row w' w.heap.size 0 _ _ _ hSw.1; have s1:=cell_of_row w' w.heap.size 1 _ _ _ hSw.1; go_simp; try with_reducible rfl)
  try simp only [Act.put,pZ]
  refine tR 1 160 (h:=tR 2 161 (h:=tR 3 162 (h:=tR 4 163 (h:=tR 5 164 (h:=tR 6 165 (h:=tR 7 166 (h:=?_)))))))
  refine tK 8 167 _ rfl (yieldsIf_load_mid (by rfl) _ _ rfl (w4.heap.size) (0) rfl ((ag q)) _ (fun w' h=>by have q0:=YY h.2; simpa using q0) Tryz.underlying51 rfl (dS q)) ?_
  try simp only [Act.put,pZ]
  refine rD 9 rfl fun K9 hK=>?_
  go_simp
  go_at_call 21
  refine (Hg.out w6.drew).mono ?_
  rintro e w7 ⟨rfl,hb7⟩
  have MN:=hid (show Below w6.heap.size w6 w7 from (Below.refl _ w6).drew.trans hb7)
  have uD:=hid (jL.out.below MN.out)
  have QW:=hid (nS.out.trans (cZ jL.out uD.out ⟨fun _ e=>e,fun _ e => .inl e⟩ MN.out))
  clear hb7 Hg
  go_wp2_with fail
  refine hK.out _ _ ⟨(mD.out _ _ _ _ uD.out).1,(MN.out.block _ (lt_of_block D7.out)).trans D7.out⟩ (fun hHeld=>?_)
  clear hK K9
  try simp only [Act.put,pZ]
  refine tR 10 169 (h:=?_)
  have iH:w7.heap[w.heap.size+1+1]? = some (.cells #[.pointer none,.slice none 0 0] 34 (0,0)):=QW.out.tq.q.row 0 _ rfl
  have b60:=cell_of_row w7 (w.heap.size+1+1) 0 _ _ _ iH
  have f60:=frozen_of_row w7 (w.heap.size+1+1) 0 _ _ iH
  have b61:=cell_of_row w7 (w.heap.size+1+1) 1 _ _ _ iH
  have f61:=frozen_of_row w7 (w.heap.size+1+1) 1 _ _ iH
  clear iH
  have HE:=hid (pF HQ.out HB3.out.1 HB3.out.2 QW.out (R:=R) (MQ.out.bU jL.out uD.out (fun k hk=>hk) MN.out) rfl (Nat.le_succ _) (fun h=>absurd rfl h) _ rfl)
  rw [Ib.out] at HE
  have hrw:=(mD.out w7 _ _ _ uD.out).1
  have Qe:=(MN.out.block _ (lt_of_block D7.out)).trans D7.out
  have htz:=((aT w7 (w.heap.size+1+1) 0 (.pointer (some ⟨t,0,none⟩))).trans (aT _ (w.heap.size+1+1) 1 (.slice a mm c)))
  have HX7:=hid (And.intro ((htz.block _ (lt_of_block hrw) (by simp only [List.mem_singleton]; omega)).trans hrw) ((htz.block _ (lt_of_block Qe) (by simp only [List.mem_singleton]; have:=HB3.out.2; have:=yF.out.sz; omega)).trans Qe))
  clear hrw htz Qe
  refine rD 11 rfl fun K9 hK=>?_
  go_simp
  refine hK.out _ _ HX7.out (fun hHeld=>?_)
  clear hK K9
  try simp only [Act.put,pZ]
  refine tR 12 7 (h:=?_)
  refine wpAnyH_done (by decide +kernel) ?_ _
  refine NoPanic.normal ?_
  clear hHeld
  go_wp2_with fail
  refine bodyPost_ret (v := .tuple #[.agg #[.pointer (some ⟨t,0,none⟩),.slice a mm c],.bool true]) (aj Tryz.results11 _ _ (w.heap.size+1+1) 34 #[.pointer (some ⟨t,0,none⟩),.slice a mm c] (0,0) _ rfl HE.out.1 Tryz.underlying34 rfl gK _ (by simp)) rfl HE.out.2
theorem adI (w0 w:World)(P D gl n:Nat)(V:bY)(F:Nat→Bool)(ws:bW)(L:List eU)(M:List Nat)(t:Nat)(R:Rt)(a:bO)(c:Nat)(x:kC)(h:TQ w0 w P D gl n V F ws L M)(hp:PM w P n V F ws M t R a c)(hf:R.cn.length≤255)(hk:x.k.size≤1000000)(hv:x.v.size≤1000000)(hkd:x.kd=5) :
 Calls Tryz.prog 11 #[.pointer (some ⟨P,0,none⟩),.agg #[.pointer (some ⟨t,0,none⟩),.slice a R.cn.length c],.agg #[.int .i64 x.kd,.int .i64 x.nn,.string x.k,.string x.v]] w fun e w'=>uq w0 P D gl n V F ws L M x.kd R w e w':=by
 obtain ⟨kd,nn,k,v⟩:=x
 dsimp only at hk hv hkd ⊢
 subst kd
 have HQ:=hid h
 have HP:=hid hp
 have jM:=hid (And.intro hf (And.intro hk hv))
 have yL:=hid (pq h t a R.cn.length c ⟨5,nn,k,v⟩)
 obtain ⟨mm,hmm⟩:∃ z,R.cn.length=z:=⟨_,rfl⟩
 have Ib:=hid hmm
 rw [hmm] at yL ⊢
 clear h hp hf hk hv hmm
 go_enter Tryz.func11,Tryz.ntmps11
 go_upto_region 1 with fail
 generalize hw3:World.alloc _ (.cells #[.pointer none,.slice none 0 0] 34)=w3
 obtain ⟨hq3,hb3,hs3⟩:=yL.out w3 (by rw [← hw3]; rfl)
 have hp3:=HP.out.mono (aX HQ.out.q.gI hb3) (fun k hk=>hk) hq3.q.gI (fun _ _ e=>e)
 have kV:=hid hq3
 have xe:=hid hp3
 have HB3:=hid (And.intro hb3 hs3)
 have hr4:w3.heap[w.heap.size]? = some (.cells #[.pointer (some ⟨t,0,none⟩),.slice a mm c] 34 (0,0)):=hq3.q.row 2 _ rfl
 have lT:w3.heap[w.heap.size+1]? = some (.cells #[.int .i64 5,.int .i64 nn,.string k,.string v] 37 (0,0)):=hq3.q.row 1 _ rfl
 have p40:=cell_of_row w3 w.heap.size 0 _ _ _ hr4
 have p41:=cell_of_row w3 w.heap.size 1 _ _ _ hr4
 have p50:=cell_of_row w3 (w.heap.size+1) 0 _ _ _ lT
 have p52:=cell_of_row w3 (w.heap.size+1) 2 _ _ _ lT
 have p53:=cell_of_row w3 (w.heap.size+1) 3 _ _ _ lT
 clear hw3 hq3 hp3 hb3 hs3 hr4 lT yL
 have Wi:=hid (iZ xe.out.tm)
 have CZ:=hid (Ac kV.out)
 have xC:=hid (Aa kV.out xe.out.tm)
 have hp0:=dK
 obtain ⟨ZL,Gp⟩:∃ z,(ag ai).toArray=z:=⟨_,rfl⟩
 have SE:=hid kE
 rw [Gp] at hp0 SE
 clear Gp
 go_wp2_with fail
 refine Wi.out.mono ?_
 rintro e w9 ⟨rfl,QX⟩
 subst w9
 clear Wi
 go_wp2_with fail
 refine CZ.out.mono ?_
 rintro e w9 ⟨rfl,QX⟩
 subst w9
 clear CZ
 go_wp2_with fail
 refine xC.out.mono ?_
 rintro e w4 ⟨F4,ws4,M4,q,er,tp,hs4,rfl,hres⟩
 have yF:=hid hs4
 have Ai:=hid (xe.out.stepS hs4)
 clear hs4 xC p40 p41 p50 p52 p53
 go_upto_region 21 with (with_reducible refine wpList_store_row (o:=⟨none,.store _ (.tmp 21) _,_,_,_,_⟩) rfl 51 _ _ rfl w4.heap.size (ag q).toArray rfl rfl 51 ZL (heap_alloc_new w4 _) (bG q) (SE.out q) (bf q) ?_)
 generalize hWs:World.setRow _ w4.heap.size _=w5
 have hst:=ou w4 ZL (ag q).toArray 51 w5 hWs.symm
 have fQ:=hid hst.2
 have MB:=hid hst.1
 have qJ:=hid (yF.out.tq.below hst.2)
 have lQ:=hid (yF.out.trans (cZ yF.out.tq qJ.out ⟨fun _ e=>e,fun _ e => .inl e⟩ hst.2))
 have GM:=hid (Ai.out.bU yF.out.tq qJ.out (fun k hk=>hk) hst.2)
 clear hWs hst hp0
 have mD:=hid (fun (W:World) (F':Nat→Bool) (ws':bW) (M':List Nat) (hW:TQ w0 W P D gl n V F' ws' (Gs w.heap.size t a mm c ⟨5,nn,k,v⟩++L) M')=>show W.heap[w.heap.size]? = some (.cells #[.pointer (some ⟨t,0,none⟩),.slice a mm c] 34 (0,0))∧W.heap[w.heap.size+1]? = some (.cells #[.int .i64 5,.int .i64 nn,.string k,.string v] 37 (0,0)) from ⟨hW.q.row 2 _ rfl,hW.q.row 1 _ rfl⟩)
 have HRA:=hid (jB (w:=w5) (b:=w4.heap.size) (o:=0) (cs:=ag q) (by have h0:=YY MB.out; simpa using h0))
 have c41:∀ p:dw w5,p.now.cell? ⟨w.heap.size,1,none⟩=some (.slice a mm c):=jJ (cell_of_row w5 w.heap.size 1 _ _ _ (mD.out _ _ _ _ qJ.out).1)
 have Hg:=hid (fun W=>eu q W)
 rcases hres with ⟨rfl,t4,R4,rfl,MK,hsv,hcn⟩ | ⟨rfl,rfl,hq0,hcn⟩
 ·have adG:=hid (MK.bU yF.out.tq qJ.out (fun k hk=>hk) fQ.out)
  have adH:=hsv.nul HP.out.tm.at_.wf
  have Tv:=hid hsv
  have I7:=hid (fun (p:dw w5)=>iZ (adG.out.bU qJ.out (qJ.out.below p.bel) (fun k hk=>hk) p.bel))
  rw [hsv.fr] at I7
  have rP:=hid (fun (p:dw w5)=>Ac (qJ.out.below p.bel))
  rw [adH] at Hg
  have hcE:((cnt F4 n:Nat):Int)=((cnt F n:Nat):Int) - ((R.fr:Nat):Int):=by omega
  have hcl:=cnt_le F n
  have hnn:=HQ.out.q.pl.sp.hi
  have hcW:IntKind.i64.wrap (((cnt F n:Nat):Int) - ((R.fr:Nat):Int))=((cnt F4 n:Nat):Int):=by rw [← hcE]; exact IntWalk.i64_in _ (by omega)
  have hm0:decide (R.cn=[])=((mm:Int) == 0):=by
   rw [← Ib.out]
   cases R.cn with
   | nil=>rfl
   | cons x r=>simp; omega
  rw [hm0] at Hg
  generalize cnt F4 n=N4 at *
  generalize cnt F n=N0 at *
  obtain ⟨R0,hR0⟩:∃ z,R.fr=z:=⟨_,rfl⟩
  rw [hR0] at hcE hcW ⊢
  clear hcl hnn adH hm0 hR0 MK hsv hcE
  go_upto_region 21 with fail
  refine bQ (by kernel_rfl) (by kernel_rfl) ?_
  repeat (first
   | (with_reducible refine dM (o:=⟨some 150,_,_,_,_,_⟩) (by kernel_rfl) 51 _ rfl w4.heap.size 0 rfl (ag q) _ HRA.out Tryz.underlying51 rfl (dS q) ?_
      simp only [Act.put,pZ])
   | (go_big_quiet_step (first | (go_at_call 24; exact eY (I7.out _)) | (go_at_call 25; exact eY (rP.out _)) | (go_at_call 21; exact fC (Hg.out _)))))
  refine wpQuiet_nil ?_
  intro _ hw'
  obtain ⟨pp,hw''⟩:=hw'
  subst hw''
  have kX:=hid pp.bel
  generalize pp.now=w6 at *
  clear pp
  have jL:=hid (qJ.out.below kX.out)
  have nS:=hid (lQ.out.trans (cZ qJ.out jL.out ⟨fun _ e=>e,fun _ e => .inl e⟩ kX.out))
  have adE:=hid (adG.out.bU qJ.out jL.out (fun k hk=>hk) kX.out)
  have HL6:=hid ((GM.out.lm.mono (aX qJ.out.q.gI kX.out) (fun k hk=>hk)))
  have k41:=cell_of_row w6 w.heap.size 1 _ _ _ (mD.out _ _ _ _ jL.out).1
  have k50:=cell_of_row w6 (w.heap.size+1) 0 _ _ _ (mD.out _ _ _ _ jL.out).2
  clear c41 Hg I7 rP HRA
  have Jn:=hid (agc (R:=R) jL.out Tv.out HP.out.tm.at_.wf)
  have D7:=hid ((kX.out.block _ (lt_of_block MB.out)).trans MB.out)
  go_wp2_with (with_reducible refine wpList_load_row (o:=⟨some 175,_,_,_,_,_⟩) rfl 51 _ rfl w4.heap.size rfl 51 (ag q).toArray (0,0) _ D7.out Tryz.underlying51 rfl (bG q) ?_)
  refine Jn.out.mono ?_
  rintro e w7 ⟨M7,t7,R7,hq7,hs7,hb7,rfl,ai5,UY,amT⟩
  have uD:=hid hq7
  have apH:=hid ai5
  have ai6:=hid UY
  have QW:=hid (nS.out.trans (cZ jL.out hq7 hs7 hb7))
  have HL7:=hid (HL6.out.mono (aX jL.out.q.gI hb7) hs7.1)
  have HF7:=hid (iZ ai5)
  rw [amT,show ((0:Nat):Int)=0 from rfl] at HF7
  have j41:=ae k41 (hb7.block _ (block_lt_of_cell k41))
  clear hq7 hs7 hb7 ai5 UY amT Jn k41 k50
  go_wp2_with fail
  refine HF7.out.mono ?_
  rintro e w8 ⟨rfl,hw8⟩
  subst w8
  clear HF7
  have iH:w7.heap[w.heap.size+1+1]? = some (.cells #[.pointer none,.slice none 0 0] 34 (0,0)):=QW.out.tq.q.row 0 _ rfl
  have b60:=cell_of_row w7 (w.heap.size+1+1) 0 _ _ _ iH
  have f60:=frozen_of_row w7 (w.heap.size+1+1) 0 _ _ iH
  have b61:=cell_of_row w7 (w.heap.size+1+1) 1 _ _ _ iH
  have f61:=frozen_of_row w7 (w.heap.size+1+1) 1 _ _ iH
  clear iH
  have HE:=hid (pF HQ.out HB3.out.1 HB3.out.2 QW.out (R:=R) (R':=R7) (a':=a) (c':=c) ⟨apH.out,by rw [ai6.out]; exact HL7.out⟩ rfl (by rw [ai6.out]; exact Nat.le_succ _) (fun _ h=>absurd rfl h) _ rfl)
  rw [show R7.cn.length=mm by rw [ai6.out]; exact Ib.out] at HE
  go_wp2_with fail
  refine bodyPost_ret (v := .tuple #[.agg #[.pointer (some ⟨t7,0,none⟩),.slice a mm c],.bool true]) (aj Tryz.results11 _ _ (w.heap.size+1+1) 34 #[.pointer (some ⟨t7,0,none⟩),.slice a mm c] (0,0) _ rfl HE.out.1 Tryz.underlying34 rfl gK _ (by simp)) rfl HE.out.2
 ·have hqz:(q.ad == 0)=true:=by rw [hq0]; rfl
  rw [hqz] at Hg
  clear hq0 hqz hcn
  go_upto_region 21 with fail
  refine bQ (by kernel_rfl) (by kernel_rfl) ?_
  repeat (go_big_quiet_step (fail))
  refine wpQuiet_nil ?_
  intro _ hw'
  obtain ⟨pp,hw''⟩:=hw'
  subst hw''
  have kX:=hid pp.bel
  generalize pp.now=w6 at *
  clear pp
  have jL:=hid (qJ.out.below kX.out)
  have nS:=hid (lQ.out.trans (cZ qJ.out jL.out ⟨fun _ e=>e,fun _ e => .inl e⟩ kX.out))
  have MQ:=hid (GM.out.bU qJ.out jL.out (fun k hk=>hk) kX.out)
  have D7:=hid ((kX.out.block _ (lt_of_block MB.out)).trans MB.out)
  clear c41 HRA
  go_upto_region 22 with fail
  try simp only [Act.put]
  refine wp_region_noPanic ?_
  refine wp_region_held_drew (S:=fun W=>W.heap[w.heap.size]? = some (.cells #[.pointer (some ⟨t,0,none⟩),.slice a mm c] 34 (0,0))∧W.heap[w4.heap.size]? = some (.cells (ag q).toArray 51 (0,0))) (by kernel_rfl) ⟨(mD.out _ _ _ _ jL.out).1,D7.out⟩ (fun hHeld=>?_)
  refine tK 0 159 (.agg #[.pointer (some ⟨t,0,none⟩),.slice a mm c]) rfl (Or.inl ⟨by rfl, ?_⟩) ?_
  ·(intro w' hSw; have s0:=cell_of_row w' w.heap.size 0 _ _ _ hSw.1; have s1:=cell_of_row w' w.heap.size 1 _ _ _ hSw.1; go_simp; try with_reducible rfl)
  try simp only [Act.put,pZ]
  refine tR 1 160 (h:=tR 2 161 (h:=tR 3 162 (h:=tR 4 163 (h:=tR 5 164 (h:=tR 6 165 (h:=tR 7 166 (h:=?_)))))))
  refine tK 8 167 _ rfl (yieldsIf_load_mid (by rfl) _ _ rfl (w4.heap.size) (0) rfl ((ag q)) _ (fun w' h=>by have q0:=YY h.2; simpa using q0) Tryz.underlying51 rfl (dS q)) ?_
  try simp only [Act.put,pZ]
  refine rD 9 rfl fun K9 hK=>?_
  go_simp
  go_at_call 21
  refine (Hg.out w6.drew).mono ?_
  rintro e w7 ⟨rfl,hb7⟩
  have MN:=hid (show Below w6.heap.size w6 w7 from (Below.refl _ w6).drew.trans hb7)
  have uD:=hid (jL.out.below MN.out)
  have QW:=hid (nS.out.trans (cZ jL.out uD.out ⟨fun _ e=>e,fun _ e => .inl e⟩ MN.out))
  clear hb7 Hg
  go_wp2_with fail
  refine hK.out _ _ ⟨(mD.out _ _ _ _ uD.out).1,(MN.out.block _ (lt_of_block D7.out)).trans D7.out⟩ (fun hHeld=>?_)
  clear hK K9
  try simp only [Act.put,pZ]
  refine tR 10 169 (h:=?_)
  have iH:w7.heap[w.heap.size+1+1]? = some (.cells #[.pointer none,.slice none 0 0] 34 (0,0)):=QW.out.tq.q.row 0 _ rfl
  have b60:=cell_of_row w7 (w.heap.size+1+1) 0 _ _ _ iH
  have f60:=frozen_of_row w7 (w.heap.size+1+1) 0 _ _ iH
  have b61:=cell_of_row w7 (w.heap.size+1+1) 1 _ _ _ iH
  have f61:=frozen_of_row w7 (w.heap.size+1+1) 1 _ _ iH
  clear iH
  have HE:=hid (pF HQ.out HB3.out.1 HB3.out.2 QW.out (R:=R) (MQ.out.bU jL.out uD.out (fun k hk=>hk) MN.out) rfl (Nat.le_succ _) (fun _ h=>absurd rfl h) _ rfl)
  rw [Ib.out] at HE
  have hrw:=(mD.out w7 _ _ _ uD.out).1
  have Qe:=(MN.out.block _ (lt_of_block D7.out)).trans D7.out
  have htz:=((aT w7 (w.heap.size+1+1) 0 (.pointer (some ⟨t,0,none⟩))).trans (aT _ (w.heap.size+1+1) 1 (.slice a mm c)))
  have HX7:=hid (And.intro ((htz.block _ (lt_of_block hrw) (by simp only [List.mem_singleton]; omega)).trans hrw) ((htz.block _ (lt_of_block Qe) (by simp only [List.mem_singleton]; have:=HB3.out.2; have:=yF.out.sz; omega)).trans Qe))
  clear hrw htz Qe
  refine rD 11 rfl fun K9 hK=>?_
  go_simp
  refine hK.out _ _ HX7.out (fun hHeld=>?_)
  clear hK K9
  try simp only [Act.put,pZ]
  refine tR 12 7 (h:=?_)
  refine wpAnyH_done (by decide +kernel) ?_ _
  refine NoPanic.normal ?_
  clear hHeld
  go_wp2_with fail
  refine bodyPost_ret (v := .tuple #[.agg #[.pointer (some ⟨t,0,none⟩),.slice a mm c],.bool true]) (aj Tryz.results11 _ _ (w.heap.size+1+1) 34 #[.pointer (some ⟨t,0,none⟩),.slice a mm c] (0,0) _ rfl HE.out.1 Tryz.underlying34 rfl gK _ (by simp)) rfl HE.out.2
theorem adJ (w0 w:World)(P D gl n:Nat)(V:bY)(F:Nat→Bool)(ws:bW)(L:List eU)(M:List Nat)(t:Nat)(R:Rt)(a:bO)(c:Nat)(x:kC)(h:TQ w0 w P D gl n V F ws L M)(hp:PM w P n V F ws M t R a c)(hf:R.cn.length≤255)(hk:x.k.size≤1000000)(hv:x.v.size≤1000000) :
 Calls Tryz.prog 11 #[.pointer (some ⟨P,0,none⟩),.agg #[.pointer (some ⟨t,0,none⟩),.slice a R.cn.length c],.agg #[.int .i64 x.kd,.int .i64 x.nn,.string x.k,.string x.v]] w fun e w'=>uq w0 P D gl n V F ws L M x.kd R w e w':=by
 by_cases h1:x.kd=1
 ·exact ai2 w0 w P D gl n V F ws L M t R a c x h hp hf hk hv h1
 by_cases h2:x.kd=2
 ·exact ai3 w0 w P D gl n V F ws L M t R a c x h hp hf hk hv h2
 by_cases h3:x.kd=3
 ·exact agf w0 w P D gl n V F ws L M t R a c x h hp hf hk hv h3
 by_cases h4:x.kd=4
 ·exact adF w0 w P D gl n V F ws L M t R a c x h hp hf hk hv h4
 by_cases h5:x.kd=5
 ·exact adI w0 w P D gl n V F ws L M t R a c x h hp hf hk hv h5
 by_cases h6:x.kd=0
 ·exact ai4 w0 w P D gl n V F ws L M t R a c x h hp hf hk hv h6
 exact age w0 w P D gl n V F ws L M t R a c x h hp hf hk hv ⟨h1,h2,h3,h4,h5,h6⟩
def GrQ (w0:World)(P D gl n:Nat)(V:bY)(F:Nat→Bool)(ws:bW)(L:List eU)(M:List Nat)(m:Nat)(w:World)(e:Ending)(w':World):Prop :=
 ∃ M' t' R' a' c',QY w0 w w' P D gl n V F ws L M F ws M'∧PM w' P n V F ws M' t' R' a' c'∧e = .returned (.tuple #[.agg #[.pointer (some ⟨t',0,none⟩),.slice a' R'.cn.length c'],.bool true])∧R'.cn.length≤m
structure GrI (w0 w w2 wr:World)(P D gl n:Nat)(V:bY)(F:Nat→Bool)(ws:bW)(L:List eU)(M:List Nat)(i:Nat)(M':List Nat)(t':Nat)(R':Rt)(a':bO)(m' c':Nat):Prop where
 tq:TQ w0 wr P D gl n V F ws ((w.heap.size+1,gu t' a' m' c',34)::(w.heap.size,uu,34)::L) M'
 pm:PM wr P n V F ws M' t' R' a' c'
 sub:∀ k ∈ M,k ∈ M'
 new:∀ k ∈ M',k ∈ M∨w2.heap.size≤k
 st:qB M w wr
 sz:w2.heap.size≤wr.heap.size
 len:R'.cn.length≤i
 m:R'.cn.length=m'
theorem GrI.below {w0 w w2 wr w':World}{P D gl n:Nat}{V:bY}{F:Nat→Bool}{ws:bW}{L:List eU}{M:List Nat}{i j:Nat}{M':List Nat}{t':Nat}{R':Rt}{a':bO}{m' c':Nat}(h:GrI w0 w w2 wr P D gl n V F ws L M i M' t' R' a' m' c')(q:Below wr.heap.size wr w')(hj:i≤j):GrI w0 w w2 w' P D gl n V F ws L M j M' t' R' a' m' c' :=
 ⟨h.tq.below q,h.pm.bU h.tq (h.tq.below q) (fun _ e=>e) q,h.sub,h.new,fun k hk=>(q.block k (h.tq.q.gI k (h.sub k hk))).trans (h.st k hk),Nat.le_trans h.sz q.size,Nat.le_trans h.len hj,h.m⟩
theorem GrI.next {w0 w w2 wr w4 w5 w6:World}{P D gl n:Nat}{V:bY}{F:Nat→Bool}{ws:bW}{L:List eU}{M:List Nat}{i:Nat}{M' M4:List Nat}{t' t4:Nat}{R' R4:Rt}{a' a4:bO}{m' c' c4:Nat}(h:GrI w0 w w2 wr P D gl n V F ws L M i M' t' R' a' m' c')(hq:TQ w0 w P D gl n V F ws L M)(h2:w.heap.size+2≤w2.heap.size)
 (hb:Below wr.heap.size wr w4) (hs:QY w0 w4 w5 P D gl n V F ws ((w.heap.size+1,gu t' a' m' c',34)::(w.heap.size,uu,34)::L) M' F ws M4) (hp:PM w5 P n V F ws M4 t4 R4 a4 c4) (hl:R4.cn.length≤R'.cn.length+1)
 (hw:w6=(w5.setCell ⟨w.heap.size+1,0,none⟩ (.pointer (some ⟨t4,0,none⟩))).setCell ⟨w.heap.size+1,1,none⟩ (.slice a4 R4.cn.length c4)):GrI w0 w w2 w6 P D gl n V F ws L M (i+1) M4 t4 R4 a4 R4.cn.length c4:=by
 have hr:w5.heap[w.heap.size+1]? = some (.cells [Value.pointer (some ⟨t',0,none⟩),.slice a' m' c'].toArray 34 (0,0)):=hs.tq.q.row 0 _ rfl
 have ht:Touch [w.heap.size+1] w5 w6:=by
  subst hw
  exact (aT w5 (w.heap.size+1) 0 _).trans (aT _ (w.heap.size+1) 1 _)
 have iH:w6.heap[w.heap.size+1]? = some (.cells (gu t4 a4 R4.cn.length c4) 34 (0,0)):=by
  subst hw
  exact dZ (dZ hr 0 _) 1 _
 have hM:∀ k ∈ M4,k ∈ M∨w2.heap.size≤k:=fun k hk=>(hs.new k hk).elim (fun e=>h.new k e) (fun e => .inr (by have:=h.sz; have:=hb.size; omega))
 have hne:∀ k ∈ M4,k ≠ w.heap.size+1:=fun k hk e=>(hM k hk).elim (fun e2=>by have:=hq.q.gI k e2; omega) (fun e2=>by omega)
 refine ⟨⟨hs.tq.q.upd ht iH (fun r hr=>?_),hs.tq.few⟩, ?_,fun k hk=>hs.sub k (h.sub k hk),hM,fun k hk=>?_,Nat.le_trans h.sz (Nat.le_trans hb.size (Nat.le_trans hs.sz ht.size)),by have:=h.len; omega,rfl⟩
 ·rcases List.mem_cons.1 hr with rfl | hr
  ·show w.heap.size ≠ w.heap.size+1; omega
  ·have:=lt_of_block (hq.q.rows r hr).1
   omega
 ·exact hp.mono (fun k hk=>ht.block k (hs.tq.q.gI k hk) (by simpa using hne k hk)) (fun _ e=>e) (fun k hk=>Nat.lt_of_lt_of_le (hs.tq.q.gI k hk) ht.size) (fun _ _ e=>e)
 ·have hk4:=hs.sub k (h.sub k hk)
  exact (ht.block k (hs.tq.q.gI k hk4) (by simpa using hne k hk4)).trans ((hs.st k (h.sub k hk)).trans ((hb.block k (h.tq.q.gI k (h.sub k hk))).trans (h.st k hk)))
theorem GrI.done {w0 w w2 wr w6:World}{P D gl n:Nat}{V:bY}{F:Nat→Bool}{ws:bW}{L:List eU}{M:List Nat}{i:Nat}{M':List Nat}{t':Nat}{R':Rt}{a':bO}{m' c':Nat}(h:GrI w0 w w2 wr P D gl n V F ws L M i M' t' R' a' m' c')(hq:TQ w0 w P D gl n V F ws L M)(h2:w.heap.size+2≤w2.heap.size)
 (hw:w6=(wr.setCell ⟨w.heap.size,0,none⟩ (.pointer (some ⟨t',0,none⟩))).setCell ⟨w.heap.size,1,none⟩ (.slice a' m' c')):w6.heap[w.heap.size]? = some (.cells #[.pointer (some ⟨t',0,none⟩),.slice a' m' c'] 34 (0,0))∧GrQ w0 P D gl n V F ws L M i w (.returned (.tuple #[.agg #[.pointer (some ⟨t',0,none⟩),.slice a' m' c'],.bool true])) w6:=by
 have hr:wr.heap[w.heap.size]? = some (.cells [Value.pointer none,.slice none 0 0].toArray 34 (0,0)):=h.tq.q.row 1 _ rfl
 have ht:Touch [w.heap.size] wr w6:=by
  subst hw
  exact (aT wr w.heap.size 0 _).trans (aT _ w.heap.size 1 _)
 have iH:w6.heap[w.heap.size]? = some (.cells #[.pointer (some ⟨t',0,none⟩),.slice a' m' c'] 34 (0,0)):=by
  subst hw
  exact dZ (dZ hr 0 _) 1 _
 have hne:∀ k ∈ M',k ≠ w.heap.size:=fun k hk e=>(h.new k hk).elim (fun e2=>by have:=hq.q.gI k e2; omega) (fun e2=>by omega)
 have hq1:=h.tq.q.less (L':=(w.heap.size,uu,34)::L) (M':=M') (fun r hr=>List.mem_cons_of_mem _ hr) (fun _ e=>e)
 have hq2:=hq1.upd ht iH (fun r hr=>by have:=lt_of_block (hq.q.rows r hr).1; omega)
 have hq3:=hq2.less (L':=L) (M':=M') (fun r hr=>List.mem_cons_of_mem _ hr) (fun _ e=>e)
 refine ⟨iH,M',t',R',a',c',⟨⟨hq3,h.tq.few⟩,h.sub,fun k hk=>(h.new k hk).imp id (fun e=>by omega),fun k hk=>?_,by have:=h.sz; have:=ht.size; omega,More.refl⟩, ?_,by rw [h.m],h.len⟩
 ·have hk4:=h.sub k hk
  exact (ht.block k (h.tq.q.gI k hk4) (by simpa using hne k hk4)).trans (h.st k hk)
 ·exact h.pm.mono (fun k hk=>ht.block k (h.tq.q.gI k hk) (by simpa using hne k hk)) (fun _ e=>e) (fun k hk=>Nat.lt_of_lt_of_le (h.tq.q.gI k hk) ht.size) (fun _ _ e=>e)
theorem Wj (w0 w:World)(P D gl n:Nat)(V:bY)(F:Nat→Bool)(ws:bW)(L:List eU)(M:List Nat)(t:Nat)(a:bO)(c:Nat)(x:List kC)(h:TQ w0 w P D gl n V F ws L M)(hp:TM w P n V F ws M t none)(ha:AT w0 a x)(hx:x.length≤150)(hs:∀ q ∈ x,q.k.size≤8000∧q.v.size≤8000)(ho:∀ q ∈ x,Gq q) :
 Calls Tryz.prog 14 #[.pointer (some ⟨t,0,none⟩),.pointer (some ⟨P,0,none⟩),.slice a x.length c] w fun e w'=>GrQ w0 P D gl n V F ws L M x.length w e w':=by
 have HQ:=hid h
 have HA:=hid ha
 have HS:=hid hs
 have HO:=hid ho
 have hb1:=aJ w (.cells uu 34)
 have h1:=h.q.add hb1 w.heap.size _ _ (Nat.le_refl _) (ah w _)
 have e1:(w.alloc (.cells uu 34)).heap.size=w.heap.size+1:=by simp
 have hb2:=aJ (w.alloc (.cells uu 34)) (.cells (gu t none 0 0) 34)
 have h2:=h1.add hb2 (w.heap.size+1) _ _ (by omega) (by rw [← e1]; exact ah _ _)
 have HB:=hid (aK hb1 hb2)
 have HG:=hid (show GrI w0 w ((w.alloc (.cells uu 34)).alloc (.cells (gu t none 0 0) 34)) _ P D gl n V F ws L M 0 M t none none 0 0 from
  ⟨⟨h2,h.few⟩,⟨hp.mono (aX h.q.gI (aK hb1 hb2)) (fun _ e=>e) (fun k hk=>Nat.lt_of_lt_of_le (h.q.gI k hk) (aK hb1 hb2).size) (fun _ _ e=>e),⟨⟨fun i x hx=>by simp [Rt.cn] at hx⟩,fun _=>⟨rfl,rfl⟩,fun p e=>(by cases e),Nat.le_refl _⟩⟩,fun _ e=>e,fun _ e => .inl e,aX h.q.gI (aK hb1 hb2),Nat.le_refl _,Nat.le_refl _,rfl⟩)
 have HW2:=hid (show w.heap.size+2≤((w.alloc (.cells uu 34)).alloc (.cells (gu t none 0 0) 34)).heap.size by simp)
 obtain ⟨m,hm⟩:∃ m,x.length=m:=⟨_,rfl⟩
 have HM:=hid hm
 rw [hm] at hx ⊢
 have mI:(m:Int)≤150:=by omega
 have HMX:=hid hx
 clear h hp ha hs ho hb1 h1 e1 hb2 h2 hm hx
 go_enter Tryz.func14,Tryz.ntmps14
 go_upto_region 2 with fail
 generalize hw2:World.alloc _ (.cells #[.pointer (some ⟨t,0,none⟩),.slice none 0 0] 34)=w2
 have amU:(w.alloc (.cells uu 34)).alloc (.cells (gu t none 0 0) 34)=w2:=by rw [← hw2]; rfl
 rw [amU] at HG HB HW2
 clear hw2 amU
 go_wp2_with fail
 go_loopw [10,11,12,17] (fun _ _ _ v17 wr=>∃ (i:Nat) (M':List Nat) (t':Nat) (R':Rt) (a':bO) (m' c':Nat),i≤m∧v17 = .int .i64 (i:Int)∧GrI w0 w w2 wr P D gl n V F ws L M i M' t' R' a' m' c') (fun _ _ _ v _=>m - (intOf v).toNat)
 case atStart=>exact ⟨0,M,t,none,none,0,0,Nat.zero_le _,rfl,HG.out⟩
 case round =>
  obtain ⟨i,M',t',R',a',m',c',hi,rfl,hg⟩:=hrel
  have HI:=hid hg
  clear hg HG
  by_cases hlt:i<m
  ·obtain ⟨q,hq⟩:∃ q,x[i]? = some q:=⟨_,List.getElem?_eq_getElem (by rw [HM.out]; exact hlt)⟩
   obtain ⟨b,off,rfl,hrg⟩:=(HA.out.below (HI.out.tq.q.bel)).at_ i q hq
   obtain ⟨c0,c1,c2,c3⟩:=wV hrg
   have hix:=qo b off m c i hlt
   have bz:=hid hlt
   have hqm:=List.mem_of_getElem? hq
   have HSQ:=hid (HS.out q hqm)
   have HOQ:=hid (HO.out q hqm)
   have iI:(i:Int)<(m:Int):=by omega
   have i0:(0:Int)≤(i:Int):=by omega
   clear hi hlt hq hrg hqm
   obtain ⟨kd,nn,k,v⟩:=q
   dsimp only at c0 c1 c2 c3
   go_upto_region 5 with fail
   generalize hwi:World.alloc wr (.cells #[.int .i64 kd,.int .i64 nn,.string k,.string v] 37)=wi
   have hbi:=aJ wr (.cells #[.int .i64 kd,.int .i64 nn,.string k,.string v] 37)
   have hni:=ah wr (.cells #[.int .i64 kd,.int .i64 nn,.string k,.string v] 37)
   rw [hwi] at hbi hni
   have HBI:=hid hbi
   have i00:=cell_of_row wi wr.heap.size 0 _ _ _ hni
   have i01:=cell_of_row wi wr.heap.size 1 _ _ _ hni
   have i02:=cell_of_row wi wr.heap.size 2 _ _ _ hni
   have i03:=cell_of_row wi wr.heap.size 3 _ _ _ hni
   clear hwi hbi hni c0 c1 c2 c3 hix
   by_cases hkd:1<kd
   ·clear i01 i02 i03
    go_wp2_with fail
    go_roundw
    case rel=>exact ⟨i+1,M',t',R',a',m',c',by have:=bz.out; omega,by go_num,HI.out.below HBI.out (Nat.le_succ _)⟩
    case measure=>simp [intOf]; have:=bz.out; omega
   ·have JW:=hid hkd
    have hgi:=HI.out.below HBI.out (Nat.le_refl _)
    have HGI:=hid hgi
    have yj:wi.heap[w.heap.size+1]? = some (.cells #[.pointer (some ⟨t',0,none⟩),.slice a' m' c'] 34 (0,0)):=hgi.tq.q.row 0 _ rfl
    have p80:=cell_of_row wi (w.heap.size+1) 0 _ _ _ yj
    have p81:=cell_of_row wi (w.heap.size+1) 1 _ _ _ yj
    have HD:=hid (adJ w0 wi P D gl n V F ws _ M' t' R' a' c' ⟨kd,nn,k,v⟩ hgi.tq hgi.pm (by have:=hgi.len; have:=bz.out; have:=HMX.out; omega) (by have:=HSQ.out.1; dsimp only at this ⊢; omega) (by have:=HSQ.out.2; dsimp only at this ⊢; omega))
    rw [hgi.m] at HD
    clear hgi yj
    go_wp2_with fail
    refine HD.out.mono ?_
    rintro e w5 ⟨F5,vS,M5,t5,R5,a5,c5,hs5,hp5,rfl,hn5,hfw⟩
    obtain ⟨rfl,rfl⟩:=hfw (by have:=JW.out; omega) (by have:=JW.out; omega)
    have lQ:=hid hs5
    have GM:=hid hp5
    have Hg:=hid hn5
    obtain ⟨m5,pJ⟩:∃ z,R5.cn.length=z:=⟨_,rfl⟩
    have xA:=hid pJ
    rw [pJ]
    clear hs5 hp5 hn5 hfw pJ HD p80 p81 i00 i01 i02 i03
    go_upto_region 7 with fail
    generalize hw6:World.alloc w5 (.cells #[.pointer (some ⟨t5,0,none⟩),.slice a5 m5 c5] 34)=w6
    have hb6:=aJ w5 (.cells #[.pointer (some ⟨t5,0,none⟩),.slice a5 m5 c5] 34)
    have Hy:=ah w5 (.cells #[.pointer (some ⟨t5,0,none⟩),.slice a5 m5 c5] 34)
    rw [hw6] at hb6 Hy
    have nS:=hid (lQ.out.trans (cZ lQ.out.tq (lQ.out.tq.below hb6) ⟨fun _ e=>e,fun _ e => .inl e⟩ hb6))
    have MQ:=hid (GM.out.bU lQ.out.tq nS.out.tq (fun _ e=>e) hb6)
    have x0:=cell_of_row w6 w5.heap.size 0 _ _ _ Hy
    have x1:=cell_of_row w6 w5.heap.size 1 _ _ _ Hy
    have yj:w6.heap[w.heap.size+1]? = some (.cells #[.pointer (some ⟨t',0,none⟩),.slice a' m' c'] 34 (0,0)):=nS.out.tq.q.row 0 _ rfl
    have b0:=cell_of_row w6 (w.heap.size+1) 0 _ _ _ yj
    have b1:=cell_of_row w6 (w.heap.size+1) 1 _ _ _ yj
    have f0:=frozen_of_row w6 (w.heap.size+1) 0 _ _ yj
    have f1:=frozen_of_row w6 (w.heap.size+1) 1 _ _ yj
    have hnx:=HI.out.next HQ.out HW2.out HBI.out nS.out MQ.out Hg.out rfl
    rw [xA.out] at hnx
    have uF:=hid hnx
    clear hw6 hb6 Hy yj hnx
    go_wp2_with fail
    go_roundw
    case rel=>exact ⟨i+1,M5,t5,R5,a5,m5,c5,by have:=bz.out; omega,by go_num,uF.out⟩
    case measure=>simp [intOf]; have:=bz.out; omega
  ·obtain rfl:i=m:=by omega
   have yj:wr.heap[w.heap.size+1]? = some (.cells #[.pointer (some ⟨t',0,none⟩),.slice a' m' c'] 34 (0,0)):=HI.out.tq.q.row 0 _ rfl
   have iH:wr.heap[w.heap.size]? = some (.cells #[.pointer none,.slice none 0 0] 34 (0,0)):=HI.out.tq.q.row 1 _ rfl
   have p80:=cell_of_row wr (w.heap.size+1) 0 _ _ _ yj
   have p81:=cell_of_row wr (w.heap.size+1) 1 _ _ _ yj
   have b0:=cell_of_row wr w.heap.size 0 _ _ _ iH
   have b1:=cell_of_row wr w.heap.size 1 _ _ _ iH
   have f0:=frozen_of_row wr w.heap.size 0 _ _ iH
   have f1:=frozen_of_row wr w.heap.size 1 _ _ iH
   have HE:=hid (HI.out.done HQ.out HW2.out rfl)
   clear hi hlt yj iH
   go_wp2_with fail
   refine bodyPost_ret (v := .tuple #[.agg #[.pointer (some ⟨t',0,none⟩),.slice a' m' c'],.bool true]) (aj Tryz.results14 _ _ w.heap.size 34 #[.pointer (some ⟨t',0,none⟩),.slice a' m' c'] (0,0) _ rfl HE.out.1 Tryz.underlying34 rfl gK _ (by simp)) rfl HE.out.2
end
section
theorem QI (cut k:ByteArray)(h:cut ≠ aY):ni (aY,cut) k=lo k cut:=by
 unfold ni
 rw [l7,decide_eq_false h]
 rfl
theorem Ze (cut k:ByteArray):ni (cut,aY) k = !lo k cut:=by
 unfold ni
 rw [decide_eq_true (show aY=aY from rfl)]
 simp
theorem wX {x:bV}{r:List bV}(h:nD (x::r)):(∀ y ∈ r,lo x.1 y.1=true)∧nD r:=List.pairwise_cons.1 h
theorem Gu (cut:ByteArray)(hc:cut ≠ aY):∀ K:List bV,nD K→fF (aY,cut) K++fF (cut,aY) K=K
 | [],_=>rfl
 | x::r,h=>by
   obtain ⟨h1,h2⟩:=wX h
   have ih:=Gu cut hc r h2
   unfold fF at ih ⊢
   rw [List.filter_cons,List.filter_cons,QI _ _ hc,Ze]
   cases e:lo x.1 cut with
   | true=>simp only [if_pos,Bool.not_true,Bool.false_eq_true,if_false,List.cons_append]; rw [ih]
   | false =>
     have hn:List.filter (fun kv=>ni (aY,cut) kv.1) r=[]:=List.filter_eq_nil_iff.2 (fun y hy=>by
      rw [QI _ _ hc]
      intro e2
      rw [fG (h1 y hy) e2] at e
      cases e)
     rw [hn,List.nil_append] at ih
     simp only [Bool.false_eq_true,if_false,Bool.not_false,if_true]
     rw [hn,ih]
     rfl
theorem QJ:∀ {K:List bV} {x:bV},nD K→x ∈ K→jl x.1 K=[x]
 | y::r,x,h,hx=>by
   obtain ⟨h1,h2⟩:=wX h
   unfold jl
   rw [List.filter_cons]
   by_cases e:y.1=x.1
   ·have hxy:x=y:=by
     rcases List.mem_cons.1 hx with rfl | hx
     ·rfl
     ·have:=h1 x hx
      rw [e,dL] at this
      cases this
    subst hxy
    rw [decide_eq_true rfl,if_pos rfl]
    congr 1
    exact List.filter_eq_nil_iff.2 (fun y hy=>by
     have:=h1 y hy
     simp only [decide_eq_true_eq]
     intro e
     rw [e,dL] at this
     cases this)
   ·rw [decide_eq_false e]
    simp only [Bool.false_eq_true,if_false]
    rcases List.mem_cons.1 hx with rfl | hx
    ·exact absurd rfl e
    ·exact QJ h2 hx
theorem JC {K:List bV}{k:ByteArray}(h:∀ x ∈ K,x.1 ≠ k):jl k K=[]:=List.filter_eq_nil_iff.2 (fun x hx=>by simpa using h x hx)
theorem Gv {k:ByteArray}{r:List bV}(h:∀ y ∈ r,lo k y.1=true):jl k r=[]:=JC (fun x hx e=>by have:=h x hx; rw [e,dL] at this; cases this)
theorem Gw (k v:ByteArray):∀ K:List bV,nD K→jl k (jT k v K)=[(k,v)]
 | [],_=>by simp [jT,jl]
 | x::r,h=>by
   obtain ⟨h1,h2⟩:=wX h
   have ih:=Gw k v r h2
   unfold jT
   by_cases e:lo x.1 k=true
   ·rw [if_pos e]
    unfold jl at ih ⊢
    rw [List.filter_cons,decide_eq_false (fun e2=>by rw [e2,dL] at e; cases e)]
    simp only [Bool.false_eq_true,if_false]
    exact ih
   ·rw [if_neg e]
    by_cases e2:x.1=k
    ·rw [if_pos e2]
     have:=Gv (k:=k) (r:=r) (fun y hy=>by rw [← e2]; exact h1 y hy)
     unfold jl at this ⊢
     rw [List.filter_cons,decide_eq_true rfl,if_pos rfl,this]
    ·rw [if_neg e2]
     have hk:lo k x.1=true:=by
      rcases sG k x.1 with q | q | q
      ·exact q
      ·exact absurd q.symm e2
      ·exact absurd q e
     have:=Gv (k:=k) (r:=x::r) (fun y hy=>by
      rcases List.mem_cons.1 hy with rfl | hy
      ·exact hk
      ·exact fG hk (h1 y hy))
     unfold jl at this ⊢
     rw [List.filter_cons,decide_eq_true rfl,if_pos rfl,this]
theorem adN (k v:ByteArray)(K:List bV)(h:nD K):xg k (jT k v K)=true:=by
 rw [V8,Gw k v K h]
def xm (k:ByteArray)(K:List bV):List bV:=K.filter (fun x => !decide (x.1=k))
theorem JD {k:ByteArray}{r:List bV}(h:∀ y ∈ r,lo k y.1=true):xm k r=r:=List.filter_eq_self.2 (fun x hx=>by
 have:=h x hx
 simp only [Bool.not_eq_true',decide_eq_false_iff_not]
 intro e
 rw [e,dL] at this
 cases this)
theorem Wl (k v:ByteArray):∀ K:List bV,nD K→delS k (jT k v K)=xm k K
 | [],_=>by simp [jT,delS,xm,dL]
 | x::r,h=>by
   obtain ⟨h1,h2⟩:=wX h
   have ih:=Wl k v r h2
   unfold jT
   by_cases e:lo x.1 k=true
   ·rw [if_pos e]
    have hne:¬ x.1=k:=fun e2=>by rw [e2,dL] at e; cases e
    unfold delS
    rw [if_pos e,ih]
    unfold xm
    rw [List.filter_cons,decide_eq_false hne]
    rfl
   ·rw [if_neg e]
    by_cases e2:x.1=k
    ·rw [if_pos e2]
     have:=JD (k:=k) (r:=r) (fun y hy=>by rw [← e2]; exact h1 y hy)
     unfold delS
     rw [dL,if_neg (by simp),if_pos rfl]
     unfold xm at this ⊢
     rw [List.filter_cons,decide_eq_true e2]
     simp only [Bool.not_true,Bool.false_eq_true,if_false]
     exact this.symm
    ·rw [if_neg e2]
     have hk:lo k x.1=true:=by
      rcases sG k x.1 with q | q | q
      ·exact q
      ·exact absurd q.symm e2
      ·exact absurd q e
     have:=JD (k:=k) (r:=x::r) (fun y hy=>by
      rcases List.mem_cons.1 hy with rfl | hy
      ·exact hk
      ·exact fG hk (h1 y hy))
     unfold delS
     rw [dL,if_neg (by simp),if_pos rfl]
     exact this.symm
theorem adO (k:ByteArray)(K:List bV):jl k (xm k K)=[]:=JC (fun x hx=>by
 unfold xm at hx
 have:=(List.mem_filter.1 hx).2
 simpa using this)
theorem Zf (k:ByteArray)(K:List bV)(i:Nat)(x:bV)(h:K[i]? = some x):xm k (K.take (i+1))=xm k (K.take i)++(if x.1=k then [] else [x]):=by
 unfold xm
 rw [List.take_add_one,h,List.filter_append]
 congr 1
 by_cases e:x.1=k
 ·simp [e]
 ·simp [e]
theorem ai7 {R:Rt}(h:R.wf):∀ x ∈ R.cn,jk x.1=true∧x.1.size≤32:=by
 cases R with
 | none=>exact fun x hx=>absurd hx (by simp [Rt.cn])
 | some q =>
   obtain ⟨d,T⟩:=q
   have hw:mP d T aY aY:=h
   intro x hx
   have hk:=(sO d (its T) aY aY hw.1).1 x hx
   have h1:=hk.low
   have h2:=hk.high
   refine ⟨?_,h2⟩
   unfold jk
   rw [decide_eq_true (show 0<x.1.size by omega),decide_eq_true h2]
   rfl
end
section
open Go.ChangeShapes Go.WideShapes Go.ChangeAt Go.RowKit
theorem Ic (w:World){P:Program}{ops:Array Oper}{rest:List Oper}{o:Oper}{a:Act}{Q:Exit→Act→World→Prop}(hw:Region.wanted o (yielded ops a.tmps)=true)(d s:Operand)(t t':TypeId)
 (ho:o.op = .call { callee := .builtin .append,args:=#[d,s],argTypes:=#[t,t'] }) (v u:Value) (hd:a.eval d=v) (hs:a.eval s=u) {v':Value} {w':World}
 (hr:(Builtin.append_ #[t,t'] o.type #[v,u]).run P w = .ok v' w') (h:wpList P ops Q rest (a.put o.dst v') w'):wpList P ops Q (o::rest) a w:=by
 refine wpList_step fun K hK=>?_
 rw [if_pos hw]
 unfold Oper.wp execOp
 simp only [ho,resolve,invoke,builtin,Sem.run_bind,Sem.run_pure,Result.andThen_ok,List.map_toArray,List.map_cons,List.map_nil,hd,hs,hr]
 exact hK _ _ h
theorem adP {w0 w7 w9 w10:World}{P D gl n:Nat}{V:bY}{F:Nat→Bool}{ws:bW}{M:List Nat}{o:Option Nat}(h:TQ w0 w7 P D gl n V F ws [] M)(hb:Below w7.heap.size w7 w9)(t:Touch o.toList w9 w10)(ho:∀ g,o=some g→w7.heap.size≤g∧g<w9.heap.size):TQ w0 w10 P D gl n V F ws [] M∧∀ k,k<w7.heap.size→w10.heap[k]? = w9.heap[k]? := by
 have h9:=h.grow hb
 have h10:=h9.q.wide t (fun k hk=>by
  have e:o=some k:=by simpa using hk
  obtain ⟨h1,h2⟩:=ho k e
  exact ⟨List.mem_append_left _ (dN.2 ⟨h2,h1⟩),Nat.le_trans h.q.bel.size h1⟩) (fun r hr=>absurd hr (by simp))
 refine ⟨⟨h10.less (fun r hr=>hr) (fun k hk=>List.mem_append_right _ (List.mem_append_right _ hk)),h.few⟩,fun k hk=>t.block k (Nat.lt_of_lt_of_le hk hb.size) (fun hm=>?_)⟩
 have e:o=some k:=by simpa using hm
 have:=(ho k e).1
 omega
structure apK where
 x:List kC
 a:bO
 n:Nat
 c:Nat
 cut:ByteArray
 k:ByteArray
 v:ByteArray
def apL:World→apK→List Value→Prop:=fun W y cs=>cs=[.slice y.a y.n y.c,.string y.cut,.string y.k,.string y.v]∧SlR CQ 4 W y.x y.a y.n y.c∧y.cut.size≤140737488351232∧y.k.size≤140737488351232∧y.v.size≤140737488351232
theorem Zg:Opn 73 apL:=by
 intro H enc W fuel cs y h hw
 obtain ⟨xs,k,_,hx,hlen,hxl,hfs⟩:=DataW.trod_struct Tryz.underlying73 h
 rw [show Tryz.prog.cellsOf 73=4 by kernel_rfl] at hlen
 have hxk:xs.length=4:=hxl
 have hd:=congrArg Prod.fst hx
 dsimp only at hd
 clear hx hxl
 match xs,hxk with
 | [y0,y1,y2,y3],_ =>
   have ei:Tryz.prog.cellsOf 22=1:=by kernel_rfl
   have es:Tryz.prog.cellsOf 9=1:=by kernel_rfl
   have hw2:∀ n ∈ DataW.weightsEach Tryz.prog [22,9,9,9] [y0.1,y1.1,y2.1,y3.1],n≤reachBytes:=fun n hn=>hw n (by rw [hd]; simp only [DataW.weights,Tryz.underlying73]; exact hn)
   have g0:DataW.trod enc Tryz.prog W 0 (fun _=>true) true k 22 ((cs.drop 0).take 1)=some y0:=by have q:=hfs 0 _ rfl; simpa [ei] using q
   have g1:DataW.trod enc Tryz.prog W 0 (fun _=>true) true k 9 ((cs.drop 1).take 1)=some y1:=by have q:=hfs 1 _ rfl; simpa [ei,es] using q
   have g2:DataW.trod enc Tryz.prog W 0 (fun _=>true) true k 9 ((cs.drop 2).take 1)=some y2:=by have q:=hfs 2 _ rfl; simpa [ei,es] using q
   have g3:DataW.trod enc Tryz.prog W 0 (fun _=>true) true k 9 ((cs.drop 3).take 1)=some y3:=by have q:=hfs 3 _ rfl; simpa [ei,es] using q
   obtain ⟨l,a,n,c,r0,hs⟩:=yJ _ _ _ _ _ _ g0 (fun n hn=>hw2 n (DataW.weights_mem_each (j:=0) rfl rfl n hn))
   obtain ⟨s1,r1,z1⟩:=yZ Tryz.underlying9 _ _ _ _ _ _ g1 (fun n hn=>hw2 n (DataW.weights_mem_each (j:=1) rfl rfl n hn))
   obtain ⟨s2,r2,z2⟩:=yZ Tryz.underlying9 _ _ _ _ _ _ g2 (fun n hn=>hw2 n (DataW.weights_mem_each (j:=2) rfl rfl n hn))
   obtain ⟨s3,r3,z3⟩:=yZ Tryz.underlying9 _ _ _ _ _ _ g3 (fun n hn=>hw2 n (DataW.weights_mem_each (j:=3) rfl rfl n hn))
   have hcs:cs=(cs.drop 0).take 1++((cs.drop 1).take 1++((cs.drop 2).take 1++(cs.drop 3).take 1)):=by
    match cs,hlen with
    | [_,_,_,_],_=>rfl
   rw [r0,r1,r2,r3] at hcs
   exact ⟨⟨l,a,n,c,s1,s2,s3⟩,hcs,hs,z1,z2,z3⟩
theorem Zh {H:Type}{enc:TypeId×Value→H}{W:World}{base:Nat}{v:Value}{d:DataW H}{p:List MemPlace}{ts:List TypeId}{ds:List (DataW H)}{j:Nat}(_hok:Value.okWide Tryz.prog W .any base 73 v)(h:∃ fuel,DataW.trod enc Tryz.prog W 0 (fun _=>true) true fuel 73 v.cells.toList=some (d,p))
 (hsz:(DataW.weightsEach Tryz.prog ts ds).all (· ≤ reachBytes)=true) (ht:ts[j]? = some 73) (hd:ds[j]? = some d):∃ (x:List kC) (a:bO) (n c:Nat) (cut k v':ByteArray),v = .agg #[.slice a n c,.string cut,.string k,.string v']∧SlR CQ 4 W x a n c∧cut.size≤140737488351232∧k.size≤140737488351232∧v'.size≤140737488351232:=by
 obtain ⟨y,e,hr,h1,h2,h3⟩:=Iu Zg h hsz ht hd
 refine ⟨y.x,y.a,y.n,y.c,y.cut,y.k,y.v, ?_,hr,h1,h2,h3⟩
 rw [Xl (v:=v) (by rw [e]; simp)]
 congr 1
 exact Array.toList_inj.1 e
end
end Go.Proofs.YtljjcbmkbmloaaaGreatDoor
