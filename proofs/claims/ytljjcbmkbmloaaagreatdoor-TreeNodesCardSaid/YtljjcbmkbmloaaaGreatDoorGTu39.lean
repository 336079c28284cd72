import Derived.Test.YtljjcbmkbmloaaaGreatDoorGTu34
import Derived.Test.YtljjcbmkbmloaaaGreatDoorGTu38
import Derived.Test.YtljjcbmkbmloaaaGreatDoorGTuA
namespace Go.Proofs.YtljjcbmkbmloaaaGreatDoor
set_option maxHeartbeats 3200000
set_option maxRecDepth 100000
set_option linter.unusedVariables false
open Lib (hid)
open Go.RowKit
def agc (D gl bm n:Nat)(vw:Value)(V:bY)(ws:bW)(lim:Int)(dn:Bool)(a:Nat)(S:bY)(PT:ay)(w:World)(e:Ending)(w':World):Prop :=
 ((xx lim dn).2=true∧e = .returned (.tuple #[.agg (ag ai).toArray,.int .i64 7])∧PD w' D gl bm n vw V ws (xx lim dn).1 true∧Touch (l9 D gl bm vw) w w') ∨
 ((xx lim dn).2=false∧e = .returned (.tuple #[.agg (ag PT).toArray,.int .i64 0])∧∃ GL,PD w' D gl bm n GL V (ws++[(a,S)]) (xx lim dn).1 false∧Touch (l9 D gl bm vw) w w'∧∀ g,GL.ownBlock=some g→vw.ownBlock=some g∨w.heap.size≤g)
theorem agd {lim:Int}{dn:Bool}(h:(xx lim dn).2=false):dn=false∧lim ≠ 0:=by
 unfold xx at h;simp only [Bool.or_eq_false_iff,decide_eq_false_iff_not] at h;exact h
theorem U1 {w w':World}{l:List Nat}{k:Nat}(q:Only k w w')(hk:k ∈ l):Touch l w w':=(Touch.dC q (List.mem_singleton.2 rfl)).more (by simpa using hk)
theorem lS (w:World)(k:Nat)(row:Array Value):Touch [k] w (w.setRow k row) :=
 have q:=aG (Below.refl k w) (Nat.le_refl _) row
 ⟨q.os,q.tape,q.output,q.size,fun i _ hn=>setRow_other _ _ _ _ (fun e=>hn (by simp [e]))⟩
theorem Touch.mX {l:List Nat}{w a b:World}(h:Touch l w a)(q:Below w.heap.size a b):Touch l w b :=
 ⟨q.os.trans h.os,q.tape.trans h.tape,q.output.trans h.output,Nat.le_trans h.size q.size,fun k hk hn=>(q.block k hk).trans (h.block k hk hn)⟩
theorem PL.ai8 {w:World}{P D n b:Nat}{ks:bY}{F:Nat→Bool}(h:PL w P D n ks F b):w.rangeAt P 1 (aF ks).toList∧w.cell? ⟨P,130,none⟩=some (.int .u64 (b:Int)):=⟨h.keys,h.birth⟩
theorem ac6 (P D gl bm n b a cap:Nat)(vw:Value)(V:bY)(ws:bW)(lim:Int)(dn:Bool)(k m:bY)(F:Nat→Bool)(l:bY)(ad:bO)(w:World)
 (hp:PL w P D n (k++m) F b) (hd:PD w D gl bm n vw V ws lim dn) (hK:KT w) (hk:k.length=32) (hm:m.length=32) (hl:l.length=512) (hB:BS w (.slice ad 512 cap) (l.map yv)) (hb:b<18446744073709551616) (hb0:b ≠ 0) (ha2:2≤a) (Lh:a<n) (hws:ws.length≤1000000) :
 Calls Tryz.prog 108 #[.pointer (some ⟨P,0,none⟩),.int .u32 (a:Int),.slice ad 512 cap] w (agc D gl bm n vw V ws lim dn a (fU k b a l) (eP b a ((fU k b a l).map yv)) w):=by
 have hn:=hp.sp.hi
 have HAN:=hid Lh
 have Nz:=hid hws
 have DN:=hid (jc k b a l hl)
 have hb1:=(Below.refl w.heap.size w).alloc (Nat.le_refl _) (.cells (ag ai).toArray 51)
 have hq0:=heap_alloc_new w (.cells (ag ai).toArray 51)
 have ZM:=hid (fun (W:World) (hW:Below w.heap.size w W)=>ac4 k m b a l ad cap W (hK.below hW hK.pos) hk hm hl (hB.kept hW) hb hb0 ha2 (by omega))
 have xy:=hid (fun (W:World) (hW:Below w.heap.size w W)=>hp.below hW)
 have LJ:=hid (fun (W:World) (hW:Below w.heap.size w W)=>hd.below hW)
 have hz:=dF
 have SZ:=hid (cZ (eP b a ((fU k b a l).map yv)))
 have SZ0:=hid (cZ ai)
 have SE:=hid (show (ag ai).toArray.size=(ag (eP b a ((fU k b a l).map yv))).toArray.size by simp [aO])
 have SO:=hid (aW (eP b a ((fU k b a l).map yv)))
 have SO0:=hid (aW ai)
 have Z4:=hid sZ
 have IK:=hid (Di (k++m) hp.kl)
 generalize fU k b a l=S at *
 generalize eP b a (S.map yv)=PT at *
 generalize Ky:(ag PT).toArray=PR at *
 have Dq:=hid Ky
 generalize Zf:(ag ai).toArray=PZ at *
 have QH:=hid Zf
 generalize hw1:w.alloc (.cells PZ 51)=w1 at *
 have HB1:=hid hb1
 have Ba:=hid hq0
 clear hb1 hq0 Ky Zf hn hp hd hK hk hm hl hB hb hb0 ha2 Lh hws
 go_in
 go_upto_region 1 with fail
 try rw [hw1]
 clear hw1
 have xO:=hid (fun (W:World) (hW:Below w1.heap.size w1 W)=>(xy.out W (HB1.out.trans (hW.mono HB1.out.size))).ai8)
 have Ia:=hid (fun (W:World) (hW:Below w1.heap.size w1 W)=>ZM.out W (HB1.out.trans (hW.mono HB1.out.size)))
 clear ZM
 go_cut [8,9,10] from 12 (fun v8 v9 v10 wc=>∃ c q,v8 = .slice (some ⟨c,0,none⟩) 512 512∧v9 = .pointer (some ⟨q,0,none⟩)∧v10 = .int .i64 0∧SD w1 wc c q S PT)
 case first =>
  try simp only [Act.put]
  refine wp_region_noPanic ?_;refine wp_region_held_drew (S:=fun W=>W.rangeAt P 1 (aF (k++m)).toList∧W.cell? ⟨P,130,none⟩=some (.int .u64 (b:Int))) (by kernel_rfl) (xO.out _ (Below.refl _ w1).drew) (fun hHeld=>?_);refine tR 0 13 (h:=tR 1 14 (h:=tR 2 15 (h:=?_)));refine tK 3 16 _ rfl (yieldsIf_load_mid (by rfl) _ _ rfl P 1 rfl (aF (k++m)).toList _ (fun w' h=>h.1) Tryz.underlying60 rfl IK.out) ?_;try simp only [Act.put,pZ,Array.toArray_toList]
  refine tR 4 17 (h:=tR 5 18 (h:=tR 6 19 (h:=?_)));refine tK 7 20 ?_ rfl (Or.inl ⟨by rfl, ?_⟩) ?_;rotate_left 1
  ·(intro w' hSw; have hc:=hSw.2; clear hSw; go_simp; try with_reducible rfl)
  try simp only [Act.put,pZ]
  refine tR 8 21 (h:=tR 9 22 (h:=?_));clear hHeld;have HB0:=hid (Below.refl w1.heap.size w1).drew;refine wpAnyH_ready (rs:=[10,15]) (by decide +kernel) (by simp) ?_;refine AllReadyH.cons rfl (fun K hK=>?_) (AllReadyH.cons rfl (fun K hK=>?_) AllReadyH.nil)
  ·go_simp
   go_at_call 136
   refine (Ia.out _ HB0.out).mono ?_;intro e wA1 hso;unfold UU at hso;rw [Dq.out] at hso;obtain ⟨cA1,hgc,rfl,hA,hst⟩:=hso;have age:=hid (HB0.out.trans (hst.mono HB0.out.size));have ai9:=hid hA;have anl:=hid (Nat.le_trans HB0.out.size hgc);clear hA hst hgc;go_wp2_with fail;refine hK.out _ _ (xO.out _ age.out) (fun hHeld=>?_);clear hK K;try simp only [Act.put,pZ]
   refine tR 11 12 (h:=tR 12 24 (h:=tR 13 25 (h:=tR 14 26 (h:=?_))));clear hHeld;refine rD 15 rfl fun K hK=>?_;go_simp;have hal:=age.out.alloc age.out.size (.cells PZ 51);have hxl:=heap_alloc_new (wA1) (.cells PZ 51);have hst:=(Below.refl (wA1).heap.size (wA1)).alloc (Nat.le_refl _) (.cells PZ 51);refine hK.out _ _ (xO.out _ hal) (fun hHeld=>?_);clear hK K hHeld;try simp only [Act.put,pZ]
   refine (show ∀ wA2:World,wA2=(wA1).alloc (.cells PZ 51)→_ from ?_) _ rfl;intro wA2 ew;rw [← ew] at hal hxl hst;have anm:=hid (show wA2.heap[wA1.heap.size]? = _ from hxl);have ac7:=hid (show w1.heap.size≤wA1.heap.size from age.out.size);have aja:=hid hal;have ahr:=hid (show cA1 ≠ wA1.heap.size from Nat.ne_of_lt (lt_of_block ai9.out));have ap6:=hid ((hst.block _ (lt_of_block ai9.out)).trans ai9.out);clear ew hal hxl hst;have hHeld:=xO.out _ aja.out;refine tR 16 8 (h:=?_);clear hHeld;refine rD 17 rfl fun K hK=>?_;rw [if_pos (by kernel_rfl)];refine wp_store_row (o:=⟨none,.store _ (.tmp 9) _,_,_,_,_⟩) 51 _ _ rfl (wA1.heap.size) PR rfl rfl 51 PZ (show (wA2).heap[wA1.heap.size]? = _ from anm.out) SZ.out SE.out SO.out ?_;refine hK.out _ _ (xO.out _ (aG aja.out ac7.out PR)) (fun hHeld=>?_);clear hK K;simp only [Act.put];refine tR 18 10 (h:=?_);clear hHeld;refine wpAnyH_done (by decide +kernel) ?_ _;refine NoPanic.normal ?_;go_wp2_with fail;go_meet;exact ⟨cA1,wA1.heap.size,rfl,rfl,rfl,⟨aG aja.out ac7.out PR,(setRow_other _ _ _ _ ahr.out).trans ap6.out,by rw [Dq.out]; exact setRow_heap _ _ _ _ _ _ anm.out,ahr.out,anl.out,ac7.out⟩⟩
  go_simp;have hal:=HB0.out.alloc HB0.out.size (.cells PZ 51);have hxl:=heap_alloc_new (w1.drew) (.cells PZ 51);have hst:=(Below.refl (w1.drew).heap.size (w1.drew)).alloc (Nat.le_refl _) (.cells PZ 51);refine hK.out _ _ (xO.out _ hal) (fun hHeld=>?_);clear hK K hHeld;try simp only [Act.put,pZ]
  refine (show ∀ wB1:World,wB1=(w1.drew).alloc (.cells PZ 51)→_ from ?_) _ rfl;intro wB1 ew;rw [← ew] at hal hxl hst;have ajb:=hid (show wB1.heap[w1.heap.size]? = _ from hxl);have ac8:=hid (show w1.heap.size≤w1.heap.size from HB0.out.size);have agf:=hid hal;clear ew hal hxl hst;refine rD 10 rfl fun K hK=>?_;go_simp;go_at_call 136
  refine (Ia.out _ agf.out).mono ?_;intro e wB2 hso;unfold UU at hso;rw [Dq.out] at hso;obtain ⟨cB2,hgc,rfl,hA,hst⟩:=hso;have ahs:=hid (show cB2 ≠ w1.heap.size from Ne.symm (Nat.ne_of_lt (Nat.lt_of_lt_of_le (lt_of_block ajb.out) hgc)));have ann:=hid ((hst.block _ (lt_of_block ajb.out)).trans ajb.out);have agh:=hid (agf.out.trans (hst.mono agf.out.size));have ap8:=hid hA;have ano:=hid (Nat.le_trans agf.out.size hgc);clear hA hst hgc;go_wp2_with fail;refine hK.out _ _ (xO.out _ agh.out) (fun hHeld=>?_);clear hK K;try simp only [Act.put,pZ]
  refine tR 11 12 (h:=tR 12 24 (h:=tR 13 25 (h:=tR 14 26 (h:=?_))));clear hHeld;have hHeld:=xO.out _ agh.out;refine tR 16 8 (h:=?_);clear hHeld;refine rD 17 rfl fun K hK=>?_;rw [if_pos (by kernel_rfl)];refine wp_store_row (o:=⟨none,.store _ (.tmp 9) _,_,_,_,_⟩) 51 _ _ rfl (w1.heap.size) PR rfl rfl 51 PZ (show (wB2).heap[w1.heap.size]? = _ from ann.out) SZ.out SE.out SO.out ?_;refine hK.out _ _ (xO.out _ (aG agh.out ac8.out PR)) (fun hHeld=>?_);clear hK K;simp only [Act.put];refine tR 18 10 (h:=?_);clear hHeld;refine wpAnyH_done (by decide +kernel) ?_ _;refine NoPanic.normal ?_;go_wp2_with fail;go_meet;exact ⟨cB2,w1.heap.size,rfl,rfl,rfl,⟨aG agh.out ac8.out PR,(setRow_other _ _ _ _ ahs.out).trans ap8.out,by rw [Dq.out]; exact setRow_heap _ _ _ _ _ _ ann.out,ahs.out,ano.out,ac8.out⟩⟩
 case rest =>
  obtain ⟨c,q,rfl,rfl,rfl,hsd⟩:=hcut;obtain ⟨w2,hwc⟩:∃ z:World,z=wc:=⟨_,rfl⟩
  subst hwc;have ND:=hid hsd;clear hsd xO Ia;have HB2:=hid (HB1.out.trans (ND.out.bel.mono HB1.out.size));have HP2:=hid (xy.out w2 HB2.out);have HD2:=hid (LJ.out w2 HB2.out);have IV:=HP2.out.dev;have xK:=hid ((ND.out.bel.block _ (lt_of_block Ba.out)).trans Ba.out);have bn:=hid (Nat.lt_of_lt_of_le (lt_of_block Ba.out) ND.out.qg);have HLD:=hid (fun g hg=>LJ.out w (Below.refl _ _) |>.lt g hg);cases hg:(xx lim dn).2 with
  | true =>
    have HW:=hid (Qo D gl bm n a vw V ws lim dn (some ⟨c,0,none⟩) 512 w2 HD2.out HAN.out hg);have HG:=hid hg;clear hg;go_wp2_with fail;refine HW.out.mono ?_;rintro e w3 ⟨rfl,hd3,ho3⟩;have lg:=hid ((ho3.rest _ (show w.heap.size ≠ D from fun e=>by have:=HLD.out D (by simp [l9]); omega)).trans xK.out);have HD3:=hid hd3;have HT3:=hid ((Touch.of_below (l:=l9 D gl bm vw) HB2.out).trans (U1 ho3 (by simp [l9])));clear hd3 ho3 HW LJ xy;go_wp2_with (first
     | (with_reducible refine bD (o:=⟨some 40,_,_,_,_,_⟩) rfl 51 _ rfl #[] (by simp [Act.eval]) (.agg PZ) (Z4.out _) ?_)
     | (with_reducible refine wpList_store_row (o:=⟨none,.store _ (.tmp 6) _,_,_,_,_⟩) rfl 51 _ _ rfl w.heap.size PZ rfl rfl 51 PZ lg.out SZ0.out rfl SO0.out ?_))
    refine bodyPost_ret (v := .tuple #[.agg PZ,.int .i64 7]) (aj Tryz.results108 _ _ w.heap.size 51 PZ (0,0) _ rfl (setRow_heap _ w.heap.size _ PZ _ _ lg.out) Tryz.underlying51 rfl SZ0.out _ rfl) rfl ?_;have hrow:Below w.heap.size w3 (w3.setRow w.heap.size PZ):=aG (Below.refl _ _) (Nat.le_refl _) _;refine .inl ⟨HG.out,by rw [QH.out], ?_, ?_⟩
    ·exact HD3.out.touch (lS w3 w.heap.size PZ) (fun g hg e=>by simp only [List.mem_singleton] at e; have:=HLD.out g hg; omega)
    exact HT3.out.mX hrow
  | false =>
    obtain ⟨hdn,hlim⟩:=agd hg;subst hdn;have HW:=hid (YY D gl bm n a c 512 vw V S ws lim w2 HD2.out HAN.out ND.out.cy DN.out hlim Nz.out);have HG:=hid hg;clear hg hlim;go_wp2_with fail;refine HW.out.mono ?_;rintro e w3 ⟨rfl,GL,hd3,ht3,hn3⟩;have QI:∀ g,w.heap.size≤g→g ∉ l9 D gl bm vw:=fun g h e=>by have:=HLD.out g e; omega
    have lg:=hid ((ht3.block _ (lt_of_block xK.out) (QI _ (Nat.le_refl _))).trans xK.out);have HR3:=hid (show w3.heap[q]? = some (.cells PR 51 (0,0)) from (ht3.block _ (lt_of_block ND.out.qy) (QI _ (Nat.le_of_lt bn.out))).trans (by rw [← Dq.out]; exact ND.out.qy));have HD3:=hid hd3;have HT3:=hid ((Touch.of_below (l:=l9 D gl bm vw) HB2.out).trans ht3);have Iw:=hid hn3;clear hd3 ht3 hn3 QI HW LJ xy;go_wp2_with (first
     | (with_reducible refine wpList_load_row (o:=⟨some 42,_,_,_,_,_⟩) rfl 51 _ rfl q rfl 51 PR (0,0) _ HR3.out Tryz.underlying51 rfl SZ.out ?_)
     | (with_reducible refine wpList_store_row (o:=⟨none,.store _ (.tmp 6) _,_,_,_,_⟩) rfl 51 _ _ rfl w.heap.size PR rfl rfl 51 PZ lg.out SZ.out SE.out SO.out ?_))
    refine bodyPost_ret (v := .tuple #[.agg PR,.int .i64 0]) (aj Tryz.results108 _ _ w.heap.size 51 PR (0,0) _ rfl (setRow_heap _ w.heap.size _ PR _ _ lg.out) Tryz.underlying51 rfl SZ.out _ rfl) rfl ?_;have hrow:Below w.heap.size w3 (w3.setRow w.heap.size PR):=aG (Below.refl _ _) (Nat.le_refl _) _;have h2:w.heap.size<w2.heap.size:=lt_of_block xK.out;have hown:∀ g,GL.ownBlock=some g→vw.ownBlock=some g∨w2.heap.size≤g:=Iw.out;refine .inr ⟨HG.out,by rw [Dq.out],GL, ?_,HT3.out.mX hrow,fun g hg=>(hown g hg).imp id (fun h=>by omega)⟩;refine HD3.out.touch (lS w3 w.heap.size PR) (fun g hg e=>?_);simp only [List.mem_singleton] at e;subst e;simp only [l9,List.mem_cons,Option.mem_toList] at hg;have hl:=fun g hg=>HLD.out g hg;simp only [l9,List.mem_cons,Option.mem_toList] at hl;rcases hg with h | h | h | h
    ·have:=hl w.heap.size (.inl h); omega
    ·have:=hl w.heap.size (.inr (.inl h)); omega
    ·have:=hl w.heap.size (.inr (.inr (.inl h))); omega
    rcases hown _ h with h | h
    ·have:=hl w.heap.size (.inr (.inr (.inr h))); omega
    omega
theorem Zg {F:Nat→Bool}{a n:Nat}(ha:F a=true)(h2:2≤a)(hn:a<n):E8 n (eG F a false) a=(0,F):=by
 unfold E8;rw [if_neg (by omega),if_neg (by simp [eG])];congr 1;funext x
 unfold eG;by_cases e:x=a
 ·subst e; simp [ha]
 simp [e]
theorem ac9 (E X A:Nat)(u:FrameMode)(w:World)(hE:w.cell? ⟨E,0,none⟩=some (.int .i64 0)) :
 CallsD Tryz.prog 106 #[.pointer (some ⟨E,0,none⟩),.pointer (some ⟨X,0,none⟩),.pointer (some ⟨A,0,none⟩)] u w fun e u' w'=>u'=u∧(e = .returned (.tuple #[])∧w'=w):=by
 go_enter_d Tryz.func106,Tryz.ntmps106
 go_wp2_with fail
 go_end0
 exact ⟨rfl,rfl⟩
theorem Zh (P D n b a E X A:Nat)(ks:bY)(F:Nat→Bool)(r:Int)(u:FrameMode)(w:World)(h:PL w P D n ks F b)(hE:w.cell? ⟨E,0,none⟩=some (.int .i64 r))(hX:w.cell? ⟨X,0,none⟩=some (.pointer (some ⟨P,0,none⟩)))(hA:w.cell? ⟨A,0,none⟩=some (.int .u32 (a:Int)))(hr:r ≠ 0)(hXP:X ≠ P)(hAP:A ≠ P) :
 CallsD Tryz.prog 106 #[.pointer (some ⟨E,0,none⟩),.pointer (some ⟨X,0,none⟩),.pointer (some ⟨A,0,none⟩)] u w fun e u' w'=>u'=u∧(e = .returned (.tuple #[])∧PL w' P D n ks (E8 n F a).2 b∧Touch [P] w w'):=by
 have HF:=hid (Qg P n a F _ _ w.drew (h.below (Below.refl _ _).drew).sp)
 have HK:=hid h.kl
 have xO:=hid (fun (W:World) (hW:Touch [P] w W)=>show W.cell? ⟨X,0,none⟩=some (.pointer (some ⟨P,0,none⟩))∧W.cell? ⟨A,0,none⟩=some (.int .u32 (a:Int)) from by
  unfold World.cell? at hX hA ⊢;rw [hW.block X (block_lt_of_cell hX) (by simpa using hXP),hW.block A (block_lt_of_cell hA) (by simpa using hAP)];exact ⟨hX,hA⟩)
 have HTD:=hid (show Touch [P] w w.drew from Touch.of_below (Below.refl _ _).drew)
 have r0:(r != 0)=true:=by simpa using hr
 clear h hX hA hr
 go_enter_d Tryz.func106,Tryz.ntmps106
 go_upto_region 1 with fail
 try simp only [Act.put]
 refine wp_region_noPanic ?_
 refine wp_region_held_drew (S:=fun W=>W.cell? ⟨X,0,none⟩=some (.pointer (some ⟨P,0,none⟩))∧W.cell? ⟨A,0,none⟩=some (.int .u32 (a:Int))) (by kernel_rfl) (xO.out _ HTD.out) (fun hHeld=>?_)
 refine tK 0 5 ?_ rfl (Or.inl ⟨by rfl, ?_⟩) ?_
 rotate_left 1
 ·(intro w' hSw; have hc:=hSw.1; clear hSw; go_simp; try with_reducible rfl)
 try simp only [Act.put,pZ]
 refine tR 1 6 (h:=tR 2 7 (h:=?_))
 refine tK 3 8 ?_ rfl (Or.inl ⟨by rfl, ?_⟩) ?_
 rotate_left 1
 ·(intro w' hSw; have hc:=hSw.2; clear hSw; go_simp; try with_reducible rfl)
 try simp only [Act.put,pZ]
 clear hHeld
 refine rD 4 rfl fun K hK=>?_
 go_simp
 go_at_call 107
 refine HF.out.mono ?_
 rintro e wt ⟨rfl,hs,ht⟩
 have HQ:=hid (show PL wt P D n ks (E8 n F a).2 b∧Touch [P] w wt from ⟨⟨hs,HK.out⟩,HTD.out.trans ht⟩)
 clear hs ht HF
 go_wp2_with fail
 refine hK.out _ _ (xO.out _ HQ.out.2) (fun hHeld=>?_)
 clear hK K hHeld
 try simp only [Act.put,pZ]
 refine wpAnyH_done (by decide +kernel) ?_ _
 refine NoPanic.normal ?_
 go_wp2_with fail
 go_end0
 exact ⟨rfl,HQ.out.1,HQ.out.2⟩
theorem DJ (w:World)(e:Nat)(ty:TypeId)(k:IntKind)(v:Value)(hu:Tryz.prog.underlying ty=some (.int k))(hc:w.cell? ⟨e,0,none⟩=some v):(loadVar ty ⟨e,0,none⟩).run Tryz.prog w = .ok v w:=by
 simp [loadVar,isAgg,run_underlying hu,go_sem,hc]
theorem qW {fn:Func}{p q:Tmp}(h:fn.results=#[.cell p 51,.cell q 40])(tmps:Array Value)(w:World)(g e:Nat)(t:TypeId)(x:ay)(fr:Nat×Nat)
 (hp:tmps.getD p undef = .pointer (some ⟨g,0,none⟩)) (hg:w.heap[g]? = some (.cells (ag x).toArray t fr)) (v:Value) (hq:tmps.getD q undef = .pointer (some ⟨e,0,none⟩)) (hc:w.cell? ⟨e,0,none⟩=some v) :
 (results fn tmps).run Tryz.prog w = .ok (.tuple #[.agg (ag x).toArray,v]) w:=by
 have hp':tmps[p]?.getD undef = .pointer (some ⟨g,0,none⟩):=by simpa using hp
 have hq':tmps[q]?.getD undef = .pointer (some ⟨e,0,none⟩):=by simpa using hq
 have r1:=run_loadVar_row (P:=Tryz.prog) w g t 51 _ fr _ hg Tryz.underlying51 rfl (cZ x)
 have r2:=DJ w e 40 _ v Tryz.underlying40 hc
 simp [results,h,hp',hq',asAddr,r1,r2]
theorem JW (w:World)(a b c:Obj):∀ W,W=((w.alloc a).alloc b).alloc c→W.heap[w.heap.size]? = some a∧W.heap[w.heap.size+1]? = some b∧W.heap[w.heap.size+1+1]? = some c∧W.heap.size=w.heap.size+3∧Below w.heap.size w W:=by
 rintro W rfl;have s1:(w.alloc a).heap.size=w.heap.size+1:=by simp
 have s2:((w.alloc a).alloc b).heap.size=w.heap.size+2:=by simp
 refine ⟨?_, ?_, ?_,by simp,((((Below.refl w.heap.size w).alloc (Nat.le_refl _) a).alloc (by omega) b).alloc (by omega) c)⟩
 ·rw [heap_alloc_old _ _ (by omega),heap_alloc_old _ _ (by omega)]; exact heap_alloc_new _ _
 ·rw [heap_alloc_old _ _ (by omega),← s1]; exact heap_alloc_new _ _
 rw [← s2]; exact heap_alloc_new _ _
theorem KT.agj {w w':World}{l:List Nat}(h:KT w)(t:Touch l w w')(hg:2 ∉ l):KT w' :=
 ⟨Nat.lt_of_lt_of_le h.1 t.size,fun i hi=>by
   have:=h.2 i hi;unfold World.cell? at this ⊢;rw [t.block _ h.1 hg]; exact this⟩
theorem JX (w:World)(E:Nat)(x u v:Value)(te ta:TypeId)(hE:w.heap[E]? = some (.cells #[u] te (0,0))):∀ W,W=(w.alloc (.cells #[x] ta)).setCell ⟨E,0,none⟩ v →
 W.heap[E]? = some (.cells #[v] te (0,0))∧W.heap[w.heap.size]? = some (.cells #[x] ta (0,0))∧Touch [E] w W∧W.heap.size=w.heap.size+1:=by
 rintro W rfl
 have hlt:=lt_of_block hE
 have h1:(w.alloc (.cells #[x] ta)).heap[E]? = some (.cells #[u] te (0,0)):=(heap_alloc_old _ _ hlt).trans hE
 have q:=(Only.refl E (w.alloc (.cells #[x] ta))).setCell 0 v
 refine ⟨?_, ?_, ?_, ?_⟩
 ·rw [heap_setCell_same _ _ _ _ _ _ h1]; rfl
 ·rw [q.rest _ (by omega)]; exact heap_alloc_new _ _
 ·exact (Touch.of_below ((Below.refl w.heap.size w).alloc (Nat.le_refl _) _)).trans (Touch.dC q (List.mem_singleton.2 rfl))
 ·rw [q.size]; simp
theorem xm (w:World)(Q E:Nat)(R0 R:Array Value)(u v:Value)(tq te:TypeId)(hQ:w.heap[Q]? = some (.cells R0 tq (0,0)))(hE:w.heap[E]? = some (.cells #[u] te (0,0)))(hne:E ≠ Q):∀ W,W=(w.setRow Q R).setCell ⟨E,0,none⟩ v →
 W.heap[Q]? = some (.cells R tq (0,0))∧W.heap[E]? = some (.cells #[v] te (0,0))∧Touch [Q,E] w W:=by
 rintro W rfl
 have h1:(w.setRow Q R).heap[E]? = some (.cells #[u] te (0,0)):=(setRow_other _ _ _ _ hne).trans hE
 have q:=(Only.refl E (w.setRow Q R)).setCell 0 v
 refine ⟨?_, ?_, ?_⟩
 ·rw [q.rest _ (Ne.symm hne)]; exact setRow_heap _ _ _ _ _ _ hQ
 ·rw [heap_setCell_same _ _ _ _ _ _ h1]; rfl
 ·exact ((lS w Q R).more (by simp)).trans ((Touch.dC (l:=[E]) q (List.mem_singleton.2 rfl)).more (by simp))
theorem ed {w:World}{b t:Nat}{v:Value}(h:w.heap[b]? = some (.cells #[v] t (0,0))):w.cell? ⟨b,0,none⟩=some v∧w.frozen? ⟨b,0,none⟩=false:=⟨by rw [cell_of_row _ _ _ _ _ _ h]; rfl,frozen_of_row _ _ _ _ _ h⟩
def JY (P D gl bm n b:Nat)(vw:Value)(V:bY)(ws:bW)(lim:Int)(dn:Bool)(a:Nat)(ks:bY)(F:Nat→Bool)(S:bY)(PT:ay)(w:World)(e:Ending)(w':World):Prop :=
 ((xx lim dn).2=true∧e = .returned (.tuple #[.agg (ag ai).toArray,.int .i64 7])∧PD w' D gl bm n vw V ws (xx lim dn).1 true∧PL w' P D n ks F b∧Touch (P::l9 D gl bm vw) w w') ∨
 ((xx lim dn).2=false∧e = .returned (.tuple #[.agg (ag PT).toArray,.int .i64 0])∧PL w' P D n ks (eG F a false) b∧∃ GL,PD w' D gl bm n GL V (ws++[(a,S)]) (xx lim dn).1 false∧Touch (P::l9 D gl bm vw) w w'∧∀ g,GL.ownBlock=some g→vw.ownBlock=some g∨w.heap.size≤g)
theorem QJ (P D n b:Nat)(ks:bY)(F:Nat→Bool)(v:Value)(w:World)(hp:PL w P D n ks F b)(hF:∀ a,F a=false) :
 Calls Tryz.prog 79 #[.pointer (some ⟨P,0,none⟩),v] w fun e w'=>e = .returned (.tuple #[.agg (ag ai).toArray,.int .i64 6])∧Below w.heap.size w w':=by
 have xy:=hid (fun (W:World) (hW:Below w.heap.size w W)=>MQ P n F _ _ W (hp.below hW).sp hF)
 have hz:=dF
 have Z4:=hid sZ
 have SZ:=hid (cZ ai)
 have SO:=hid (aW ai)
 have hmf:∀ (fn:Fn) (first cap:Array Value) (w:World),(Instr.makeFunc fn first cap).run Tryz.prog w = .ok (.func fn first cap) w:=fun _ _ _ _=>rfl
 obtain ⟨hX,hQ,hE,hsz,hb⟩:=JW w (.cells #[.pointer (some ⟨P,0,none⟩)] 26) (.cells (ag ai).toArray 51) (.cells #[.int .i64 0] 40) _ rfl
 clear hp hF
 generalize Zf:(ag ai).toArray=PZ at *
 generalize hw3:((w.alloc (.cells #[.pointer (some ⟨P,0,none⟩)] 26)).alloc (.cells PZ 51)).alloc (.cells #[.int .i64 0] 40)=w3 at *
 have hcX:w3.cell? ⟨w.heap.size,0,none⟩=some (.pointer (some ⟨P,0,none⟩)):=by rw [cell_of_row _ _ _ _ _ _ hX]; rfl
 have hcE:w3.cell? ⟨w.heap.size+1+1,0,none⟩=some (.int .i64 0):=by rw [cell_of_row _ _ _ _ _ _ hE]; rfl
 have hfE:w3.frozen? ⟨w.heap.size+1+1,0,none⟩=false:=frozen_of_row _ _ _ _ _ hE
 have hcA:∀ o,(w3.alloc o).cell? ⟨w.heap.size+1+1,0,none⟩=some (.int .i64 0):=fun o=>(World.cell?_alloc_past _ _ _ (block_lt_of_cell hcE)).trans hcE
 have hfA:∀ o,(w3.alloc o).frozen? ⟨w.heap.size+1+1,0,none⟩=false:=fun o=>frozen_of_row _ _ _ _ _ ((heap_alloc_old _ _ (Array.getElem?_eq_some_iff.1 hE).1).trans hE)
 have HE:=hid hE
 have HQ:=hid hQ
 have kG:=hid hsz
 have HB:=hid hb
 have QH:=hid Zf
 clear hX hQ hE hsz hb Zf
 go_enter_defers Tryz.func79,Tryz.ntmps79
 go_upto_region 1 with fail
 try rw [hw3]
 clear hw3 hz
 go_wp2_with fail
 refine (xy.out w3 HB.out).mono ?_
 rintro e w4 ⟨rfl,rfl⟩
 clear xy
 go_upto_region 3 with fail
 have hE4:=HE.out
 generalize hw6:(w4.alloc (.cells #[.int .u32 0] 46)).setCell ⟨w.heap.size+1+1,0,none⟩ (.int .i64 6)=w6
 obtain ⟨he6,_,PN,_⟩:=JX w4 _ _ _ _ _ _ hE4 w6 hw6.symm
 have Z5:=hid he6
 have kR:=hid ((PN.block _ (lt_of_block HQ.out) (by simp)).trans HQ.out)
 have lu:=hid (HB.out.trans (PN.below HB.out.size (by simp; omega)))
 clear hw6 he6 PN hE4 hcX hcE hfE hcA hfA
 have xO:=hid (fun (W:World) (hW:W.heap[w.heap.size+1+1]? = w6.heap[w.heap.size+1+1]?)=>ed (hW.trans Z5.out))
 try simp only [Act.put]
 refine wp_region_noPanic ?_
 refine wp_region_held_drew (S:=fun W=>W.cell? ⟨w.heap.size+1+1,0,none⟩=some (.int .i64 6)∧W.frozen? ⟨w.heap.size+1+1,0,none⟩=false) (by kernel_rfl) (xO.out w6.drew rfl) (fun hHeld=>?_)
 refine tK 0 16 _ rfl (uF (by rfl) 51 #[] rfl #[] (.agg PZ) (by simp [Act.eval]) (fun W=>Z4.out W)) ?_
 try simp only [Act.put,pZ]
 refine tK 1 17 ?_ rfl (Or.inl ⟨by rfl, ?_⟩) ?_
 rotate_left 1
 ·(intro w' hSw; have hc:=hSw.1; clear hSw; go_simp; try with_reducible rfl)
 try simp only [Act.put,pZ]
 clear hHeld
 refine rD 2 rfl fun K hK=>?_
 refine wp_store_row (o:=⟨none,.store _ (.tmp 4) _,_,_,_,_⟩) 51 _ _ rfl (w.heap.size+1) PZ rfl rfl 51 PZ (show w6.drew.heap[w.heap.size+1]? = _ from kR.out) SZ.out rfl SO.out ?_
 refine hK.out _ _ (xO.out _ (setRow_other _ _ _ _ (by omega))) (fun hHeld=>?_)
 clear hK K
 simp only [Act.put]
 refine rD 3 rfl fun K hK=>?_
 have hc:=hHeld.1
 have hf:=hHeld.2
 go_simp
 refine hK.out _ _ (ed (xm w6 (w.heap.size+1) (w.heap.size+1+1) PZ PZ _ (.int .i64 6) _ _ kR.out Z5.out (by omega) _ rfl).2.1) (fun hHeld=>?_)
 clear hK K hHeld hc hf
 try simp only [Act.put,pZ]
 refine wpAnyH_done (by decide +kernel) ?_ _
 refine NoPanic.normal ?_
 generalize Rn:(w6.drew.setRow (w.heap.size+1) PZ).setCell ⟨w.heap.size+1+1,0,none⟩ (.int .i64 6)=w9
 obtain ⟨hq9,he9,Z7⟩:=xm w6.drew (w.heap.size+1) (w.heap.size+1+1) PZ PZ _ (.int .i64 6) _ _ kR.out Z5.out (by omega) w9 Rn.symm
 have hb9:Below w.heap.size w w9:=(lu.out.trans ((Below.refl _ _).drew)).trans (Z7.below (by have:=lu.out.size; exact this) (by simp; omega))
 clear Rn Z7
 rw [← QH.out] at hq9
 go_wp2_with fail
 refine ⟨_,qW Tryz.results79 _ _ _ _ _ ai _ rfl hq9 _ rfl (ed he9).1, ?_,hb9⟩
 rw [QH.out]
theorem U2 (P D gl bm n b a cap:Nat)(vw:Value)(V:bY)(ws:bW)(lim:Int)(dn:Bool)(k m:bY)(F:Nat→Bool)(l:bY)(ad:bO)(w:World)
 (hp:PL w P D n (k++m) F b) (hd:PD w D gl bm n vw V ws lim dn) (hne:P ∉ l9 D gl bm vw) (hK:KT w) (hT:TZ w) (hKP:P ≠ 2) (hk:k.length=32) (hm:m.length=32) (hl:l.length=512) (hB:BS w (.slice ad 512 cap) (l.map yv)) (hBP:∀ W,Touch [P] w W→BS W (.slice ad 512 cap) (l.map yv)) (hb:b<18446744073709551616) (hb0:b ≠ 0) (hF:F a=true) (hlow:∀ x,x<a→F x=false) (hws:ws.length≤1000000) :
 Calls Tryz.prog 79 #[.pointer (some ⟨P,0,none⟩),.slice ad 512 cap] w (JY P D gl bm n b vw V ws lim dn a (k++m) F (fU k b a l) (eP b a ((fU k b a l).map yv)) w):=by
 have hr:=hp.sp.own a hF
 have HAN:=hid hr
 have HFA:=hid hF
 have xy:=hid (fun (W:World) (hW:Below w.heap.size w W)=>UH P n a F _ _ W (hp.below hW).sp (hT.below hW) hF hlow)
 have anu:=hid (fun (W:World) (hW:Touch [P] w W) (hq:PL W P D n (k++m) (eG F a false) b)=>ac6 P D gl bm n b a cap vw V ws lim dn k m (eG F a false) l ad W hq (hd.touch hW (fun g hg e=>by simp only [List.mem_singleton] at e; exact hne (e ▸ hg))) (hK.agj hW (by simpa using fun e=>hKP e.symm)) hk hm hl (hBP W hW) hb hb0 hr.1 hr.2 hws)
 have HLD:=hid (fun g hg=>hd.lt g hg)
 have Hz:=hid hne
 have zY:=hid hp.lt
 have Ap:=hid hp.kl
 have hz:=dF
 have hmf:∀ (fn:Fn) (first cap:Array Value) (w:World),(Instr.makeFunc fn first cap).run Tryz.prog w = .ok (.func fn first cap) w:=fun _ _ _ _=>rfl
 have SZ:=hid cZ
 have SO:=hid aW
 have SL:=hid (fun x y:ay=>show (ag x).toArray.size=(ag y).toArray.size by simp [aO])
 obtain ⟨hX,hQ,hE,hsz,hb1⟩:=JW w (.cells #[.pointer (some ⟨P,0,none⟩)] 26) (.cells (ag ai).toArray 51) (.cells #[.int .i64 0] 40) _ rfl
 clear hp hd hne hK hT hKP hk hm hl hB hBP hb hb0 hF hlow hws hr
 generalize fU k b a l=S at *
 generalize eP b a (S.map yv)=PT at *
 generalize k++m=KS at *
 generalize Zf:(ag ai).toArray=PZ at *
 generalize hw3:((w.alloc (.cells #[.pointer (some ⟨P,0,none⟩)] 26)).alloc (.cells PZ 51)).alloc (.cells #[.int .i64 0] 40)=w3 at *
 have hcX:w3.cell? ⟨w.heap.size,0,none⟩=some (.pointer (some ⟨P,0,none⟩)):=(ed hX).1
 have HX:=hid hX
 have HE:=hid hE
 have HQ:=hid hQ
 have kG:=hid hsz
 have HB:=hid hb1
 have QH:=hid Zf
 clear hX hQ hE hsz hb1 Zf
 go_enter_defers Tryz.func79,Tryz.ntmps79
 go_upto_region 1 with fail
 try rw [hw3]
 clear hw3 hz
 go_wp2_with fail
 refine (xy.out w3 HB.out).mono ?_
 rintro e w4 ⟨rfl,hs4,UG⟩
 have anv:=hid UG.size
 have Au:=hid (show PL w4 P D n KS (eG F a false) b from ⟨hs4,Ap.out⟩)
 have HT4:=hid ((Touch.of_below (l:=[P]) HB.out).trans UG)
 have HX4:=hid ((UG.block _ (lt_of_block HX.out) (by have:=zY.out; simp; omega)).trans HX.out)
 have HE4:=hid ((UG.block _ (lt_of_block HE.out) (by have:=zY.out; simp; omega)).trans HE.out)
 have nC:=hid ((UG.block _ (lt_of_block HQ.out) (by have:=zY.out; simp; omega)).trans HQ.out)
 have hcA:∀ o,(w4.alloc o).cell? ⟨w.heap.size+1+1,0,none⟩=some (.int .i64 0):=fun o=>(ed ((heap_alloc_old _ _ (Array.getElem?_eq_some_iff.1 HE4.out).1).trans HE4.out)).1
 have hfA:∀ o,(w4.alloc o).frozen? ⟨w.heap.size+1+1,0,none⟩=false:=fun o=>(ed ((heap_alloc_old _ _ (Array.getElem?_eq_some_iff.1 HE4.out).1).trans HE4.out)).2
 clear xy hs4 UG hcX HX HE HQ
 go_upto_region 2 with fail
 have hE4:=HE4.out
 generalize hw6:(w4.alloc (.cells #[.int .u32 (a:Int)] 46)).setCell ⟨w.heap.size+1+1,0,none⟩ (.int .i64 0)=w6
 obtain ⟨he6,ha6,PN,hs6⟩:=JX w4 _ _ _ _ _ _ hE4 w6 hw6.symm
 have hge:=HT4.out.size
 have h3:=kG.out
 have hA3:w.heap.size+3≤w4.heap.size:=by rw [← h3]; exact anv.out
 obtain ⟨A,hA⟩:∃ A,w4.heap.size=A:=⟨_,rfl⟩
 rw [hA] at ha6 hA3 ⊢
 have wE:=hid hA3
 have Z5:=hid he6
 have HA6:=hid ha6
 have kR:=hid ((PN.block _ (lt_of_block nC.out) (by simp)).trans nC.out)
 have HX6:=hid ((PN.block _ (lt_of_block HX4.out) (by simp; omega)).trans HX4.out)
 have U3:=hid (Au.out.touch PN (by have:=zY.out; simp; omega))
 have OL:=hid (HT4.out.mX (PN.below hge (by simp; omega)))
 clear hw6 he6 ha6 PN hs6 hE4 hA hA3 hge h3 HE4 nC HX4 Au HT4 hcA hfA kG anv
 have hcE:=(ed Z5.out).1
 have hcA:=(ed HA6.out).1
 have hcX:=(ed HX6.out).1
 go_wp2_with fail
 refine (anu.out w6 OL.out U3.out).mono ?_
 intro e w7 hl
 clear anu hcE hcA hcX
 have QI:∀ g,w.heap.size≤g→g ∉ l9 D gl bm vw:=fun g h e=>by have:=HLD.out g e; omega
 rcases hl with ⟨hg,rfl,hd7,Gu⟩ | ⟨hg,rfl,GL,hd7,Gu,hn7⟩
 ·have HP7:=hid (U3.out.touch Gu Hz.out)
  have HE7:=hid ((Gu.block _ (lt_of_block Z5.out) (QI _ (by omega))).trans Z5.out);have HA7:=hid ((Gu.block _ (lt_of_block HA6.out) (QI _ (by have:=wE.out; omega))).trans HA6.out);have Ee:=hid ((Gu.block _ (lt_of_block kR.out) (QI _ (by omega))).trans kR.out);have HX7:=hid ((Gu.block _ (lt_of_block HX6.out) (QI _ (by omega))).trans HX6.out);have HT7:=hid ((OL.out.more (m:=P::l9 D gl bm vw) (by simp)).trans (Gu.more (fun x hx=>List.mem_cons_of_mem _ hx)));have HD7:=hid hd7;have HG:=hid hg;have hE8:(w7.setRow (w.heap.size+1) PZ).heap[w.heap.size+1+1]? = some (.cells #[.int .i64 0] 40 (0,0)):=(setRow_other _ _ _ _ (by omega)).trans HE7.out;have aqa:=(ed hE8).1;have aqb:=(ed hE8).2;clear hg hd7 Gu QI U3 Z5 HA6 kR HX6 OL hE8;rw [QH.out];go_wp2_with (first
   | (with_reducible refine wpList_store_row (o:=⟨none,.store _ (.tmp 4) _,_,_,_,_⟩) rfl 51 _ _ rfl (w.heap.size+1) PZ rfl rfl 51 PZ Ee.out (by rw [← QH.out]; exact SZ.out _) rfl (by rw [← QH.out]; exact SO.out _) ?_))
  generalize Rn:(w7.setRow (w.heap.size+1) PZ).setCell ⟨w.heap.size+1+1,0,none⟩ (.int .i64 7)=w9;obtain ⟨hq9,he9,Z7⟩:=xm w7 (w.heap.size+1) (w.heap.size+1+1) PZ PZ _ (.int .i64 7) _ _ Ee.out HE7.out (by omega) w9 Rn.symm;have hPn:P ∉ [w.heap.size+1,w.heap.size+1+1]:=by have:=zY.out; simp; omega
  have hX9:=(Z7.block _ (lt_of_block HX7.out) (by simp; omega)).trans HX7.out;have hA9:=(Z7.block _ (lt_of_block HA7.out) (by have:=wE.out; simp; omega)).trans HA7.out;have hP9:=HP7.out.touch Z7 hPn;refine leaves_cons (f:=106) (args:=#[.pointer (some ⟨w.heap.size+1+1,0,none⟩),.pointer (some ⟨w.heap.size,0,none⟩),.pointer (some ⟨A,0,none⟩)]) (by simp) (by simp [go_sem]) ?_;refine (Zh P D n b a (w.heap.size+1+1) w.heap.size A KS (eG F a false) 7 .returning w9 hP9 (ed he9).1 (ed hX9).1 (ed hA9).1 (by decide) (by have:=zY.out; omega) (by have:=zY.out; have:=wE.out; omega)).mono ?_;rintro e u' w10 ⟨rfl,rfl,anz,agk⟩;rw [Zg HFA.out HAN.out.1 HAN.out.2] at anz;have hq10:=(agk.block _ (lt_of_block hq9) (by have:=zY.out; simp; omega)).trans hq9;have aqe:=(agk.block _ (lt_of_block he9) (by have:=zY.out; simp; omega)).trans he9;have hd10:=(HD7.out.touch Z7 (fun g hg e=>by have:=HLD.out g hg; simp at e; omega)).touch agk (fun g hg e=>by simp only [List.mem_singleton] at e; exact Hz.out (e ▸ hg));have ht:=(HT7.out.mX (Z7.below HT7.out.size (by simp; omega))).trans (agk.more (m:=P::l9 D gl bm vw) (by simp));rw [← QH.out] at hq10;exact ⟨_,qW Tryz.results79 _ _ _ _ _ ai _ rfl hq10 _ rfl (ed aqe).1,.inl ⟨HG.out,rfl,hd10,anz,ht⟩⟩
 ·have HP7:=hid (U3.out.touch Gu Hz.out)
  have HE7:=hid ((Gu.block _ (lt_of_block Z5.out) (QI _ (by omega))).trans Z5.out);have Ee:=hid ((Gu.block _ (lt_of_block kR.out) (QI _ (by omega))).trans kR.out);have HT7:=hid ((OL.out.more (m:=P::l9 D gl bm vw) (by simp)).trans (Gu.more (fun x hx=>List.mem_cons_of_mem _ hx)));have HD7:=hid hd7;have HN7:=hid (fun g hg=>(hn7 g hg).imp id (fun h=>Nat.le_trans (lt_of_block Z5.out) h));have HG:=hid hg;obtain ⟨PR,Ky⟩:∃ PR,(ag PT).toArray=PR:=⟨_,rfl⟩
  have Dq:=hid Ky;have hE8:(w7.setRow (w.heap.size+1) PR).heap[w.heap.size+1+1]? = some (.cells #[.int .i64 0] 40 (0,0)):=(setRow_other _ _ _ _ (by omega)).trans HE7.out;have aqa:=(ed hE8).1;have aqb:=(ed hE8).2;rw [Ky];clear hg hd7 Gu QI U3 Z5 HA6 kR HX6 OL hE8 hn7 Ky;go_wp2_with (first
   | (with_reducible refine wpList_store_row (o:=⟨none,.store _ (.tmp 4) _,_,_,_,_⟩) rfl 51 _ _ rfl (w.heap.size+1) PR rfl rfl 51 PZ Ee.out (by rw [← Dq.out]; exact SZ.out _) (by rw [← Dq.out,← QH.out]; exact SL.out _ _) (by rw [← Dq.out]; exact SO.out _) ?_))
  generalize Rn:(w7.setRow (w.heap.size+1) PR).setCell ⟨w.heap.size+1+1,0,none⟩ (.int .i64 0)=w9;obtain ⟨hq9,he9,Z7⟩:=xm w7 (w.heap.size+1) (w.heap.size+1+1) PZ PR _ (.int .i64 0) _ _ Ee.out HE7.out (by omega) w9 Rn.symm;have hPn:P ∉ [w.heap.size+1,w.heap.size+1+1]:=by have:=zY.out; simp; omega
  have hP9:=HP7.out.touch Z7 hPn;refine leaves_cons (f:=106) (args:=#[.pointer (some ⟨w.heap.size+1+1,0,none⟩),.pointer (some ⟨w.heap.size,0,none⟩),.pointer (some ⟨A,0,none⟩)]) (by simp) (by simp [go_sem]) ?_;refine (ac9 (w.heap.size+1+1) w.heap.size A .returning w9 (ed he9).1).mono ?_;rintro e u' w10 ⟨rfl,rfl,rfl⟩;have hd9:=HD7.out.touch Z7 (fun g hg e=>by
   simp only [l9,List.mem_cons,Option.mem_toList] at hg;have hl:=fun g hg=>HLD.out g hg;simp only [l9,List.mem_cons,Option.mem_toList] at hl;have hlt:g<w.heap.size∨w.heap.size+1+1<g:=by
    rcases hg with h | h | h | h
    ·exact .inl (hl g (.inl h))
    ·exact .inl (hl g (.inr (.inl h)))
    ·exact .inl (hl g (.inr (.inr (.inl h))))
    rcases HN7.out g h with h | h
    ·exact .inl (hl g (.inr (.inr (.inr h))))
    exact .inr h
   simp at e;omega)
  have ht:=HT7.out.mX (Z7.below HT7.out.size (by simp; omega));rw [← Dq.out] at hq9;refine ⟨_,qW Tryz.results79 _ _ _ _ _ PT _ rfl hq9 _ rfl (ed he9).1,.inr ⟨HG.out,rfl,hP9,GL,hd9,ht,fun g hg=>(HN7.out g hg).imp id (fun h=>by omega)⟩⟩
end Go.Proofs.YtljjcbmkbmloaaaGreatDoor
