import Derived.Test.YtljjcbmkbmloaaaGreatDoorGTu15
import Derived.Test.YtljjcbmkbmloaaaGreatDoorGTu25
import Derived.Test.YtljjcbmkbmloaaaGreatDoorGTuA
namespace Go.Proofs.YtljjcbmkbmloaaaGreatDoor
set_option maxHeartbeats 3200000
set_option maxRecDepth 100000
set_option linter.unusedVariables false
open Lib (hid)
open Go.ChangeShapes Go.WideShapes Go.ChangeAt Go.RowKit
theorem nz (LQ:ay→az→Prop)(w:World)(ok:Nat→Prop)(d:Nat)(T:Kd (d+1)):Rt.at_ LQ w ok (some ⟨d,T⟩)=TR LQ w ok (d+1) T:=rfl
theorem Eb {LQ:ay→az→Prop}{w w':World}{ok ok':Nat→Prop}{R:Rt}(h:R.at_ LQ w ok)(hb:∀ k,ok k→k<w.heap.size→w'.heap[k]? = w.heap[k]?)(hq:∀ k,ok k→k<w.heap.size→ok' k):R.at_ LQ w' ok':=by
 cases R with
 | none=>trivial
 | some q =>
   obtain ⟨d,T⟩:=q;rw [nz] at h ⊢;exact (h.bound.keep (fun k hk=>hb k hk.1 hk.2)).more (fun _ _ h=>h) (fun k hk=>hq k hk.1 hk.2)
theorem nP.mono {LQ:ay→az→Prop}{ok ok':Nat→Prop}{B m m':Nat}{l:List bH}{w w0:World}{e:Ending}{w':World}(h:nP LQ ok B l m w e w')(hm:m≤m')(hq:∀ k,(ok k∨w.heap.size≤k)→ok' k∨w0.heap.size≤k) :
 ∃ R:Rt,e = .returned (.pointer R.ptr)∧R.wf∧R.at_ LQ w' (fun k=>ok' k∨w0.heap.size≤k)∧R.cn=l∧R.fr≤m'∧Below B w w':=by
 obtain ⟨R,h1,h2,h3,h4,h5,h6⟩:=h
 refine ⟨R,h1,h2, ?_,h4,Nat.le_trans h5 hm,h6⟩
 exact Eb h3 (fun _ _ _=>rfl) (fun k hk _=>hq k hk)
theorem UD (LQ:ay→az→Prop)(ok:Nat→Prop)(d:Nat)(c:Cg)(M:Its d)(va:bO)(S:Its (d+1))(w0 w:World)(hb:Below w0.heap.size w0 w)(hok:∀ k,ok k→k<w0.heap.size)(hA:Alt d c aY aY aY M S)(hS:jQ LQ w (fun k=>ok k∨w0.heap.size≤k) d va S.length S)(hn:∀ b,va=some b→w0.heap.size≤b.block∧∀ x ∈ S,TR LQ w (fun k=>(ok k∨w0.heap.size≤k)∧k ≠ b.block) (d+1) x.2.2)(hF:bf d M+4 * d+10≤1000000) :
 Calls Tryz.prog 70 #[.slice va S.length S.length] w fun e w'=>∃ R:Rt,e = .returned (.pointer R.ptr)∧R.wf∧R.at_ LQ w' (fun k=>ok k∨w0.heap.size≤k)∧R.cn=c.app (cont d M)∧R.fr≤bf d M+4 * d+3∧Below w0.heap.size w w':=by
 have Bq:=hA.jl
 have hcont:=hA.cont
 have hsz:=hb.size
 rcases hS.row with ⟨rfl,rfl⟩ | ⟨vb,rfl,hvo,hv,hne⟩
 ·refine (P6 LQ ok w0.heap.size w).mono (fun e w' h=>?_)
  have h':=h.mono (w0:=w0) (ok':=ok) (m':=bf d M+4 * d+3) (Nat.zero_le _) (fun k hk=>hk.imp id (fun e=>by omega));rw [← hcont];exact h'
 ·obtain ⟨hvB,hT⟩:=hn _ rfl
  have hq:∀ k,((((ok k∨w0.heap.size≤k))∧k<w.heap.size)∨w.heap.size≤k)→ok k∨w0.heap.size≤k:=fun k hk=>by
   rcases hk with e | e
   ·exact e.1
   right; omega
  have hst:=hA.st hne;have hnew:=hA.new;revert hst Bq hcont hv hT hnew
  match S,hne with
  | [x],_ =>
    intro Bq hcont hv hT hst hnew;obtain ⟨l',hl'⟩:=hnew x (by simp);cases hst with
    | one _ e1 e2 hw =>
      refine (Uz LQ (fun k=>(ok k∨w0.heap.size≤k)∧k<w.heap.size) d w0.heap.size vb x l' w hv ((hT x (by simp)).bound.more (fun _ _ h=>h) (fun k hk=>⟨hk.1.1,hk.2⟩)) hl' hw).mono (fun e w' h=>?_);have h':=h.mono (w0:=w0) (ok':=ok) (m':=bf d M+4 * d+3) (by
       have:bf (d+1) [x]=jl (d+1) x.2.2+0:=rfl
       omega) hq
      rw [← hcont,fP];exact h'
  | [x,y],_ =>
    intro Bq hcont hv hT hst hnew;refine (UA LQ (fun k=>(ok k∨w0.heap.size≤k)∧k<w.heap.size) d w0.heap.size vb x y w hsz hvB hv (fun z hz=>(hT z hz).bound.more (fun _ _ h=>h) (fun k hk=>⟨⟨hk.1.1,hk.2⟩,hk.1.2⟩)) (fun k hk=>hk.2) ⟨hvo,lt_of_block hv⟩ hst (by omega)).mono (fun e w' h=>?_);have h':=h.mono (w0:=w0) (ok':=ok) (m':=bf d M+4 * d+3) (by omega) hq;rw [← hcont];exact h'
  | x::y::z::r,_ =>
    intro Bq hcont hv hT hst hnew;cases hst
structure gW (LQ:ay→az→Prop)(ok:Nat→Prop)(w:World)(t P:Nat)(R:Rt):Prop where
 blk:w.heap[t]? = some (.cells #[.pointer (some ⟨P,0,none⟩),.pointer R.ptr] 94 (0,0))
 at_:R.at_ LQ w ok
 wf:R.wf
 ok:∀ k,ok k→k<w.heap.size
def qC (LQ:ay→az→Prop)(ok:Nat→Prop)(P:Nat)(c:Cg)(R:Rt)(w:World)(e:Ending)(w':World):Prop :=
 (c.err R.cn ≠ 0∧e = .returned (.tuple #[.pointer none,.int .i64 (c.err R.cn)]) ∨
   c.err R.cn=0∧∃ t' R',e = .returned (.tuple #[.pointer (some ⟨t',0,none⟩),.int .i64 0])∧w.heap.size≤t'∧gW LQ (fun k=>(ok k∨w.heap.size≤k)∧k<w'.heap.size) w' t' P R'∧R'.cn=c.app R.cn∧R'.fr≤R.fr+4 * R.dp+3)∧Below w.heap.size w w'
theorem qE (LQ:ay→az→Prop)(ok:Nat→Prop)(t P d:Nat)(c:Cg)(M:Its d)(R:Rt)(dv:Value)(key:ByteArray)(w:World)(ht:gW LQ ok w t P R)(hM:cont d M=R.cn)(hf:bf d M≤R.fr)(hd:d≤R.dp)(hF:R.fr+4 * R.dp+10≤1000000)
 (ha:Calls Tryz.prog 69 #[.pointer (some ⟨t,0,none⟩),.agg #[.string aY,.string aY,.pointer R.ptr],.agg #[.string aY,.string aY],.string key,dv] w fun e w'=>mQ LQ ok d c aY aY aY M w e w') :
 Calls Tryz.prog 50 #[.pointer (some ⟨t,0,none⟩),.string key,dv] w fun e w'=>qC LQ ok P c R w e w':=by
 have HA:=hid ha
 have c0:=cell_of_row w t 0 _ _ _ ht.blk
 have c1:=cell_of_row w t 1 _ _ _ ht.blk
 obtain ⟨E,hE⟩:∃ E,c.err R.cn=E:=⟨_,rfl⟩
 have HE:=hid hE
 have HM:=hid (And.intro hM (And.intro hf (And.intro hd hF)))
 have qP:=hid ht.ok
 have kZ:=hid (lt_of_block ht.blk)
 clear ha hE hM hf hd hF ht
 go_in
 go_wp2_with fail
 refine HA.out.mono ?_
 rintro e w1 ⟨hq,hb⟩
 rw [HM.out.1,HE.out] at hq
 have HB:=hid hb
 have kp:=ae c0 (hb.block _ (block_lt_of_cell c0))
 clear hb c0 c1
 rcases hq with ⟨hE0,rfl⟩ | ⟨hE0,va,S,rfl,hal,hst,hnw⟩
 ·go_wp2_with fail
  go_ret2;exact ⟨.inl ⟨by rw [HE.out]; exact hE0,by rw [HE.out]; rfl⟩,HB.out⟩
 ·have HR:=hid (fun (W:World) (hW:Below w1.heap.size w1 W)=>UD LQ ok d c M va S w W (aJ HB.out hW) qP.out hal ⟨hst.row.imp id (fun ⟨vb,h1,h2,h3,h4⟩=>⟨vb,h1,h2,(hW.block _ (lt_of_block h3)).trans h3,h4⟩),fun x hx=>((hst.kids x hx).bound.keep (fun k hk=>hW.block k hk.2)).more (fun _ _ h=>h) (fun k hk=>hk.1)⟩ (fun b e=>⟨(hnw b e).1,fun x hx=>(((hnw b e).2 x hx).bound.keep (fun k hk=>hW.block k hk.2)).more (fun _ _ h=>h) (fun k hk=>hk.1)⟩) (by have:=HM.out; omega))
  rw [HM.out.1] at HR;have YL:=hid hE0;obtain ⟨u,hu⟩:∃ u,S.length=u:=⟨_,rfl⟩
  rw [hu] at HR ⊢;clear hE0 hal hst hnw hu;go_upto_region 4 with fail
  try simp only [Act.put]
  refine wp_region_noPanic ?_;refine wp_region_held_drew (S:=fun W=>W.cell? ⟨t,0,none⟩=some (.pointer (some ⟨P,0,none⟩))) (by kernel_rfl) kp (fun hHeld=>?_);refine tR 0 26 (h:=tR 1 27 (h:=tR 2 28 (h:=?_)));refine tK 3 29 (.pointer (some ⟨P,0,none⟩)) rfl (Or.inl ⟨by rfl, ?_⟩) ?_
  ·(intro w' hSw; have q0:=hSw; go_simp; try with_reducible rfl)
  try simp only [Act.put,pZ]
  refine tR 4 30 (h:=?_);refine rD 5 rfl fun K hK=>?_;go_simp;go_at_call 70
  refine (HR.out w1.drew (Below.refl _ w1).drew).mono ?_;rintro e w2 ⟨R',rfl,hwf,hat,hcn,hfr,hb2⟩;have HR2:=hid (And.intro hwf (And.intro hat (And.intro hcn hfr)));have HB2:=hid (HB.out.drew.trans hb2);have kp2:=(Below.cell (p:=⟨t,0,none⟩) (hb2) (kZ.out)).trans kp;clear hwf hat hcn hfr hb2;go_wp2_with fail;refine hK.out _ _ (kp2) (fun hHeld=>?_);clear hK K;try simp only [Act.put,pZ]
  refine tR 6 32 (h:=?_);have hal:=aK w2 (.cells #[.pointer (some ⟨P,0,none⟩),.pointer R'.ptr] 94);have jv:=hid (show qC LQ ok P c R w (.returned (.tuple #[.pointer (some ⟨w2.heap.size,0,none⟩),.int .i64 0])) (w2.alloc (.cells #[.pointer (some ⟨P,0,none⟩),.pointer R'.ptr] 94)) from by
   obtain ⟨hwf,hat,hcn,hfr⟩:=HR2.out;refine ⟨.inr ⟨by rw [HE.out]; exact YL.out,w2.heap.size,R',rfl,HB2.out.size,⟨ah w2 _, ?_,hwf,fun k hk=>hk.2⟩,hcn,by have:=HM.out; omega⟩,aJ HB2.out hal⟩;cases R' with
   | none=>trivial
   | some q =>
     obtain ⟨q1,q2⟩:=q;rw [nz] at hat ⊢;exact (hat.bound.keep (fun k hk=>hal.block k hk.2)).more (fun _ _ h=>h) (fun k hk=>⟨hk.1,Nat.lt_of_lt_of_le hk.2 hal.size⟩))
  refine rD 7 rfl fun K hK=>?_;go_simp;refine hK.out _ _ (ae kp2 (hal.block _ (block_lt_of_cell kp2))) (fun hHeld=>?_);clear hK K;try simp only [Act.put,pZ]
  refine tR 8 6 (h:=tR 9 7 (h:=?_));refine wpAnyH_done (by decide +kernel) ?_ _;refine NoPanic.normal ?_;go_wp2_with fail;go_ret2;exact jv.out
def jf (k:ByteArray):Bool:=decide (0<k.size) && decide (k.size≤32)
theorem yJ (k:ByteArray)(w:World)(hk:k.size≤1000000):Calls Tryz.prog 48 #[.string k] w fun e w'=>e = .returned (.bool (jf k))∧w'=w:=by
 have HM:=hid (show jf k=(decide (0<k.size) && decide (k.size≤32)) from rfl);have kI:(k.size:Int)≤1000000:=by omega
 obtain ⟨n,hn⟩:∃ n,k.size=n:=⟨_,rfl⟩
 by_cases h0:0<n
 ·have h0I:(0:Int)<(n:Int):=by omega
  by_cases h1:n≤32
  ·have h1I:(n:Int)≤32:=by omega
   rw [hn,decide_eq_true h0,decide_eq_true h1] at HM;clear h0 h1;go_in;go_wp2_with (simp only [hn])
   go_ret;exact ⟨by rw [HM.out]; rfl,rfl⟩
  have h1I:¬ ((n:Int)≤32):=by omega
  rw [hn,decide_eq_true h0,decide_eq_false h1] at HM;clear h0 h1;go_in;go_wp2_with (simp only [hn])
  go_ret;exact ⟨by rw [HM.out]; rfl,rfl⟩
 obtain rfl:n=0:=by omega
 rw [hn,decide_eq_false h0] at HM;clear h0;go_in;go_wp2_with (simp only [hn])
 go_ret;exact ⟨by rw [HM.out]; rfl,rfl⟩
theorem gW.below {LQ:ay→az→Prop}{ok:Nat→Prop}{w w':World}{t P:Nat}{R:Rt}(h:gW LQ ok w t P R)(q:Below w.heap.size w w'):gW LQ ok w' t P R :=
 ⟨(q.block t (lt_of_block h.blk)).trans h.blk,Eb h.at_ (fun k hk hl=>q.block k hl) (fun k hk _=>hk),h.wf,fun k hk=>Nat.lt_of_lt_of_le (h.ok k hk) q.size⟩
theorem qC.down {LQ:ay→az→Prop}{ok:Nat→Prop}{P:Nat}{c:Cg}{R:Rt}{w w1:World}{e:Ending}{w':World}(hb:Below w.heap.size w w1)(h:qC LQ ok P c R w1 e w'):qC LQ ok P c R w e w':=by
 refine ⟨h.1.imp id (fun ⟨h1,t',R',h2,h3,h4,h5,h6⟩=>⟨h1,t',R',h2,Nat.le_trans hb.size h3,⟨h4.blk, ?_,h4.wf,fun k hk=>hk.2⟩,h5,h6⟩),aJ hb h.2⟩;have hs:=hb.size;exact Eb h4.at_ (fun _ _ _=>rfl) (fun k hk _=>⟨hk.1.imp id (fun e=>by omega),hk.2⟩)
theorem Qa (LQ:ay→az→Prop)(ok:Nat→Prop)(t P:Nat)(R:Rt)(k v:ByteArray)(bk bv:Nat)(w:World)(ht:gW LQ ok w t P R)(hr:RD LQ w P)(hk:w.cell? ⟨bk,0,none⟩=some (.string k))(hv:w.cell? ⟨bv,0,none⟩=some (.string v))(hks:1≤k.size∧k.size≤32)(hvs:v.size≤96)(hF:R.fr+4 * R.dp+10≤1000000) :
 Calls Tryz.prog 50 #[.pointer (some ⟨t,0,none⟩),.string k,.func (.func 51) #[] #[.pointer (some ⟨bk,0,none⟩),.pointer (some ⟨bv,0,none⟩)]] w fun e w'=>qC LQ ok P (.put k v) R w e w':=by
 cases R with
 | none =>
   exact qE LQ ok t P 0 (.put k v) ([]:Its 0) none _ k w ht rfl (Nat.le_refl _) (Nat.le_refl _) hF
    (IM LQ ok _ (.put k v) bk bv aY aY k w (fun W hW=>afQ k v bk bv W ((hW.cell (block_lt_of_cell hk)).trans hk) ((hW.cell (block_lt_of_cell hv)).trans hv) hks hvs))
 | some q =>
   obtain ⟨d,T⟩:=q;have hF':jl (d+1) T+4 * d+10≤1000000:=hF;have hit:=nK T;exact qE LQ ok t P d (.put k v) (its T) (some ⟨d,T⟩) _ k w ht rfl hit (Nat.le_refl _) hF
    (Bz LQ t P _ (.put k v) _ _ (YM LQ t P _ (.put k v) bk bv) d T ok aY aY aY aY w ht.blk hr ht.at_ ht.ok ht.wf ⟨oh _,.inl rfl⟩ (by omega)
      (fun W g cc L f s hW hO hc hc2 hL hs=>aiJ k v bk bv g cc L f s W ((hW.cell (block_lt_of_cell hk)).trans hk) ((hW.cell (block_lt_of_cell hv)).trans hv) hO hc hc2 hL hs hks hvs))
theorem Qb (LQ:ay→az→Prop)(ok:Nat→Prop)(t P:Nat)(R:Rt)(k:ByteArray)(bk:Nat)(w:World)(ht:gW LQ ok w t P R)(hr:RD LQ w P)(hk:w.cell? ⟨bk,0,none⟩=some (.string k))(hF:R.fr+4 * R.dp+10≤1000000) :
 Calls Tryz.prog 50 #[.pointer (some ⟨t,0,none⟩),.string k,.func (.func 54) #[] #[.pointer (some ⟨bk,0,none⟩)]] w fun e w'=>qC LQ ok P (.del k) R w e w':=by
 cases R with
 | none =>
   exact qE LQ ok t P 0 (.del k) ([]:Its 0) none _ k w ht rfl (Nat.le_refl _) (Nat.le_refl _) hF
    (IQ LQ ok _ (.del k) bk aY aY k w (fun W hW=>afR k bk W ((hW.cell (block_lt_of_cell hk)).trans hk)))
 | some q =>
   obtain ⟨d,T⟩:=q;have hF':jl (d+1) T+4 * d+10≤1000000:=hF;have hit:=nK T;exact qE LQ ok t P d (.del k) (its T) (some ⟨d,T⟩) _ k w ht rfl hit (Nat.le_refl _) hF
    (Bz LQ t P _ (.del k) _ _ (YN LQ t P _ (.del k) bk) d T ok aY aY aY aY w ht.blk hr ht.at_ ht.ok ht.wf ⟨oh _,.inl rfl⟩ (by omega)
      (fun W g cc L f s hW hO hc hc2 hL hs=>aiK k bk g cc L f s W ((hW.cell (block_lt_of_cell hk)).trans hk) hO hc hc2 hL))
def Ec (LQ:ay→az→Prop)(ok:Nat→Prop)(P:Nat)(may:Bool)(c:Cg)(R:Rt)(w:World)(e:Ending)(w':World):Prop :=
 if may=true then qC LQ ok P c R w e w' else e = .returned (.tuple #[.pointer none,.int .i64 2])∧Below w.heap.size w w'
theorem acD (LQ:ay→az→Prop)(ok:Nat→Prop)(t P:Nat)(R:Rt)(k v:ByteArray)(w:World)(ht:gW LQ ok w t P R)(hr:RD LQ w P)(hks:k.size≤1000000)(hvs:v.size≤1000000)(hF:R.fr+4 * R.dp+10≤1000000) :
 Calls Tryz.prog 27 #[.pointer (some ⟨t,0,none⟩),.string k,.string v] w fun e w'=>Ec LQ ok P (jf k && decide (v.size≤96)) (.put k v) R w e w':=by
 have HB:=hid (aJ (aK w (.cells #[.string k] 9)) (aK _ (.cells #[.string v] 9)))
 have k0:=cell_of_row (w.alloc (.cells #[.string k] 9)) w.heap.size 0 _ _ _ (ah w _)
 have k1:=ae k0 ((aK _ (.cells #[.string v] 9)).block _ (block_lt_of_cell k0))
 have hv0:=ah (w.alloc (.cells #[.string k] 9)) (.cells #[.string v] 9)
 rw [show (w.alloc (.cells #[.string k] 9)).heap.size=w.heap.size+1 by simp] at hv0
 have v1:=cell_of_row _ (w.heap.size+1) 0 _ _ _ hv0
 have Ar:=hid (fun W=>yJ k W hks)
 have IU:=hid (show ∀ b,jf k=b→b=true→1≤k.size∧k.size≤32 from fun b hb h=>by
  subst hb;unfold jf at h;simp at h;omega)
 have Ws:=hid (fun (h1:1≤k.size∧k.size≤32) (h2:v.size≤96)=>Qa LQ ok t P R k v w.heap.size (w.heap.size+1) _ (ht.below HB.out) (hr.below HB.out) k1 v1 h1 h2 hF)
 have vI:(v.size:Int)≤1000000:=by omega
 generalize hmk:jf k=mk at *
 clear ht hr hks hF k0 k1 v1 hv0 hvs
 cases mk with
 | false =>
   go_in;go_wp2_with fail;refine (Ar.out _).mono ?_;rintro e w1 ⟨rfl,hw1⟩;subst hw1;go_wp2_with fail;go_ret2;exact ⟨rfl,HB.out⟩
 | true =>
   have h1:=IU.out true rfl rfl;by_cases h2:v.size≤96
   ·have HC:=hid (Ws.out h1 h2)
    rw [decide_eq_true h2];have h2I:¬ ((96:Int)<(v.size:Int)):=by omega
    clear Ws h1 IU h2;go_in;go_wp2_with fail;refine (Ar.out _).mono ?_;rintro e w1 ⟨rfl,hw1⟩;subst hw1;go_wp2_with fail;refine HC.out.mono ?_;rintro e w2 hq;have hq:=hq.down HB.out;rcases hq with ⟨⟨hE,rfl⟩ | ⟨hE,t',R',rfl,hrest⟩,hbb⟩
    ·have jv:=hid (And.intro hE hbb)
     clear hE hbb;go_wp2_with fail;go_ret2;exact ⟨.inl ⟨jv.out.1,rfl⟩,jv.out.2⟩
    have jv:=hid (And.intro hE (And.intro hrest hbb));clear hE hbb hrest;go_wp2_with fail;go_ret2;exact ⟨.inr ⟨jv.out.1,t',R',rfl,jv.out.2.1⟩,jv.out.2.2⟩
   rw [decide_eq_false h2];have h2I:(96:Int)<(v.size:Int):=by omega
   clear Ws h1 IU h2;go_in;go_wp2_with fail;refine (Ar.out _).mono ?_;rintro e w1 ⟨rfl,hw1⟩;subst hw1;go_wp2_with fail;go_ret2;exact ⟨rfl,HB.out⟩
theorem acE (LQ:ay→az→Prop)(ok:Nat→Prop)(t P:Nat)(R:Rt)(k:ByteArray)(w:World)(ht:gW LQ ok w t P R)(hr:RD LQ w P)(hks:k.size≤1000000)(hF:R.fr+4 * R.dp+10≤1000000) :
 Calls Tryz.prog 28 #[.pointer (some ⟨t,0,none⟩),.string k] w fun e w'=>Ec LQ ok P (jf k) (.del k) R w e w':=by
 have HB:=hid (aK w (.cells #[.string k] 9))
 have k0:=cell_of_row (w.alloc (.cells #[.string k] 9)) w.heap.size 0 _ _ _ (ah w _)
 have Ar:=hid (fun W=>yJ k W hks)
 have HC:=hid (Qb LQ ok t P R k w.heap.size _ (ht.below HB.out) (hr.below HB.out) k0 hF)
 generalize hmk:jf k=mk at *
 clear ht hr hks hF k0
 cases mk with
 | false =>
   go_in;go_wp2_with fail;refine (Ar.out _).mono ?_;rintro e w1 ⟨rfl,hw1⟩;subst hw1;go_wp2_with fail;go_ret2;exact ⟨rfl,HB.out⟩
 | true =>
   go_in;go_wp2_with fail;refine (Ar.out _).mono ?_;rintro e w1 ⟨rfl,hw1⟩;subst hw1;go_wp2_with fail;refine HC.out.mono ?_;rintro e w2 hq;have hq:=hq.down HB.out;rcases hq with ⟨⟨hE,rfl⟩ | ⟨hE,t',R',rfl,hrest⟩,hbb⟩
   ·have jv:=hid (And.intro hE hbb)
    clear hE hbb;go_wp2_with fail;go_ret2;exact ⟨.inl ⟨jv.out.1,rfl⟩,jv.out.2⟩
   have jv:=hid (And.intro hE (And.intro hrest hbb));clear hE hbb hrest;go_wp2_with fail;go_ret2;exact ⟨.inr ⟨jv.out.1,t',R',rfl,jv.out.2.1⟩,jv.out.2.2⟩
theorem CQ:∀ k x:List UInt8,x<k++[0]→¬ x<k→x=k
 | [], [],_,_=>rfl
 | [],y::r,h,_=>by
   rw [List.nil_append,List.cons_lt_cons_iff] at h;rcases h with h | ⟨_,h⟩
   ·exact absurd h (by simp [UInt8.lt_iff_toNat_lt])
   exact absurd h (List.not_lt_nil _)
 | a::k, [],_,h=>absurd (List.nil_lt_cons a k) h
 | a::k,b::x,h,h2=>by
   rw [List.cons_append,List.cons_lt_cons_iff] at h;rw [List.cons_lt_cons_iff] at h2;rcases h with h | ⟨rfl,h⟩
   ·exact absurd (.inl h) h2
   rw [CQ k x h (fun e=>h2 (.inr ⟨rfl,e⟩))]
theorem Gy (k:ByteArray):(xG k).toList=k.toList++[0]:=by
 unfold xG;rw [Lib.toList_data,Lib.toList_data,ByteArray.data_append,Array.toList_append]
theorem Wu (k:ByteArray):lo k (xG k)=true:=by
 rw [vH,Gy,decide_eq_true_iff];generalize k.toList=l;induction l with
 | nil=>exact List.nil_lt_cons 0 []
 | cons a l ih=>rw [List.cons_append,List.cons_lt_cons_iff]; exact .inr ⟨rfl,ih⟩
theorem afV (k x:ByteArray):qN (k,xG k) x=decide (x=k):=by
 by_cases h:x=k
 ·subst h
  rw [decide_eq_true rfl];exact DZ.2 ⟨dP _,.inr (Wu _)⟩
 rw [decide_eq_false h];cases e:qN (k,xG k) x with
 | false=>rfl
 | true =>
   exfalso;obtain ⟨h1,h2⟩:=DZ.1 e;rcases h2 with h2 | h2
   ·have:=Wu k
    rw [h2,oh] at this;cases this
   rw [vH,Gy,decide_eq_true_iff] at h2;rw [vH,decide_eq_false_iff_not] at h1;have e3:=CQ _ _ h2 h1;rw [Lib.toList_data,Lib.toList_data] at e3;exact h (ByteArray.ext (Array.toList_inj.1 e3))
def nR (k:ByteArray)(l:List bH):List bH:=l.filter (fun x=>decide (x.1=k))
theorem YP (k:ByteArray)(l:List bH):gV (k,xG k) l=nR k l:=List.filter_congr (fun x _=>afV k x.1)
theorem JL (LQ:ay→az→Prop)(ok:Nat→Prop)(t P:Nat)(R:Rt)(f s:ByteArray)(w:World)(ht:gW LQ ok w t P R)(hr:RD LQ w P)(hc:R.cn.length≤100000) :
 Calls Tryz.prog 37 #[.pointer (some ⟨t,0,none⟩),.pointer R.ptr,.agg #[.string f,.string s]] w fun e w'=>kF w (gV (f,s) R.cn) e w':=by
 cases R with
 | none=>exact ab8 _ f s w
 | some q =>
   obtain ⟨d,T⟩:=q;have h:=ht.at_;rw [nz] at h;exact ab7 LQ t P _ d T ok f s w ht.blk hr h ht.ok ⟨_,_,ht.wf⟩ hc
theorem JM (LQ:ay→az→Prop)(ok:Nat→Prop)(t P:Nat)(R:Rt)(f s:ByteArray)(w:World)(ht:gW LQ ok w t P R)(hr:RD LQ w P)(hc:R.cn.length≤100000) :
 Calls Tryz.prog 12 #[.pointer (some ⟨t,0,none⟩),.string f,.string s] w fun e w'=>kF w (gV (f,s) R.cn) e w':=by
 have HS:=hid (JL LQ ok t P R f s w ht hr hc)
 have c0:=cell_of_row w t 0 _ _ _ ht.blk
 have c1:=cell_of_row w t 1 _ _ _ ht.blk
 clear ht hr hc
 go_in
 go_wp2_with fail
 refine HS.out.mono ?_
 rintro e w1 ⟨v,rfl,hv,hb⟩
 have HF:=hid (And.intro hv hb)
 clear hv hb
 go_wp2_with fail
 go_ret2
 exact ⟨_,rfl,HF.out.1,HF.out.2⟩
def GetPost (may:Bool)(K:List bH)(w:World)(e:Ending)(w':World):Prop :=
 e = .returned (.tuple (if may=true then (match K with | []=>#[.string aY,.int .i64 8] | x::_=>#[.string x.2,.int .i64 0]) else #[.string aY,.int .i64 2]))∧Below w.heap.size w w'
theorem acF (b len cap:Nat)(h:0<len)(W:World):(Instr.indexAt 30 (.slice (some ⟨b,0,none⟩) len cap) (.int .i64 0)).run Tryz.prog W = .ok (.pointer (some ⟨b,0,none⟩)) W:=by
 obtain ⟨i0,hi,hs⟩:=Option.map_eq_some_iff.1 (show (Tryz.prog.info? 75).map (·.size)=some 2 by kernel_rfl);simp [Instr.indexAt,asIntOf,run_underlying Tryz.underlying30,sizeOf,typeInfo,hi,h,Addr.add_mid]
theorem acG (LQ:ay→az→Prop)(ok:Nat→Prop)(t P:Nat)(R:Rt)(k:ByteArray)(w:World)(ht:gW LQ ok w t P R)(hr:RD LQ w P)(hc:R.cn.length≤100000)(hk:k.size≤1000000) :
 Calls Tryz.prog 26 #[.pointer (some ⟨t,0,none⟩),.string k] w fun e w'=>GetPost (jf k) (nR k R.cn) w e w':=by
 have Ar:=hid (fun W=>yJ k W hk)
 have IU:=hid (show ∀ b,jf k=b→b=true→1≤k.size∧k.size≤32 from fun b hb h=>by
  subst hb;unfold jf at h;simp at h;omega)
 have HS:=hid (fun (W:World) (hW:Below w.heap.size w W)=>JL LQ ok t P R k (xG k) W (ht.below hW) (hr.below hW) hc)
 rw [YP] at HS
 have c0:=cell_of_row w t 0 _ _ _ ht.blk
 have c1:=cell_of_row w t 1 _ _ _ ht.blk
 generalize hmk:jf k=mk at *
 clear ht hr hc hk
 cases mk with
 | false =>
   go_in;go_wp2_with fail;refine (Ar.out _).mono ?_;rintro e w1 ⟨rfl,hw1⟩;subst hw1;go_wp2_with fail;go_ret2;exact ⟨rfl,Below.refl _ _⟩
 | true =>
   have h1:=IU.out true rfl rfl;have HON:=hid (fun W=>abN k W (by omega));clear IU h1;go_in;go_wp2_with fail;refine (Ar.out _).mono ?_;rintro e w1 ⟨rfl,hw1⟩;subst hw1;go_upto_region 5 with fail
   try simp only [Act.put]
   refine wp_region_noPanic ?_;refine wp_region_held_drew (S:=fun W=>Below w1.heap.size w1 W) (by kernel_rfl) (Below.refl _ w1).drew (fun hHeld=>?_);refine tR 0 14 (h:=tR 1 15 (h:=tR 2 16 (h:=tR 3 17 (h:=?_))));refine tK 4 18 (.pointer R.ptr) rfl (Or.inl ⟨by rfl, ?_⟩) ?_
   ·(intro w' hSw; have q0:=ae c1 (hSw.block _ (block_lt_of_cell c1)); go_simp; try with_reducible rfl)
   try simp only [Act.put,pZ]
   refine tR 5 19 (h:=?_);refine rD 6 rfl fun K hK=>?_;go_simp;go_at_call 49
   refine (HON.out _).mono ?_;rintro e v1 ⟨rfl,hbv⟩;have zM:=hid (show Below w1.heap.size w1 v1 from (Below.refl w1.heap.size w1).drew.trans hbv);clear hbv;go_wp2_with fail;refine hK.out _ _ (zM.out) (fun hHeld=>?_);clear hK K;try simp only [Act.put,pZ]
   refine rD 7 rfl fun K hK=>?_;go_simp;go_at_call 37
   refine (HS.out v1 zM.out).mono ?_;rintro e w2 ⟨v,rfl,hv,hb2⟩;have HV:=hid hv;have HB:=hid (aJ zM.out hb2);clear hv hb2;go_wp2_with fail;refine hK.out _ _ (HB.out) (fun hHeld=>?_);clear hK K;try simp only [Act.put,pZ]
   refine tR 8 13 (h:=tR 9 22 (h:=tR 10 23 (h:=tR 11 6 (h:=tR 12 7 (h:=?_)))));refine wpAnyH_done (by decide +kernel) ?_ _;refine NoPanic.normal ?_;obtain ⟨a,c,rfl,hca⟩:=HV.out.shape;generalize hG:nR k R.cn=G at *;cases G with
   | nil =>
     have HP:=hid (show GetPost true (nR k R.cn) w1 (.returned (.tuple #[.string aY,.int .i64 8])) w2 from by rw [hG]; exact ⟨by simp,HB.out⟩);clear hca;go_wp2_with fail;go_ret2;exact HP.out
   | cons x r =>
     rcases D8 HV.out with ⟨_,e0⟩ | ⟨X,c',e1,hX⟩
     ·cases e0
     injection e1 with e1 e2 e3;subst e1 e3;have hx1:=hX 1 (.string x.2) rfl;have hn0:¬ (((x::r).length:Int)=0):=by simp; omega
     have hn1:0<(x::r).length:=by simp
     obtain ⟨u,hu⟩:∃ u,(x::r).length=u:=⟨_,rfl⟩
     rw [hu] at hn0 hn1 ⊢;have hix:=acF X u c hn1;have HP:=hid (show GetPost true (nR k R.cn) w1 (.returned (.tuple #[.string x.2,.int .i64 0])) w2 from by rw [hG]; exact ⟨by simp,HB.out⟩);clear hX hca hu e2;go_wp2_with fail;go_ret2;exact HP.out
theorem Qc (LQ:ay→az→Prop)(ok:Nat→Prop)(t P:Nat)(R:Rt)(w:World)(ht:gW LQ ok w t P R) :
 Calls Tryz.prog 24 #[.pointer (some ⟨t,0,none⟩)] w fun e w'=>e = .returned (.int .i64 (R.fr:Nat))∧w'=w:=by
 have c0:=cell_of_row w t 0 _ _ _ ht.blk
 have c1:=cell_of_row w t 1 _ _ _ ht.blk
 cases R with
 | none =>
   have c1':w.cell? ⟨t,1,none⟩=some (.pointer none):=c1;clear c1 ht;go_in;go_wp2_with fail;go_ret;exact ⟨rfl,rfl⟩
 | some q =>
   obtain ⟨d,T⟩:=q;have h:=ht.at_;rw [nz] at h;have f1:=h.fresh.1;have c1':w.cell? ⟨t,1,none⟩=some (.pointer (some ⟨pK T,0,none⟩)):=c1;have HF:=hid (show Rt.fr (some ⟨d,T⟩)=jl (d+1) T from rfl);obtain ⟨F,hF⟩:∃ F,jl (d+1) T=F:=⟨_,rfl⟩
   rw [hF] at f1 HF;clear c1 ht h hF;go_in;go_wp2_with fail;go_ret;exact ⟨by rw [HF.out]; rfl,rfl⟩
theorem zS (W:World):(Instr.build 51 #[]).run Tryz.prog W = .ok (.agg (ag ai).toArray) W:=by kernel_rfl
def Gz (P:Nat)(q:ay)(w:World)(e:Ending)(w':World):Prop :=
 ∃ t,∃ root:bO,e = .returned (.tuple #[.pointer (some ⟨t,0,none⟩),.int .i64 0])∧w.heap.size≤t∧w'.heap[t]? = some (.cells #[.pointer (some ⟨P,0,none⟩),.pointer root] 94 (0,0))∧(q.ad=0∧root=none∨q.ad ≠ 0∧∃ b,root=some ⟨b,0,none⟩∧w.heap.size≤b∧kL w' b q false (.slice none 0 0) 0)∧Below w.heap.size w w'
theorem BA (P:Nat)(q:ay)(w:World) :
 Calls Tryz.prog 20 #[.pointer (some ⟨P,0,none⟩),.agg (ag q).toArray] w fun e w'=>Gz P q w e w':=by
 have HL:=hid (fun W=>Bl q W)
 have HS:=hid (bz q)
 generalize (ag q).toArray=R at HL HS ⊢
 have hn:=ah w (.cells R 51)
 go_in
 go_wp2_with (first
  | (with_reducible refine wpList_load_row (o:=⟨some 9,_,_,_,_,_⟩) rfl 51 _ rfl w.heap.size rfl 51 R (0,0) _ hn Tryz.underlying51 rfl HS.out ?_))
 refine (HL.out _).mono ?_
 rintro e w1 ⟨hq,hb⟩
 have HB:=hid (aJ (aK w _) hb)
 have TE:=hid (Nat.le_trans (aK w (.cells R 51)).size (Nat.le_refl _))
 clear hb hn
 rcases hq with ⟨h0,rfl⟩ | ⟨h0,b,rfl,hbl,htw⟩
 ·have H0:=hid h0
  clear h0;go_wp2_with fail;go_ret2;exact ⟨_,none,rfl,HB.out.size,ah w1 _,.inl ⟨H0.out,rfl⟩,aJ HB.out (aK w1 _)⟩
 ·have H0:=hid (And.intro h0 (And.intro hbl htw))
  clear h0 hbl htw;go_wp2_with fail;go_ret2;exact ⟨_,some ⟨b,0,none⟩,rfl,HB.out.size,ah w1 _,.inr ⟨H0.out.1,b,rfl,Nat.le_trans TE.out H0.out.2.1,((aK w1 _).block b (lt_of_block H0.out.2.2)).trans H0.out.2.2⟩,aJ HB.out (aK w1 _)⟩
theorem acH (P:Nat)(w:World) :
 Calls Tryz.prog 31 #[.pointer (some ⟨P,0,none⟩)] w fun e w'=>∃ t,e = .returned (.tuple #[.pointer (some ⟨t,0,none⟩),.int .i64 0])∧w.heap.size≤t∧w'.heap[t]? = some (.cells #[.pointer (some ⟨P,0,none⟩),.pointer none] 94 (0,0))∧Below w.heap.size w w':=by
 have HO:=hid (BA P ai w)
 have hb:=zS
 generalize (ag ai).toArray=R at HO hb
 go_in
 go_wp2_with (first
  | (refine bD (o:=⟨some 5,_,_,_,_,_⟩) rfl _ _ rfl #[] (by simp [Act.eval]) _ (hb _) ?_))
 refine HO.out.mono ?_
 rintro e w1 ⟨t,root,rfl,h1,h2,h3,h4⟩
 have h5:root=none:=by
  rcases h3 with h3 | h3
  ·exact h3.2
  exact absurd rfl h3.1
 subst h5
 have HF:=hid (And.intro h1 (And.intro h2 h4))
 clear h1 h2 h3 h4
 go_wp2_with fail
 go_ret2
 exact ⟨t,rfl,HF.out.1,HF.out.2.1,HF.out.2.2⟩
structure Qd (w:World)(a:bO)(K:List bH):Prop where
 at_:∀ i x,K[i]? = some x→∃ g o,a=some ⟨g,o,none⟩∧w.cell? ⟨g,o+i * 2,none⟩=some (.string x.1)∧w.cell? ⟨g,o+i * 2+1,none⟩=some (.string x.2)
theorem Qd.below {w w':World}{a:bO}{K:List bH}(h:Qd w a K)(q:Below w.heap.size w w'):Qd w' a K :=
 ⟨fun i x hx=>by
   obtain ⟨g,o,e,h1,h2⟩:=h.at_ i x hx;exact ⟨g,o,e,ae h1 (q.block _ (block_lt_of_cell h1)),ae h2 (q.block _ (block_lt_of_cell h2))⟩⟩
theorem sJ.ks {w:World}{B:Nat}{v:Value}{K:List bH}(h:sJ w B v K):∃ a c,v = .slice a K.length c∧Qd w a K:=by
 rcases D8 h with ⟨rfl,rfl⟩ | ⟨X,c,rfl,hX⟩
 ·exact ⟨none,0,rfl,⟨fun i x hx=>by simp at hx⟩⟩
 refine ⟨_,c,rfl,⟨fun i x hx=>⟨X,0,rfl, ?_, ?_⟩⟩⟩
 ·rw [Nat.zero_add]
  refine hX _ _ ?_;exact (zT K i x hx).1
 rw [Nat.zero_add];refine hX _ _ ?_;exact (zT K i x hx).2
where zT:∀ (K:List bH) (i:Nat) (x:bH),K[i]? = some x→(gI K)[i * 2]? = some (.string x.1)∧(gI K)[i * 2+1]? = some (.string x.2)
 | [],i,x,h=>by simp at h
 | y::K,0,x,h=>by
   obtain rfl:y=x:=by simpa using h
   exact ⟨rfl,rfl⟩
 | y::K,i+1,x,h=>by
   have:=zT K i x (by simpa using h);show (Gg y++gI K)[(i+1) * 2]? = _∧(Gg y++gI K)[(i+1) * 2+1]? = _;have e:(Gg y).length=2:=rfl;rw [List.getElem?_append_right (by rw [e]; omega),List.getElem?_append_right (by rw [e]; omega),e,show (i+1) * 2 - 2=i * 2 by omega,show (i+1) * 2+1 - 2=i * 2+1 by omega];exact this
theorem oW (b off len cap i:Nat)(h:i<len)(W:World):(Instr.indexAt 30 (.slice (some ⟨b,off,none⟩) len cap) (.int .i64 (i:Int))).run Tryz.prog W = .ok (.pointer (some ⟨b,off+i * 2,none⟩)) W:=by
 obtain ⟨i0,hi,hs⟩:=Option.map_eq_some_iff.1 (show (Tryz.prog.info? 75).map (·.size)=some 2 by kernel_rfl);simp [Instr.indexAt,asIntOf,run_underlying Tryz.underlying30,sizeOf,typeInfo,hi,hs,h,Addr.add_mid]
theorem rX (k:ByteArray)(w:World)(hk:k.size≤1000000):Calls Tryz.prog 29 #[.string k] w fun e w'=>e = .returned (.bool (jf k))∧w'=w:=by
 have HM:=hid (show jf k=(decide (0<k.size) && decide (k.size≤32)) from rfl);have kI:(k.size:Int)≤1000000:=by omega
 obtain ⟨n,hn⟩:∃ n,k.size=n:=⟨_,rfl⟩
 by_cases h0:0<n
 ·have h0I:(1:Int)≤(n:Int):=by omega
  by_cases h1:n≤32
  ·have h1I:(n:Int)≤32:=by omega
   rw [hn,decide_eq_true h0,decide_eq_true h1] at HM;clear h0 h1;go_in;go_wp2_with (simp only [hn])
   go_ret;exact ⟨by rw [HM.out]; rfl,rfl⟩
  have h1I:¬ ((n:Int)≤32):=by omega
  rw [hn,decide_eq_true h0,decide_eq_false h1] at HM;clear h0 h1;go_in;go_wp2_with (simp only [hn])
  go_ret;exact ⟨by rw [HM.out]; rfl,rfl⟩
 obtain rfl:n=0:=by omega
 rw [hn,decide_eq_false h0] at HM;clear h0;go_in;go_wp2_with (simp only [hn])
 go_ret;exact ⟨by rw [HM.out]; rfl,rfl⟩
theorem YQ (s:bH)(K:List bH)(i:Nat)(x:bH)(h:K[i]? = some x):gV s (K.take (i+1))=gV s (K.take i)++(if qN s x.1=true then [x] else []):=by
 have e:K.take (i+1)=K.take i++[x]:=by rw [List.take_add_one,h]; rfl
 rw [e,abI];congr 1;unfold gV;by_cases hs:qN s x.1=true
 ·rw [if_pos hs]; simp [hs]
 rw [if_neg hs]; simp [hs]
theorem afW (a:bO)(c:Nat)(K:List bH)(f s:ByteArray)(w:World)(h:Qd w a K)(hn:K.length≤100000) :
 Calls Tryz.prog 35 #[.agg #[.slice a K.length c],.string f,.string s] w fun e w'=>∃ v,e = .returned v∧sJ w' w.heap.size v (gV (f,s) K)∧Below w.heap.size w w':=by
 have HK:=hid h
 have Xm:=hid hn
 have hn0:=ah w (.cells #[.slice a K.length c] 32)
 obtain ⟨n,hnn⟩:∃ n,K.length=n:=⟨_,rfl⟩
 have HN:=hid hnn
 rw [hnn] at hn0 ⊢
 have nI:(n:Int)≤100000:=by omega
 have HB0:=hid (aK w (.cells #[.slice a n c] 32))
 clear h hn hnn hn0
 go_in
 go_wp2_with fail
 go_loopw [7,9,13] (fun v7 _ v13 wr=>∃ i:Nat,i≤n∧v13 = .int .i64 (i:Int)∧sJ wr w.heap.size v7 (gV (f,s) (K.take i))∧Below w.heap.size w wr) (fun _ _ v _=>n - (intOf v).toNat)
 case atStart=>exact ⟨0,by omega,rfl,wW _ _,HB0.out⟩
 case round =>
  obtain ⟨i,hi,rfl,hkv,hb⟩:=hrel;have HB:=hid hb;obtain ⟨ak,ck,rfl,hck⟩:=hkv.shape;obtain ⟨m,hm⟩:∃ m,(gV (f,s) (K.take i)).length=m:=⟨_,rfl⟩
  rw [hm] at hkv ⊢;have HV:=hid hkv;clear hkv hck hm;by_cases hlt:i<n
  ·obtain ⟨x,hx⟩:∃ x,K[i]? = some x:=⟨_,List.getElem?_eq_getElem (by have:=HN.out; omega)⟩
   obtain ⟨g,o,rfl,q1,q2⟩:=(HK.out.below hb).at_ i x hx;have hix:=oW g o n c i hlt;have bn:=hid hlt;have HX:=hid hx;have xB:=hid (YQ (f,s) K i x hx);have HS:=hid (V4 f s x.1);have HA:=hid (aK wr (.cells #[.string x.1,.string x.2] 75));have iI:(i:Int)<(n:Int):=by omega
   have i0:(0:Int)≤(i:Int):=by omega
   have hli:=fun (u v:Value) (W:World)=>Gj u v W;have Rn:=ah wr (.cells #[.string x.1,.string x.2] 75);have D9:=hid (oM (M:=[x]) ((HV.out.below HA.out).below (aK _ (.cells #[.string x.1,.string x.2] 75))) (aJ (aJ hb HA.out) (aK _ (.cells #[.string x.1,.string x.2] 75))).size (.slice (some ⟨(wr.alloc (.cells #[.string x.1,.string x.2] 75)).heap.size,0,none⟩) 1 1) (.inr ⟨_,1,rfl,fun j y hy=>df (cs:=[.string x.1,.string x.2]) (ah _ _) j y hy⟩) (by
    have h1:(gV (f,s) (K.take i)).length≤(K.take i).length:=List.length_filter_le _ _
    rw [List.length_take] at h1
    have:=Xm.out
    simp only [List.length_cons,List.length_nil]
    omega) 30)
   rw [show (wr.alloc (.cells #[.string x.1,.string x.2] 75)).heap.size=wr.heap.size+1 by simp] at D9;have XN:=hid (aJ (aJ hb HA.out) (aK _ (.cells #[.string x.1,.string x.2] 75)));clear hi hlt hx hb Rn;cases hb1:Op.bytesLess x.1.toList f.toList <;> cases hb2:s.toList.isEmpty <;> cases hb3:Op.bytesLess x.1.toList s.toList <;> rw [hb1,hb2,hb3] at HS <;> rw [HS.out] at xB
   all_goals first
    | (go_wp2_with fail
       have e:=HV.out.below HA.out
       have e2:gV (f,s) (K.take (i+1))=gV (f,s) (K.take i):=by rw [xB.out]; simp
       rw [← e2] at e
       exact ⟨⟨i+1,by have:=bn.out; omega,by go_num,e,aJ HB.out HA.out⟩,by simp only [intOf]; have:=bn.out; omega⟩)
    | (go_wp2_with (at_builtin; obtain ⟨v3,w3,hr,ho3,hg3,_⟩:=D9.out; refine aS _ rfl _ _ 30 30 rfl _ _ rfl rfl hr ?_; have vO:=hid ho3; have HG3:=hid hg3; clear ho3 hg3 hr)
       have e:=vO.out
       have e2:gV (f,s) (K.take (i+1))=gV (f,s) (K.take i)++[x]:=by rw [xB.out]; simp
       rw [← e2] at e
       exact ⟨⟨i+1,by have:=bn.out; omega,by go_num,e,kv_grown ((HV.out.below HA.out).below (aK _ (.cells #[.string x.1,.string x.2] 75))) HG3.out XN.out⟩,by simp only [intOf]; have:=bn.out; omega⟩)
  obtain rfl:i=n:=by omega
  clear hi hlt hb;go_wp2_with fail;go_ret;have e:=HV.out;rw [show K.take i=K by rw [← HN.out,List.take_length]] at e;exact ⟨_,rfl,e,HB.out⟩
theorem zU (a b:bO)(c1 c2:Nat)(K:List bH)(w:World)(h1:Qd w a K)(h2:Qd w b K)(hn:K.length≤100000) :
 Calls Tryz.prog 13 #[.slice a K.length c1,.slice b K.length c2] w fun e w'=>e = .returned (.bool true)∧Below w.heap.size w w':=by
 have H1:=hid h1
 have H2:=hid h2
 obtain ⟨n,hnn⟩:∃ n,K.length=n:=⟨_,rfl⟩
 have HN:=hid hnn
 rw [hnn]
 have nI:(n:Int)≤100000:=by omega
 clear h1 h2 hn hnn
 go_in
 go_wp2_with fail
 go_loopw [5,13] (fun _ v13 wr=>∃ i:Nat,i≤n∧v13 = .int .i64 (i:Int)∧Below w.heap.size w wr) (fun _ v _=>n - (intOf v).toNat)
 case atStart=>exact ⟨0,by omega,rfl,Below.refl _ _⟩
 case round =>
  obtain ⟨i,hi,rfl,hb⟩:=hrel;have HB:=hid hb;by_cases hlt:i<n
  ·obtain ⟨x,hx⟩:∃ x,K[i]? = some x:=⟨_,List.getElem?_eq_getElem (by have:=HN.out; omega)⟩
   obtain ⟨g,o,rfl,q1,q2⟩:=(H1.out.below hb).at_ i x hx;obtain ⟨g',o',rfl,q3,q4⟩:=(H2.out.below hb).at_ i x hx;have hix:=oW g o n c1 i hlt;have hiy:=oW g' o' n c2 i hlt;have bn:=hid hlt;have iI:(i:Int)<(n:Int):=by omega
   have i0:(0:Int)≤(i:Int):=by omega
   clear hi hlt hx hb;go_upto_region 6 with fail
   go_region_held3 (fun W=>W.cell? ⟨g,o+i * 2,none⟩=some (.string x.1)∧W.cell? ⟨g,o+i * 2+1,none⟩=some (.string x.2)∧W.cell? ⟨g',o'+i * 2,none⟩=some (.string x.1)∧W.cell? ⟨g',o'+i * 2+1,none⟩=some (.string x.2)) (exact ⟨q1,q2,q3,q4⟩)
    (fail)
   all_goals (
    go_wp2_with fail
    exact ⟨⟨i+1,by have:=bn.out; omega,by go_num,HB.out.drew⟩,by simp only [intOf]; have:=bn.out; omega⟩)
  obtain rfl:i=n:=by omega
  clear hi hlt hb;go_wp2_with fail;go_ret;exact ⟨rfl,HB.out⟩
structure AtL (K:List bH)(k:ByteArray)(i:Nat):Prop where
 le:i≤K.length
 ahead:∀ j x,j<i→K[j]? = some x→lo x.1 k=true
 stop:∀ x,K[i]? = some x→lo x.1 k=false
def ou (K:List bH)(k:ByteArray)(i:Nat):Bool:=match K[i]? with
 | some x=>decide (x.1=k)
 | none=>false
theorem am6 {K:List bH}{k:ByteArray}{i:Nat}{x:bH}(h:K[i]? = some x):ou K k i=(x.1.toList == k.toList):=by
 unfold ou;rw [h];show decide (x.1=k)=_;by_cases e:x.1=k
 ·subst e; simp
 rw [decide_eq_false e];refine (beq_eq_false_iff_ne.2 (fun e2=>e ?_)).symm;rw [Lib.toList_data,Lib.toList_data] at e2;exact ByteArray.ext (Array.toList_inj.1 e2)
theorem Wv (a:bO)(c:Nat)(K:List bH)(k:ByteArray)(w:World)(h:Qd w a K)(hn:K.length≤100000) :
 Calls Tryz.prog 56 #[.agg #[.slice a K.length c],.string k] w fun e w'=>∃ i,AtL K k i∧e = .returned (.tuple #[.int .i64 (i:Nat),.bool (ou K k i)])∧Below w.heap.size w w':=by
 have HK:=hid h
 obtain ⟨n,hnn⟩:∃ n,K.length=n:=⟨_,rfl⟩
 have HN:=hid hnn
 rw [hnn]
 have nI:(n:Int)≤100000:=by omega
 have HB0:=hid (aK w (.cells #[.slice a n c] 32))
 have b0:=cell_of_row (w.alloc (.cells #[.slice a n c] 32)) w.heap.size 0 _ _ _ (ah w _)
 have Cc:=hid b0
 clear h hn hnn b0
 go_in
 go_wp2_with fail
 go_loopw [6] (fun v6 wr=>∃ i:Nat,i≤n∧v6 = .int .i64 (i:Int)∧(∀ j x,j<i→K[j]? = some x→lo x.1 k=true)∧Below (w.alloc (.cells #[.slice a n c] 32)).heap.size (w.alloc (.cells #[.slice a n c] 32)) wr) (fun v _=>n - (intOf v).toNat)
 case atStart=>exact ⟨0,by omega,rfl,fun j x hj=>by omega,Below.refl _ _⟩
 case round =>
  obtain ⟨i,hi,rfl,hah,hb⟩:=hrel;have HB:=hid hb;have HA:=hid hah;have s0:=ae Cc.out (hb.block _ (block_lt_of_cell Cc.out));clear hah;by_cases hlt:i<n
  ·obtain ⟨x,hx⟩:∃ x,K[i]? = some x:=⟨_,List.getElem?_eq_getElem (by have:=HN.out; omega)⟩
   obtain ⟨g,o,rfl,q1,q2⟩:=(HK.out.below (aJ HB0.out hb)).at_ i x hx;have hix:=oW g o n c i hlt;have bn:=hid hlt;have HX:=hid hx;have iI:(i:Int)<(n:Int):=by omega
   have i0:(0:Int)≤(i:Int):=by omega
   clear hi hlt hx hb;cases hlo:Op.bytesLess x.1.toList k.toList with
   | true =>
     go_wp2_with fail;exact ⟨⟨i+1,by have:=bn.out; omega,by go_num,fun j y hj hy=>by
      rcases Nat.lt_or_ge j i with h | h
      ·exact HA.out j y h hy
      obtain rfl:j=i:=by omega
      rw [HX.out] at hy;injection hy with hy;rw [← hy];exact hlo,HB.out⟩,by simp only [intOf]; have:=bn.out; omega⟩
   | false =>
     go_wp2_with fail;go_region_held3 (fun W=>W.cell? ⟨w.heap.size,0,none⟩=some (.slice (some ⟨g,o,none⟩) n c)∧W.cell? ⟨g,o+i * 2,none⟩=some (.string x.1)∧W.cell? ⟨g,o+i * 2+1,none⟩=some (.string x.2)) (exact ⟨s0,q1,q2⟩)
      (fail)
     all_goals (
      go_wp2_with fail
      go_ret2
      exact ⟨i,⟨by have:=bn.out; have:=HN.out; omega,HA.out,fun y hy=>by
       rw [HX.out] at hy;injection hy with hy;rw [← hy];exact hlo⟩,by rw [am6 HX.out]; rfl,(aJ HB0.out HB.out).drew⟩)
  obtain rfl:i=n:=by omega
  have iN:¬ ((i:Int)<(i:Int)):=by omega
  clear hi hlt hb;go_wp2_with fail;have jM:=hid (show AtL K k i from ⟨Nat.le_of_eq HN.out.symm,HA.out,fun y hy=>by
   have:=(List.getElem?_eq_some_iff.1 hy).1;have:=HN.out;omega⟩)
  have HIS:=hid (show ou K k i=false by unfold ou; rw [List.getElem?_eq_none (by rw [HN.out]; exact Nat.le_refl _)]);go_region;all_goals (
   go_wp2_with fail
   go_ret2
   exact ⟨i,jM.out,by rw [HIS.out]; rfl,(aJ HB0.out HB.out).drew⟩)
def jg (K:List bH):Prop:=K.Pairwise (fun x y=>lo x.1 y.1=true)
theorem Wx {K:List bH}{k:ByteArray}{i:Nat}(hr:jg K)(h:AtL K k i):nR k K=match K[i]? with | some x=>if x.1=k then [x] else [] | none=>[]:=by
 have h1:nR k (K.take i)=[]:=List.filter_eq_nil_iff.2 (fun x hx=>by
  obtain ⟨j,hj,rfl⟩:=List.getElem_of_mem hx;rw [List.length_take] at hj;rw [List.getElem_take];have:=h.ahead j K[j] (by omega) (List.getElem?_eq_getElem (by omega));simp only [decide_eq_true_eq];intro e;rw [e,dP] at this;cases this)
 have e:nR k K=nR k (K.take i)++nR k (K.drop i):=by
  unfold nR;rw [← List.filter_append,List.take_append_drop]
 rw [e,h1,List.nil_append];match hx:K[i]? with
 | none =>
   have:K.length≤i:=List.getElem?_eq_none_iff.1 hx;rw [List.drop_of_length_le this];rfl
 | some x =>
   obtain ⟨hi,rfl⟩:=List.getElem?_eq_some_iff.1 hx;have hs:=h.stop _ hx;have hd:K.drop i=K[i]::K.drop (i+1):=List.drop_eq_getElem_cons hi;have h2:nR k (K.drop (i+1))=[]:=List.filter_eq_nil_iff.2 (fun y hy=>by
    have hp:(K.drop i).Pairwise (fun x y=>lo x.1 y.1=true):=List.Pairwise.sublist (List.drop_sublist i K) hr;rw [hd] at hp;have h3:=(List.pairwise_cons.1 hp).1 y hy;simp only [decide_eq_true_eq];intro e;rw [e] at h3;rw [h3] at hs;cases hs)
   rw [hd];show (List.filter _ (K[i]::K.drop (i+1)))=_;rw [List.filter_cons];change List.filter (fun x=>decide (x.1=k)) (K.drop (i+1))=[] at h2;rw [h2];by_cases e:K[i].1=k
   ·simp [e]
   simp [e]
theorem UE (a:bO)(c:Nat)(K:List bH)(k:ByteArray)(w:World)(h:Qd w a K)(hn:K.length≤100000)(hr:jg K)(hk:k.size≤1000000) :
 Calls Tryz.prog 34 #[.agg #[.slice a K.length c],.string k] w fun e w'=>GetPost (jf k) (nR k K) w e w':=by
 have HK:=hid h
 have HR:=hid hr
 have HB0:=hid (aK w (.cells #[.slice a K.length c] 32))
 have HAT:=hid (fun W (hW:Below w.heap.size w W)=>Wv a c K k W (h.below hW) hn)
 have Ar:=hid (fun W=>rX k W hk)
 have b0:=cell_of_row (w.alloc (.cells #[.slice a K.length c] 32)) w.heap.size 0 _ _ _ (ah w _)
 have Cc:=hid b0
 obtain ⟨n,hnn⟩:∃ n,K.length=n:=⟨_,rfl⟩
 have HN:=hid hnn
 rw [hnn] at HAT HB0 Cc ⊢
 have nI:(n:Int)≤100000:=by omega
 generalize hmk:jf k=mk at *
 clear h hn hnn b0 hr hk hmk
 cases mk with
 | false =>
   have HP:=hid (show ∀ W,Below w.heap.size w W→GetPost false (nR k K) w (.returned (.tuple #[.string aY,.int .i64 2])) W from fun W hW=>⟨by simp,hW⟩);go_in;go_wp2_with fail;refine (Ar.out _).mono ?_;rintro e w1 ⟨rfl,hw1⟩;subst hw1;go_wp2_with fail;go_ret2;exact HP.out _ HB0.out
 | true =>
   go_in;go_wp2_with fail;refine (Ar.out _).mono ?_;rintro e w1 ⟨rfl,hw1⟩;subst hw1;go_wp2_with fail;refine (HAT.out _ HB0.out).mono ?_;rintro e w2 ⟨i,hat,rfl,hb2⟩;have HB2:=hid (aJ HB0.out hb2);have s0:=ae Cc.out (hb2.block _ (block_lt_of_cell Cc.out));have hget:=Wx HR.out hat;cases hx:K[i]? with
   | none =>
     rw [hx] at hget;have HP:=hid (show GetPost true (nR k K) w (.returned (.tuple #[.string aY,.int .i64 8])) w2 from by rw [hget]; exact ⟨by simp,HB2.out⟩);have HI:ou K k i=false:=by unfold ou; rw [hx]
     rw [HI];clear hget hx hat hb2 HI;go_wp2_with fail;go_ret2;exact HP.out
   | some x =>
     rw [hx] at hget;have HI:ou K k i=decide (x.1=k):=by unfold ou; rw [hx]
     have hi:=(List.getElem?_eq_some_iff.1 hx).1;obtain ⟨g,o,rfl,q1,q2⟩:=(HK.out.below HB2.out).at_ i x hx;by_cases e:x.1=k
     ·rw [decide_eq_true e] at HI
      rw [HI];have HP:=hid (show GetPost true (nR k K) w (.returned (.tuple #[.string x.2,.int .i64 0])) w2 from by rw [hget]; dsimp only; rw [if_pos e]; exact ⟨by simp,HB2.out⟩);have hix:=oW g o n c i (by have:=HN.out; omega);clear hget hx hat hb2 HI e hi;go_wp2_with fail;go_ret2;exact HP.out
     rw [decide_eq_false e] at HI;rw [HI];have HP:=hid (show GetPost true (nR k K) w (.returned (.tuple #[.string aY,.int .i64 8])) w2 from by rw [hget]; dsimp only; rw [if_neg e]; exact ⟨by simp,HB2.out⟩);clear hget hx hat hb2 HI e hi;go_wp2_with fail;go_ret2;exact HP.out
end Go.Proofs.YtljjcbmkbmloaaaGreatDoor
