import Derived.Test.YtljjcbmkbmloaaaGreatDoorGTu18
import Derived.Test.YtljjcbmkbmloaaaGreatDoorGTu19
import Derived.Test.YtljjcbmkbmloaaaGreatDoorGTuA
namespace Go.Proofs.YtljjcbmkbmloaaaGreatDoor
set_option maxHeartbeats 3200000
set_option maxRecDepth 100000
set_option linter.unusedVariables false
section
open Lib (hid)
open Go.ChangeShapes Go.WideShapes Go.ChangeAt Go.RowKit
theorem YA (d b g off n c f:Nat)(l:Its d)(w:World)(ht:kL w b ai (d == 0) (.slice (some ⟨g,off,none⟩) n c) f)(hI:IS w (some ⟨g,off,none⟩) n d l)(hs:Sm l) :
 Calls Tryz.prog 124 #[.pointer (some ⟨b,0,none⟩)] w fun e w'=>e = .returned (.bool (decide (jr (d == 0) l<128)))∧Below w.heap.size w w':=by
 obtain ⟨_,c34,IG,_⟩:=ht.at_
 have HC:=hid (fun (W:World) (q:Below w.heap.size w W)=>size_any d (some ⟨g,off,none⟩) n c l (d == 0) W (hI.below q) hs)
 obtain ⟨lf,hlf⟩:∃ lf,(d == 0)=lf:=⟨_,rfl⟩
 rw [hlf] at HC c34 ⊢
 obtain ⟨Z,hZ⟩:∃ Z,jr lf l=Z:=⟨_,rfl⟩
 rw [hZ] at HC ⊢
 have k34:∀ p:dW w,p.now.cell? ⟨b,34,none⟩=some (.bool lf):=oL c34
 have k35:∀ p:dW w,p.now.cell? ⟨b,35,none⟩=some (.slice (some ⟨g,off,none⟩) n c):=oL IG
 clear ht hI hs hlf hZ
 go_in
 go_upto_region 1 with fail
 refine bZ (by kernel_rfl) (by kernel_rfl) ?_
 repeat (first
  | (go_big_quiet_step (first
    | (go_at_call 126; exact fE (HC.out _ (dW.bel _))))))
 refine wpQuiet_nil ?_
 rintro _ ⟨p,rfl⟩
 go_wp2_with fail
 go_ret
 exact ⟨by simp; omega,p.bel⟩
theorem abS (d b g off n c f:Nat)(l:Its d)(w:World)(ht:kL w b ai (d == 0) (.slice (some ⟨g,off,none⟩) n c) f)(hI:IS w (some ⟨g,off,none⟩) n d l) :
 Calls Tryz.prog 92 #[.pointer (some ⟨b,0,none⟩)] w fun e w'=>(d ≠ 0∧(∃ x,l=[x]∧e = .returned (.pointer (dA d x.2.2)))∨¬ (d ≠ 0∧n=1)∧e = .returned (.pointer (some ⟨b,0,none⟩)))∧w'=w:=by
 obtain ⟨_,c34,IG,_⟩:=ht.at_
 by_cases hd:d=0
 ·subst hd
  have at1:w.cell? ⟨b,34,none⟩=some (.bool true):=c34;clear c34 ht hI;go_in;go_wp2_with fail;go_ret;exact ⟨.inr ⟨by simp,rfl⟩,rfl⟩
 ·rw [show (d == 0)=false by simpa using hd] at c34
  by_cases h1:n=1
  ·subst h1
   obtain ⟨x,hx⟩:∃ x,l[0]? = some x:=⟨_,List.getElem?_eq_getElem (by have:=hI.len; omega)⟩
   have hl:l=[x]:=by
    match l,hI.len,hx with
    | [y],_,hx=>simpa using hx
   obtain ⟨b1,o1,e1,c1⟩:=hI.at_ 0 x hx;injection e1 with e1;injection e1 with e2 e3;subst e2 e3;have c12:=c1.p;simp only [Nat.zero_mul,Nat.add_zero] at c12;have hix:=bT g off 1 c 0 (by omega);simp only [Nat.zero_mul,Nat.add_zero] at hix;have HL:=hid (And.intro hd hl);clear hd hl hx c1 ht hI;go_in;go_wp2_with fail;go_ret;exact ⟨.inl ⟨HL.out.1,_,_,_,HL.out.2,rfl⟩,rfl⟩
  have nI:¬ ((n:Int)=1):=by omega
  have H1:=hid h1;clear ht hI hd h1;go_in;go_wp2_with fail;go_ret;exact ⟨.inr ⟨fun h=>H1.out h.2,rfl⟩,rfl⟩
structure jQ (LQ:ay→az→Prop)(w:World)(ok:Nat→Prop)(d:Nat)(va:bO)(vc:Nat)(S:Its (d+1)):Prop where
 row:(va=none∧S=[])∨∃ vb,va=some ⟨vb,0,none⟩∧ok vb∧w.heap[vb]? = some (.cells (aH (d+1) S).toArray 129 (0,0))∧S ≠ []
 kids:∀ x ∈ S,TR LQ w ok (d+1) x.2.2
theorem O9 (k:ByteArray)(o:bO)(W:World):(Instr.build 129 #[(0,.string k),(2,.pointer o)]).run Tryz.prog W = .ok (.agg #[.string k,.string aY,.pointer o]) W:=by kernel_rfl
theorem Pg (fr:ByteArray)(lf:Bool)(a:bO)(c:Nat)(w:World) :
 Calls Tryz.prog 91 #[.string fr,.slice a 0 c,.bool lf] w fun e w'=>e = .returned (.slice none 0 0)∧w'=w:=by
 go_in
 go_wp2_with fail
 go_ret
 exact ⟨rfl,rfl⟩
theorem ag8 {w:World}{g c d:Nat}{L:Its d}(h:OB w g c d L)(i k:Nat)(hk:i+k≤L.length):IS w (some ⟨g,i * 3,none⟩) k d ((L.drop i).take k) :=
 ⟨by rw [List.length_take,List.length_drop]; omega,fun j x hx=>by
   rw [List.getElem?_take] at hx;split at hx
   ·rw [List.getElem?_drop] at hx
    have:=h.at3 (i+j) x hx;rw [show (i+j) * 3=i * 3+j * 3 by omega] at this;exact ⟨g,i * 3,rfl,this⟩
   cases hx⟩
theorem Bo:∀ L:Its 0,bf 0 L=0
 | []=>rfl
 | x::r=>by
   have:=Bo r;show 0+bf 0 r=0;omega
theorem abT (d:Nat)(L:Its d)(k:Nat)(hk:0<k):(hd0 d L).take k=hd0 d (L.take k):=by
 match d,L,k,hk with
 | 0,L,k,_=>rfl
 | d+1, [],k,_=>simp [hd0]
 | d+1,x::r,k+1,_=>rfl
theorem Ph {d:Nat}(L:Its (d+1))(i:Nat)(hi:i<L.length)(rest:List Value):(aH (d+1) L++rest).set (i * 3) (.string aY)=aH (d+1) (L.take i++hd0 (d+1) (L.drop i))++rest:=by
 have e:L.drop i=L[i]::L.drop (i+1):=List.drop_eq_getElem_cons hi;have h1:aH (d+1) L++rest=aH (d+1) (L.take i)++(kE (d+1) L[i]++(aH (d+1) (L.drop (i+1))++rest)):=by
  rw [show kE (d+1) L[i]=aH (d+1) [L[i]] by simp [aH],← List.append_assoc (aH (d+1) [L[i]]),← dK,← List.append_assoc,← dK];congr 2;simp [← List.drop_eq_getElem_cons hi]
 have hl:(aH (d+1) (L.take i)).length=i * 3:=by rw [bu,List.length_take]; congr 1; omega
 rw [h1,List.set_append_right _ _ (by omega),hl,Nat.sub_self,e,abK,dK];simp [aH,kE]
theorem wU (LQ:ay→az→Prop)(ok:Nat→Prop)(d g c0 i k c:Nat)(L:Its d)(w:World)(h:OB w g c0 d L)(hk:∀ x ∈ L,TR LQ w ok d x.2.2)(hok:∀ k,ok k→k<w.heap.size∧k ≠ g)(h0:0<k)(hik:i+k≤L.length)(hn2:L.length≤1000)(hf:bf d L≤1000000) :
 Calls Tryz.prog 93 #[.slice (some ⟨g,i * 3,none⟩) k c,.bool (d == 0)] w fun e w'=>∃ b,e = .returned (.pointer (some ⟨b,0,none⟩))∧w.heap.size≤b∧kL w' b ai (d == 0) (.slice (some ⟨g,i * 3,none⟩) k c) (1+bf d ((L.drop i).take k))∧OB w' g c0 d (L.take i++hd0 d (L.drop i))∧Touch [g] w w':=by
 match d,L,h,hk,hik,hn2,hf with
 | 0,L,h,hk,hik,hn2,hf =>
   refine (Uh (some ⟨g,i * 3,none⟩) k c w).mono ?_;rintro e w' ⟨b,he,hb,ht,hbe⟩;have e0:bf 0 ((L.drop i).take k)=0:=by
    exact Bo _
   exact ⟨b,he,hb,by rw [e0]; exact ht,by rw [abJ,List.take_append_drop]; exact h.below hbe,Touch.of_below hbe⟩
 | d+1,L,h,hk,hik,hn2,hf =>
   obtain ⟨rest,hg,hlen⟩:=h.row;have hsub:bf (d+1) ((L.drop i).take k)≤bf (d+1) L:=by
    have h1:=fD (d+1) (L.take i) (L.drop i);have h2:=fD (d+1) ((L.drop i).take k) ((L.drop i).drop k);rw [List.take_append_drop] at h1 h2;omega
   refine (Me LQ ok d g (i * 3) k c ((L.drop i).take k) (aH (d+1) L++rest) w hg (ag8 h i k hik) (fun x hx=>hk x (List.mem_of_mem_drop (List.mem_of_mem_take hx))) hok h0 (by omega) (by omega)).mono ?_;rintro e w' ⟨b,he,hb,ht,hr,hbe⟩;rw [Ph L i (by omega) rest] at hr;exact ⟨b,he,hb,ht,mO (w:=w) hr (by rw [← Ph L i (by omega) rest,List.length_set]; exact hlen) rest rfl,hbe⟩
theorem MB {LQ:ay→az→Prop}{ok:Nat→Prop}{W:World}{d g b i k c c0:Nat}{L M:Its d}(h:OB W g c0 d M)(hM:(M.drop i).take k=hd0 d L)(hlen:k=L.length)(hik:i+k≤M.length)(hb:ok b)(hg:ok g)(ht:kL W b ai (d == 0) (.slice (some ⟨g,i * 3,none⟩) k c) (1+bf d L))(hk:∀ x ∈ L,TR LQ W ok d x.2.2) :
 TR LQ W ok (d+1) (mkK b (.inr (hd0 d L))):=by
 obtain ⟨rest,hrow,_⟩:=h.row
 refine ⟨hb,g,i * 3,c, ?_,⟨hg,_,hrow⟩, ?_,fun x hx=>?_⟩
 ·rw [gU,← hlen,show jl (d+1) (mkK b (.inr (hd0 d L)))=1+bf d L by show 1+bf d (hd0 d L)=_; rw [rQ]]
  exact ht
 ·rw [gU,← hlen,← hM]
  exact ag8 h i k hik
 ·revert x
  match d,L,hk with
  | 0,L,hk=>exact fun x hx=>hk x hx
  | d+1, [],hk=>exact fun x hx=>by simp [hd0] at hx
  | d+1,y::r,hk =>
    intro x hx;rcases List.mem_cons.1 hx with rfl | hx
    ·exact hk y (by simp)
    exact hk x (by simp [hx])
theorem Uj (LQ:ay→az→Prop)(ok:Nat→Prop)(d g c:Nat)(fr:ByteArray)(L:Its d)(w:World)(h:OB w g c d L)(hk:∀ x ∈ L,TR LQ w ok d x.2.2)(hok:∀ k,ok k→k<w.heap.size∧k ≠ g)(hne:L ≠ [])(hs:Sm L)(hf:bf d L≤1000000)(hz:jr (d == 0) L≤512) :
 Calls Tryz.prog 91 #[.string fr,.slice (some ⟨g,0,none⟩) L.length c,.bool (d == 0)] w fun e w'=>∃ va S,e = .returned (.slice va S.length S.length)∧iy d fr L S∧jQ LQ w' (fun k=>ok k∨k=g∨w.heap.size≤k) d va S.length S∧Touch [g] w w'∧∀ b,va=some b→w.heap.size≤b.block∧∀ x ∈ S,TR LQ w' (fun k=>(ok k∨k=g∨w.heap.size≤k)∧k ≠ b.block) (d+1) x.2.2:=by
 have kG:=hid (size_any d (some ⟨g,0,none⟩) L.length c L (d == 0) w h.is hs)
 have h0:0<L.length:=List.length_pos_iff.2 hne
 have ZX:=hid (fun (W:World) (q:Below w.heap.size w W)=>wU LQ ok d g c 0 L.length c L W (h.below q) (fun x hx=>(hk x hx).below (fun k hk=>(hok k hk).1) q) (fun k hk=>⟨Nat.lt_of_lt_of_le (hok k hk).1 q.size,(hok k hk).2⟩) h0 (by omega) hs.n hf)
 simp only [Nat.zero_mul,List.drop_zero,List.take_zero,List.nil_append,List.take_length] at ZX
 have xH:=hid h
 have HK:=hid hk
 have qP:=hid hok
 have Hz:=hid hne
 have HZ:=hid hz
 obtain ⟨n,hn⟩:∃ n,L.length=n:=⟨_,rfl⟩
 have HN:=hid hn
 rw [hn] at kG ZX ⊢
 have nI:¬ ((n:Int)=0):=by omega
 obtain ⟨Z,hZ⟩:∃ Z,jr (d == 0) L=Z:=⟨_,rfl⟩
 rw [hZ] at kG
 have zI:(Z:Int)≤512:=by omega
 obtain ⟨lf,hlf⟩:∃ lf,(d == 0)=lf:=⟨_,rfl⟩
 have IA:=hid hlf
 rw [hlf] at kG ZX ⊢
 clear hZ h hk hok hne hs hf hz hn h0 hlf
 go_in
 go_wp2_with fail
 refine kG.out.mono ?_
 rintro e w1 ⟨rfl,hb1⟩
 have HB1:=hid hb1
 clear hb1
 go_wp2_with fail
 refine (ZX.out _ HB1.out).mono ?_
 rintro e w2 ⟨b,rfl,hb,ht,hob,htt⟩
 have HB2:=hid (And.intro hb (And.intro ht (And.intro hob htt)))
 clear hb ht hob htt
 have hbi:=O9 fr (some ⟨b,0,none⟩)
 have hli:=FV (.string fr) (.string aY) (.pointer (some ⟨b,0,none⟩)) w2
 go_wp2_with fail
 go_ret
 obtain ⟨q1,q2,q3,q4⟩:=HB2.out
 have HT2:=(Touch.of_below (l:=[g]) HB1.out).trans q4
 have hal:=aK w2 (.cells #[.string fr,.string aY,.pointer (some ⟨b,0,none⟩)] 129)
 have HT:=HT2.trans (Touch.of_below (l:=[g]) hal)
 have P2:∀ x ∈ (show Its (d+1) from [(fr,aY,mkK b (.inr (hd0 d L)))]),TR LQ w2 (fun k=>ok k∨k=g∨w.heap.size≤k) (d+1) x.2.2:=fun x hx=>by
  rw [List.mem_singleton.1 hx];refine MB (i:=0) (k:=L.length) (c:=c) (M:=hd0 d L) q3 (by rw [List.drop_zero,← gU d L,List.take_length]) rfl (by rw [gU]; omega) (.inr (.inr (Nat.le_trans HB1.out.size q1))) (.inr (.inl rfl)) ?_ (fun x hx=>((HK.out x hx).keep (fun k hk=>HT2.block k (qP.out k hk).1 (by simpa using (qP.out k hk).2))).more (fun _ _ h=>h) (fun k hk => .inl hk));rw [IA.out,HN.out];exact q2
 have P3:=fun x hx=>(P2 x hx).bound.keep (fun k hk=>hal.block k hk.2)
 exact ⟨some ⟨w2.heap.size,0,none⟩, [(fr,aY,mkK b (.inr (hd0 d L)))],rfl,.one b Hz.out HZ.out,⟨.inr ⟨_,rfl,.inr (.inr (Nat.le_trans HB1.out.size q4.size)),ah w2 _,by simp⟩,fun x hx=>(P3 x hx).more (fun _ _ h=>h) (fun k hk=>hk.1)⟩,HT,
  fun b e=>by injection e with e; rw [← e]; exact ⟨Nat.le_trans HB1.out.size q4.size,fun x hx=>(P3 x hx).more (fun _ _ h=>h) (fun k hk=>⟨hk.1,Nat.ne_of_lt hk.2⟩)⟩⟩
theorem aiz {LQ:ay→az→Prop}{w:World}{ok:Nat→Prop}{d:Nat}{L:Its d}(hk:∀ x ∈ L,TR LQ w ok d x.2.2):∀ x ∈ hd0 d L,TR LQ w ok d x.2.2:=by
 match d,L,hk with
 | 0,L,hk=>exact fun x hx=>hk x hx
 | d+1, [],hk=>exact fun x hx=>by simp [hd0] at hx
 | d+1,y::r,hk =>
   intro x hx;rcases List.mem_cons.1 hx with rfl | hx
   ·exact hk y (by simp)
   exact hk x (by simp [hx])
theorem afm (u v p u' v' p':Value)(W:World):(Instr.buildSlice 121 2 #[(0,.agg #[u,v,p]),(1,.agg #[u',v',p'])]).run Tryz.prog W = .ok (.slice (some ⟨W.heap.size,0,none⟩) 2 2) (W.alloc (.cells #[u,v,p,u',v',p'] 129)):=by
 obtain ⟨i,hi,hz⟩:=Option.map_eq_some_iff.1 rU;simp only [Prod.mk.injEq] at hz;obtain ⟨h1,h2,h3⟩:=hz;refine run_buildSlice W 121 129 2 _ #[u,v,p,u',v',p'] i _ Tryz.underlying121 hi h1 (by rw [h2]; omega) (by rw [h2]; omega) ?_;rw [h2,show ((Array.range (2 * 3)).map fun x=>(Value.agg #[Value.string ⟨#[]⟩,.string ⟨#[]⟩,.pointer none]).cells[x % (Value.agg #[Value.string ⟨#[]⟩,.string ⟨#[]⟩,.pointer none]).cells.size]!)=#[.string ⟨#[]⟩,.string ⟨#[]⟩,.pointer none,.string ⟨#[]⟩,.string ⟨#[]⟩,.pointer none] by kernel_rfl];show Instr.fill _ _ [(0,.agg #[u,v,p]),(1,.agg #[u',v',p'])]=_;rw [gq _ _ #[u,v,p,.string ⟨#[]⟩,.string ⟨#[]⟩,.pointer none] #[u,v,p] (.agg #[u,v,p]) 0 0 3 _ rfl rfl rfl (by simp) (fun i=>by
  match i with
  | 0 | 1 | 2 | 3 | 4 | 5=>rfl
  | i+6=>simp)]
 rw [gq _ _ #[u,v,p,u',v',p'] #[u',v',p'] (.agg #[u',v',p']) 1 3 3 _ rfl rfl rfl (by simp) (fun i=>by
  match i with
  | 0 | 1 | 2 | 3 | 4 | 5=>rfl
  | i+6=>simp)]
 rfl
theorem Uk (LQ:ay→az→Prop)(ok:Nat→Prop)(d g c:Nat)(fr:ByteArray)(L:Its d)(w:World)(h:OB w g c d L)(hk:∀ x ∈ L,TR LQ w ok d x.2.2)(hok:∀ k,ok k→k<w.heap.size∧k ≠ g)(hne:L ≠ [])(hs:Sm L)(hf:bf d L≤1000000)(hz:512<jr (d == 0) L)(hc:L.length≤c)
 (hmid:∀ i,JA (d == 0) L i→0<i∧i<L.length) :
 Calls Tryz.prog 91 #[.string fr,.slice (some ⟨g,0,none⟩) L.length c,.bool (d == 0)] w fun e w'=>∃ va S,e = .returned (.slice va S.length S.length)∧iy d fr L S∧jQ LQ w' (fun k=>ok k∨k=g∨w.heap.size≤k) d va S.length S∧Touch [g] w w'∧∀ b,va=some b→w.heap.size≤b.block∧∀ x ∈ S,TR LQ w' (fun k=>(ok k∨k=g∨w.heap.size≤k)∧k ≠ b.block) (d+1) x.2.2:=by
 have kG:=hid (size_any d (some ⟨g,0,none⟩) L.length c L (d == 0) w h.is hs)
 have YB:=hid (fun (W:World) (q:Below w.heap.size w W)=>Uc d (some ⟨g,0,none⟩) L.length c L (d == 0) W (h.is.below q) hs)
 have xH:=hid h
 have HK:=hid hk
 have qP:=hid hok
 have Hz:=hid hne
 have HZ:=hid hz
 have HS:=hid hs
 have HF:=hid hf
 have HMI:=hid hmid
 obtain ⟨n,hn⟩:∃ n,L.length=n:=⟨_,rfl⟩
 have HN:=hid hn
 rw [hn] at kG YB hc ⊢
 have h0:0<n:=by rw [← hn]; exact List.length_pos_iff.2 hne
 have nI:¬ ((n:Int)=0):=by omega
 have n1:(n:Int)≤1000:=by have:=hs.n; omega
 obtain ⟨Z,hZ⟩:∃ Z,jr (d == 0) L=Z:=⟨_,rfl⟩
 rw [hZ] at kG
 have zI:¬ ((Z:Int)≤512):=by omega
 obtain ⟨lf,hlf⟩:∃ lf,(d == 0)=lf:=⟨_,rfl⟩
 have IA:=hid hlf
 rw [hlf] at kG YB ⊢
 have HC:=hid hc
 have cI:(n:Int)≤(c:Int):=by omega
 clear hZ h hk hok hne hs hf hz hn h0 hlf hmid
 go_in
 go_wp2_with fail
 refine kG.out.mono ?_
 rintro e w1 ⟨rfl,hb1⟩
 have HB1:=hid hb1
 clear hb1
 go_wp2_with fail
 refine (YB.out _ HB1.out).mono ?_
 rintro e w2 ⟨i,rfl,hm,hb2⟩
 have HB2:=hid (aJ HB1.out hb2)
 have HM:=hid hm
 obtain ⟨i0,hin⟩:=HMI.out i (by rw [IA.out]; exact hm)
 rw [HN.out] at hin
 obtain ⟨x,hx⟩:∃ x,L[i]? = some x:=⟨_,List.getElem?_eq_getElem (by rw [HN.out]; exact hin)⟩
 have c10:=((xH.out.below HB2.out).at3 i x hx).k
 have hix:=bT g 0 n c i hin
 simp only [Nat.zero_add] at hix
 have HX:=hid hx
 have iI:(i:Int)<(n:Int):=by omega
 have iP:(0:Int)≤(i:Int):=by omega
 have iN:(i:Int)≤(n:Int):=by omega
 have HI0:=hid (And.intro i0 hin)
 have hb4:¬ (c=i):=by omega
 have hb8:(i:Int)≤(c:Int):=by omega
 have YC:=hid (fun (W:World) (q:Below w.heap.size w W)=>wU LQ ok d g c 0 i i L W (xH.out.below q) (fun x hx=>(HK.out x hx).below (fun k hk=>(qP.out k hk).1) q) (fun k hk=>⟨Nat.lt_of_lt_of_le (qP.out k hk).1 q.size,(qP.out k hk).2⟩) i0 (by rw [HN.out]; omega) HS.out.n HF.out)
 simp only [Nat.zero_mul,List.drop_zero,List.take_zero,List.nil_append] at YC
 have HG2:=hid (fun (W:World) (q:Touch [g] w W) (ho:OB W g c d (hd0 d L))=>wU LQ ok d g c i (n - i) (c - i) (hd0 d L) W ho (fun x hx=>((aiz HK.out) x hx).keep (fun k hk=>q.block k (qP.out k hk).1 (by simpa using (qP.out k hk).2))) (fun k hk=>⟨Nat.lt_of_lt_of_le (qP.out k hk).1 q.size,(qP.out k hk).2⟩) (by omega) (by rw [gU,HN.out]; omega) (by rw [gU]; exact HS.out.n) (by rw [rQ]; exact HF.out))
 rw [IA.out] at YC HG2
 have hbi:=fun (k:ByteArray) (o:bO) (W:World)=>O9 k o W
 have hli:=fun (u v p u' v' p':Value) (W:World)=>afm u v p u' v' p' W
 clear hb2 hm i0 hin hx kG YB
 go_upto_region 7 with fail
 try simp only [Act.put]
 refine wp_region_noPanic ?_
 refine wp_region_held_drew (S:=fun _=>True) (by kernel_rfl) trivial (fun hHeld=>?_)
 refine tR 0 30 (h:=tR 1 31 (h:=tR 2 32 (h:=tR 3 33 (h:=tR 4 34 (h:=tR 5 35 (h:=tR 8 38 (h:=tR 9 39 (h:=tR 10 40 (h:=tR 11 41 (h:=tR 12 42 (h:=?_)))))))))))
 refine rD 6 rfl fun K hK=>?_
 go_simp
 go_at_call 93
 refine (YC.out _ HB2.out.drew).mono ?_
 rintro e w3 ⟨b1,rfl,hq⟩
 have D5:=hid hq
 clear hq
 go_wp2_with fail
 refine hK.out _ _ trivial (fun hHeld=>?_)
 clear hK K
 try simp only [Act.put,pZ]
 refine tR 7 37 (h:=?_)
 refine rD 13 rfl fun K hK=>?_
 go_simp
 go_at_call 93
 refine (HG2.out _ ((Touch.of_below HB2.out.drew).trans D5.out.2.2.2) D5.out.2.2.1).mono ?_
 rintro e w4 ⟨b2,rfl,hq⟩
 have xK:=hid hq
 clear hq
 go_wp2_with fail
 refine hK.out _ _ trivial (fun hHeld=>?_)
 clear hK K
 try simp only [Act.put,pZ]
 refine tR 14 44 (h:=?_)
 refine rD 15 rfl fun K hK=>?_
 go_simp
 refine hK.out _ _ trivial (fun hHeld=>?_)
 clear hK K
 try simp only [Act.put,pZ]
 refine tR 16 6 (h:=?_)
 refine wpAnyH_done (by decide +kernel) ?_ _
 refine NoPanic.normal ?_
 go_wp2_with fail
 go_ret
 obtain ⟨q1,q2,q3,q4⟩:=D5.out
 obtain ⟨r1,r2,r3,r4⟩:=xK.out
 obtain ⟨i0,hin⟩:=HI0.out
 have c1:=HC.out
 have T1:=(Touch.of_below HB2.out.drew).trans q4
 have T2:=T1.trans r4
 have HT:=T2.trans (Touch.of_below (l:=[g]) (aK w4 (.cells #[.string fr,.string aY,.pointer (some ⟨b1,0,none⟩),.string x.1,.string aY,.pointer (some ⟨b2,0,none⟩)] 129)))
 have hLn:L.length=n:=HN.out
 have hne:L ≠ []:=Hz.out
 have hb1:w.heap.size≤b1:=Nat.le_trans HB2.out.size q1
 have hb2:w.heap.size≤b2:=Nat.le_trans T1.size r1
 have hg1:b1 ≠ g:=fun e=>by
  have:=xH.out.lt;omega
 have hM:∀ L:Its d,L.length=n→i<n→((hd0 d L).take i++hd0 d ((hd0 d L).drop i)).take i=hd0 d (L.take i)∧((hd0 d L).take i++hd0 d ((hd0 d L).drop i)).drop i=hd0 d (L.drop i):=fun L hl hi=>by
  have e1:((hd0 d L).take i).length=i:=by rw [List.length_take,gU]; omega
  refine ⟨by rw [List.take_left' e1,abT d L i i0], ?_⟩;rw [List.drop_left' e1];match d,L,i,i0 with
  | 0,L,i,_=>rfl
  | d+1, [],i,_=>simp [hd0]
  | d+1,y::r,j+1,_=>rfl
 obtain ⟨M1,M2⟩:=hM L hLn hin
 have hMl:((hd0 d L).take i++hd0 d ((hd0 d L).drop i)).length=n:=by rw [List.length_append,List.length_take,gU,gU,List.length_drop,gU]; omega
 have hal:=aK w4 (.cells #[.string fr,.string aY,.pointer (some ⟨b1,0,none⟩),.string x.1,.string aY,.pointer (some ⟨b2,0,none⟩)] 129)
 have ag9:∀ y ∈ L,TR LQ w4 (fun k=>ok k∨k=g∨w.heap.size≤k) d y.2.2:=fun y hy =>
  ((HK.out y hy).keep (fun k hk=>T2.block k (qP.out k hk).1 (by simpa using (qP.out k hk).2))).more (fun _ _ h=>h) (fun k hk => .inl hk)
 have P2:∀ y ∈ (show Its (d+1) from [(fr,aY,mkK b1 (.inr (hd0 d (L.take i)))),(x.1,aY,mkK b2 (.inr (hd0 d (L.drop i))))]),TR LQ w4 (fun k=>ok k∨k=g∨w.heap.size≤k) (d+1) y.2.2:=fun y hy=>by
  rcases List.mem_cons.1 hy with rfl | hy
  ·refine MB (i:=0) (k:=i) (c:=i) r3 (by rw [List.drop_zero]; exact M1) (by rw [List.length_take]; omega) (by rw [hMl]; omega) (.inr (.inr hb1)) (.inr (.inl rfl)) ?_ (fun y hy=>ag9 y (List.mem_of_mem_take hy))
   rw [IA.out];exact (r4.block b1 (lt_of_block q2) (by simpa using hg1)).trans q2
  rw [List.mem_singleton.1 hy];refine MB (i:=i) (k:=n - i) (c:=c - i) r3 (by rw [M2,← hLn,← List.length_drop,← gU d (L.drop i),List.take_length]) (by rw [List.length_drop]; omega) (by rw [hMl]; omega) (.inr (.inr hb2)) (.inr (.inl rfl)) ?_ (fun y hy=>ag9 y (List.mem_of_mem_drop hy));rw [IA.out];have e5:bf d (((hd0 d L).drop i).take (n - i))=bf d (L.drop i):=by
   have e6:((hd0 d L).drop i)=L.drop i:=by
    match d,L,i,i0 with
    | 0,L,i,_=>rfl
    | d+1, [],i,_=>simp [hd0]
    | d+1,y::r,j+1,_=>rfl
   rw [e6,← hLn,← List.length_drop,List.take_length]
  rw [e5] at r2;exact r2
 have P3:=fun x hx=>(P2 x hx).bound.keep (fun k hk=>hal.block k hk.2)
 exact ⟨some ⟨w4.heap.size,0,none⟩, [(fr,aY,mkK b1 (.inr (hd0 d (L.take i)))),(x.1,aY,mkK b2 (.inr (hd0 d (L.drop i))))],rfl,.two i x b1 b2 HZ.out (by rw [IA.out]; exact HM.out) HX.out,⟨.inr ⟨_,rfl,.inr (.inr T2.size),ah w4 _,by simp⟩,fun x hx=>(P3 x hx).more (fun _ _ h=>h) (fun k hk=>hk.1)⟩,HT,
  fun b e=>by injection e with e; rw [← e]; exact ⟨T2.size,fun x hx=>(P3 x hx).more (fun _ _ h=>h) (fun k hk=>⟨hk.1,Nat.ne_of_lt hk.2⟩)⟩⟩
theorem aiA {d:Nat}{L:Its d}{i:Nat}(h:JA (d == 0) L i)(hz:512<jr (d == 0) L)(hs:∀ x ∈ L,nM (d == 0) x≤130):0<i∧i<L.length:=by
 have h1:=Bg (d == 0) L;obtain ⟨h2,h3,h4,h5,h6⟩:=JB (d == 0) 130 h hs (by omega);refine ⟨h2, ?_⟩;rcases Nat.lt_or_ge i L.length with q | q
 ·exact q
 rw [List.drop_of_length_le q] at h6;rw [show fQ (d == 0) ([]:Its d)=0 from rfl] at h6;omega
theorem uh (LQ:ay→az→Prop)(ok:Nat→Prop)(d g c:Nat)(fr:ByteArray)(L:Its d)(w:World)(h:OB w g c d L)(hk:∀ x ∈ L,TR LQ w ok d x.2.2)(hok:∀ k,ok k→k<w.heap.size∧k ≠ g)(hs:Sm L)(hf:bf d L≤1000000)(hc:L.length≤c)(hsz:∀ x ∈ L,nM (d == 0) x≤130) :
 Calls Tryz.prog 91 #[.string fr,.slice (some ⟨g,0,none⟩) L.length c,.bool (d == 0)] w fun e w'=>∃ va S,e = .returned (.slice va S.length S.length)∧iy d fr L S∧jQ LQ w' (fun k=>ok k∨k=g∨w.heap.size≤k) d va S.length S∧Touch [g] w w'∧∀ b,va=some b→w.heap.size≤b.block∧∀ x ∈ S,TR LQ w' (fun k=>(ok k∨k=g∨w.heap.size≤k)∧k ≠ b.block) (d+1) x.2.2:=by
 by_cases hne:L=[]
 ·subst hne
  refine (Pg fr (d == 0) (some ⟨g,0,none⟩) c w).mono ?_;rintro e w' ⟨rfl,rfl⟩;exact ⟨none, [],rfl,.none rfl,⟨.inl ⟨rfl,rfl⟩,fun x hx=>by simp at hx⟩,Touch.refl _ _,fun b e=>by cases e⟩
 ·rcases Nat.lt_or_ge 512 (jr (d == 0) L) with hz | hz
  ·exact Uk LQ ok d g c fr L w h hk hok hne hs hf hz hc (fun i hi=>aiA hi hz hsz)
  exact Uj LQ ok d g c fr L w h hk hok hne hs hf hz
def YD:Array Value:=#[.string ⟨#[]⟩,.string ⟨#[]⟩,.pointer none]
def z3 (k:Nat):List Value:=(List.replicate k YD.toList).flatten
theorem zH (k:Nat):z3 (k+1)=YD.toList++z3 k:=by simp [z3,List.replicate_succ]
theorem afn (k:Nat):z3 (k+1)=z3 k++YD.toList:=by simp [z3,List.replicate_succ']
theorem aiB (k:Nat):(z3 k).length=k * 3:=by
 induction k with
 | zero=>rfl
 | succ k ih=>rw [zH,List.length_append,ih,show YD.toList.length=3 from rfl]; omega
theorem V6:∀ k,(madeCells YD (k * 3)).toList=z3 k
 | 0=>by simp [madeCells,z3]
 | k+1=>by
   have ih:=V6 k;rw [afn,← ih];have h0:(k * 3) % 3=0:=by omega
   have h1:(k * 3+1) % 3=1:=by omega
   have h2:(k * 3+2) % 3=2:=by omega
   simp only [madeCells,Array.toList_map,Array.toList_range,show (k+1) * 3=k * 3+1+1+1 by omega,List.range_succ,List.map_append,List.map_cons,List.map_nil,List.append_assoc];rw [show k * 3+1+1=k * 3+2 by omega];simp only [show YD.size=3 from rfl,h0,h1,h2];rfl
def jm (w:World)(g d n:Nat)(K:Its d):Prop:=w.heap[g]? = some (.cells (aH d K++z3 (n - K.length)).toArray 129 (0,0))
theorem Pj (c:Nat)(hc:c≤100000)(W:World):(Instr.makeSlice 121 (.int .i64 (c:Int)) (.int .i64 (c:Int))).run Tryz.prog W = .ok (.slice (some ⟨W.heap.size,0,none⟩) c c) (W.alloc (.cells (madeCells YD (c * 3)) 129)):=by
 obtain ⟨i,hi,hz⟩:=Option.map_eq_some_iff.1 rU;simp only [Prod.mk.injEq] at hz;obtain ⟨h1,h2,h3⟩:=hz;have:=run_make (P:=Tryz.prog) W 121 129 i _ Tryz.underlying121 hi h1 .i64 .i64 c c (by omega) (by omega) (by rw [h3]; omega) (by omega);rw [h2] at this;exact this
theorem JE (w:World)(d n:Nat):jm (w.alloc (.cells (madeCells YD (n * 3)) 129)) w.heap.size d n []:=by
 unfold jm;rw [ah];congr 2;apply Array.toList_inj.1;rw [V6];simp [aH]
theorem JF {w:World}{g d n:Nat}{K:Its d}(h:jm w g d n K)(hn:K.length=n):OB w g n d K:=by
 refine mO (w:=w) h ?_ (z3 (n - K.length)) rfl;rw [List.length_append,bu,aiB];omega
theorem JG {w:World}{g d n:Nat}{K:Its d}(h:jm w g d n K)(hn:K.length<n)(x:bK (Kd d)){W:World}(hW:W.heap[g]? = some (.cells ((((aH d K++z3 (n - K.length)).set (K.length * 3) (.string x.1)).set (K.length * 3+1) (.string x.2.1)).set (K.length * 3+2) (.pointer (dA d x.2.2))).toArray 129 (0,0))):jm W g d n (K++[x]):=by
 unfold jm;rw [hW];congr 3;have hk:=bu d K;obtain ⟨m,hm⟩:∃ m,n - K.length=m+1:=⟨n - K.length - 1,by omega⟩
 have hm2:n - (K++[x]).length=m:=by rw [List.length_append]; show n - (K.length+1)=m; omega
 rw [hm,hm2,zH,List.set_append_right _ _ (by omega),List.set_append_right _ _ (by omega),List.set_append_right _ _ (by omega),hk,Nat.sub_self,show K.length * 3+1 - K.length * 3=1 by omega,show K.length * 3+2 - K.length * 3=2 by omega,dK,List.append_assoc];simp [aH,kE,YD]
theorem FW {w:World}{g d n:Nat}{K:Its d}(h:jm w g d n K)(hn:K.length<n):w.cell? ⟨g,K.length * 3,none⟩=some (.string aY)∧w.cell? ⟨g,K.length * 3+1,none⟩=some (.string aY)∧w.cell? ⟨g,K.length * 3+2,none⟩=some (.pointer none):=by
 have hk:=bu d K;obtain ⟨m,hm⟩:∃ m,n - K.length=m+1:=⟨n - K.length - 1,by omega⟩
 have h':w.heap[g]? = some (.cells (aH d K++(YD.toList++z3 m)).toArray 129 (0,0)):=by rw [← zH,← hm]; exact h
 refine ⟨df h' _ _ ?_,df h' _ _ ?_,df h' _ _ ?_⟩
 ·rw [List.getElem?_append_right (by omega),hk,Nat.sub_self]; rfl
 ·rw [List.getElem?_append_right (by omega),hk,show K.length * 3+1 - K.length * 3=1 by omega]; rfl
 rw [List.getElem?_append_right (by omega),hk,show K.length * 3+2 - K.length * 3=2 by omega]; rfl
theorem FY (k v:ByteArray)(W:World):(Instr.build 129 #[(0,.string k),(1,.string v)]).run Tryz.prog W = .ok (.agg #[.string k,.string v,.pointer none]) W:=by kernel_rfl
theorem MC (k v p:Value)(P:List bH)(w:World)(hn:NR w k v p (dZ 0 P))(hl:P.length≤1000) :
 Calls Tryz.prog 77 #[.agg #[.bool true,k,v,p]] w fun e w'=>∃ g,e = .returned (.slice (some ⟨g,0,none⟩) P.length P.length)∧w.heap.size≤g∧OB w' g P.length 0 (up 0 P)∧Below w.heap.size w w':=by
 obtain ⟨⟨ak,ck,rfl,hck,h1⟩,⟨av,cv,rfl,hcv,h2⟩,⟨ap,cp,rfl,h3⟩⟩:=hn
 have e1:(dZ 0 P).ks.length=P.length:=List.length_map ..
 have e2:(dZ 0 P).vs.length=P.length:=List.length_map ..
 have e3:(dZ 0 P).ps.length=0:=rfl
 rw [e1,e2,e3]
 obtain ⟨n,hN⟩:∃ n,P.length=n:=⟨_,rfl⟩
 have HN:=hid hN
 have H1:=hid h1
 have H2:=hid h2
 rw [hN] at hl ⊢
 have nI:(n:Int)≤1000:=by omega
 have hmk:=Pj n (by omega)
 clear h1 h2 h3 hN hck hcv e1 e2 e3
 go_in
 go_wp2_with fail
 have hst:∀ W,W=(w.alloc (.cells #[.bool true,.slice ak n ck,.slice av n cv,.slice ap 0 cp] 118)).alloc (.cells (madeCells YD (n * 3)) 129)→W.heap[w.heap.size]? = some (.cells #[.bool true,.slice ak n ck,.slice av n cv,.slice ap 0 cp] 118 (0,0))∧jm W (w.heap.size+1) 0 n []∧Below w.heap.size w W:=fun W hW=>by
  subst hW;have o:=JE (w.alloc (.cells #[.bool true,.slice ak n ck,.slice av n cv,.slice ap 0 cp] 118)) 0 n;rw [show (w.alloc (.cells #[.bool true,.slice ak n ck,.slice av n cv,.slice ap 0 cp] 118)).heap.size=w.heap.size+1 by simp] at o;refine ⟨?_,o,aJ (aK w _) (aK _ _)⟩;rw [(aK (w.alloc _) _).block _ (iF w _)];exact ah w _
 go_loopw [4,5,18] (fun _ _ v18 wr=>∃ i:Nat,i≤n∧v18 = .int .i64 (i:Int)∧wr.heap[w.heap.size]? = some (.cells #[.bool true,.slice ak n ck,.slice av n cv,.slice ap 0 cp] 118 (0,0))∧jm wr (w.heap.size+1) 0 n ((up 0 P).take i)∧Below w.heap.size w wr) (fun _ _ v _=>n - (intOf v).toNat)
 case atStart=>exact ⟨0,by omega,rfl,hst _ rfl⟩
 case round =>
  obtain ⟨i,hi,rfl,hbx,hfi,hb⟩:=hrel;have HX:=hid hbx;have HF:=hid hfi;have HB:=hid hb;have e0:=cell_of_row wr w.heap.size 0 _ _ _ hbx;have e1:=cell_of_row wr w.heap.size 1 _ _ _ hbx;have e2:=cell_of_row wr w.heap.size 2 _ _ _ hbx;clear hbx hfi hb hst hmk;by_cases hlt:i<n
  ·obtain ⟨x,hx⟩:∃ x,P[i]? = some x:=⟨_,List.getElem?_eq_getElem (by have:=HN.out; omega)⟩
   obtain ⟨b1,o1,rfl,g1⟩:=H1.out i x.1 (by show (List.map (fun z:bH=>z.1) P)[i]? = _; rw [List.getElem?_map,hx]; rfl);obtain ⟨b2,o2,rfl,g2⟩:=H2.out i x.2 (by show (List.map (fun z:bH=>z.2) P)[i]? = _; rw [List.getElem?_map,hx]; rfl);have hix:=iK b1 o1 n ck i hlt;have hiv:=iK b2 o2 n cv i hlt;have hii:=bT (w.heap.size+1) 0 n n i hlt;simp only [Nat.zero_add] at hii;have bn:=hid hlt;have iI:(i:Int)<(n:Int):=by omega
   have i0:(0:Int)≤(i:Int):=by omega
   have k1:=(HB.out.cell (p:=⟨b1,o1+i,none⟩) (block_lt_of_cell g1)).trans g1;have k2:=(HB.out.cell (p:=⟨b2,o2+i,none⟩) (block_lt_of_cell g2)).trans g2;have hul:((up 0 P).take i).length=i:=by
    rw [List.length_take,show (up 0 P).length=P.length from List.length_map ..]; have:=HN.out; omega
   have hc:=FW HF.out (by rw [hul]; exact hlt);rw [hul] at hc;obtain ⟨c10,c11,c12⟩:=hc;have f1:∀ j,wr.frozen? ⟨w.heap.size+1,j,none⟩=false:=fun j=>frozen_of_row wr (w.heap.size+1) j _ _ HF.out;have f10:=f1 (i * 3);have f11:=f1 (i * 3+1);have f12:=f1 (i * 3+2);have HUL:=hid hul;have Aq:=hid (show (up 0 P).take (i+1)=(up 0 P).take i++[(show bK (Kd 0) from (x.1,x.2,()))] from bM _ i _ (by show (List.map (fun z:bH=>(z.1,z.2,())) P)[i]? = _; rw [List.getElem?_map,hx]; rfl));have hbk:=FY x.1 x.2;clear hi hlt hx g1 g2 hul f1;go_wp2_with fail;have hW:=fC (fC (fC HF.out (i * 3) (.string x.1)) (i * 3+1) (.string x.2)) (i * 3+2) (.pointer none);have hb3:Below w.heap.size w (((wr.setCell ⟨w.heap.size+1,i * 3,none⟩ (.string x.1)).setCell ⟨w.heap.size+1,i * 3+1,none⟩ (.string x.2)).setCell ⟨w.heap.size+1,i * 3+2,none⟩ (.pointer none)) :=
    ((HB.out.setCell (p:=⟨w.heap.size+1,i * 3,none⟩) (by show w.heap.size≤w.heap.size+1; omega) _).setCell (p:=⟨w.heap.size+1,i * 3+1,none⟩) (by show w.heap.size≤w.heap.size+1; omega) _).setCell (p:=⟨w.heap.size+1,i * 3+2,none⟩) (by show w.heap.size≤w.heap.size+1; omega) _
   refine ⟨⟨i+1,by have:=bn.out; omega,by go_num, ?_, ?_,hb3⟩,by simp only [intOf]; have:=bn.out; omega⟩
   ·rw [heap_setCell_other _ _ _ _ (by show w.heap.size ≠ w.heap.size+1; omega),heap_setCell_other _ _ _ _ (by show w.heap.size ≠ w.heap.size+1; omega),heap_setCell_other _ _ _ _ (by show w.heap.size ≠ w.heap.size+1; omega)]
    exact HX.out
   rw [Aq.out];refine JG HF.out (by rw [HUL.out]; exact bn.out) (show bK (Kd 0) from (x.1,x.2,())) ?_;rw [HUL.out] at hW ⊢;exact hW
  obtain rfl:i=n:=by omega
  clear hi hlt;go_wp2_with fail;go_ret;have e:=HF.out;rw [List.take_of_length_le (by rw [show (up 0 P).length=P.length from List.length_map ..]; have:=HN.out; omega)] at e;exact ⟨_,rfl,by omega,JF e (by rw [show (up 0 P).length=P.length from List.length_map ..]; exact HN.out),HB.out⟩
def amO (d:Nat)(P:Pt (d+1)):Prop:=∀ x r,(show List (ByteArray×ay×Pt d) from P)=x::r→x.1=aY
theorem MF {d:Nat}{P:List (ByteArray×ay×Pt d)}(i:Nat)(x:ByteArray×ay×Pt d)(hx:P[i+1]? = some x):(P.map (·.1)).tail[i]? = some x.1:=by
 rw [← List.drop_one,List.getElem?_drop,Nat.add_comm,List.getElem?_map,hx];rfl
theorem abU {w:World}{g d n:Nat}{K:Its (d+1)}(h:jm w g (d+1) n K)(hn:K.length<n)(key:ByteArray)(o:bO) :
 ∀ W:World,W.heap[g]? = some (.cells (((aH (d+1) K++z3 (n - K.length)).set (K.length * 3+2) (.pointer o)).set (K.length * 3) (.string key)).toArray 129 (0,0))→∀ T:Kd (d+1),dA (d+1) T=o→jm W g (d+1) n (K++[(key,aY,T)]):=fun W hW T hT=>by
 refine JG h hn (key,aY,T) ?_
 rw [hW]
 congr 3
 have hk:=bu (d+1) K
 obtain ⟨m,hm⟩:∃ m,n - K.length=m+1:=⟨n - K.length - 1,by omega⟩
 rw [hm,zH]
 simp only [List.set_append_right _ _ (show (aH (d+1) K).length≤K.length * 3 by omega),List.set_append_right _ _ (show (aH (d+1) K).length≤K.length * 3+1 by omega),List.set_append_right _ _ (show (aH (d+1) K).length≤K.length * 3+2 by omega),hk,Nat.sub_self,show K.length * 3+1 - K.length * 3=1 by omega,show K.length * 3+2 - K.length * 3=2 by omega]
 rw [hT]
 simp [YD,aY]
theorem abV {α:Type}{l:List α}{i:Nat}{v:α}(h:l[i]? = some v):l.set i v=l:=by
 obtain ⟨hi,rfl⟩:=List.getElem?_eq_some_iff.1 h;exact List.set_getElem_self hi
theorem jm.aiC {w w':World}{g d n:Nat}{K:Its d}(h:jm w g d n K)(q:Below w.heap.size w w'):jm w' g d n K:=(q.block g (lt_of_block h)).trans h
theorem abW {LQ:ay→az→Prop}{d n i b:Nat}{w wr w8:World}{C:Array Value}{K:Its (d+1)}{PL:List (ByteArray×ay×Pt d)}{x:ByteArray×ay×Pt d}(hb:Below w.heap.size w wr)(hb8:Below wr.heap.size wr w8)(hx:wr.heap[w.heap.size]? = some (.cells C 118 (0,0)))(hf:jm w8 (w.heap.size+1) (d+1) n K)
 (hsm:K.map OV=(PL.take i).map (fun x=>OV (d:=d) (x.1,aY,mkK 0 (.inl (x.2.1,x.2.2))))) (htr:∀ x ∈ K,TR LQ wr (fun k=>w.heap.size≤k∧k ≠ w.heap.size+1∧k<wr.heap.size) (d+1) x.2.2) (hk:K.length=i) (hi:i<n) (htk:PL.take (i+1)=PL.take i++[x]) (hq:Lies LQ d x.2.1 x.2.2) (htw:kL w8 b x.2.1 false (.slice none 0 0) 0) (hbl:wr.heap.size≤b)
 (W:World) (hW:W.heap[w.heap.size+1]? = some (.cells (((aH (d+1) K++z3 (n - K.length)).set (K.length * 3+2) (.pointer (some ⟨b,0,none⟩))).set (K.length * 3) (.string x.1)).toArray 129 (0,0))) (ht:Touch [w.heap.size+1] w8 W) (hg:w.heap.size+1<wr.heap.size) :
 W.heap[w.heap.size]? = some (.cells C 118 (0,0))∧jm W (w.heap.size+1) (d+1) n (K++[(x.1,aY,mkK b (.inl (x.2.1,x.2.2)))])∧(K++[(x.1,aY,mkK b (.inl (x.2.1,x.2.2)))]).map OV=(PL.take (i+1)).map (fun x=>OV (d:=d) (x.1,aY,mkK 0 (.inl (x.2.1,x.2.2))))∧(∀ y ∈ K++[(x.1,aY,mkK b (.inl (x.2.1,x.2.2)))],TR LQ W (fun k=>w.heap.size≤k∧k ≠ w.heap.size+1∧k<W.heap.size) (d+1) y.2.2)∧Below w.heap.size w W:=by
 have hwx:=lt_of_block hx
 have hT:∀ k,k<wr.heap.size→k ≠ w.heap.size+1→W.heap[k]? = wr.heap[k]? := fun k h1 h2=>(ht.block k (Nat.lt_of_lt_of_le h1 hb8.size) (by simpa using h2)).trans (hb8.block k h1)
 have hs:wr.heap.size≤W.heap.size:=Nat.le_trans hb8.size ht.size
 refine ⟨(hT _ hwx (by omega)).trans hx,abU hf (by omega) x.1 (some ⟨b,0,none⟩) W hW _ rfl, ?_,fun y hy=>?_, ?_⟩
 ·rw [htk,List.map_append,List.map_append,hsm]
  rfl
 ·rcases List.mem_append.1 hy with hy | hy
  ·exact ((htr y hy).keep (fun k hk=>hT k hk.2.2 hk.2.1)).more (fun _ _ h=>h) (fun k hk=>⟨hk.1,hk.2.1,Nat.lt_of_lt_of_le hk.2.2 hs⟩)
  rw [List.mem_singleton.1 hy];have e:W.heap[b]? = w8.heap[b]? := ht.block b (lt_of_block htw) (by simp; omega);exact ⟨⟨Nat.le_trans hb.size hbl,by show b ≠ _; omega,lt_of_block (e.trans htw)⟩,e.trans htw,hq⟩
 ·exact (hb.trans (hb8.mono hb.size)).trans (ht.below (Nat.le_trans hb.size hb8.size) (fun k hk=>by rw [List.mem_singleton.1 hk]; omega))
theorem F7 (LQ:ay→az→Prop)(d:Nat)(k v p:Value)(P:Pt (d+1))(w:World)(hn:NR w k v p (dZ (d+1) P))(hl:(show List (ByteArray×ay×Pt d) from P).length≤1000)(hh:amO d P)(hq:∀ x ∈ (show List (ByteArray×ay×Pt d) from P),Lies LQ d x.2.1 x.2.2) :
 Calls Tryz.prog 77 #[.agg #[.bool false,k,v,p]] w fun e w'=>∃ g K,e = .returned (.slice (some ⟨g,0,none⟩) K.length K.length)∧w.heap.size≤g∧OB w' g K.length (d+1) K∧bP (d+1) K (up (d+1) P)∧(∀ x ∈ K,TR LQ w' (fun k=>w.heap.size≤k∧k ≠ g) (d+1) x.2.2)∧Below w.heap.size w w':=by
 obtain ⟨PL,hPL⟩:∃ PL:List (ByteArray×ay×Pt d),PL=P:=⟨P,rfl⟩
 obtain ⟨⟨ak,ck,rfl,hck,h1⟩,⟨av,cv,rfl,hcv,h2⟩,⟨ap,cp,rfl,h3⟩⟩:=hn
 have e1:(dZ (d+1) P).ks=(PL.map (·.1)).tail:=by rw [hPL]; rfl
 have e2:(dZ (d+1) P).vs=[]:=rfl
 have e3:(dZ (d+1) P).ps=PL.map (·.2.1):=by rw [hPL]; rfl
 rw [e1] at h1 ⊢
 rw [e2] at h2 ⊢
 rw [e3] at h3 ⊢
 rw [List.length_map]
 have hup:up (d+1) P=PL.map (fun x=>(x.1,aY,mkK 0 (.inl (x.2.1,x.2.2)))):=by rw [hPL]; rfl
 rw [hup]
 have hh':∀ x r,PL=x::r→x.1=aY:=by rw [hPL]; exact hh
 have hq':∀ x ∈ PL,Lies LQ d x.2.1 x.2.2:=by rw [hPL]; exact hq
 have hl':PL.length≤1000:=by rw [hPL]; exact hl
 obtain ⟨n,hN⟩:∃ n,PL.length=n:=⟨_,rfl⟩
 obtain ⟨nk,hNK⟩:∃ nk,((PL.map (·.1)).tail).length=nk:=⟨_,rfl⟩
 have HNK:=hid (show nk=n - 1 by rw [← hNK,List.length_tail,List.length_map,hN])
 have HN:=hid hN
 have H1:=hid h1
 have H3:=hid h3
 have HH:=hid hh'
 have HQ:=hid hq'
 rw [hN] at hl' ⊢
 rw [hNK]
 have nI:(n:Int)≤1000:=by omega
 have hmk:=Pj n (by omega)
 clear h1 h2 h3 hN hck hcv e1 e2 e3 hup hh hh' hq hq' hl hPL hNK
 go_in
 go_wp2_with fail
 have hst:∀ W,W=(w.alloc (.cells #[.bool false,.slice ak nk ck,.slice av 0 cv,.slice ap n cp] 118)).alloc (.cells (madeCells YD (n * 3)) 129)→W.heap[w.heap.size]? = some (.cells #[.bool false,.slice ak nk ck,.slice av 0 cv,.slice ap n cp] 118 (0,0))∧jm W (w.heap.size+1) (d+1) n []∧Below w.heap.size w W:=fun W hW=>by
  subst hW;have o:=JE (w.alloc (.cells #[.bool false,.slice ak nk ck,.slice av 0 cv,.slice ap n cp] 118)) (d+1) n;rw [show (w.alloc (.cells #[.bool false,.slice ak nk ck,.slice av 0 cv,.slice ap n cp] 118)).heap.size=w.heap.size+1 by simp] at o;refine ⟨?_,o,aJ (aK w _) (aK _ _)⟩;rw [(aK (w.alloc _) _).block _ (iF w _)];exact ah w _
 go_loopw [7,8,42] (fun _ _ v42 wr=>∃ K:Its (d+1),K.length≤n∧v42 = .int .i64 (K.length:Int)∧wr.heap[w.heap.size]? = some (.cells #[.bool false,.slice ak nk ck,.slice av 0 cv,.slice ap n cp] 118 (0,0))∧jm wr (w.heap.size+1) (d+1) n K∧K.map OV=(PL.take K.length).map (fun x=>OV (d:=d) (x.1,aY,mkK 0 (.inl (x.2.1,x.2.2))))∧(∀ x ∈ K,TR LQ wr (fun k=>w.heap.size≤k∧k ≠ w.heap.size+1∧k<wr.heap.size) (d+1) x.2.2)∧Below w.heap.size w wr) (fun _ _ v _=>n - (intOf v).toNat)
 case atStart=>exact ⟨[],by simp,rfl,(hst _ rfl).1,(hst _ rfl).2.1,by simp,fun x hx=>by simp at hx,(hst _ rfl).2.2⟩
 case round =>
  obtain ⟨K,hi,rfl,hbx,hfi,hsm,htr,hb⟩:=hrel;obtain ⟨i,hKi⟩:∃ i,K.length=i:=⟨_,rfl⟩
  have NF:=hid hKi;rw [hKi] at hi hsm ⊢;have HX:=hid hbx;have HF:=hid hfi;have HB:=hid hb;have xJ:=hid hsm;have HTR:=hid htr;have e0:=cell_of_row wr w.heap.size 0 _ _ _ hbx;have e1:=cell_of_row wr w.heap.size 1 _ _ _ hbx;have e3:=cell_of_row wr w.heap.size 3 _ _ _ hbx;clear hbx hfi hb hsm htr hst hmk hKi;by_cases hlt:i<n
  ·obtain ⟨x,hx⟩:∃ x,PL[i]? = some x:=⟨_,List.getElem?_eq_getElem (by have:=HN.out; omega)⟩
   obtain ⟨b1,o1,rfl,g1⟩:=H3.out i x.2.1 (by rw [List.getElem?_map,hx]; rfl);have hix:=rF b1 o1 n cp i hlt;have hii:=bT (w.heap.size+1) 0 n n i hlt;simp only [Nat.zero_add] at hii;have lW:=hid (dm g1 HB.out);have bn:=hid hlt;have iI:(i:Int)<(n:Int):=by omega
   have i0:(0:Int)≤(i:Int):=by omega
   have HLQ:=hid (HQ.out x (List.mem_of_getElem? hx));have HKX:=hid (fun (j:Nat) (hj:i=j+1)=>H1.out j x.1 (MF j x (by rw [← hj]; exact hx)));have Rl:=hid (fun (hj:i=0)=>show x.1=aY by
    subst hj;match PL,hx,HH.out with
    | y::r,hx,hh =>
      have:y=x:=by simpa using hx
      rw [← this]; exact hh y r rfl)
   have Aq:=hid (show PL.take (i+1)=PL.take i++[x] by rw [List.take_add_one,hx]; rfl);have DY:=hid (dL x.2.1);have Bc:=hid (cZ x.2.1);have EW:=hid (show (ag ai).toArray.size=(ag x.2.1).toArray.size by simp [aO]);have WO:=hid (aW x.2.1);have hzp:=dF;obtain ⟨ZA,VR⟩:∃ ZA,(ag ai).toArray=ZA:=⟨_,rfl⟩
   rw [VR] at hzp EW;have HLY:=hid (fun W=>Bl x.2.1 W);clear hi hlt hx g1 VR;go_upto_region 13 with (first
    | (with_reducible refine wpList_load_mid (op:=⟨some 46,_,_,_,_,_⟩) rfl 51 _ rfl b1 (o1+i * 34) rfl (ag x.2.1) _ lW.out Tryz.underlying51 rfl DY.out ?_)
    | (with_reducible refine wpList_store_row (o:=⟨none,.store _ (.tmp 8) _,_,_,_,_⟩) rfl 51 _ _ rfl wr.heap.size (ag x.2.1).toArray rfl rfl 51 ZA (heap_alloc_new wr _) Bc.out EW.out WO.out ?_))
   clear hix hzp;obtain ⟨h7,hb7⟩:=vG wr ZA (ag x.2.1).toArray;generalize World.setRow _ wr.heap.size _=w7 at *;have H7:=hid h7;have D6:=hid hb7;clear h7 hb7 lW DY EW WO;generalize (ag x.2.1).toArray=AR at *;have e0':=(D6.out.cell (p:=⟨w.heap.size,0,none⟩) (block_lt_of_cell e0)).trans e0;clear e0 e3;go_wp2_with (first
    | (with_reducible refine wpList_load_row (o:=⟨some 49,_,_,_,_,_⟩) rfl 51 _ rfl wr.heap.size rfl 51 AR (0,0) _ H7.out Tryz.underlying51 rfl Bc.out ?_))
   refine (HLY.out _).mono ?_;rintro e w8 ⟨he,hb8⟩;obtain ⟨b,rfl,hbl,htw⟩:∃ b,e = .returned (.pointer (some ⟨b,0,none⟩))∧w7.heap.size≤b∧kL w8 b x.2.1 false (.slice none 0 0) 0:=by
    rcases he with ⟨h0,_⟩ | ⟨_,h1⟩
    ·exact absurd h0 HLQ.out.ne
    exact h1
   have HTW:=hid htw;have HB8:=hid (aJ D6.out hb8);have EH:=hid (Nat.le_trans D6.out.size hbl);have F8:=HF.out.aiC HB8.out;have HF8:=hid F8;have hc:=FW F8 (by rw [NF.out]; exact bn.out);rw [NF.out] at hc;obtain ⟨c10,c11,c12⟩:=hc;have f1:∀ j,w8.frozen? ⟨w.heap.size+1,j,none⟩=false:=fun j=>frozen_of_row w8 (w.heap.size+1) j _ _ F8;have f10:=f1 (i * 3);have f12:=f1 (i * 3+2);have e1':=(HB8.out.cell (p:=⟨w.heap.size,1,none⟩) (block_lt_of_cell e1)).trans e1;clear he hb8 hbl htw F8 f1 e1;have jv:=hid (fun (W:World) (hW:W.heap[w.heap.size+1]? = some (.cells (((aH (d+1) K++z3 (n - K.length)).set (K.length * 3+2) (.pointer (some ⟨b,0,none⟩))).set (K.length * 3) (.string x.1)).toArray 129 (0,0))) (ht:Touch [w.heap.size+1] w8 W) =>
    abW (LQ:=LQ) (w:=w) HB.out HB8.out HX.out HF8.out xJ.out HTR.out NF.out bn.out Aq.out HLQ.out HTW.out EH.out W hW ht (lt_of_block HF.out))
   rcases Nat.eq_zero_or_pos i with hz | hz
   ·have hz1:¬ ((0:Int)<(i:Int)):=by omega
    have HZ:=hid hz;clear hz e1' c10 f10;go_wp2_with fail;have hr:=fC HF8.out (i * 3+2) (.pointer (some ⟨b,0,none⟩));have yF:((aH (d+1) K++z3 (n - K.length)).set (i * 3+2) (.pointer (some ⟨b,0,none⟩)))[i * 3]? = some (.string x.1):=by
     rw [List.getElem?_set_ne (by omega),Rl.out HZ.out];have hk:=bu (d+1) K;have hki:=NF.out;obtain ⟨m,hm⟩:∃ m,n - K.length=m+1:=⟨n - K.length - 1,by have:=bn.out; omega⟩
     rw [hm,zH,List.getElem?_append_right (by omega),hk,hki,Nat.sub_self];rfl
    have hfin:=jv.out _ (by rw [hr]; have hq:=abV yF; rw [← NF.out] at hq ⊢; rw [hq]) (aV w8 _ _ _);exact ⟨⟨K++[(x.1,aY,mkK b (.inl (x.2.1,x.2.2)))],by rw [List.length_append,NF.out]; exact bn.out,by rw [List.length_append,NF.out]; go_num,hfin.1,hfin.2.1,by rw [List.length_append,NF.out]; exact hfin.2.2.1,hfin.2.2.2⟩,by simp only [intOf]; have:=bn.out; omega⟩
   obtain ⟨j,hj⟩:∃ j,i=j+1:=⟨i - 1,by omega⟩
   obtain ⟨bk,ok,hak,gk⟩:=HKX.out j hj;subst hak;have gk2:=(aJ HB.out HB8.out).cell (p:=⟨bk,ok+j,none⟩) (block_lt_of_cell gk);have k2:=gk2.trans gk;have hik:=iK bk ok nk ck j (by have:=HNK.out; have:=bn.out; omega);have hwj:(i:Int) - 1=(j:Int):=by omega
   have hz1:(0:Int)<(i:Int):=by omega
   have auc:bk ≠ w.heap.size+1:=by have:=block_lt_of_cell gk; show bk ≠ _; change bk<_ at this; omega
   have hx1:(w.heap.size+1=w.heap.size)=False:=by simp
   have HJ:=hid hj;clear hz hj gk gk2;go_wp2_with fail;have hr:=fC (fC HF8.out (i * 3+2) (.pointer (some ⟨b,0,none⟩))) (i * 3) (.string x.1);have hfin:=jv.out _ (by rw [hr,NF.out]) ((aV w8 _ _ _).trans (aV _ _ _ _));exact ⟨⟨K++[(x.1,aY,mkK b (.inl (x.2.1,x.2.2)))],by rw [List.length_append,NF.out]; exact bn.out,by rw [List.length_append,NF.out]; go_num,hfin.1,hfin.2.1,by rw [List.length_append,NF.out]; exact hfin.2.2.1,hfin.2.2.2⟩,by simp only [intOf]; have:=bn.out; omega⟩
  obtain rfl:i=n:=by omega
  clear hi hlt;go_wp2_with fail;go_ret;have e:=JF HF.out NF.out;refine ⟨w.heap.size+1,K,by rw [NF.out]; rfl,by omega,by rw [NF.out]; exact e, ?_,fun x hx=>((HTR.out x hx).more (fun _ _ h=>h) (fun k hk=>⟨hk.1,hk.2.1⟩)),HB.out⟩;rw [mJ,xJ.out,← HN.out,List.take_length,List.map_map];rfl
def RD (LQ:ay→az→Prop)(w:World)(P:Nat):Prop:=∀ W,Below w.heap.size w W→∀ q nd,LQ q nd→Calls Tryz.prog 45 #[.pointer (some ⟨P,0,none⟩),.agg (ag q).toArray] W fun e w'=>∃ k v p,e = .returned (.tuple #[.agg #[.bool nd.lf,k,v,p],.int .i64 0])∧NR w' k v p nd∧Below W.heap.size W w'
theorem RD.below {LQ:ay→az→Prop}{w w':World}{P:Nat}(h:RD LQ w P)(q:Below w.heap.size w w'):RD LQ w' P:=fun W hW=>h W (aJ q hW)
theorem abY {w:World}{b:Nat}(h:w.heap[b]? = some (.cells #[.bool false,.slice none 0 0,.slice none 0 0,.slice none 0 0] 118 (0,0)))(lf:Bool)(k v p:Value) :
 ((((w.setCell ⟨b,0,none⟩ (.bool lf)).setCell ⟨b,1,none⟩ k).setCell ⟨b,2,none⟩ v).setCell ⟨b,3,none⟩ p).heap[b]? = some (.cells #[.bool lf,k,v,p] 118 (0,0))∧Touch [b] w ((((w.setCell ⟨b,0,none⟩ (.bool lf)).setCell ⟨b,1,none⟩ k).setCell ⟨b,2,none⟩ v).setCell ⟨b,3,none⟩ p)∧True:=by
 have h':w.heap[b]? = some (.cells [.bool false,.slice none 0 0,.slice none 0 0,.slice none 0 0].toArray 118 (0,0)):=h
 exact ⟨fC (fC (fC (fC h' 0 _) 1 _) 2 _) 3 _,(((aV w b 0 _).trans (aV _ b 1 _)).trans (aV _ b 2 _)).trans (aV _ b 3 _),trivial⟩
theorem aiF {w W:World}{k v p:Value}{n:az}{b:Nat}(h:NR w k v p n)(hz:w.heap[b]? = some (.cells #[.bool false,.slice none 0 0,.slice none 0 0,.slice none 0 0] 118 (0,0)))(t:Touch [b] w W):NR W k v p n:=by
 have hs:∀ {u:Value} {l:List ByteArray},SS w u l→SS W u l:=fun {u l} h=>by
  obtain ⟨a,c,e,hc,h1⟩:=h;refine ⟨a,c,e,hc,fun i s hs=>?_⟩;obtain ⟨g,o,e1,h2⟩:=h1 i s hs;refine ⟨g,o,e1,ae h2 (t.block g (block_lt_of_cell h2) ?_)⟩;intro hm;obtain rfl:=List.mem_singleton.1 hm;simp only [World.cell?,hz] at h2;match o+i,h2 with
  | 0,h2=>cases h2
  | 1,h2=>cases h2
  | 2,h2=>cases h2
  | 3,h2=>cases h2
  | j+4,h2=>simp at h2
 refine ⟨hs h.ks,hs h.vs, ?_⟩;obtain ⟨a,c,e,h1⟩:=h.ps;refine ⟨a,c,e,fun i q hq=>?_⟩;obtain ⟨g,o,e1,h2⟩:=h1 i q hq;refine ⟨g,o,e1,fun j u hu=>?_⟩;have h3:=h2 j u hu;refine ae h3 (t.block g (block_lt_of_cell h3) ?_);intro hm;obtain rfl:=List.mem_singleton.1 hm;have h0:=h2 0 _ rfl;have h4:(o+i * 34+0)<4:=by
  simp only [World.cell?,hz] at h0;rcases Nat.lt_or_ge (o+i * 34+0) 4 with q | q
  ·exact q
  rw [Array.getElem?_eq_none (by simpa using q)] at h0; cases h0
 simp only [World.cell?,hz] at h0;match o+i * 34+0,h0,h4 with
 | 0,h0,_=>cases h0
 | 1,h0,_=>cases h0
 | 2,h0,_=>cases h0
 | 3,h0,_=>cases h0
theorem Pm (LQ:ay→az→Prop)(d:Nat)(q:ay)(k v p:Value)(P:Pt d)(w:World)(hn:NR w k v p (dZ d P))(hl:(up d P).length≤1000)(hh:d ≠ 0→∀ x r,up d P=x::r→x.1=aY)(hq:Lies LQ d q P) :
 Calls Tryz.prog 77 #[.agg #[.bool (d == 0),k,v,p]] w fun e w'=>∃ g K,e = .returned (.slice (some ⟨g,0,none⟩) K.length K.length)∧w.heap.size≤g∧OB w' g K.length d K∧bP d K (up d P)∧(∀ x ∈ K,TR LQ w' (fun k=>w.heap.size≤k∧k ≠ g) d x.2.2)∧Below w.heap.size w w':=by
 match d,P,hn,hl,hh,hq with
 | 0,P,hn,hl,hh,hq =>
   have e:(up 0 P).length=(show List bH from P).length:=List.length_map ..;refine (MC k v p P w hn (by rw [← e]; exact hl)).mono ?_;rintro e1 w' ⟨g,rfl,h1,h2,h3⟩;exact ⟨g,up 0 P,by rw [e],h1,by rw [e]; exact h2,rfl,fun x hx=>trivial,h3⟩
 | d+1,P,hn,hl,hh,hq =>
   have e:(up (d+1) P).length=(show List (ByteArray×ay×Pt d) from P).length:=List.length_map ..;refine (F7 LQ d k v p P w hn (by rw [← e]; exact hl) ?_ hq.2.2.2).mono ?_
   ·intro x r hx
    have hx':P=x::r:=hx;subst hx';exact hh (by omega) _ _ rfl
   rintro e1 w' ⟨g,K,h1,h2,h3,h4,h5,h6⟩;exact ⟨g,K,h1,h2,h3,h4,h5,h6⟩
theorem abZ:∀ (d:Nat) (X:Pt d),(dZ d X).lf=(d == 0)
 | 0,_=>rfl
 | _+1,_=>rfl
def vP (LQ:ay→az→Prop)(ok:Nat→Prop)(d:Nat)(M:Its d)(f s:ByteArray)(w:World)(e:Ending)(w':World):Prop :=
 ∃ g c L,e = .returned (.tuple #[.slice (some ⟨g,0,none⟩) (dH (f,s) (d == 0) L).length c,.bool (d == 0),.int .i64 0])∧w.heap.size≤g∧OB w' g c d (dH (f,s) (d == 0) L)∧(dH (f,s) (d == 0) L).length+1≤c∧c≤1001∧bP d L M ∧
   (∀ x ∈ L,TR LQ w' (fun k=>ok k∨w.heap.size≤k∧k ≠ g) d x.2.2)∧Below w.heap.size w w'
theorem Ul (LQ:ay→az→Prop)(ok:Nat→Prop)(d a t P:Nat)(q:ay)(X:Pt d)(rt:Value)(f s:ByteArray)(w:World)(ht:w.heap[t]? = some (.cells #[.pointer (some ⟨P,0,none⟩),rt] 94 (0,0)))(hr:RD LQ w P)(hta:kL w a q false (.slice none 0 0) 0)(hl:Lies LQ d q X)(hlen:(up d X).length≤1000)(hhd:d ≠ 0→∀ x r,up d X=x::r→x.1=aY) :
 Calls Tryz.prog 57 #[.pointer (some ⟨t,0,none⟩),.pointer (some ⟨a,0,none⟩),.agg #[.string f,.string s]] w fun e w'=>vP LQ ok d (up d X) f s w e w':=by
 obtain ⟨r0,c34,IG,_⟩:=hta.at_
 have HR0:=hid r0
 have DY:=hid (dL q)
 have HN:=hid (fun W=>dR q W)
 have n0:(q.ad == 0)=false:=by simpa using hl.ne
 have HRA:=hid (jF r0)
 have t0:=cell_of_row w t 0 _ _ _ ht
 rw [n0] at HN
 have g0:∀ o,(w.alloc o).rangeAt a 0 (ag q):=fun o=>dm r0 (aK w o)
 have KP:=hid g0
 clear r0 hta g0
 go_in
 go_wp2_with (first
  | (with_reducible refine wpList_load_mid (op:=⟨some 16,_,_,_,_,_⟩) rfl 51 _ rfl a 0 rfl (ag q) _ (KP.out _) Tryz.underlying51 rfl DY.out ?_))
 refine (HN.out _).mono ?_
 rintro e w1 ⟨rfl,hb1⟩
 have HB1:=hid (aJ (aK w _) hb1)
 go_wp2_with fail
 have t1:=(HB1.out.cell (p:=⟨t,0,none⟩) (block_lt_of_cell t0)).trans t0
 have HR1:=hid (dm HR0.out HB1.out)
 have nZ:=hid (hr.below HB1.out)
 have HLQ:=hid hl.reads
 have Ui:=hid hlen
 have b0:=cell_of_row (w.alloc (.cells #[.string f,.string s] 96)) w.heap.size 0 _ _ _ (ah w _)
 have b1:=cell_of_row (w.alloc (.cells #[.string f,.string s] 96)) w.heap.size 1 _ _ _ (ah w _)
 have u0:=ae b0 (hb1.block _ (block_lt_of_cell b0))
 have u1:=ae b1 (hb1.block _ (block_lt_of_cell b1))
 have HU:=hid (And.intro u0 u1)
 have HIT:=hid (fun (W:World) (k v p:Value) (hn:NR W k v p (dZ d X))=>Pm LQ d q k v p X W hn hlen hhd hl)
 clear hb1 t0 hr hl b0 b1 u0 u1 hlen hhd
 go_cut [9,10] from 18 (fun v9 v10 wc=>∃ B k v p,v9 = .pointer (some ⟨B,0,none⟩)∧v10 = .int .i64 0∧wc.heap[B]? = some (.cells #[.bool (dZ d X).lf,k,v,p] 118 (0,0))∧NR wc k v p (dZ d X)∧Below w1.heap.size w1 wc∧w1.heap.size≤B)
 case first =>
  try simp only [Act.put]
  refine wp_region_noPanic ?_;refine wp_region_held_drew (S:=fun W=>Below w1.heap.size w1 W) (by kernel_rfl) (Below.refl _ w1).drew (fun hHeld=>?_);refine tR 0 33 (h:=tR 1 34 (h:=tR 2 35 (h:=?_)));refine tK 3 36 (.pointer (some ⟨P,0,none⟩)) rfl (Or.inl ⟨by rfl, ?_⟩) ?_
  ·(intro w' hSw; have tt:=ae t1 (hSw.block t (block_lt_of_cell t1)); go_simp; try with_reducible rfl)
  try simp only [Act.put,pZ]
  refine tR 4 37 (h:=tR 5 38 (h:=tR 6 39 (h:=?_)));refine tK 7 40 _ rfl (yieldsIf_load_mid (by rfl) _ _ rfl (a) (0) rfl ((ag q)) _ (fun w' h=>dm HR1.out h) Tryz.underlying51 rfl DY.out) ?_;try simp only [Act.put,pZ]
  refine wpAnyH_ready (rs:=[8,12]) (by decide +kernel) (by simp) ?_;refine AllReadyH.cons rfl (fun K hK=>?_) (AllReadyH.cons rfl (fun K hK=>?_) AllReadyH.nil)
  ·go_simp
   go_at_call 45
   refine (nZ.out (w1.drew) ((Below.refl w1.heap.size w1).drew) _ _ HLQ.out).mono ?_;rintro e w3 ⟨k,v,p,rfl,hn,hb3⟩;obtain ⟨a1,c1,rfl,hn1⟩:=hn.ks;obtain ⟨a2,c2,rfl,hn2⟩:=hn.vs;obtain ⟨a3,c3,rfl,hn3⟩:=hn.ps;have HB3:=hid (((Below.refl w1.heap.size w1).drew).trans (hb3.mono ((Below.refl w1.heap.size w1).drew).size));have Iw:=hid hn;clear hn1 hn2 hn3 hn hb3;go_wp2_with fail;refine hK.out _ _ (HB3.out) (fun hHeld=>?_);clear hK K;try simp only [Act.put,pZ]
   refine tR 9 32 (h:=tR 10 42 (h:=tR 11 43 (h:=?_)));refine rD 12 rfl fun K hK=>?_;go_simp;refine hK.out _ _ (HB3.out.alloc HB3.out.size _) (fun hHeld=>?_);clear hK K;try simp only [Act.put,pZ]
   have hz:=ah w3 (.cells #[.bool false,.slice none 0 0,.slice none 0 0,.slice none 0 0] 118);refine rD 13 rfl fun K hK=>?_;go_simp;refine hK.out _ _ (HB3.out.alloc HB3.out.size _) (fun hHeld=>?_);clear hK K;try simp only [Act.put,pZ]
   refine tR 14 10 (h:=?_);refine wpAnyH_done (by decide +kernel) ?_ _;refine NoPanic.normal ?_;go_wp2_with fail;go_meet;exact ⟨_,_,_,_,rfl,rfl,ah w3 _,Iw.out.below (aK w3 _),HB3.out.alloc HB3.out.size _,HB3.out.size⟩
  go_simp;have hal:=((Below.refl w1.heap.size w1).alloc (Nat.le_refl _) (.cells #[.bool false,.slice none 0 0,.slice none 0 0,.slice none 0 0] 118)).drew;have hzn:=ah w1 (.cells #[.bool false,.slice none 0 0,.slice none 0 0,.slice none 0 0] 118);refine hK.out _ _ hal (fun hHeld=>?_);clear hK K;try simp only [Act.put,pZ]
  generalize ewb:(w1.alloc (.cells #[.bool false,.slice none 0 0,.slice none 0 0,.slice none 0 0] 118)).drew=wb at hal ⊢;have aiG:wb.heap[w1.heap.size]? = some (.cells #[.bool false,.slice none 0 0,.slice none 0 0,.slice none 0 0] 118 (0,0)):=by rw [← ewb]; exact hzn
  clear hzn;refine rD 8 rfl fun K hK=>?_;go_simp;go_at_call 45
  refine (nZ.out (wb) (hal) _ _ HLQ.out).mono ?_;rintro e w3 ⟨k,v,p,rfl,hn,hb3⟩;obtain ⟨a1,c1,rfl,hn1⟩:=hn.ks;obtain ⟨a2,c2,rfl,hn2⟩:=hn.vs;obtain ⟨a3,c3,rfl,hn3⟩:=hn.ps;have HB3:=hid ((hal).trans (hb3.mono (hal).size));have Iw:=hid hn;have hz:=(hb3.block w1.heap.size (lt_of_block aiG)).trans aiG;clear hn1 hn2 hn3 hn hb3 aiG;go_wp2_with fail;refine hK.out _ _ (HB3.out) (fun hHeld=>?_);clear hK K;try simp only [Act.put,pZ]
  refine tR 9 32 (h:=tR 10 42 (h:=tR 11 43 (h:=?_)));have hsn:=abY hz (dZ d X).lf (.slice a1 (dZ d X).ks.length c1) (.slice a2 (dZ d X).vs.length c2) (.slice a3 (dZ d X).ps.length c3);have z0:=cell_of_row (w3) (w1.heap.size) 0 _ _ _ hz;have z1:=cell_of_row (w3) (w1.heap.size) 1 _ _ _ hz;have z2:=cell_of_row (w3) (w1.heap.size) 2 _ _ _ hz;have z3:=cell_of_row (w3) (w1.heap.size) 3 _ _ _ hz;have f0:=frozen_of_row (w3) (w1.heap.size) 0 _ _ hz;have f1:=frozen_of_row (w3) (w1.heap.size) 1 _ _ hz;have f2:=frozen_of_row (w3) (w1.heap.size) 2 _ _ hz;have f3:=frozen_of_row (w3) (w1.heap.size) 3 _ _ hz;refine rD 13 rfl fun K hK=>?_;go_simp;refine hK.out _ _ (HB3.out.trans (hsn.2.1.below HB3.out.size (fun k hk=>by rw [List.mem_singleton.1 hk]; exact Nat.le_refl _))) (fun hHeld=>?_);clear hK K;try simp only [Act.put,pZ]
  refine tR 14 10 (h:=?_);refine wpAnyH_done (by decide +kernel) ?_ _;refine NoPanic.normal ?_;go_wp2_with fail;go_meet;exact ⟨_,_,_,_,rfl,rfl,hsn.1,aiF Iw.out hz hsn.2.1,HB3.out.trans (hsn.2.1.below HB3.out.size (fun k hk=>by rw [List.mem_singleton.1 hk]; exact Nat.le_refl _)),Nat.le_refl _⟩
 case rest =>
  obtain ⟨B,k,v,p,rfl,rfl,hB,hn,hbc,hB0⟩:=hcut;rw [abZ] at hB;have HBC:=hid (aJ HB1.out hbc);have m0:=cell_of_row wc B 0 _ _ _ hB;have m1:=cell_of_row wc B 1 _ _ _ hB;have m2:=cell_of_row wc B 2 _ _ _ hB;have m3:=cell_of_row wc B 3 _ _ _ hB;have s0:=ae HU.out.1 (hbc.block _ (block_lt_of_cell HU.out.1));have s1:=ae HU.out.2 (hbc.block _ (block_lt_of_cell HU.out.2));have HIO:=hid (fun (W:World) (hW:Below wc.heap.size wc W)=>HIT.out W k v p (hn.below hW));clear hB hn hbc hB0 nZ t1 HIT;go_wp2_with fail;try simp only [Act.put]
  refine wp_region_noPanic ?_;refine wp_region_held_drew (S:=fun W=>Below wc.heap.size wc W) (by kernel_rfl) (Below.refl _ wc).drew (fun hHeld=>?_);refine tK 0 47 (.agg #[.string f,.string s]) rfl (Or.inl ⟨by rfl, ?_⟩) ?_
  ·(intro w' hSw; have q0:=ae s0 (hSw.block _ (block_lt_of_cell s0)); have q1:=ae s1 (hSw.block _ (block_lt_of_cell s1)); go_simp; try with_reducible rfl)
  try simp only [Act.put,pZ]
  refine tK 1 48 (.agg #[.bool (d == 0),k,v,p]) rfl (Or.inl ⟨by rfl, ?_⟩) ?_
  ·(intro w' hSw; have q0:=ae m0 (hSw.block _ (block_lt_of_cell m0)); have q1:=ae m1 (hSw.block _ (block_lt_of_cell m1)); have q2:=ae m2 (hSw.block _ (block_lt_of_cell m2)); have q3:=ae m3 (hSw.block _ (block_lt_of_cell m3)); go_simp; try with_reducible rfl)
  try simp only [Act.put,pZ]
  refine tR 3 50 (h:=?_);refine tK 4 51 (.bool (d == 0)) rfl (Or.inl ⟨by rfl, ?_⟩) ?_
  ·(intro w' hSw; have q0:=ae m0 (hSw.block _ (block_lt_of_cell m0)); go_simp; try with_reducible rfl)
  try simp only [Act.put,pZ]
  refine tR 6 53 (h:=?_);refine tK 7 54 (.bool (d == 0)) rfl (Or.inl ⟨by rfl, ?_⟩) ?_
  ·(intro w' hSw; have q0:=ae m0 (hSw.block _ (block_lt_of_cell m0)); go_simp; try with_reducible rfl)
  try simp only [Act.put,pZ]
  refine rD 2 rfl fun K hK=>?_;go_simp;go_at_call 77
  refine (HIO.out wc.drew (Below.refl _ wc).drew).mono ?_;rintro e w4 ⟨g1,L,rfl,hg1,hob,hsame,htr,hb4⟩;have DC:=hid hob;have HG4:=hid (And.intro hg1 (And.intro hsame htr));have HB4:=hid (show Below wc.heap.size wc w4 from (Below.refl wc.heap.size wc).drew.trans hb4);clear hg1 hob hsame htr hb4;go_wp2_with fail;refine hK.out _ _ (HB4.out) (fun hHeld=>?_);clear hK K;try simp only [Act.put,pZ]
  refine rD 5 rfl fun K hK=>?_;go_simp;go_at_call 76
  refine (O5 d (some ⟨g1,0,none⟩) L.length L.length L f s (d == 0) w4 DC.out.is (by rw [iM HG4.out.2.1]; exact Ui.out)).mono ?_;rintro e w5 ⟨g2,rfl,hg2,ab1,hb5⟩;have zJ:=hid ab1;have ZO:=hid hg2;have gp:=hid hb5;clear hg2 ab1 hb5;go_wp2_with fail;refine hK.out _ _ (HB4.out.trans (gp.out.mono HB4.out.size)) (fun hHeld=>?_);clear hK K;try simp only [Act.put,pZ]
  refine tR 8 6 (h:=tR 9 7 (h:=tR 10 8 (h:=?_)));refine wpAnyH_done (by decide +kernel) ?_ _;refine NoPanic.normal ?_;go_wp2_with fail;go_ret3
  obtain ⟨hg1,hsame,htr⟩:=HG4.out;have hLn:=iM hsame;have hL:=Ui.out;have hcl:(dH (f,s) (d == 0) L).length≤L.length:=rM _ _ _ _;have hbw:Below w.heap.size w w4:=aJ HBC.out HB4.out;exact ⟨g2,L.length+1,L,rfl,Nat.le_trans hbw.size ZO.out,zJ.out,by omega,by omega,hsame,fun x hx=>((htr x hx).bound.keep (fun k hk=>gp.out.block k hk.2)).more (fun _ _ h=>h) (fun k hk => .inr ⟨Nat.le_trans HBC.out.size hk.1.1,by have:=ZO.out; have:=hk.2; omega⟩),aJ hbw gp.out⟩
theorem Um (LQ:ay→az→Prop)(ok:Nat→Prop)(d a t g off n c fr:Nat)(l:Its d)(f s:ByteArray)(w:World)(hta:kL w a ai (d == 0) (.slice (some ⟨g,off,none⟩) n c) fr)(hI:IS w (some ⟨g,off,none⟩) n d l)(hlen:n≤1000)(hk:∀ x ∈ l,TR LQ w ok d x.2.2)(hok:∀ k,ok k→k<w.heap.size) :
 Calls Tryz.prog 57 #[.pointer (some ⟨t,0,none⟩),.pointer (some ⟨a,0,none⟩),.agg #[.string f,.string s]] w fun e w'=>vP LQ ok d l f s w e w':=by
 obtain ⟨r0,c34,IG,_⟩:=hta.at_
 have DY:=hid (dL ai)
 have HN:=hid (fun W=>dR ai W)
 rw [show (ai.ad == 0)=true from rfl] at HN
 have KP:=hid (fun o=>dm r0 (aK w o))
 have KW:=hid (fun (W:World) (q:Below w.heap.size w W)=>O5 d (some ⟨g,off,none⟩) n c l f s (d == 0) W (hI.below q) hlen)
 have Ui:=hid (show l.length≤n by rw [hI.len]; exact Nat.le_refl _)
 have Xm:=hid hlen
 have HK:=hid hk
 have qP:=hid hok
 obtain ⟨ZP,hZP⟩:∃ ZP,ag ai=ZP:=⟨_,rfl⟩
 rw [hZP] at HN KP DY
 clear r0 hta hZP hI hlen hk hok
 go_in
 go_wp2_with (first
  | (with_reducible refine wpList_load_mid (op:=⟨some 16,_,_,_,_,_⟩) rfl 51 _ rfl a 0 rfl ZP _ (KP.out _) Tryz.underlying51 rfl DY.out ?_))
 refine (HN.out _).mono ?_
 rintro e w1 ⟨rfl,hb1⟩
 have HB1:=hid (aJ (aK w _) hb1)
 have b0:=cell_of_row (w.alloc (.cells #[.string f,.string s] 96)) w.heap.size 0 _ _ _ (ah w _)
 have b1:=cell_of_row (w.alloc (.cells #[.string f,.string s] 96)) w.heap.size 1 _ _ _ (ah w _)
 have s0:=ae b0 (hb1.block _ (block_lt_of_cell b0))
 have s1:=ae b1 (hb1.block _ (block_lt_of_cell b1))
 have k34:=ae c34 (HB1.out.block _ (block_lt_of_cell c34))
 have k35:=ae IG (HB1.out.block _ (block_lt_of_cell IG))
 clear hb1 b0 b1 c34 IG KP HN
 go_wp2_with fail
 try simp only [Act.put]
 refine wp_region_noPanic ?_
 refine wp_region_held_drew (S:=fun W=>Below w1.heap.size w1 W) (by kernel_rfl) (Below.refl _ w1).drew (fun hHeld=>?_)
 refine tK 0 18 (.agg #[.string f,.string s]) rfl (Or.inl ⟨by rfl, ?_⟩) ?_
 ·(intro w' hSw; have q0:=ae s0 (hSw.block _ (block_lt_of_cell s0)); have q1:=ae s1 (hSw.block _ (block_lt_of_cell s1)); go_simp; try with_reducible rfl)
 try simp only [Act.put,pZ]
 refine tR 1 19 (h:=tR 2 20 (h:=tR 3 21 (h:=?_)))
 refine tK 4 22 (.slice (some ⟨g,off,none⟩) n c) rfl (Or.inl ⟨by rfl, ?_⟩) ?_
 ·(intro w' hSw; have q0:=ae k35 (hSw.block _ (block_lt_of_cell k35)); go_simp; try with_reducible rfl)
 try simp only [Act.put,pZ]
 refine tR 5 23 (h:=tR 6 24 (h:=tR 7 25 (h:=?_)))
 refine tK 8 26 (.bool (d == 0)) rfl (Or.inl ⟨by rfl, ?_⟩) ?_
 ·(intro w' hSw; have q0:=ae k34 (hSw.block _ (block_lt_of_cell k34)); go_simp; try with_reducible rfl)
 try simp only [Act.put,pZ]
 refine tR 10 28 (h:=tR 11 29 (h:=tR 12 30 (h:=?_)))
 refine tK 13 31 (.bool (d == 0)) rfl (Or.inl ⟨by rfl, ?_⟩) ?_
 ·(intro w' hSw; have q0:=ae k34 (hSw.block _ (block_lt_of_cell k34)); go_simp; try with_reducible rfl)
 try simp only [Act.put,pZ]
 refine rD 9 rfl fun K hK=>?_
 go_simp
 go_at_call 76
 refine (KW.out w1.drew (HB1.out.trans ((Below.refl w1.heap.size w1).drew.mono HB1.out.size))).mono ?_
 rintro e w5 ⟨g2,rfl,hg2,ab1,hb5⟩
 have zJ:=hid ab1
 have ZO:=hid hg2
 have gp:=hid (show Below w1.heap.size w1 w5 from (Below.refl w1.heap.size w1).drew.trans hb5)
 clear hg2 ab1 hb5
 go_wp2_with fail
 refine hK.out _ _ gp.out (fun hHeld=>?_)
 clear hK K
 try simp only [Act.put,pZ]
 refine tR 14 6 (h:=tR 15 7 (h:=tR 16 8 (h:=?_)))
 refine wpAnyH_done (by decide +kernel) ?_ _
 refine NoPanic.normal ?_
 go_wp2_with fail
 go_ret3
 have hcl:(dH (f,s) (d == 0) l).length≤l.length:=rM _ _ _ _
 have hLn:=Ui.out
 have hNn:=Xm.out
 have hbw:=aJ HB1.out gp.out
 exact ⟨g2,n+1,l,rfl,Nat.le_trans HB1.out.size ZO.out,zJ.out,by omega,by omega,bP.refl d l,fun x hx=>((HK.out x hx).below qP.out hbw).more (fun _ _ h=>h) (fun k hk => .inl hk),hbw⟩
theorem open_any (LQ:ay→az→Prop)(ok:Nat→Prop)(d t P:Nat)(T:Kd (d+1))(rt:Value)(f s:ByteArray)(w:World)(ht:w.heap[t]? = some (.cells #[.pointer (some ⟨P,0,none⟩),rt] 94 (0,0)))(hr:RD LQ w P)(hT:TR LQ w ok (d+1) T)(hok:∀ k,ok k→k<w.heap.size)(hlen:(its T).length≤1000)(hhd:d ≠ 0→∀ x r,its T=x::r→x.1=aY) :
 Calls Tryz.prog 57 #[.pointer (some ⟨t,0,none⟩),.pointer (dA (d+1) T),.agg #[.string f,.string s]] w fun e w'=>vP LQ ok d (its T) f s w e w':=by
 have h1:=hT.1
 have h2:=hT.2
 unfold its at *
 revert h2 hlen hhd
 cases kX T with
 | inl q=>exact fun hlen hhd h2=>Ul LQ ok d (pK T) t P q.1 q.2 rt f s w ht hr h2.1 h2.2 hlen hhd
 | inr l=>exact fun hlen hhd ⟨g,off,c,h3,h4,h5,h6⟩=>Um LQ ok d (pK T) t g off l.length c _ l f s w h3 h5 hlen h6 hok
theorem Gf (t:Value)(f s:ByteArray)(w:World) :
 Calls Tryz.prog 57 #[t,.pointer none,.agg #[.string f,.string s]] w fun e w'=>e = .returned (.tuple #[.slice none 0 0,.bool true,.int .i64 0])∧Below w.heap.size w w':=by
 go_in
 go_wp2_with fail
 go_ret3
 exact ⟨rfl,aK w _⟩
def Gg (x:bH):List Value:=[.string x.1,.string x.2]
def gI (K:List bH):List Value:=K.flatMap Gg
theorem Gh (a b:List bH):gI (a++b)=gI a++gI b:=by simp [gI]
theorem ui:∀ K:List bH,(gI K).length=K.length * 2
 | []=>rfl
 | x::K=>by
   have:=ui K;show (Gg x++gI K).length=_;rw [List.length_append,this,List.length_cons];show 2+_=_;omega
theorem YE (x:bH):∀ v ∈ Gg x,v.oneCell'=true:=by
 intro v hv;simp only [Gg,List.mem_cons,List.not_mem_nil,or_false] at hv;rcases hv with rfl | rfl <;> rfl
theorem Gi (K:List bH):∀ v ∈ gI K,v.oneCell'=true:=by
 intro v hv;obtain ⟨x,_,hx⟩:=List.mem_flatMap.1 hv;exact YE x v hx
theorem D7:(Tryz.prog.info? 75).map (fun i=>(i.zero,i.size,i.bytes))=some (some (.agg #[.string ⟨#[]⟩,.string ⟨#[]⟩]),2,32):=by kernel_rfl
theorem Gj (u v:Value)(W:World):(Instr.buildSlice 30 1 #[(0,.agg #[u,v])]).run Tryz.prog W = .ok (.slice (some ⟨W.heap.size,0,none⟩) 1 1) (W.alloc (.cells #[u,v] 75)) :=
 DR Tryz.underlying30 D7 (by decide) (by decide) #[u,v] rfl W
theorem wV (k v:ByteArray)(W:World):(Instr.build 75 #[(0,.string k),(1,.string v)]).run Tryz.prog W = .ok (.agg #[.string k,.string v]) W:=by kernel_rfl
def sJ (w:World)(B:Nat)(v:Value)(K:List bH):Prop:=w.ownsRow B 75 2 v K.length (gI K)
theorem wW (w:World)(B:Nat):sJ w B (.slice none 0 0) []:=World.ownsRow_nil w B _ _
theorem sJ.move {w w':World}{B:Nat}{v:Value}{K:List bH}(h:sJ w B v K)(q:∀ g,v.ownBlock=some g→w'.heap[g]? = w.heap[g]?):sJ w' B v K:=by
 refine ⟨h.1, ?_⟩;rcases h.2 with ⟨e,h0⟩ | ⟨g,cap,cur,rfl,hb,hc,h1,h2,h3,h4⟩
 ·exact .inl ⟨e,h0⟩
 exact .inr ⟨g,cap,cur,rfl,hb,(q g rfl).trans hc,h1,h2,h3,h4⟩
theorem sJ.shape {w:World}{B:Nat}{v:Value}{K:List bH}(h:sJ w B v K):∃ a c,v = .slice a K.length c∧K.length≤c:=by
 rcases h.2 with ⟨rfl,h0⟩ | ⟨g,cap,cur,rfl,hb,hc,h1,h2,h3,h4⟩
 ·exact ⟨none,0,by rw [h0],by omega⟩
 exact ⟨_,cap,rfl,h1⟩
theorem sJ.low {w:World}{B B':Nat}{v:Value}{K:List bH}(h:sJ w B v K)(hB:B'≤B):sJ w B' v K:=by
 refine ⟨h.1, ?_⟩;rcases h.2 with ⟨rfl,h0⟩ | ⟨g,cap,cur,rfl,hb,hc,h1,h2,h3,h4⟩
 ·exact .inl ⟨rfl,h0⟩
 exact .inr ⟨g,cap,cur,rfl,by omega,hc,h1,h2,h3,h4⟩
theorem oM {w:World}{B:Nat}{v:Value}{K M:List bH}(h:sJ w B v K)(hB:B≤w.heap.size)(u:Value)(hu:(u = .slice none 0 0∧M=[])∨∃ X c,u = .slice (some ⟨X,0,none⟩) M.length c∧∀ j y,(gI M)[j]? = some y→w.cell? ⟨X,j,none⟩=some y)(hn:K.length+M.length≤1000000)(ty:TypeId) :
 ∃ v' w',(Builtin.append_ #[30,30] ty #[v,u]).run Tryz.prog w = .ok v' w'∧sJ w' B v' (K++M)∧w.grownBy w' v.ownBlock∧(v'.ownBlock=v.ownBlock∨v'.ownBlock=some w.heap.size):=by
 obtain ⟨i,hi,hz⟩:=Option.map_eq_some_iff.1 D7
 simp only [Prod.mk.injEq] at hz
 obtain ⟨h1,h2,h3⟩:=hz
 rcases hu with ⟨rfl,rfl⟩ | ⟨X,c,rfl,hX⟩
 ·refine ⟨v,w, ?_,by rw [List.append_nil]; exact h,⟨rfl,rfl,rfl,Nat.le_refl _,fun _ _ _=>rfl⟩,.inl rfl⟩
  obtain ⟨a,c,rfl,hc⟩:=h.shape;rcases h.2 with ⟨e,h0⟩ | ⟨g,cap,cur,e,hb,hcc,q1,q2,q3,q4⟩
  ·rw [e]
   simp [Builtin.append_,run_underlying Tryz.underlying30,sizeOf,typeInfo,hi,Builtin.lenOf,Builtin.firstCells]
  injection e with e1 e2 e3;subst e1;simp [Builtin.append_,run_underlying Tryz.underlying30,sizeOf,typeInfo,hi,Builtin.lenOf,Builtin.firstCells,storeCells];intro hq;omega
 ·obtain ⟨v',w',hr,ho,hg,_,hnb⟩:=run_append_own_at (P:=Tryz.prog) w B 30 ty 75 i _ 2 32 Tryz.underlying30 hi h1 h2 h3 rfl (by decide) v K.length (gI K) h ⟨X,0,none⟩ M.length c (gI M) (ui M) (fun j y hy=>by rw [Addr.add_mid,Nat.zero_add]; exact hX j y hy) (Gi M) (by unfold maxLen; omega) (by omega) hB
  exact ⟨v',w',hr,by unfold sJ; rw [Gh,List.length_append]; exact ho,hg,hnb⟩
theorem sJ.below {w w':World}{B:Nat}{v:Value}{K:List bH}(h:sJ w B v K)(q:Below w.heap.size w w'):sJ w' B v K :=
 h.move (fun g hg=>q.block g (World.ownsRow.lt h g hg).2)
theorem kv_grown {w w0 w':World}{v:Value}{K:List bH}(h:sJ w w0.heap.size v K)(hg:w.grownBy w' v.ownBlock)(hb:Below w0.heap.size w0 w):Below w0.heap.size w0 w' :=
 hb.trans ((Below.refl w0.heap.size w).grown hg hb.size (fun k hk=>(World.ownsRow.lt h k hk).1))
theorem ab2 {κ:Type}(lf:Bool)(l:List (bK κ)):l.length≤jr lf l:=by
 have:∀ l:List (bK κ),l.length≤fQ lf l:=by
  intro l;induction l with
  | nil=>exact Nat.zero_le _
  | cons x l ih=>rw [gG,List.length_cons]; unfold nM; split <;> omega
 cases l with
 | nil=>exact Nat.zero_le _
 | cons x r =>
   have:=this r;simp only [jr,List.length_cons,nM];split <;> omega
theorem qZ.len {κ:Type}{d:Nat}{L:List (bK κ)}(h:qZ d L):L.length≤512:=Nat.le_trans (ab2 _ L) h.size
theorem D8 {w:World}{B:Nat}{u:Value}{M:List bH}(h:sJ w B u M):(u = .slice none 0 0∧M=[])∨∃ X c,u = .slice (some ⟨X,0,none⟩) M.length c∧∀ j y,(gI M)[j]? = some y→w.cell? ⟨X,j,none⟩=some y:=by
 rcases h.2 with ⟨rfl,h0⟩ | ⟨g,cap,cur,rfl,hb,hc,h1,h2,h3,h4⟩
 ·exact .inl ⟨rfl,List.length_eq_zero_iff.1 h0⟩
 refine .inr ⟨g,cap,rfl,fun j y hy=>?_⟩;have:=World.ownsRow.cells h (g:=g) rfl j y hy;rwa [Addr.add_mid,Nat.zero_add] at this
theorem Pn {d:Nat}{L M:Its (d+1)}(h:bP (d+1) L M)(k:mG d M):mG d L:=by
 have e:=mJ.1 h;have hl:=iM h;have hx:∀ i (hi:i<L.length),L[i].1=(M[i]'(by omega)).1∧kX L[i].2.2=kX (M[i]'(by omega)).2.2:=fun i hi=>by
  have e1:(L.map OV)[i]'(by simpa using hi)=(M.map OV)[i]'(by simp; omega):=by simp only [e]
  simp only [List.getElem_map,OV,Prod.mk.injEq] at e1;exact ⟨e1.1,e1.2.2⟩
 have hits:∀ i (hi:i<L.length),its L[i].2.2=its (M[i]'(by omega)).2.2:=fun i hi=>by unfold its; rw [(hx i hi).2]
 refine ⟨fun x hm kv hk=>?_,List.pairwise_iff_getElem.2 (fun i j hi hj hij kv hk=>?_)⟩
 ·obtain ⟨i,hi,rfl⟩:=List.getElem_of_mem hm
  rw [(hx i hi).1];rw [hits i hi] at hk;exact k.low _ (List.getElem_mem (by omega)) kv hk
 rw [(hx j hj).1];rw [hits i hi] at hk;exact List.pairwise_iff_getElem.1 k.high i j (by omega) (by omega) hij kv hk
theorem ab3 {d:Nat}{L M:Its (d+1)}(h:bP (d+1) L M)(x:bK (Kd (d+1)))(hx:x ∈ L):∃ y ∈ M,kX x.2.2=kX y.2.2∧x.1=y.1:=by
 have:OV x ∈ M.map OV:=by rw [← mJ.1 h]; exact List.mem_map_of_mem hx
 obtain ⟨y,hy,e⟩:=List.mem_map.1 this;simp only [OV,Prod.mk.injEq] at e;exact ⟨y,hy,e.2.2.symm,e.1.symm⟩
theorem afo {d:Nat}{T T':Kd (d+1)}{a b:ByteArray}(h:kX T=kX T')(hw:l7 d T' a b):l7 d T a b:=by
 unfold l7 its at *;rw [h];exact hw
theorem afp {d:Nat}{L M:Its (d+1)}(h:bP (d+1) L M)(hw:∀ x ∈ M,∃ a b,l7 d x.2.2 a b):∀ x ∈ L,∃ a b,l7 d x.2.2 a b:=fun x hx=>by
 obtain ⟨y,hy,e,_⟩:=ab3 h x hx;obtain ⟨a,b,hab⟩:=hw y hy;exact ⟨a,b,afo e hab⟩
theorem ab4 {d:Nat}{L M:Its (d+1)}(h:bP (d+1) L M)(x:bK (Kd (d+1)))(hx:x ∈ L):(cont d (its x.2.2)).length≤(cont (d+1) M).length:=by
 rw [← oU h];obtain ⟨i,hi,rfl⟩:=List.getElem_of_mem hx;have e:L=L.take i++L[i]::L.drop (i+1):=by rw [← List.drop_eq_getElem_cons hi,List.take_append_drop]
 have e2:cont (d+1) L=cont (d+1) (L.take i)++(cont d (its L[i].2.2)++cont (d+1) (L.drop (i+1))):=by
  rw [← fP,← dM,← dM];exact congrArg (cont (d+1)) (by simp)
 rw [e2];simp only [List.length_append];omega
theorem ab5 (d:Nat)(s:bH)(K:Its (d+1))(i:Nat):(jE d s K i).length≤(jE d s K K.length).length:=by
 have mono:∀ i,(jE d s K i).length≤(jE d s K (i+1)).length:=fun i=>by
  show _≤(jE d s K i++_).length;rw [List.length_append]; omega
 have stop:∀ m,jE d s K (K.length+m)=jE d s K K.length:=by
  intro m;induction m with
  | zero=>rfl
  | succ m ih =>
    show jE d s K (K.length+m)++(match K[K.length+m]? with | some x=>gV (oC s K (K.length+m)) (cont d (its x.2.2)) | none=>[])=_;rw [List.getElem?_eq_none (by omega),List.append_nil,ih]
 have up:∀ m,(jE d s K i).length≤(jE d s K (i+m)).length:=by
  intro m;induction m with
  | zero=>exact Nat.le_refl _
  | succ m ih=>exact Nat.le_trans ih (mono (i+m))
 rcases Nat.lt_or_ge i K.length with h | h
 ·have:=up (K.length - i)
  rwa [show i+(K.length - i)=K.length by omega] at this
 have:=stop (i - K.length);rw [show K.length+(i - K.length)=i by omega] at this;rw [this];exact Nat.le_refl _
def kF (w:World)(K:List bH)(e:Ending)(w':World):Prop:=∃ v,e = .returned (.tuple #[v,.int .i64 0])∧sJ w' w.heap.size v K∧Below w.heap.size w w'
theorem Un (K:Its 0)(i:Nat)(x:bK (Kd 0))(h:K[i]? = some x):cont 0 (K.take (i+1))=cont 0 (K.take i)++[(x.1,x.2.1)]:=by
 rw [bM K i x h,dM]; rfl
theorem II (LQ:ay→az→Prop)(ok:Nat→Prop)(t:Nat)(ta:bO)(f s:ByteArray)(M:Its 0)(w:World)(ho:∀ W,Below w.heap.size w W→Calls Tryz.prog 57 #[.pointer (some ⟨t,0,none⟩),.pointer ta,.agg #[.string f,.string s]] W fun e w'=>vP LQ ok 0 M f s W e w')(hM:M.length≤1000) :
 Calls Tryz.prog 37 #[.pointer (some ⟨t,0,none⟩),.pointer ta,.agg #[.string f,.string s]] w fun e w'=>kF w (gV (f,s) (cont 0 M)) e w':=by
 have HO:=hid ho
 have HM:=hid hM
 clear ho hM
 go_in
 go_wp2_with fail
 refine (HO.out _ (aK w _)).mono ?_
 rintro e w1 ⟨g,c,L,rfl,hg,hob,hc1,hc2,hsm,htr,hb1⟩
 obtain rfl:L=M:=hsm
 have hres:=Yr (f,s) L
 have HG:=hid (show w.heap.size≤g from Nat.le_trans (Nat.le_of_lt (iF w _)) hg)
 have hl:(dH (f,s) true L).length≤1000:=Nat.le_trans (rM _ _ _ _) HM.out
 have HB1:=hid (aJ (aK w _) hb1)
 have ab6:OB w1 g c 0 (dH (f,s) true L):=hob
 rw [show ((0:Nat) == 0)=true from rfl]
 clear hob hc1
 generalize dH (f,s) true L=K at *
 have aiH:=hid hres
 have xH:=hid ab6
 obtain ⟨n,hn⟩:∃ n,K.length=n:=⟨_,rfl⟩
 have HN:=hid hn
 rw [hn]
 have nI:(n:Int)≤1000:=by omega
 clear hg ab6 hc2 htr hb1 hn hl hres
 go_wp2_with fail
 go_loopw [11,12,13,14,15,29] (fun v11 _ _ _ _ v29 wr=>∃ i:Nat,i≤n∧v29 = .int .i64 (i:Int)∧sJ wr w1.heap.size v11 (cont 0 (K.take i))∧Below w1.heap.size w1 wr) (fun _ _ _ _ _ v _=>n - (intOf v).toNat)
 case atStart=>exact ⟨0,by omega,rfl,wW _ _,Below.refl _ _⟩
 case round =>
  obtain ⟨i,hi,rfl,hkv,hb⟩:=hrel;have HB:=hid hb;obtain ⟨ak,ck,rfl,hck⟩:=hkv.shape;have HK:=hid hkv;clear hb hkv hck;by_cases hlt:i<n
  ·obtain ⟨x,hx⟩:∃ x,K[i]? = some x:=⟨_,List.getElem?_eq_getElem (by have:=HN.out; omega)⟩
   have c1:=(xH.out.below HB.out).at3 i x hx;have hix:=bT g 0 n c i hlt;simp only [Nat.zero_add] at hix;have bn:=hid hlt;have iI:(i:Int)<(n:Int):=by omega
   have i0:(0:Int)≤(i:Int):=by omega
   have c10:=c1.k;have c11:=c1.v;have c12:=c1.p;have JD:=hid (Un K i x hx);have KW:=hid (show (cont 0 (K.take i)).length≤1000 by
    show (List.map _ _).length≤1000;rw [List.length_map,List.length_take]; omega)
   have hbk:=wV x.1 x.2.1;have hli:=fun (u v:Value) (W:World)=>Gj u v W;have hb2:=aJ (aJ HB.out (aK wr (.cells #[.string x.1,.string x.2.1,.pointer (dA 0 x.2.2)] 129))) (aK _ (.cells #[.string x.1,.string x.2.1] 75));have hnew:=ah (wr.alloc (.cells #[.string x.1,.string x.2.1,.pointer (dA 0 x.2.2)] 129)) (.cells #[.string x.1,.string x.2.1] 75);rw [show (wr.alloc (.cells #[.string x.1,.string x.2.1,.pointer (dA 0 x.2.2)] 129)).heap.size=wr.heap.size+1 by simp] at hnew;have D9:=hid (oM (M:=[(x.1,x.2.1)]) ((HK.out.below (aK wr (.cells #[.string x.1,.string x.2.1,.pointer (dA 0 x.2.2)] 129))).below (aK _ (.cells #[.string x.1,.string x.2.1] 75))) hb2.size (.slice (some ⟨wr.heap.size+1,0,none⟩) 1 1) (.inr ⟨_,1,rfl,fun j y hy=>df (cs:=[.string x.1,.string x.2.1]) hnew j y hy⟩) (by have:=KW.out; simp only [List.length_cons,List.length_nil]; omega) 30);have HB2:=hid hb2;clear hi hlt hx c1 hb2 hnew;go_wp2_with (first
    | (at_builtin; obtain ⟨v3,w3,hr,ho3,hg3,_⟩:=D9.out; refine aS _ rfl _ _ 30 30 rfl _ _ rfl rfl hr ?_; have vO:=hid ho3; have HG3:=hid hg3; clear ho3 hg3 hr))
   have hk3:=vO.out;rw [← JD.out] at hk3;exact ⟨⟨i+1,by have:=bn.out; omega,by go_num,hk3,kv_grown ((HK.out.below (aK wr (.cells #[.string x.1,.string x.2.1,.pointer (dA 0 x.2.2)] 129))).below (aK _ (.cells #[.string x.1,.string x.2.1] 75))) HG3.out HB2.out⟩,by simp only [intOf]; have:=bn.out; omega⟩
  obtain rfl:i=n:=by omega
  clear hi hlt;go_wp2_with fail;go_ret2;have e:=HK.out;rw [show K.take i=K by rw [← HN.out,List.take_length]] at e;have hr:=aiH.out;unfold kF;rw [← hr];rw [show K.take i=K by rw [← HN.out,List.take_length]];exact ⟨_,rfl,e.low HB1.out.size,aJ HB1.out HB.out⟩
theorem DD (LQ:ay→az→Prop)(ok:Nat→Prop)(d t:Nat)(ta:bO)(f s:ByteArray)(M:Its (d+1))(w:World)(hok:∀ k,ok k→k<w.heap.size)(ho:∀ W,Below w.heap.size w W→Calls Tryz.prog 57 #[.pointer (some ⟨t,0,none⟩),.pointer ta,.agg #[.string f,.string s]] W fun e w'=>vP LQ ok (d+1) M f s W e w')(hM:M.length≤1000)(hkr:mG d M)(hwf:∀ x ∈ M,∃ a b,l7 d x.2.2 a b)(hcl:(cont (d+1) M).length≤100000)
 (hrec:∀ (W:World) (T:Kd (d+1)) (ok':Nat→Prop),Below w.heap.size w W→TR LQ W ok' (d+1) T→(∀ k,ok' k→k<W.heap.size)→(∃ a b,l7 d T a b)→(cont d (its T)).length≤100000→∀ f' s',Calls Tryz.prog 37 #[.pointer (some ⟨t,0,none⟩),.pointer (dA (d+1) T),.agg #[.string f',.string s']] W fun e w'=>kF W (gV (f',s') (cont d (its T))) e w') :
 Calls Tryz.prog 37 #[.pointer (some ⟨t,0,none⟩),.pointer ta,.agg #[.string f,.string s]] w fun e w'=>kF w (gV (f,s) (cont (d+1) M)) e w':=by
 have HO:=hid ho
 have HM:=hid hM
 have qP:=hid hok
 have afr:=hid hrec
 have HKR:=hid hkr
 have HWF:=hid hwf
 have HCT:=hid hcl
 clear ho hM hok hrec hkr hwf hcl
 go_in
 go_wp2_with fail
 refine (HO.out _ (aK w _)).mono ?_
 rintro e w1 ⟨g,c,L,rfl,hg,hob,hc1,hc2,hsm,htr,hb1⟩
 have b0:=cell_of_row (w.alloc (.cells #[.string f,.string s] 96)) w.heap.size 0 _ _ _ (ah w _)
 have b1:=cell_of_row (w.alloc (.cells #[.string f,.string s] 96)) w.heap.size 1 _ _ _ (ah w _)
 have HU:=hid (And.intro (ae b0 (hb1.block _ (block_lt_of_cell b0))) (ae b1 (hb1.block _ (block_lt_of_cell b1))))
 have HB1:=hid (aJ (aK w _) hb1)
 have ab6:OB w1 g c (d+1) (dH (f,s) false L):=hob
 have hLM:=iM hsm
 have hl:(dH (f,s) false L).length≤1000:=Nat.le_trans (rM _ _ _ _) (by rw [hLM]; exact HM.out)
 have amT:mG d L:=Pn hsm HKR.out
 have hres:jE d (f,s) (dH (f,s) false L) (dH (f,s) false L).length=gV (f,s) (cont (d+1) M):=by rw [TU d (f,s) amT,oU hsm]
 have hsub:(dH (f,s) false L).Sublist L:=(rJ (f,s) false L L.length).trans (List.take_sublist _ _)
 have HTR:=hid (fun x (hx:x ∈ dH (f,s) false L)=>(htr x (hsub.mem hx)).bound)
 have H6:=hid (fun x (hx:x ∈ dH (f,s) false L)=>afp hsm HWF.out x (hsub.mem hx))
 have HCN:=hid (fun x (hx:x ∈ dH (f,s) false L)=>show (cont d (its x.2.2)).length≤100000 from Nat.le_trans (ab4 hsm x (hsub.mem hx)) HCT.out)
 have Ui:=hid (fun i=>show (jE d (f,s) (dH (f,s) false L) i).length≤100000 from by
  have h1:=ab5 d (f,s) (dH (f,s) false L) i;have h2:(gV (f,s) (cont (d+1) M)).length≤100000:=Nat.le_trans (List.length_filter_le _ _) HCT.out;rw [hres] at h1;omega)
 rw [show ((d+1:Nat) == 0)=false from rfl]
 clear hob hc1 b0 b1 hsm htr amT hsub hLM
 generalize dH (f,s) false L=K at *
 have aiH:=hid hres
 have xH:=hid ab6
 obtain ⟨n,hn⟩:∃ n,K.length=n:=⟨_,rfl⟩
 have HN:=hid hn
 rw [hn]
 have nI:(n:Int)≤1000:=by omega
 clear hg ab6 hc2 hb1 hn hl hres
 go_wp2_with fail
 go_loopw [11,12,13,14,15,29] (fun v11 _ _ _ _ v29 wr=>∃ i:Nat,i≤n∧v29 = .int .i64 (i:Int)∧sJ wr w1.heap.size v11 (jE d (f,s) K i)∧Below w1.heap.size w1 wr) (fun _ _ _ _ _ v _=>n - (intOf v).toNat)
 case atStart=>exact ⟨0,by omega,rfl,wW _ _,Below.refl _ _⟩
 case round =>
  obtain ⟨i,hi,rfl,hkv,hb⟩:=hrel;have HB:=hid hb;obtain ⟨ak,ck,rfl,hck⟩:=hkv.shape;have HK:=hid hkv;clear hkv hck;by_cases hlt:i<n
  ·obtain ⟨x,hx⟩:∃ x,K[i]? = some x:=⟨_,List.getElem?_eq_getElem (by have:=HN.out; omega)⟩
   have c1:=(xH.out.below hb).at3 i x hx;have hix:=bT g 0 n c i hlt;simp only [Nat.zero_add] at hix;have bn:=hid hlt;have iI:(i:Int)<(n:Int):=by omega
   have i0:(0:Int)≤(i:Int):=by omega
   have c10:=c1.k;have c11:=c1.v;have c12:=c1.p;have hmem:=List.mem_of_getElem? hx;have JD:=hid (FN d (f,s) K i x hx);have HB2:=hid (aJ hb (aK wr (.cells #[.string x.1,.string x.2.1,.pointer (dA (d+1) x.2.2)] 129)));have Ia:=hid (fun (W:World) (hW:Below w1.heap.size w1 W)=>afr.out W x.2.2 _ (aJ HB1.out hW) ((HTR.out x hmem).keep (fun k hk=>hW.block k hk.2)) (fun k hk=>Nat.lt_of_lt_of_le hk.2 hW.size) (H6.out x hmem) (HCN.out x hmem) (oC (f,s) K i).1 (oC (f,s) K i).2);have HOF:=hid (fun (W:World) (hW:Below w1.heap.size w1 W)=>pU (d+1) (some ⟨g,0,none⟩) K.length c i K f s W (xH.out.is.below hW) (by have:=HN.out; omega) (by have:=HN.out; omega));rw [HN.out] at HOF;obtain ⟨u0,u1⟩:=HU.out;have t0:=ae u0 (HB2.out.block _ (block_lt_of_cell u0));have t1:=ae u1 (HB2.out.block _ (block_lt_of_cell u1));have hnw:=ah wr (.cells #[.string x.1,.string x.2.1,.pointer (dA (d+1) x.2.2)] 129);have j2:=cell_of_row _ wr.heap.size 2 _ _ _ hnw;have HWN:=hid (aK wr (.cells #[.string x.1,.string x.2.1,.pointer (dA (d+1) x.2.2)] 129));clear hi hlt hx c1 hmem hb u0 u1 hnw;go_upto_region 10 with fail
   generalize hW2:wr.alloc (.cells #[.string x.1,.string x.2.1,.pointer (dA (d+1) x.2.2)] 129)=w2 at *;have s0:=t0;have s1:=t1;have i2:=j2;have amV:=hid (fun (W:World) (hW:Below w2.heap.size w2 W)=>Ia.out W (aJ HB2.out hW));have zK:=hid (fun (W:World) (hW:Below w2.heap.size w2 W)=>HOF.out W (aJ HB2.out hW));clear t0 t1 j2 Ia HOF;try simp only [Act.put]
   refine wp_region_noPanic ?_;refine wp_region_held_drew (S:=fun W=>Below w2.heap.size w2 W) (by kernel_rfl) (Below.refl _ w2).drew (fun hHeld=>?_);refine tR 0 44 (h:=tR 1 45 (h:=?_));refine tK 2 46 (.pointer (dA (d+1) x.2.2)) rfl (Or.inl ⟨by rfl, ?_⟩) ?_
   ·(intro w' hSw; have q0:=ae i2 (hSw.block _ (block_lt_of_cell i2)); go_simp; try with_reducible rfl)
   try simp only [Act.put,pZ]
   refine tK 3 47 (.agg #[.string f,.string s]) rfl (Or.inl ⟨by rfl, ?_⟩) ?_
   ·(intro w' hSw; have q0:=ae s0 (hSw.block _ (block_lt_of_cell s0)); have q1:=ae s1 (hSw.block _ (block_lt_of_cell s1)); go_simp; try with_reducible rfl)
   try simp only [Act.put,pZ]
   refine tR 4 48 (h:=tR 5 49 (h:=?_));refine rD 6 rfl fun K hK=>?_;go_simp;go_at_call 58
   refine (zK.out w2.drew (Below.refl _ w2).drew).mono ?_;rintro e w3 ⟨rfl,hb3⟩;have HB3:=hid (show Below w2.heap.size w2 w3 from (Below.refl w2.heap.size w2).drew.trans hb3);clear hb3;go_wp2_with fail;refine hK.out _ _ (HB3.out) (fun hHeld=>?_);clear hK K;try simp only [Act.put,pZ]
   refine rD 7 rfl fun K hK=>?_;go_simp;go_at_call 37
   refine (amV.out w3 HB3.out).mono ?_;rintro e w4 ⟨v4,rfl,hk4,hb4⟩;have Sz:=hid hk4;have HB4:=hid hb4;clear hk4 hb4;go_wp2_with fail;refine hK.out _ _ (HB3.out.trans (HB4.out.mono HB3.out.size)) (fun hHeld=>?_);clear hK K;try simp only [Act.put,pZ]
   refine tR 8 43 (h:=tR 9 52 (h:=tR 10 53 (h:=tR 11 14 (h:=tR 12 15 (h:=?_)))));refine wpAnyH_done (by decide +kernel) ?_ _;refine NoPanic.normal ?_;obtain ⟨a4,c4,rfl,_⟩:=Sz.out.shape;have aiI:=hid (aJ HB3.out HB4.out);have HKW:=hid ((HK.out.below HWN.out).below aiI.out);have hlen:(jE d (f,s) K i).length+(gV (oC (f,s) K i) (cont d (its x.2.2))).length≤1000000:=by
    have:=Ui.out (i+1);rw [JD.out,List.length_append] at this;omega
   have D9:=hid (oM HKW.out (aJ HB2.out aiI.out).size _ (D8 Sz.out) hlen 30);clear hlen amV zK s0 s1 i2;go_wp2_with (first
    | (at_builtin; obtain ⟨v5,w5,hr,Gl,hg5,_⟩:=D9.out; refine aS _ rfl _ _ 30 30 rfl _ _ rfl rfl hr ?_; have zJ:=hid Gl; have ZO:=hid hg5; clear Gl hg5 hr))
   have hk5:=zJ.out;have e5:jE d (f,s) K (i+1)=jE d (f,s) K i++gV (oC (f,s) K i) (cont d (its x.2.2)):=JD.out;change sJ w5 w1.heap.size v5 (jE d (f,s) K i++gV (oC (f,s) K i) (cont d (its x.2.2))) at hk5;rw [← e5] at hk5;exact ⟨⟨i+1,by have:=bn.out; omega,by go_num,hk5,kv_grown HKW.out ZO.out (aJ HB2.out aiI.out)⟩,by simp only [intOf]; have:=bn.out; omega⟩
  obtain rfl:i=n:=by omega
  clear hi hlt;go_wp2_with fail;go_ret2;have hr:=aiH.out;rw [HN.out] at hr;unfold kF;rw [← hr];exact ⟨_,rfl,HK.out.low HB1.out.size,aJ HB1.out HB.out⟩
theorem ab7 (LQ:ay→az→Prop)(t P:Nat)(rt:Value):∀ (d:Nat) (T:Kd (d+1)) (ok:Nat→Prop) (f s:ByteArray) (w:World),w.heap[t]? = some (.cells #[.pointer (some ⟨P,0,none⟩),rt] 94 (0,0))→RD LQ w P→TR LQ w ok (d+1) T→(∀ k,ok k→k<w.heap.size)→(∃ a b,l7 d T a b)→(cont d (its T)).length≤100000 →
 Calls Tryz.prog 37 #[.pointer (some ⟨t,0,none⟩),.pointer (dA (d+1) T),.agg #[.string f,.string s]] w fun e w'=>kF w (gV (f,s) (cont d (its T))) e w':=by
 intro d
 induction d with
 | zero =>
   intro T ok f s w ht hr hT hok ⟨a,b,hw⟩ hc;have hl:(its T).length≤1000:=Nat.le_trans hw.2.1.len (by decide);exact II LQ ok t (dA 1 T) f s (its T) w (fun W hW=>open_any LQ ok 0 t P T rt f s W ((hW.block t (lt_of_block ht)).trans ht) (hr.below hW) (hT.below hok hW) (fun k hk=>Nat.lt_of_lt_of_le (hok k hk) hW.size) hl (fun h=>absurd rfl h)) hl
 | succ d ih =>
   intro T ok f s w ht hr hT hok ⟨a,b,hw⟩ hc;have hl:(its T).length≤1000:=Nat.le_trans hw.2.1.len (by decide);have hhd:=hw.2.1.head;refine DD LQ ok d t (dA (d+1+1) T) f s (its T) w hok (fun W hW=>open_any LQ ok (d+1) t P T rt f s W ((hW.block t (lt_of_block ht)).trans ht) (hr.below hW) (hT.below hok hW) (fun k hk=>Nat.lt_of_lt_of_le (hok k hk) hW.size) hl hhd) hl ?_ ?_ hc ?_
   ·exact Jz d (its T) a b hw.1 (fun x r e=>by rw [hhd (by omega) x r e]; exact oh _)
   ·exact pM (fun T=>∃ a b,l7 d T a b) (fun T f t h=>⟨f,t,h⟩) (its T) a b hw.1
   intro W T' ok' hW hT' hok' hw' hc' f' s';exact ih T' ok' f' s' W ((hW.block t (lt_of_block ht)).trans ht) (hr.below hW) hT' hok' hw' hc'
theorem ab8 (t:Value)(f s:ByteArray)(w:World) :
 Calls Tryz.prog 37 #[t,.pointer none,.agg #[.string f,.string s]] w fun e w'=>kF w [] e w':=by
 have HO:=hid (fun W=>Gf t f s W)
 go_in
 go_wp2_with fail
 refine (HO.out _).mono ?_
 rintro e w1 ⟨rfl,hb⟩
 have HB:=hid (aJ (aK w _) hb)
 clear hb
 go_wp2_with fail
 go_loopw [11,12,13,14,15,29] (fun v11 _ _ _ _ v29 wr=>v11 = .slice none 0 0∧v29 = .int .i64 0∧wr=w1) (fun _ _ _ _ _ v _=>0)
 case atStart=>exact ⟨rfl,rfl,rfl⟩
 case round =>
  obtain ⟨rfl,rfl,rfl⟩:=hrel;go_wp2_with fail;go_ret2;exact ⟨_,rfl,wW _ _,HB.out⟩
end
section
open Go.ChangeShapes Go.WideShapes Go.ChangeAt Go.RowKit
theorem JH (key:ByteArray):∀ l:List ByteArray,yu l→(∀ s ∈ l.take (iw l key),lo s key=true)∧(∀ s ∈ l.drop (iw l key),lo s key=false)
 | [],_=>⟨by simp,by simp⟩
 | a::r,h=>by
   obtain ⟨h1,h2⟩:=List.pairwise_cons.1 h;obtain ⟨i1,i2⟩:=JH key r h2;by_cases ha:lo a key=true
   ·have e:iw (a::r) key=iw r key+1:=by unfold iw; rw [List.countP_cons]; simp [ha]
    rw [e];refine ⟨fun s hs=>?_,fun s hs=>i2 s hs⟩;rcases List.mem_cons.1 hs with rfl | hs
    ·exact ha
    exact i1 s hs
   have ha':lo a key=false:=by simpa using ha
   have hall:∀ s ∈ r,lo s key=false:=fun s hs=>jP ha' (jd (h1 s hs))
   have e:iw (a::r) key=0:=by
    unfold iw;rw [List.countP_cons,if_neg (by simpa using ha'),Nat.add_zero,List.countP_eq_zero];intro s hs;rw [hall s hs];decide
   rw [e];refine ⟨by simp,fun s hs=>?_⟩;rcases List.mem_cons.1 hs with rfl | hs
   ·exact ha'
   exact hall s hs
theorem afu {l:List ByteArray}{key:ByteArray}:iw l key≤l.length:=List.countP_le_length
section
variable {κ:Type}
structure MG (L:List (bK κ))(key:ByteArray)(i:Nat)(h:Bool):Prop where
 le:i≤L.length
 ahead:∀ x ∈ L.take i,lo x.1 key=true
 there:h=true→∃ x,L[i]? = some x∧x.1=key∧∀ y ∈ L.drop (i+1),lo key y.1=true
 none:h=false→∀ y ∈ L.drop i,lo key y.1=true
theorem stands (L:List (bK κ))(key:ByteArray)(hr:L.Pairwise (fun x y=>lo x.1 y.1=true)):MG L key (iw (L.map (·.1)) key) (hasK (L.map (·.1)) key):=by
 have hR:yu (L.map (·.1)):=List.pairwise_map.2 hr;obtain ⟨s1,s2⟩:=JH key _ hR;have hle:iw (L.map (·.1)) key≤L.length:=by have:=afu (l:=L.map (·.1)) (key:=key); simpa using this
 rw [← List.map_take] at s1;rw [← List.map_drop] at s2;generalize iw (L.map (·.1)) key=i at *;have hA:∀ x ∈ L.take i,lo x.1 key=true:=fun x hx=>s1 _ (List.mem_map_of_mem hx)
 have hB:∀ x ∈ L.drop i,lo x.1 key=false:=fun x hx=>s2 _ (List.mem_map_of_mem hx)
 have hup:∀ y ∈ L.drop i,y.1 ≠ key→lo key y.1=true:=fun y hy hne=>by
  rcases vJ key y.1 with h | h | h
  ·exact h
  ·exact absurd h.symm hne
  rw [hB y hy] at h; cases h
 refine ⟨hle,hA,fun h=>?_,fun h y hy=>hup y hy (fun e=>?_)⟩
 ·obtain ⟨x,hx,e⟩:=List.mem_map.1 (vM.1 h)
  have e:x.1=key:=e;rw [← List.take_append_drop i L] at hx;rcases List.mem_append.1 hx with hx | hx
  ·have:=hA x hx
   rw [e,dP] at this; cases this
  obtain ⟨j,hj,hjx⟩:=List.getElem_of_mem hx;rw [List.length_drop] at hj;rw [List.getElem_drop] at hjx;have hj0:j=0:=by
   rcases Nat.eq_zero_or_pos j with h0 | h0
   ·exact h0
   have h1:=List.pairwise_iff_getElem.1 hr i (i+j) (by omega) (by omega) (by omega);have h2:=hB L[i] (by have q:=List.drop_eq_getElem_cons (l:=L) (i:=i) (by omega); rw [q]; exact List.mem_cons_self ..);rw [hjx,e,h2] at h1; cases h1
  subst hj0;refine ⟨x,by rw [List.getElem?_eq_getElem (by omega)]; congr 1,e,fun y hy=>?_⟩;obtain ⟨k,hk,rfl⟩:=List.getElem_of_mem hy;rw [List.length_drop] at hk;rw [List.getElem_drop];have h1:=List.pairwise_iff_getElem.1 hr i (i+1+k) (by omega) (by omega) (by omega);have h3:L[i].1=key:=by rw [← e]; exact congrArg (·.1) hjx
  rw [h3] at h1;exact h1
 rw [← Bool.not_eq_true,vM] at h;exact h (by rw [← e]; exact List.mem_map_of_mem (List.mem_of_mem_drop hy))
end
theorem ab9 (L:Its 0)(key:ByteArray):vN key (cont 0 L)=hasK (L.map (·.1)) key:=by
 unfold vN hasK cont;rw [List.any_map,List.any_map];rfl
theorem wX {L:Its 0}{P:ByteArray→Prop}(h:∀ x ∈ L,P x.1):∀ z ∈ cont 0 L,P z.1:=by
 intro z hz;obtain ⟨x,hx,rfl⟩:=List.mem_map.1 hz;exact h x hx
theorem afv {L:Its 0}{f t k v:ByteArray}(h:gQ L f t)(hs:LV f t k)(hk:1≤k.size∧k.size≤32)(hv:v.size≤96){i:Nat}(st:MG L k i false)(u:Kd 0) :
 gQ (L.take i++(k,v,u)::L.drop i) f t∧cont 0 (L.take i++(k,v,u)::L.drop i)=ja k v (cont 0 L):=by
 have hB:=st.none rfl
 refine ⟨⟨?_,fun x hx=>?_,fun x hx=>?_,fun x hx=>?_⟩, ?_⟩
 ·refine List.pairwise_append.2 ⟨h.rise.sublist (List.take_sublist _ _),List.pairwise_cons.2 ⟨fun y hy=>hB y hy,h.rise.sublist (List.drop_sublist _ _)⟩,fun x hx y hy=>?_⟩
  rcases List.mem_cons.1 hy with rfl | hy
  ·exact st.ahead x hx
  exact iJ (st.ahead x hx) (hB y hy)
 ·rcases List.mem_append.1 hx with hx | hx
  ·exact h.span x (List.mem_of_mem_take hx)
  rcases List.mem_cons.1 hx with rfl | hx
  ·exact hs
  exact h.span x (List.mem_of_mem_drop hx)
 ·rcases List.mem_append.1 hx with hx | hx
  ·exact h.key x (List.mem_of_mem_take hx)
  rcases List.mem_cons.1 hx with rfl | hx
  ·exact hk
  exact h.key x (List.mem_of_mem_drop hx)
 ·rcases List.mem_append.1 hx with hx | hx
  ·exact h.val x (List.mem_of_mem_take hx)
  rcases List.mem_cons.1 hx with rfl | hx
  ·exact hv
  exact h.val x (List.mem_of_mem_drop hx)
 ·have e:cont 0 L=cont 0 (L.take i)++cont 0 (L.drop i):=by rw [← dM,List.take_append_drop]
  rw [e,LW k v _ _ (wX (P:=fun s=>lo s k=true) st.ahead) (wX (P:=fun s=>lo k s=true) hB),dM];rfl
theorem afw {L:Its 0}{f t k v:ByteArray}(h:gQ L f t)(hv:v.size≤96){i:Nat}(st:MG L k i true) :
 ∃ x,L[i]? = some x∧gQ (L.set i (x.1,v,x.2.2)) f t∧cont 0 (L.set i (x.1,v,x.2.2))=ja k v (cont 0 L)∧x.1=k:=by
 obtain ⟨x,hx,hxk,hB⟩:=st.there rfl
 obtain ⟨hi,rfl⟩:=List.getElem?_eq_some_iff.1 hx
 refine ⟨L[i],hx,⟨?_,fun y hy=>?_,fun y hy=>?_,fun y hy=>?_⟩, ?_,hxk⟩
 ·refine List.pairwise_iff_getElem.2 (fun a b ha hb hab=>?_)
  rw [List.length_set] at ha hb;have:=List.pairwise_iff_getElem.1 h.rise a b ha hb hab;rw [List.getElem_set,List.getElem_set];split <;> split <;> simp_all
 ·obtain ⟨j,hj,rfl⟩:=List.getElem_of_mem hy
  rw [List.length_set] at hj;rw [List.getElem_set];split
  ·exact h.span L[i] (List.getElem_mem hi)
  exact h.span _ (List.getElem_mem hj)
 ·obtain ⟨j,hj,rfl⟩:=List.getElem_of_mem hy
  rw [List.length_set] at hj;rw [List.getElem_set];split
  ·exact h.key L[i] (List.getElem_mem hi)
  exact h.key _ (List.getElem_mem hj)
 ·obtain ⟨j,hj,rfl⟩:=List.getElem_of_mem hy
  rw [List.length_set] at hj;rw [List.getElem_set];split
  ·exact hv
  exact h.val _ (List.getElem_mem hj)
 ·have e:cont 0 L=cont 0 (L.take i)++(k,L[i].2.1)::cont 0 (L.drop (i+1)):=by
   have:L=L.take i++L[i]::L.drop (i+1):=by rw [← List.drop_eq_getElem_cons hi,List.take_append_drop]
   have e2:=congrArg (cont 0) this;rw [dM,gZ] at e2;rw [e2,← hxk]; rfl
  rw [e,FD k v _ _ _ (wX (P:=fun s=>lo s k=true) st.ahead),List.set_eq_take_append_cons_drop,if_pos hi,dM,gZ,← hxk];rfl
theorem afx {L:Its 0}{f t k:ByteArray}(h:gQ L f t){i:Nat}(st:MG L k i true) :
 gQ (L.take i++L.drop (i+1)) f t∧cont 0 (L.take i++L.drop (i+1))=delS k (cont 0 L)∧i<L.length:=by
 obtain ⟨x,hx,hxk,hB⟩:=st.there rfl
 obtain ⟨hi,rfl⟩:=List.getElem?_eq_some_iff.1 hx
 have hsub:(L.take i++L.drop (i+1)).Sublist L:=by
  have e:L=L.take i++L.drop i:=(List.take_append_drop i L).symm;conv=>rhs; rw [e]
  exact (List.Sublist.refl _).append (by rw [List.drop_eq_getElem_cons hi]; exact List.sublist_cons_self _ _)
 refine ⟨⟨h.rise.sublist hsub,fun y hy=>h.span y (hsub.mem hy),fun y hy=>h.key y (hsub.mem hy),fun y hy=>h.val y (hsub.mem hy)⟩, ?_,hi⟩
 have e:cont 0 L=cont 0 (L.take i)++(k,L[i].2.1)::cont 0 (L.drop (i+1)):=by
  have:L=L.take i++L[i]::L.drop (i+1):=by rw [← List.drop_eq_getElem_cons hi,List.take_append_drop]
  have e2:=congrArg (cont 0) this;rw [dM,gZ] at e2;rw [e2,← hxk]; rfl
 rw [e,FH k _ _ _ (wX (P:=fun s=>lo s k=true) st.ahead),dM]
end
section
open Lib (hid)
open Go.ChangeShapes Go.WideShapes Go.ChangeAt Go.RowKit
theorem Uo (d g c vb:Nat)(L:Its d)(x:bK (Kd d))(w:World)(h:OB w g c d L)(hx:w.heap[vb]? = some (.cells #[.string x.1,.string x.2.1,.pointer (dA d x.2.2)] 129 (0,0)))(hc:L.length+1≤c)(hc2:c≤100000) :
 Calls Tryz.prog 53 #[.slice (some ⟨g,0,none⟩) L.length c,.int .i64 (L.length:Nat),.slice (some ⟨vb,0,none⟩) 1 1] w fun e w'=>e = .returned (.slice (some ⟨g,0,none⟩) (L++[x]).length c)∧OB w' g c d (L++[x])∧Touch [g] w w':=by
 have HA:=hid (Md h x hx hc hc2 121)
 obtain ⟨n,hn⟩:∃ n,L.length=n:=⟨_,rfl⟩
 rw [hn] at HA hc ⊢
 have n0:(0:Int)≤(n:Int):=by omega
 have nI:(n:Int)+1≤(c:Int):=by omega
 have hb4:¬ (c=n):=by omega
 clear h hx hc hn
 go_in
 go_wp2_with (at_builtin; obtain ⟨w1,hr,ho,ht⟩:=HA.out; refine aS _ rfl _ _ 121 121 rfl _ _ rfl rfl hr ?_; have HO:=hid ho; have HT:=hid ht; clear ho ht hr)
 go_ret
 exact ⟨by rw [List.length_append]; rfl,HO.out,HT.out⟩
theorem Ur (d g c i vb:Nat)(L:Its d)(x:bK (Kd d))(w:World)(h:OB w g c d L)(hx:w.heap[vb]? = some (.cells #[.string x.1,.string x.2.1,.pointer (dA d x.2.2)] 129 (0,0)))(hvb:vb ≠ g)(hi:i≤L.length)(hc:L.length+1≤c)(hc2:c≤100000) :
 Calls Tryz.prog 53 #[.slice (some ⟨g,0,none⟩) L.length c,.int .i64 (i:Nat),.slice (some ⟨vb,0,none⟩) 1 1] w fun e w'=>e = .returned (.slice (some ⟨g,0,none⟩) (L.take i++x::L.drop i).length c)∧OB w' g c d (L.take i++x::L.drop i)∧Touch [g] w w':=by
 rcases Nat.lt_or_ge i L.length with h1 | h1
 ·have:=Yx d g c i vb 1 L x w h hx hvb h1 hc hc2
  rw [show (L.take i++x::L.drop i).length=L.length+1 by rw [List.length_append,List.length_cons,List.length_take,List.length_drop]; omega];exact this
 ·obtain rfl:i=L.length:=by omega
  have:=Uo d g c vb L x w h hx hc hc2;rw [List.take_length,List.drop_length];exact this
theorem MH (d vb:Nat)(x:bK (Kd d))(w:World)(hx:w.heap[vb]? = some (.cells #[.string x.1,.string x.2.1,.pointer (dA d x.2.2)] 129 (0,0))) :
 Calls Tryz.prog 53 #[.slice none 0 0,.int .i64 0,.slice (some ⟨vb,0,none⟩) 1 1] w fun e w'=>∃ g c,e = .returned (.slice (some ⟨g,0,none⟩) 1 c)∧w.heap.size≤g∧OB w' g c d [x]∧Below w.heap.size w w':=by
 obtain ⟨i,hi,hz⟩:=Option.map_eq_some_iff.1 rU
 simp only [Prod.mk.injEq] at hz
 obtain ⟨h1,h2,h3⟩:=hz
 have HA:=hid (run_append_own_at (P:=Tryz.prog) w w.heap.size 121 121 129 i _ 3 40 Tryz.underlying121 hi h1 h2 h3 rfl (by decide) (.slice none 0 0) 0 [] (World.ownsRow_nil w _ _ _) ⟨vb,0,none⟩ 1 1 (kE d x) rfl (fun j y hy=>by rw [Addr.add_mid,Nat.zero_add]; exact df (cs:=kE d x) hx j y hy) (zF d x) (by decide) (by decide) (Nat.le_refl _))
 clear hx hi h1 h2 h3
 go_in
 go_wp2_with (at_builtin; obtain ⟨v',w1,hr,ho,hg,hnil,_⟩:=HA.out; refine aS _ rfl _ _ 121 121 rfl _ _ rfl rfl hr ?_; have HO:=hid ho; have HG:=hid hg; have AL:=hid hnil; clear ho hg hr hnil)
 go_ret
 have ho:=HO.out
 rcases ho.2 with ⟨e,h0⟩ | ⟨g,cap,cur,rfl,hb,hc,q1,q2,q3,q4⟩
 ·cases h0
 ·refine ⟨g,cap,rfl,hb, ?_,(Below.refl w.heap.size w).grown HG.out (Nat.le_refl _) (fun k hk=>by cases hk)⟩
  refine mO (w:=w) (cur:=cur.toList) (by simpa using hc) (by simpa using q3) (cur.toList.drop 3) ?_;have q5:cur.toList.take 3=kE d x:=by simpa using q4
  rw [show aH d [x]=kE d x by simp [aH],← q5,List.take_append_drop]
theorem afy {W:World}{g c:Nat}{L:Its 0}(h:OB W g c 0 L)(i:Nat)(x:bK (Kd 0))(hx:L[i]? = some x)(v:ByteArray):OB (W.setCell ⟨g,i * 3+1,none⟩ (.string v)) g c 0 (L.set i (x.1,v,x.2.2)):=by
 obtain ⟨rest,hg,hlen⟩:=h.row;obtain ⟨hi,rfl⟩:=List.getElem?_eq_some_iff.1 hx;have e1:aH 0 L++rest=aH 0 (L.take i)++(kE 0 L[i]++(aH 0 (L.drop (i+1))++rest)):=by
  rw [show kE 0 L[i]=aH 0 [L[i]] by simp [aH],← List.append_assoc (aH 0 [L[i]]),← dK,← List.append_assoc,← dK];congr 2;simp [← List.drop_eq_getElem_cons hi]
 have hl:(aH 0 (L.take i)).length=i * 3:=by rw [bu,List.length_take]; congr 1; omega
 have e3:L.set i (L[i].1,v,L[i].2.2)=L.take i++(L[i].1,v,L[i].2.2)::L.drop (i+1):=by rw [List.set_eq_take_append_cons_drop,if_pos hi]
 have e2:(aH 0 L++rest).set (i * 3+1) (.string v)=aH 0 (L.set i (L[i].1,v,L[i].2.2))++rest:=by
  rw [e1,List.set_append_right _ _ (by omega),hl,show i * 3+1 - i * 3=1 by omega,e3,dK];simp [aH,kE]
 exact mO (w:=W) (fC hg _ _) (by rw [List.length_set]; exact hlen) rest e2
theorem rV {κ:Type}:∀ l:List (bK κ),jr true l=2+fQ true l
 | []=>rfl
 | x::r=>by simp [jr,gG]; omega
theorem afz (L:Its 0)(i:Nat)(x:bK (Kd 0))(hx:L[i]? = some x)(v:ByteArray)(hv:v.size≤96):jr true (L.set i (x.1,v,x.2.2))≤jr true L+130:=by
 obtain ⟨hi,rfl⟩:=List.getElem?_eq_some_iff.1 hx;have e:L=L.take i++L[i]::L.drop (i+1):=by rw [← List.drop_eq_getElem_cons hi,List.take_append_drop]
 have e2:=congrArg (fQ true) e;rw [iZ,gG] at e2;rw [rV,rV,List.set_eq_take_append_cons_drop,if_pos hi,iZ,gG,e2];simp only [nM,if_true];omega
theorem afA (L:Its 0)(i:Nat)(x:bK (Kd 0))(hk:x.1.size≤32)(hv:x.2.1.size≤96):jr true (L.take i++x::L.drop i)≤jr true L+130:=by
 have e2:=congrArg (fQ true) (List.take_append_drop i L);rw [iZ] at e2;rw [rV,rV,iZ,gG];simp only [nM,if_true];omega
def Gm (c:Cg)(W:World)(g cc:Nat)(L:Its 0)(f t:ByteArray)(e:Ending)(W':World):Prop :=
 (c.err (cont 0 L) ≠ 0∧e = .returned (.tuple #[.slice none 0 0,.int .i64 (c.err (cont 0 L))])∨c.err (cont 0 L)=0∧∃ L',e = .returned (.tuple #[.slice (some ⟨g,0,none⟩) L'.length cc,.int .i64 0])∧OB W' g cc 0 L'∧gQ L' f t∧cont 0 L'=c.app (cont 0 L)∧L'.length≤L.length+1∧jr true L'≤jr true L+130)∧Touch [g] W W'
theorem aiJ (k v:ByteArray)(bk bv g cc:Nat)(L:Its 0)(f t:ByteArray)(W:World)(hk:W.cell? ⟨bk,0,none⟩=some (.string k))(hv:W.cell? ⟨bv,0,none⟩=some (.string v))(h:OB W g cc 0 L)(hc:L.length+1≤cc)(hc2:cc≤1001)(hr:gQ L f t)(hs:LV f t k)(hks:1≤k.size∧k.size≤32)(hvs:v.size≤96) :
 Calls Tryz.prog 51 #[.slice (some ⟨g,0,none⟩) L.length cc,.pointer (some ⟨bk,0,none⟩),.pointer (some ⟨bv,0,none⟩)] W fun e W'=>Gm (.put k v) W g cc L f t e W':=by
 have hst:=stands L k hr.rise
 have HF:=hid (fun W' (q:Below W.heap.size W W')=>pR 0 (some ⟨g,0,none⟩) L.length cc L k W' (h.is.below q) (by omega) (List.pairwise_map.2 hr.rise))
 have HST:=hid hst
 have HO:=hid h
 have HR:=hid (And.intro hr (And.intro hs (And.intro hks (And.intro hvs hc))))
 have hle:=hst.le
 change Hid (∀ W',Below W.heap.size W W'→Calls Tryz.prog 52 #[.slice (some ⟨g,0,none⟩) L.length cc,.string k] W' fun e w'=>e = .returned (.tuple #[.int .i64 (iw (L.map (·.1)) k:Nat),.bool (hasK (L.map (·.1)) k)])∧Below W'.heap.size W' w') at HF
 generalize iw (L.map (·.1)) k=i at *
 generalize hasK (L.map (·.1)) k=H at *
 obtain ⟨n,hn⟩:∃ n,L.length=n:=⟨_,rfl⟩
 have HN:=hid hn
 rw [hn] at HF hle ⊢
 have iI:(i:Int)≤(n:Int):=by omega
 have i0:(0:Int)≤(i:Int):=by omega
 have HHC:=hid (show ∀ M,(Cg.put k v).err M=0 from fun _=>rfl)
 clear hst h hr hs hks hvs hn
 go_in
 go_wp2_with fail
 refine (HF.out _ (Below.refl _ _)).mono ?_
 rintro e w1 ⟨rfl,hb1⟩
 have HB1:=hid hb1
 have k1:=ae hk (hb1.block _ (block_lt_of_cell hk))
 have v1:=ae hv (hb1.block _ (block_lt_of_cell hv))
 clear hb1 hk hv
 cases H with
 | true =>
   obtain ⟨x,hx,hlr,hct,hxk⟩:=afw HR.out.1 HR.out.2.2.2.1 HST.out;have hi:i<n:=by have:=(List.getElem?_eq_some_iff.1 hx).1; have:=HN.out; omega
   have hii:=bT g 0 n cc i hi;simp only [Nat.zero_add] at hii;have c1:=((HO.out.below HB1.out).at3 i x hx).v;have HX:=hid (And.intro hx (And.intro hlr hct));have f1:w1.frozen? ⟨g,i * 3+1,none⟩=false:=by
    obtain ⟨rest,hg,_⟩:=(HO.out.below HB1.out).row;exact frozen_of_row w1 g _ _ _ hg
   have iL:(i:Int)<(n:Int):=by omega
   clear hx hlr hct hi;go_wp2_with fail;go_ret2;refine ⟨.inr ⟨HHC.out _,L.set i (x.1,v,x.2.2),by rw [List.length_set,HN.out]; rfl,afy (HO.out.below HB1.out) i x HX.out.1 v,HX.out.2.1,HX.out.2.2,by rw [List.length_set]; omega, ?_⟩,(Touch.of_below HB1.out).trans (aV w1 g _ _)⟩;exact afz L i x HX.out.1 v HR.out.2.2.2.1
 | false =>
   have hbk:=FY k v;have hli:=fun (u v p:Value) (W:World)=>FV u v p W;have HIN:=hid (fun (W':World) (q:Below W.heap.size W W') (vb:Nat) (hvb:W.heap.size≤vb) (hx:W'.heap[vb]? = some (.cells #[.string k,.string v,.pointer none] 129 (0,0)))=>Ur 0 g cc i vb L (show bK (Kd 0) from (k,v,())) W' (HO.out.below q) hx (by have:=HO.out.lt; omega) HST.out.le HR.out.2.2.2.2 (by omega));obtain ⟨m,hm⟩:∃ m,(L.take i++(show bK (Kd 0) from (k,v,()))::L.drop i).length=m:=⟨_,rfl⟩
   have HM:=hid hm;rw [HN.out,hm] at HIN;clear hm;go_wp2_with fail;refine (HIN.out _ (aJ HB1.out (aK w1 _)) _ HB1.out.size (ah w1 _)).mono ?_;rintro e w2 ⟨rfl,ho2,ht2⟩;have HO2:=hid ho2;have HT2:=hid ht2;clear ho2 ht2;go_wp2_with fail;go_ret2;obtain ⟨p1,p2⟩:=afv HR.out.1 HR.out.2.1 HR.out.2.2.1 HR.out.2.2.2.1 HST.out (show Kd 0 from ());refine ⟨.inr ⟨HHC.out _,_,by rw [HM.out]; rfl,HO2.out,p1,p2,by rw [List.length_append,List.length_cons,List.length_take,List.length_drop]; omega, ?_⟩,((Touch.of_below HB1.out).trans (Touch.of_below (aK w1 _))).trans HT2.out⟩;exact afA L i (k,v,()) HR.out.2.2.1.2 HR.out.2.2.2.1
theorem aiK (k:ByteArray)(bk g cc:Nat)(L:Its 0)(f t:ByteArray)(W:World)(hk:W.cell? ⟨bk,0,none⟩=some (.string k))(h:OB W g cc 0 L)(hc:L.length+1≤cc)(hc2:cc≤1001)(hr:gQ L f t) :
 Calls Tryz.prog 54 #[.slice (some ⟨g,0,none⟩) L.length cc,.pointer (some ⟨bk,0,none⟩)] W fun e W'=>Gm (.del k) W g cc L f t e W':=by
 have hst:=stands L k hr.rise
 have HF:=hid (pR 0 (some ⟨g,0,none⟩) L.length cc L k W h.is (by omega) (List.pairwise_map.2 hr.rise))
 have HST:=hid hst
 have HO:=hid h
 have HR:=hid (And.intro hr hc)
 have hle:=hst.le
 have HHC:=hid (show (Cg.del k).err (cont 0 L)=if hasK (L.map (·.1)) k then 0 else 8 by rw [← ab9]; rfl)
 change Hid (Calls Tryz.prog 52 #[.slice (some ⟨g,0,none⟩) L.length cc,.string k] W fun e w'=>e = .returned (.tuple #[.int .i64 (iw (L.map (·.1)) k:Nat),.bool (hasK (L.map (·.1)) k)])∧Below W.heap.size W w') at HF
 generalize iw (L.map (·.1)) k=i at *
 generalize hasK (L.map (·.1)) k=H at *
 obtain ⟨n,hn⟩:∃ n,L.length=n:=⟨_,rfl⟩
 have HN:=hid hn
 rw [hn] at HF hle ⊢
 have iI:(i:Int)≤(n:Int):=by omega
 have i0:(0:Int)≤(i:Int):=by omega
 have nI:(n:Int)≤1001:=by omega
 clear hst h hr hn
 go_in
 go_wp2_with fail
 refine HF.out.mono ?_
 rintro e w1 ⟨rfl,hb1⟩
 have HB1:=hid hb1
 clear hb1 hk
 cases H with
 | true =>
   obtain ⟨p1,p2,hi⟩:=afx HR.out.1 HST.out;have HP:=hid (And.intro p1 p2);have HDL:=hid (Yy 0 g cc i L w1 (HO.out.below HB1.out) hi HR.out.2 (by omega));have HI:=hid hi;rw [HN.out] at HDL;have iL:(i:Int)<(n:Int):=by have:=HN.out; omega
   clear p1 p2 hi;go_wp2_with fail;refine HDL.out.mono ?_;rintro e w2 ⟨rfl,ho2,ht2⟩;have HO2:=hid ho2;have HT2:=hid ht2;clear ho2 ht2;go_wp2_with fail;go_ret2;refine ⟨.inr ⟨by rw [HHC.out]; rfl,L.take i++L.drop (i+1), ?_,HO2.out,HP.out.1,HP.out.2,by rw [List.length_append,List.length_take,List.length_drop]; omega, ?_⟩,(Touch.of_below HB1.out).trans HT2.out⟩
   ·rw [List.length_append,List.length_take,List.length_drop,HN.out,show min i n+(n - (i+1))=n - 1 by have:=HI.out; have:=HN.out; omega]
    rfl
   have hi:=HI.out;have e:L=L.take i++L[i]::L.drop (i+1):=by rw [← List.drop_eq_getElem_cons hi,List.take_append_drop]
   have e2:=congrArg (fQ true) e;rw [iZ,gG] at e2;rw [rV,rV,iZ];omega
 | false =>
   go_wp2_with fail;go_ret2;exact ⟨.inl ⟨by rw [HHC.out]; decide,by rw [HHC.out]; rfl⟩,Touch.of_below HB1.out⟩
end
end Go.Proofs.YtljjcbmkbmloaaaGreatDoor
