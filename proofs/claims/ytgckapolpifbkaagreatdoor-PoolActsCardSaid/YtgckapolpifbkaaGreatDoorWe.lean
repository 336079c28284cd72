import Derived.Test.YtgckapolpifbkaaGreatDoorWd
import Derived.Test.YtgckapolpifbkaaGreatDoorNo1
namespace Go.Proofs.YtgckapolpifbkaaGreatDoor
open Lib (hid)
set_option maxRecDepth 4000
set_option linter.unusedVariables false
open Go.ChangeShapes Go.WideShapes Go.ChangeAt Go.RowKit
theorem bs_far {w : World} {P D n b : Nat} {ks : List (BitVec 8)} {F : Nat → Bool} {ad : Option Addr} {cap : Nat} {x : List Int} (h : PL w P D n ks F b) (hB : BS w (.slice ad 512 cap) x) : ∀ W,Touch [P] w W → BS W (.slice ad 512 cap) x := by
 intro W hW
 obtain ⟨a,c,he,hy,hn,hc⟩ := hB
 injection he with e1 e2 e3
 subst e1; subst e3
 refine ⟨_,_,by rw [e2],hy,hn, ?_⟩
 rcases hc with h0 | ⟨g,off,rfl,hc⟩
 ·exact .inl h0
 ·refine .inr ⟨g,off,rfl,fun i hi => ?_⟩
  have c0 := hc i hi
  have hg : g ≠ P := by
   intro e
   subst e
   have c5 := hc 511 (by omega)
   rw [cell_of_row _ _ _ _ _ _ h.row,List.getElem?_toArray,List.getElem?_eq_none (by rw [poolRow_length _ _ _ _ _ h.kl]; omega)] at c5
   cases c5
  rw [← c0]
  unfold World.cell?
  rw [hW.block g (block_lt_of_cell c0) (by simpa using hg)]
def secY9 (n : NodeV) : List (BitVec 8) := toY (secB9 n)
theorem secY9_length {n : NodeV} (h : checkN n = 0) : (secY9 n).length = 512 := by unfold secY9; rw [toY_length]; exact secB9_length h
theorem secB9_byt {n : NodeV} (h : checkN n = 0) : Byt (secB9 n) := by
 unfold secB9
 exact fun z hz => (List.mem_append.1 hz).elim (nodeB_byt h z) (byt_zeros8 _ z)
theorem secY9_yv {n : NodeV} (h : checkN n = 0) : (secY9 n).map yv = secB9 n := toY_yv _ (secB9_byt h)
set_option maxRecDepth 100000 in
set_option maxHeartbeats 3200000 in
theorem pwr_zero (P D n b : Nat) (ks : List (BitVec 8)) (F : Nat → Bool) (k v p : Value) (nd : NodeV) (w : World) (hp : PL w P D n ks F b) (hn : NR w k v p nd) (hnb : NB nd) (hb0 : b = 0) :
 Calls Tryz.prog 21 #[.pointer (some ⟨P,0,none⟩),.agg #[.bool nd.lf,k,v,p]] w fun e w' => e = .returned (.tuple #[.agg (ptrRow zeroPtr).toArray,.int .i64 2]) ∧ Below w.heap.size w w' := by
 subst hb0
 have HBN := hid build_none
 have SZ := hid (size_ptrA zeroPtr)
 have SO := hid (ptrRow_one zeroPtr)
 have hz := zero_ptr
 obtain ⟨hN0,hQ0,hsz,hb1⟩ := ytwo w (.cells #[.bool nd.lf,k,v,p] 38) (.cells (ptrRow zeroPtr).toArray 43)
 have HNR := hid (fun (W : World) (hW : Below w.heap.size w W) => hn.below hW)
 have HPL := hid (fun (W : World) (hW : Below w.heap.size w W) => hp.below hW)
 have SN := hid (size_node nd.lf k v p)
 generalize hPZ : (ptrRow zeroPtr).toArray = PZ at *
 generalize hw1 : (w.alloc (.cells #[.bool nd.lf,k,v,p] 38)).alloc (.cells PZ 43) = w1 at *
 have HN0 := hid hN0
 have HQ0 := hid hQ0
 have HB1 := hid hb1
 have hbr := (HPL.out w1 hb1).birth
 clear hN0 hQ0 hsz hb1 hp hn hnb hPZ
 go_enter Tryz.func21,Tryz.ntmps21
 go_upto_region 1 with fail
 try rw [hw1]
 clear hw1 hz
 go_wp2_with (first
  | (with_reducible refine wpList_build_run (o := ⟨some 16,_,_,_,_,_⟩) rfl 43 _ rfl #[] (by simp [Act.eval]) (.agg PZ) (HBN.out _) ?_)
  | (with_reducible refine wpList_store_row (o := ⟨none,.store _ (.tmp 4) _,_,_,_,_⟩) rfl 43 _ _ rfl (w.heap.size + 1) PZ rfl rfl 43 PZ HQ0.out SZ.out rfl SO.out ?_))
 refine bodyPost_ret (v := .tuple #[.agg PZ,.int .i64 2]) (results_cell_two Tryz.results21 _ _ (w.heap.size + 1) 43 PZ (0,0) _ rfl (setRow_heap _ (w.heap.size + 1) _ PZ _ _ HQ0.out) Tryz.underlying43 rfl SZ.out _ rfl) rfl ⟨rfl,ybelow_row HB1.out (by omega) _⟩
set_option maxRecDepth 100000 in
set_option maxHeartbeats 3200000 in
theorem pwr_bad (P D n b : Nat) (ks : List (BitVec 8)) (F : Nat → Bool) (k v p : Value) (nd : NodeV) (w : World) (hp : PL w P D n ks F b) (hn : NR w k v p nd) (hnb : NB nd) (hb0 : b ≠ 0) (hc : checkN nd ≠ 0) :
 Calls Tryz.prog 21 #[.pointer (some ⟨P,0,none⟩),.agg #[.bool nd.lf,k,v,p]] w fun e w' => e = .returned (.tuple #[.agg (ptrRow zeroPtr).toArray,.int .i64 (checkN nd)]) ∧ Below w.heap.size w w' := by
 have b0 : ((b : Int) == 0) = false := by simp; omega
 have c0 : (checkN nd != 0) = true := by simpa using hc
 have HBN := hid build_none
 have SZ := hid (size_ptrA zeroPtr)
 have SO := hid (ptrRow_one zeroPtr)
 have hz := zero_ptr
 obtain ⟨hN0,hQ0,hsz,hb1⟩ := ytwo w (.cells #[.bool nd.lf,k,v,p] 38) (.cells (ptrRow zeroPtr).toArray 43)
 have HNR := hid (fun (W : World) (hW : Below w.heap.size w W) => hn.below hW)
 have HPL := hid (fun (W : World) (hW : Below w.heap.size w W) => hp.below hW)
 have SN := hid (size_node nd.lf k v p)
 have HPUT := hid (fun (W : World) (hW : Below w.heap.size w W) => nput_bad k v p nd W (hn.below hW) hnb hc)
 generalize hPZ : (ptrRow zeroPtr).toArray = PZ at *
 generalize hw1 : (w.alloc (.cells #[.bool nd.lf,k,v,p] 38)).alloc (.cells PZ 43) = w1 at *
 have HN0 := hid hN0
 have HQ0 := hid hQ0
 have HB1 := hid hb1
 have hbr := (HPL.out w1 hb1).birth
 clear hN0 hQ0 hsz hb1 hp hn hnb hPZ hb0 hc
 go_enter Tryz.func21,Tryz.ntmps21
 go_upto_region 1 with fail
 try rw [hw1]
 clear hw1 hz
 go_wp2_with (first
  | (with_reducible refine wpList_load_row (o := ⟨some 18,_,_,_,_,_⟩) rfl 38 _ rfl w.heap.size rfl 38 #[.bool nd.lf,k,v,p] (0,0) _ HN0.out Tryz.underlying38 rfl SN.out ?_))
 refine (HPUT.out w1 HB1.out).mono ?_
 rintro e w2 ⟨rfl,hb2⟩
 have HB2 := hid (HB1.out.trans (hb2.mono HB1.out.size))
 have HQ2 := hid ((hb2.block _ (lt_of_block HQ0.out)).trans HQ0.out)
 clear hb2 hbr HPUT HPL HNR HQ0
 go_wp2_with (first
  | (with_reducible refine wpList_build_run (o := ⟨some 24,_,_,_,_,_⟩) rfl 43 _ rfl #[] (by simp [Act.eval]) (.agg PZ) (HBN.out _) ?_)
  | (with_reducible refine wpList_store_row (o := ⟨none,.store _ (.tmp 4) _,_,_,_,_⟩) rfl 43 _ _ rfl (w.heap.size + 1) PZ rfl rfl 43 PZ HQ2.out SZ.out rfl SO.out ?_))
 refine bodyPost_ret (v := .tuple #[.agg PZ,.int .i64 (checkN nd)]) (results_cell_two Tryz.results21 _ _ (w.heap.size + 1) 43 PZ (0,0) _ rfl (setRow_heap _ (w.heap.size + 1) _ PZ _ _ HQ2.out) Tryz.underlying43 rfl SZ.out _ rfl) rfl ⟨rfl,ybelow_row HB2.out (by omega) _⟩
set_option maxRecDepth 100000 in
set_option maxHeartbeats 3200000 in
theorem pwr_full (P D n b : Nat) (ks : List (BitVec 8)) (F : Nat → Bool) (k v p : Value) (nd : NodeV) (w : World) (hp : PL w P D n ks F b) (hn : NR w k v p nd) (hnb : NB nd) (hb0 : b ≠ 0) (hc : checkN nd = 0) (hF : ∀ a,F a = false) :
 Calls Tryz.prog 21 #[.pointer (some ⟨P,0,none⟩),.agg #[.bool nd.lf,k,v,p]] w fun e w' => e = .returned (.tuple #[.agg (ptrRow zeroPtr).toArray,.int .i64 6]) ∧ Below w.heap.size w w' := by
 have b0 : ((b : Int) == 0) = false := by simp; omega
 have HBN := hid build_none
 have SZ := hid (size_ptrA zeroPtr)
 have SO := hid (ptrRow_one zeroPtr)
 have hz := zero_ptr
 obtain ⟨hN0,hQ0,hsz,hb1⟩ := ytwo w (.cells #[.bool nd.lf,k,v,p] 38) (.cells (ptrRow zeroPtr).toArray 43)
 have HNR := hid (fun (W : World) (hW : Below w.heap.size w W) => hn.below hW)
 have HPL := hid (fun (W : World) (hW : Below w.heap.size w W) => hp.below hW)
 have SN := hid (size_node nd.lf k v p)
 have HPUT := hid (fun (W : World) (hW : Below w.heap.size w W) => nput_any k v p nd W (hn.below hW) hnb hc)
 have HFULL := hid (fun (W : World) (hW : Below w.heap.size w W) (x : Value) => pplace_full P D n b ks F x W (hp.below hW) hF)
 generalize hPZ : (ptrRow zeroPtr).toArray = PZ at *
 generalize hw1 : (w.alloc (.cells #[.bool nd.lf,k,v,p] 38)).alloc (.cells PZ 43) = w1 at *
 have HN0 := hid hN0
 have HQ0 := hid hQ0
 have HB1 := hid hb1
 have hbr := (HPL.out w1 hb1).birth
 clear hN0 hQ0 hsz hb1 hp hn hnb hPZ hb0 hc hF
 go_enter Tryz.func21,Tryz.ntmps21
 go_upto_region 1 with fail
 try rw [hw1]
 clear hw1 hz
 go_wp2_with (first
  | (with_reducible refine wpList_load_row (o := ⟨some 18,_,_,_,_,_⟩) rfl 38 _ rfl w.heap.size rfl 38 #[.bool nd.lf,k,v,p] (0,0) _ HN0.out Tryz.underlying38 rfl SN.out ?_))
 refine (HPUT.out w1 HB1.out).mono ?_
 rintro e w2 ⟨a2,c2,rfl,hc2,hbs2,hb2⟩
 have HB2 := hid (HB1.out.trans (hb2.mono HB1.out.size))
 have HQ2 := hid ((hb2.block _ (lt_of_block HQ0.out)).trans HQ0.out)
 have HBS2 := hid hbs2
 clear hb2 hbr HPUT HPL HNR HQ0 hbs2
 go_wp2_with fail
 refine (HFULL.out w2 HB2.out _).mono ?_
 rintro e w3 ⟨rfl,hb3⟩
 have HB3 := hid (HB2.out.trans (hb3.mono HB2.out.size))
 have HQ3 := hid ((hb3.block _ (lt_of_block HQ2.out)).trans HQ2.out)
 clear hb3 HFULL
 go_wp2_with (first
  | (with_reducible refine wpList_store_row (o := ⟨none,.store _ (.tmp 4) _,_,_,_,_⟩) rfl 43 _ _ rfl (w.heap.size + 1) PZ rfl rfl 43 PZ HQ3.out SZ.out rfl SO.out ?_))
 refine bodyPost_ret (v := .tuple #[.agg PZ,.int .i64 6]) (results_cell_two Tryz.results21 _ _ (w.heap.size + 1) 43 PZ (0,0) _ rfl (setRow_heap _ (w.heap.size + 1) _ PZ _ _ HQ3.out) Tryz.underlying43 rfl SZ.out _ rfl) rfl ⟨rfl,ybelow_row HB3.out (by omega) _⟩
set_option maxRecDepth 100000 in
set_option maxHeartbeats 3200000 in
theorem pwr_some (P D gl bm n b a : Nat) (vw : Value) (V : List (BitVec 8)) (ws : List (Nat × List (BitVec 8))) (lim : Int) (dn : Bool) (kk m : List (BitVec 8)) (F : Nat → Bool) (k v p : Value) (nd : NodeV) (w : World) (hp : PL w P D n (kk ++ m) F b) (hd : PD w D gl bm n vw V ws lim dn) (hne : P ∉ pfp D gl bm vw) (hK : KT w) (hT : TZ w) (hKP : P ≠ 0) (hk : kk.length = 32) (hm : m.length = 32) (hn : NR w k v p nd) (hnb : NB nd)
 (hb : b < 18446744073709551616) (hb0 : b ≠ 0) (hc : checkN nd = 0) (hF : F a = true) (hlow : ∀ x,x < a → F x = false) (hws : ws.length ≤ 1000000) :
 Calls Tryz.prog 21 #[.pointer (some ⟨P,0,none⟩),.agg #[.bool nd.lf,k,v,p]] w (PlacePost P D gl bm n b vw V ws lim dn a (kk ++ m) F (sealS kk b a (secY9 nd)) (ptrOf12 b a ((sealS kk b a (secY9 nd)).map yv)) w) := by
 have b0 : ((b : Int) == 0) = false := by simp; omega
 have hz := zero_ptr
 have SZ := hid size_ptrA
 have SO := hid ptrRow_one
 have SL := hid (fun x y : PtrV => show (ptrRow x).toArray.size = (ptrRow y).toArray.size by simp [ptrRow_length])
 obtain ⟨hN0,hQ0,hsz,hb1⟩ := ytwo w (.cells #[.bool nd.lf,k,v,p] 38) (.cells (ptrRow zeroPtr).toArray 43)
 have HPL := hid (fun (W : World) (hW : Below w.heap.size w W) => hp.below hW)
 have HLT := hid (fun g hg => hd.lt g hg)
 have HPLT := hid hp.lt
 have SN := hid (size_node nd.lf k v p)
 have HPUT := hid (fun (W : World) (hW : Below w.heap.size w W) => nput_any k v p nd W (hn.below hW) hnb hc)
 have HPP := hid (fun (W : World) (hW : Below w.heap.size w W) (ad : Option Addr) (cap : Nat) (hB : BS W (.slice ad 512 cap) (secB9 nd)) => pplace_any P D gl bm n b a cap vw V ws lim dn kk m F (secY9 nd) ad W (hp.below hW) (hd.below hW) hne (hK.below hW hK.pos) (hT.below hW) hKP hk hm (secY9_length hc) (by rw [secY9_yv hc]; exact hB) (by rw [secY9_yv hc]; exact bs_far (hp.below hW) hB) hb hb0 hF hlow hws)
 generalize sealS kk b a (secY9 nd) = S at *
 generalize ptrOf12 b a (S.map yv) = PT at *
 generalize hPZ : (ptrRow zeroPtr).toArray = PZ at *
 generalize hw1 : (w.alloc (.cells #[.bool nd.lf,k,v,p] 38)).alloc (.cells PZ 43) = w1 at *
 have HN0 := hid hN0
 have HQ0 := hid hQ0
 have HB1 := hid hb1
 have HPZ := hid hPZ
 have hbr := (HPL.out w1 hb1).birth
 clear hN0 hQ0 hsz hb1 hp hd hne hK hT hKP hk hm hn hnb hb hb0 hc hF hlow hws hPZ
 generalize kk ++ m = KM at *
 go_enter Tryz.func21,Tryz.ntmps21
 go_upto_region 1 with fail
 try rw [hw1]
 clear hw1 hz
 go_wp2_with (first
  | (with_reducible refine wpList_load_row (o := ⟨some 18,_,_,_,_,_⟩) rfl 38 _ rfl w.heap.size rfl 38 #[.bool nd.lf,k,v,p] (0,0) _ HN0.out Tryz.underlying38 rfl SN.out ?_))
 refine (HPUT.out w1 HB1.out).mono ?_
 rintro e w2 ⟨a2,c2,rfl,hc2,hbs2,hb2⟩
 have HB2 := hid (HB1.out.trans (hb2.mono HB1.out.size))
 have HQ2 := hid ((hb2.block _ (lt_of_block HQ0.out)).trans HQ0.out)
 have HBS2 := hid hbs2
 clear hb2 hbr HPUT HPL HQ0 hbs2
 go_wp2_with fail
 refine (HPP.out w2 HB2.out _ _ HBS2.out).mono ?_
 intro e w3 hpost
 clear HPP HBS2
 have hpf : ∀ g,w.heap.size ≤ g → g ∉ P :: pfp D gl bm vw := fun g h e => by
  rcases List.mem_cons.1 e with e | e
  ·have := HPLT.out; omega
  ·have := HLT.out g e; omega
 rcases hpost with ⟨hg,rfl,hd3,hp3,ht3⟩ | ⟨hg,rfl,hp3,vw',hd3,ht3,hn3⟩
 ·have HQ3 := hid ((ht3.block _ (lt_of_block HQ2.out) (hpf _ (by omega))).trans HQ2.out)
  have HEND := hid (And.intro hg (And.intro hd3 (And.intro hp3 ht3)))
  clear hg hd3 hp3 ht3 hpf
  rw [HPZ.out]
  go_wp2_with (first
   | (with_reducible refine wpList_store_row (o := ⟨none,.store _ (.tmp 4) _,_,_,_,_⟩) rfl 43 _ _ rfl (w.heap.size + 1) PZ rfl rfl 43 PZ HQ3.out (by rw [← HPZ.out]; exact SZ.out _) rfl (by rw [← HPZ.out]; exact SO.out _) ?_))
  refine bodyPost_ret (v := .tuple #[.agg PZ,.int .i64 7]) (results_cell_two Tryz.results21 _ _ (w.heap.size + 1) 43 PZ (0,0) _ rfl (setRow_heap _ (w.heap.size + 1) _ PZ _ _ HQ3.out) Tryz.underlying43 rfl (by rw [← HPZ.out]; exact SZ.out _) _ rfl) rfl ?_
  have ts := setRow_touch w3 (w.heap.size + 1) PZ
  refine .inl ⟨HEND.out.1,by rw [HPZ.out],HEND.out.2.1.touch ts (fun g hg e => by have := HLT.out g hg; simp at e; omega),HEND.out.2.2.1.touch ts (by have := HPLT.out; simp; omega), ?_⟩
  exact ((Touch.of_below (l := P :: pfp D gl bm vw) HB2.out).trans HEND.out.2.2.2).trans_new (ts.below (Nat.le_trans HB2.out.size HEND.out.2.2.2.size) (by simp))
 ·have HQ3 := hid ((ht3.block _ (lt_of_block HQ2.out) (hpf _ (by omega))).trans HQ2.out)
  have HEND := hid (And.intro hg (And.intro hd3 (And.intro hp3 ht3)))
  have HN3 := hid (fun g hg => (hn3 g hg).imp id (fun h => Nat.le_trans (Nat.succ_le_of_lt (lt_of_block HQ2.out)) h))
  obtain ⟨PR,hPR⟩ : ∃ PR,(ptrRow PT).toArray = PR := ⟨_,rfl⟩
  have HPR := hid hPR
  rw [hPR]
  clear hg hd3 hp3 ht3 hpf hn3 hPR
  go_wp2_with (first
   | (with_reducible refine wpList_store_row (o := ⟨none,.store _ (.tmp 4) _,_,_,_,_⟩) rfl 43 _ _ rfl (w.heap.size + 1) PR rfl rfl 43 PZ HQ3.out (by rw [← HPR.out]; exact SZ.out _) (by rw [← HPR.out,← HPZ.out]; exact SL.out _ _) (by rw [← HPR.out]; exact SO.out _) ?_))
  refine bodyPost_ret (v := .tuple #[.agg PR,.int .i64 0]) (results_cell_two Tryz.results21 _ _ (w.heap.size + 1) 43 PR (0,0) _ rfl (setRow_heap _ (w.heap.size + 1) _ PR _ _ HQ3.out) Tryz.underlying43 rfl (by rw [← HPR.out]; exact SZ.out _) _ rfl) rfl ?_
  have ts := setRow_touch w3 (w.heap.size + 1) PR
  refine .inr ⟨HEND.out.1,by rw [HPR.out],HEND.out.2.2.1.touch ts (by have := HPLT.out; simp; omega),vw',HEND.out.2.1.touch ts (fun g hg e => ?_), ?_,fun g hg => (HN3.out g hg).imp id (fun h => by omega)⟩
  ·simp only [pfp,List.mem_cons,Option.mem_toList] at hg
   have hl := fun g hg => HLT.out g hg
   simp only [pfp,List.mem_cons,Option.mem_toList] at hl
   have hlt : g < w.heap.size ∨ w.heap.size + 1 < g := by
    rcases hg with h | h | h | h
    ·exact .inl (hl g (.inl h))
    ·exact .inl (hl g (.inr (.inl h)))
    ·exact .inl (hl g (.inr (.inr (.inl h))))
    ·rcases HN3.out g h with h | h
     ·exact .inl (hl g (.inr (.inr (.inr h))))
     ·exact .inr (by omega)
   simp at e
   omega
  ·exact ((Touch.of_below (l := P :: pfp D gl bm vw) HB2.out).trans HEND.out.2.2.2).trans_new (ts.below (Nat.le_trans HB2.out.size HEND.out.2.2.2.size) (by simp))
def nzero : Array Value := #[.bool false,.slice none 0 0,.slice none 0 0,.slice none 0 0]
theorem build_node0 (W : World) : (Instr.build 38 #[]).run Tryz.prog W = .ok (.agg nzero) W := by kernel_rfl
theorem zero_node0 (W : World) : (zeroValue 38).run Tryz.prog W = .ok (.agg nzero) W := by kernel_rfl
theorem may_lt {q : PtrV} {n : Nat} (h0 : q.ad ≠ 0) (hc : checkE q n = 0) : ∃ a : Nat,q.ad = (a : Int) ∧ 2 ≤ a ∧ a < n ∧ q.bi ≠ 0 := by
 unfold checkE mayB at hc
 rw [if_neg h0] at hc
 have hx : (decide (2 ≤ q.ad) && decide (q.ad < (n : Int)) && decide (q.bi ≠ 0)) = true := by
  cases hm : (decide (2 ≤ q.ad) && decide (q.ad < (n : Int)) && decide (q.bi ≠ 0)) with
  | true => rfl
  | false => rw [hm] at hc; simp at hc
 simp only [Bool.and_eq_true,decide_eq_true_eq] at hx
 exact ⟨q.ad.toNat,by omega,by omega,by omega,hx.2⟩
set_option maxRecDepth 100000 in
set_option maxHeartbeats 3200000 in
theorem prd_null (P D gl bm n b : Nat) (vw : Value) (V : List (BitVec 8)) (ws : List (Nat × List (BitVec 8))) (lim : Int) (dn : Bool) (ks : List (BitVec 8)) (F : Nat → Bool) (q : PtrV) (w : World) (hp : PL w P D n ks F b) (hd : PD w D gl bm n vw V ws lim dn) (h0 : q.ad = 0) :
 Calls Tryz.prog 33 #[.pointer (some ⟨P,0,none⟩),.agg (ptrRow q).toArray] w fun e w' => e = .returned (.tuple #[.agg nzero,.int .i64 2]) ∧ Below w.heap.size w w' := by
 have HBN := hid build_node0
 have hz := zero_node0
 obtain ⟨hN0,hQ0,hsz,hb1⟩ := ytwo w (.cells (ptrRow q).toArray 43) (.cells nzero 38)
 have SQ := hid (size_ptr q)
 have SZ := hid (show (Tryz.prog.info? 38).map (·.size) = some nzero.size from size_node false _ _ _)
 have SO := hid (show nzero.all (·.oneCell') = true by unfold nzero; simp [Value.oneCell'])
 have HPL := hid (fun (W : World) (hW : Below w.heap.size w W) => hp.below hW)
 have HPD := hid (fun (W : World) (hW : Below w.heap.size w W) => hd.below hW)
 have hrg := ptr_at hN0
 have HRG := hid (range_of_row hN0)
 have HNU := hid (fun (W : World) => pnull_any q W)
 have HSI := hid (fun (W : World) (hW : Below w.heap.size w W) => psize_any D gl bm n vw V ws lim dn W (hd.below hW))
 have HCH := hid (fun (W : World) => pcheck_any q (n : Int) W)
 have hnu : (q.ad == 0) = true := by simpa using h0
 rw [hnu] at HNU
 have HQ0 := hid hQ0
 have HB1 := hid hb1
 have HAD := hid hrg.1
 generalize hZ : nzero = Z at *
 have HZ := hid hZ
 have hdev := (HPL.out _ hb1).dev
 generalize hQL : ptrRow q = QL at *
 generalize hw1 : (w.alloc (.cells QL.toArray 43)).alloc (.cells Z 38) = w1 at *
 have HQL := hid hQL
 clear hN0 hQ0 hsz hb1 hp hd hrg hZ hQL h0 hnu
 go_enter Tryz.func33,Tryz.ntmps33
 go_upto_region 3 with fail
 try rw [hw1]
 clear hw1 hz
 have hdevp := by_cell hdev
 have HSI3 := hid (fun p : BelowBy w1 => HSI.out p.now (HB1.out.trans (p.bel.mono HB1.out.size)))
 refine wp_region_below (by kernel_rfl) (by kernel_rfl) ?_
 repeat (first
  | (with_reducible refine quiet_load_row (o := ⟨some 12,_,_,_,_,_⟩) (by kernel_rfl) 43 _ rfl w.heap.size 0 rfl QL _ (by_range HRG.out) Tryz.underlying43 rfl SQ.out ?_
     simp only [Act.put,List.setIfInBounds_toArray,List.set_cons_zero,List.set_cons_succ])
  | (go_big_quiet_step (first
      | (go_at_call 44; exact calls_below (HNU.out _)))))
 refine wpQuiet_nil ?_
 intro _ hw'
 obtain ⟨p3,hw''⟩ := hw'
 subst hw''
 clear hdevp
 have HB3 := hid (HB1.out.trans (p3.bel.mono HB1.out.size))
 have HQ3 := hid ((p3.bel.block _ (lt_of_block HQ0.out)).trans HQ0.out)
 go_wp2_with (first
  | (with_reducible refine wpList_build_run (o := ⟨some 24,_,_,_,_,_⟩) rfl 38 _ rfl #[] (by simp [Act.eval]) (.agg Z) (HBN.out _) ?_)
  | (with_reducible refine wpList_store_row (o := ⟨none,.store _ (.tmp 4) _,_,_,_,_⟩) rfl 38 _ _ rfl (w.heap.size + 1) Z rfl rfl 38 Z HQ3.out SZ.out rfl SO.out ?_))
 refine bodyPost_ret (v := .tuple #[.agg Z,.int .i64 2]) (results_cell_two Tryz.results33 _ _ (w.heap.size + 1) 38 Z (0,0) _ rfl (setRow_heap _ (w.heap.size + 1) _ Z _ _ HQ3.out) Tryz.underlying38 rfl SZ.out _ rfl) rfl ⟨rfl,ybelow_row HB3.out (by omega) _⟩
set_option maxRecDepth 100000 in
set_option maxHeartbeats 3200000 in
theorem prd_bad (P D gl bm n b : Nat) (vw : Value) (V : List (BitVec 8)) (ws : List (Nat × List (BitVec 8))) (lim : Int) (dn : Bool) (ks : List (BitVec 8)) (F : Nat → Bool) (q : PtrV) (w : World) (hp : PL w P D n ks F b) (hd : PD w D gl bm n vw V ws lim dn) (h0 : q.ad ≠ 0) (hc : checkE q n ≠ 0) :
 Calls Tryz.prog 33 #[.pointer (some ⟨P,0,none⟩),.agg (ptrRow q).toArray] w fun e w' => e = .returned (.tuple #[.agg nzero,.int .i64 2]) ∧ Below w.heap.size w w' := by
 have HBN := hid build_node0
 have hz := zero_node0
 obtain ⟨hN0,hQ0,hsz,hb1⟩ := ytwo w (.cells (ptrRow q).toArray 43) (.cells nzero 38)
 have SQ := hid (size_ptr q)
 have SZ := hid (show (Tryz.prog.info? 38).map (·.size) = some nzero.size from size_node false _ _ _)
 have SO := hid (show nzero.all (·.oneCell') = true by unfold nzero; simp [Value.oneCell'])
 have HPL := hid (fun (W : World) (hW : Below w.heap.size w W) => hp.below hW)
 have HPD := hid (fun (W : World) (hW : Below w.heap.size w W) => hd.below hW)
 have hrg := ptr_at hN0
 have HRG := hid (range_of_row hN0)
 have HNU := hid (fun (W : World) => pnull_any q W)
 have HSI := hid (fun (W : World) (hW : Below w.heap.size w W) => psize_any D gl bm n vw V ws lim dn W (hd.below hW))
 have HCH := hid (fun (W : World) => pcheck_any q (n : Int) W)
 have hnu : (q.ad == 0) = false := by simpa using h0
 rw [hnu] at HNU
 have hce : (checkE q n != 0) = true := by simpa using hc
 generalize checkE q n = ce at *
 have HQ0 := hid hQ0
 have HB1 := hid hb1
 have HAD := hid hrg.1
 generalize hZ : nzero = Z at *
 have HZ := hid hZ
 have hdev := (HPL.out _ hb1).dev
 generalize hQL : ptrRow q = QL at *
 generalize hw1 : (w.alloc (.cells QL.toArray 43)).alloc (.cells Z 38) = w1 at *
 have HQL := hid hQL
 clear hN0 hQ0 hsz hb1 hp hd hrg hZ hQL h0 hc hnu
 go_enter Tryz.func33,Tryz.ntmps33
 go_upto_region 3 with fail
 try rw [hw1]
 clear hw1 hz
 have hdevp := by_cell hdev
 have HSI3 := hid (fun p : BelowBy w1 => HSI.out p.now (HB1.out.trans (p.bel.mono HB1.out.size)))
 refine wp_region_below (by kernel_rfl) (by kernel_rfl) ?_
 repeat (first
  | (with_reducible refine quiet_load_row (o := ⟨some 12,_,_,_,_,_⟩) (by kernel_rfl) 43 _ rfl w.heap.size 0 rfl QL _ (by_range HRG.out) Tryz.underlying43 rfl SQ.out ?_
     simp only [Act.put,List.setIfInBounds_toArray,List.set_cons_zero,List.set_cons_succ])
  | (with_reducible refine quiet_load_row (o := ⟨some 15,_,_,_,_,_⟩) (by kernel_rfl) 43 _ rfl w.heap.size 0 rfl QL _ (by_range HRG.out) Tryz.underlying43 rfl SQ.out ?_
     simp only [Act.put,List.setIfInBounds_toArray,List.set_cons_zero,List.set_cons_succ])
  | (go_big_quiet_step (first
      | (go_at_call 44; exact calls_below (HNU.out _))
      | (go_at_call 59; exact calls_below_same (HSI3.out _))
      | (go_at_call 45; exact calls_below (HCH.out _)))))
 refine wpQuiet_nil ?_
 intro _ hw'
 obtain ⟨p3,hw''⟩ := hw'
 subst hw''
 clear hdevp
 have HB3 := hid (HB1.out.trans (p3.bel.mono HB1.out.size))
 have HQ3 := hid ((p3.bel.block _ (lt_of_block HQ0.out)).trans HQ0.out)
 go_wp2_with (first
  | (with_reducible refine wpList_build_run (o := ⟨some 24,_,_,_,_,_⟩) rfl 38 _ rfl #[] (by simp [Act.eval]) (.agg Z) (HBN.out _) ?_)
  | (with_reducible refine wpList_store_row (o := ⟨none,.store _ (.tmp 4) _,_,_,_,_⟩) rfl 38 _ _ rfl (w.heap.size + 1) Z rfl rfl 38 Z HQ3.out SZ.out rfl SO.out ?_))
 refine bodyPost_ret (v := .tuple #[.agg Z,.int .i64 2]) (results_cell_two Tryz.results33 _ _ (w.heap.size + 1) 38 Z (0,0) _ rfl (setRow_heap _ (w.heap.size + 1) _ Z _ _ HQ3.out) Tryz.underlying38 rfl SZ.out _ rfl) rfl ⟨rfl,ybelow_row HB3.out (by omega) _⟩
set_option maxRecDepth 100000 in
set_option maxHeartbeats 3200000 in
theorem prd_down (P D gl bm n b : Nat) (vw : Value) (V : List (BitVec 8)) (ws : List (Nat × List (BitVec 8))) (lim : Int) (dn : Bool) (ks : List (BitVec 8)) (F : Nat → Bool) (q : PtrV) (w : World) (hp : PL w P D n ks F b) (hd : PD w D gl bm n vw V ws lim dn) (h0 : q.ad ≠ 0) (hc : checkE q n = 0) (hdn : dn = true) :
 Calls Tryz.prog 33 #[.pointer (some ⟨P,0,none⟩),.agg (ptrRow q).toArray] w fun e w' => e = .returned (.tuple #[.agg nzero,.int .i64 7]) ∧ Below w.heap.size w w' := by
 have HBN := hid build_node0
 have hz := zero_node0
 obtain ⟨hN0,hQ0,hsz,hb1⟩ := ytwo w (.cells (ptrRow q).toArray 43) (.cells nzero 38)
 have SQ := hid (size_ptr q)
 have SZ := hid (show (Tryz.prog.info? 38).map (·.size) = some nzero.size from size_node false _ _ _)
 have SO := hid (show nzero.all (·.oneCell') = true by unfold nzero; simp [Value.oneCell'])
 have HPL := hid (fun (W : World) (hW : Below w.heap.size w W) => hp.below hW)
 have HPD := hid (fun (W : World) (hW : Below w.heap.size w W) => hd.below hW)
 have hrg := ptr_at hN0
 have HRG := hid (range_of_row hN0)
 have HNU := hid (fun (W : World) => pnull_any q W)
 have HSI := hid (fun (W : World) (hW : Below w.heap.size w W) => psize_any D gl bm n vw V ws lim dn W (hd.below hW))
 have HCH := hid (fun (W : World) => pcheck_any q (n : Int) W)
 obtain ⟨a,ha,ha2,han,_⟩ := may_lt h0 hc
 have hnu : (q.ad == 0) = false := by simpa using h0
 rw [hnu] at HNU
 rw [hc] at HCH
 have HAL := hid (show a < 4294967296 by have := q.a0; omega)
 have HA := hid ha
 have HRD := hid (fun (W : World) (hW : Below w.heap.size w W) => pread_down D gl bm n a vw V ws lim W (by have h := hd.below hW; rw [hdn] at h; exact h) han)
 have HQ0 := hid hQ0
 have HB1 := hid hb1
 have HAD := hid hrg.1
 generalize hZ : nzero = Z at *
 have HZ := hid hZ
 have hdev := (HPL.out _ hb1).dev
 generalize hQL : ptrRow q = QL at *
 generalize hw1 : (w.alloc (.cells QL.toArray 43)).alloc (.cells Z 38) = w1 at *
 have HQL := hid hQL
 clear hN0 hQ0 hsz hb1 hp hd hrg hZ hQL h0 hc hnu ha han ha2 hdn
 go_enter Tryz.func33,Tryz.ntmps33
 go_upto_region 3 with fail
 try rw [hw1]
 clear hw1 hz
 have hdevp := by_cell hdev
 have HSI3 := hid (fun p : BelowBy w1 => HSI.out p.now (HB1.out.trans (p.bel.mono HB1.out.size)))
 refine wp_region_below (by kernel_rfl) (by kernel_rfl) ?_
 repeat (first
  | (with_reducible refine quiet_load_row (o := ⟨some 12,_,_,_,_,_⟩) (by kernel_rfl) 43 _ rfl w.heap.size 0 rfl QL _ (by_range HRG.out) Tryz.underlying43 rfl SQ.out ?_
     simp only [Act.put,List.setIfInBounds_toArray,List.set_cons_zero,List.set_cons_succ])
  | (with_reducible refine quiet_load_row (o := ⟨some 15,_,_,_,_,_⟩) (by kernel_rfl) 43 _ rfl w.heap.size 0 rfl QL _ (by_range HRG.out) Tryz.underlying43 rfl SQ.out ?_
     simp only [Act.put,List.setIfInBounds_toArray,List.set_cons_zero,List.set_cons_succ])
  | (go_big_quiet_step (first
      | (go_at_call 44; exact calls_below (HNU.out _))
      | (go_at_call 59; exact calls_below_same (HSI3.out _))
      | (go_at_call 45; exact calls_below (HCH.out _)))))
 refine wpQuiet_nil ?_
 intro _ hw'
 obtain ⟨p3,hw''⟩ := hw'
 subst hw''
 clear hdevp
 have HB3 := hid (HB1.out.trans (p3.bel.mono HB1.out.size))
 have HQ3 := hid ((p3.bel.block _ (lt_of_block HQ0.out)).trans HQ0.out)
 have H13 := hid p3.bel
 obtain ⟨w3,hw3⟩ : ∃ z,z = p3.now := ⟨_,rfl⟩
 rw [← hw3] at HB3 HQ3 H13 ⊢
 clear hw3 p3 HNU HSI HCH HSI3
 go_upto_region 5 with fail
 have had := HAD.out
 have HS5 := hid (fun (W : World) (hW : Below w3.heap.size w3 W) => show W.cell? ⟨P,0,none⟩ = some (.pointer (some ⟨D,0,none⟩)) ∧ W.cell? ⟨w.heap.size,0,none⟩ = some (.int .u32 (a : Int)) from ⟨(HPL.out W (HB3.out.trans (hW.mono HB3.out.size))).dev,by rw [← HA.out]; exact ((H13.out.trans (hW.mono H13.out.size)).cell (p := ⟨w.heap.size,0,none⟩) (block_lt_of_cell HAD.out)).trans HAD.out⟩)
 have HBD := hid (HB3.out.trans (Below.refl _ _).drew)
 clear had
 try simp only [Act.put]
 refine wp_region_noPanic ?_
 refine wp_region_held_drew (S := fun W => W.cell? ⟨P,0,none⟩ = some (.pointer (some ⟨D,0,none⟩)) ∧ W.cell? ⟨w.heap.size,0,none⟩ = some (.int .u32 (a : Int))) (by kernel_rfl) (HS5.out _ (Below.refl _ _).drew) (fun hHeld => ?_)
 refine wpAnyH_take (i := 0) (oi := ⟨some 26,_,_,_,_,_⟩) (v := ?_) rfl (by kernel_rfl) (by decide +kernel) (by decide +kernel) (fun _ _ _ h => h) (Or.inl ⟨by rfl, ?_⟩) (by assumption) ?_
 rotate_left 1
 ·(intro w' hSw; go_simp; try with_reducible rfl)
 try simp only [Act.put,List.setIfInBounds_toArray,List.set_cons_zero,List.set_cons_succ]
 refine wpAnyH_take (i := 1) (oi := ⟨some 27,_,_,_,_,_⟩) (v := ?_) rfl (by kernel_rfl) (by decide +kernel) (by decide +kernel) (fun _ _ _ h => h) (Or.inl ⟨by rfl, ?_⟩) (by assumption) ?_
 rotate_left 1
 ·(intro w' hSw; go_simp; try with_reducible rfl)
 try simp only [Act.put,List.setIfInBounds_toArray,List.set_cons_zero,List.set_cons_succ]
 refine wpAnyH_take (i := 2) (oi := ⟨some 28,_,_,_,_,_⟩) (v := ?_) rfl (by kernel_rfl) (by decide +kernel) (by decide +kernel) (fun _ _ _ h => h) (Or.inl ⟨by rfl, ?_⟩) (by assumption) ?_
 rotate_left 1
 ·(intro w' hSw; clear hSw; go_simp; try with_reducible rfl)
 try simp only [Act.put,List.setIfInBounds_toArray,List.set_cons_zero,List.set_cons_succ]
 refine wpAnyH_take (i := 3) (oi := ⟨some 29,_,_,_,_,_⟩) (v := ?_) rfl (by kernel_rfl) (by decide +kernel) (by decide +kernel) (fun _ _ _ h => h) (Or.inl ⟨by rfl, ?_⟩) (by assumption) ?_
 rotate_left 1
 ·(intro w' hSw; have hc := hSw.1; clear hSw; go_simp; try with_reducible rfl)
 try simp only [Act.put,List.setIfInBounds_toArray,List.set_cons_zero,List.set_cons_succ]
 refine wpAnyH_take (i := 4) (oi := ⟨some 30,_,_,_,_,_⟩) (v := ?_) rfl (by kernel_rfl) (by decide +kernel) (by decide +kernel) (fun _ _ _ h => h) (Or.inl ⟨by rfl, ?_⟩) (by assumption) ?_
 rotate_left 1
 ·(intro w' hSw; go_simp; try with_reducible rfl)
 try simp only [Act.put,List.setIfInBounds_toArray,List.set_cons_zero,List.set_cons_succ]
 refine wpAnyH_take (i := 5) (oi := ⟨some 31,_,_,_,_,_⟩) (v := ?_) rfl (by kernel_rfl) (by decide +kernel) (by decide +kernel) (fun _ _ _ h => h) (Or.inl ⟨by rfl, ?_⟩) (by assumption) ?_
 rotate_left 1
 ·(intro w' hSw; have hc := hSw.2; clear hSw; go_simp; try with_reducible rfl)
 try simp only [Act.put,List.setIfInBounds_toArray,List.set_cons_zero,List.set_cons_succ]
 clear hHeld
 refine wpAnyH_ready (rs := [6]) (by decide +kernel) (by simp) ?_
 refine AllReadyH.cons rfl (fun K hK => ?_) AllReadyH.nil
 go_simp
 go_at_call 24
 refine (HRD.out _ HBD.out).mono ?_
 rintro e w4 ⟨rfl,rfl⟩
 go_wp2_with fail
 refine hK.out _ _ (HS5.out _ (Below.refl _ _).drew) (fun hHeld => ?_)
 clear hK K
 try simp only [Act.put,List.setIfInBounds_toArray,List.set_cons_zero,List.set_cons_succ]
 refine wpAnyH_take (i := 7) (oi := ⟨some 25,_,_,_,_,_⟩) (v := ?_) rfl (by kernel_rfl) (by decide +kernel) (by decide +kernel) (fun _ _ _ h => h) (Or.inl ⟨by rfl, ?_⟩) (by assumption) ?_
 rotate_left 1
 ·(intro w' hSw; go_simp; try with_reducible rfl)
 try simp only [Act.put,List.setIfInBounds_toArray,List.set_cons_zero,List.set_cons_succ]
 refine wpAnyH_take (i := 8) (oi := ⟨some 33,_,_,_,_,_⟩) (v := ?_) rfl (by kernel_rfl) (by decide +kernel) (by decide +kernel) (fun _ _ _ h => h) (Or.inl ⟨by rfl, ?_⟩) (by assumption) ?_
 rotate_left 1
 ·(intro w' hSw; go_simp; try with_reducible rfl)
 try simp only [Act.put,List.setIfInBounds_toArray,List.set_cons_zero,List.set_cons_succ]
 refine wpAnyH_take (i := 9) (oi := ⟨some 34,_,_,_,_,_⟩) (v := ?_) rfl (by kernel_rfl) (by decide +kernel) (by decide +kernel) (fun _ _ _ h => h) (Or.inl ⟨by rfl, ?_⟩) (by assumption) ?_
 rotate_left 1
 ·(intro w' hSw; go_simp; try with_reducible rfl)
 try simp only [Act.put,List.setIfInBounds_toArray,List.set_cons_zero,List.set_cons_succ]
 refine wpAnyH_take (i := 10) (oi := ⟨some 6,_,_,_,_,_⟩) (v := ?_) rfl (by kernel_rfl) (by decide +kernel) (by decide +kernel) (fun _ _ _ h => h) (Or.inl ⟨by rfl, ?_⟩) (by assumption) ?_
 rotate_left 1
 ·(intro w' hSw; go_simp; try with_reducible rfl)
 try simp only [Act.put,List.setIfInBounds_toArray,List.set_cons_zero,List.set_cons_succ]
 refine wpAnyH_take (i := 11) (oi := ⟨some 7,_,_,_,_,_⟩) (v := ?_) rfl (by kernel_rfl) (by decide +kernel) (by decide +kernel) (fun _ _ _ h => h) (Or.inl ⟨by rfl, ?_⟩) (by assumption) ?_
 rotate_left 1
 ·(intro w' hSw; go_simp; try with_reducible rfl)
 try simp only [Act.put,List.setIfInBounds_toArray,List.set_cons_zero,List.set_cons_succ]
 clear hHeld
 refine wpAnyH_done (by decide +kernel) ?_ _
 refine NoPanic.normal ?_
 have HQ4 := hid (show w3.drew.heap[w.heap.size + 1]? = some (.cells Z 38 (0,0)) from HQ3.out)
 clear HS5 HQ3 HB3 hdev
 go_wp2_with (first
  | (with_reducible refine wpList_build_run (o := ⟨some 37,_,_,_,_,_⟩) rfl 38 _ rfl #[] (by simp [Act.eval]) (.agg Z) (HBN.out _) ?_)
  | (with_reducible refine wpList_store_row (o := ⟨none,.store _ (.tmp 4) _,_,_,_,_⟩) rfl 38 _ _ rfl (w.heap.size + 1) Z rfl rfl 38 Z HQ4.out SZ.out rfl SO.out ?_))
 refine bodyPost_ret (v := .tuple #[.agg Z,.int .i64 7]) (results_cell_two Tryz.results33 _ _ (w.heap.size + 1) 38 Z (0,0) _ rfl (setRow_heap _ (w.heap.size + 1) _ Z _ _ HQ4.out) Tryz.underlying38 rfl SZ.out _ rfl) rfl ⟨rfl,ybelow_row HBD.out (by omega) _⟩
def upR (k : List (BitVec 8)) (q : PtrV) (L : List (BitVec 8)) : NodeV × Int := if (openA k q L).2 ≠ 0 then (zeroNode,(openA k q L).2) else getN ((openA k q L).1.map yv)
theorem nr_one {w : World} {k v p : Value} {n : NodeV} (h : NR w k v p n) (b : Bool) : (#[.bool b,k,v,p] : Array Value).all (·.oneCell') = true := by
 obtain ⟨a1,c1,e1,_⟩ := h.ks
 obtain ⟨a2,c2,e2,_⟩ := h.vs
 obtain ⟨a3,c3,e3,_⟩ := h.ps
 subst e1; subst e2; subst e3
 simp [Value.oneCell']
set_option maxRecDepth 100000 in
set_option maxHeartbeats 3200000 in
theorem prd_up (P D gl bm n b : Nat) (vw : Value) (V : List (BitVec 8)) (ws : List (Nat × List (BitVec 8))) (lim : Int) (dn : Bool) (ks : List (BitVec 8)) (F : Nat → Bool) (q : PtrV) (w : World) (hp : PL w P D n ks F b) (hd : PD w D gl bm n vw V ws lim dn) (kk m : List (BitVec 8)) (hks : ks = kk ++ m) (hk : kk.length = 32) (hm : m.length = 32) (hK : KT w) (a : Nat) (h0 : q.ad ≠ 0) (hc : checkE q n = 0) (hdn : dn = false) (ha : q.ad = (a : Int)) (L : List (BitVec 8)) (hL : readM V ws a = L) :
 Calls Tryz.prog 33 #[.pointer (some ⟨P,0,none⟩),.agg (ptrRow q).toArray] w fun e w' => ∃ k v p',e = .returned (.tuple #[.agg #[.bool (upR kk q L).1.lf,k,v,p'],.int .i64 (upR kk q L).2]) ∧ NR w' k v p' (upR kk q L).1 ∧ Below w.heap.size w w' := by
 have HBN := hid build_node0
 have hz := zero_node0
 obtain ⟨hN0,hQ0,hsz,hb1⟩ := ytwo w (.cells (ptrRow q).toArray 43) (.cells nzero 38)
 have SQ := hid (size_ptr q)
 have SZ := hid (show (Tryz.prog.info? 38).map (·.size) = some nzero.size from size_node false _ _ _)
 have SO := hid (show nzero.all (·.oneCell') = true by unfold nzero; simp [Value.oneCell'])
 have HPL := hid (fun (W : World) (hW : Below w.heap.size w W) => hp.below hW)
 have HPD := hid (fun (W : World) (hW : Below w.heap.size w W) => hd.below hW)
 have hrg := ptr_at hN0
 have HRG := hid (range_of_row hN0)
 have HNU := hid (fun (W : World) => pnull_any q W)
 have HSI := hid (fun (W : World) (hW : Below w.heap.size w W) => psize_any D gl bm n vw V ws lim dn W (hd.below hW))
 have HCH := hid (fun (W : World) => pcheck_any q (n : Int) W)
 have hnu : (q.ad == 0) = false := by simpa using h0
 rw [hnu] at HNU
 rw [hc] at HCH
 have han : a < n := by obtain ⟨a',ha',_,h,_⟩ := may_lt h0 hc; omega
 have HA := hid ha
 have HRD := hid (fun (W : World) (hW : Below w.heap.size w W) => pread_ok D gl bm n a vw V ws lim W (by have h := hd.below hW; rw [hdn] at h; exact h) han)
 rw [hL] at HRD
 have HOP := hid (fun (W : World) (hW : Below w.heap.size w W) (X : Nat) (hX : ArrY W X 117 L) (hl : L.length = 512) => popen12_any kk m q L (some ⟨X,0,none⟩) 512 512 W (hK.below hW hK.pos) hk hm (Bts.arr hX hl (by decide)))
 have HOL := hid (show (openA kk q L).1.length ≤ 512 ∨ (openA kk q L).2 ≠ 0 from by
  unfold openA
  by_cases h5 : L.length ≠ 512
  ·rw [if_pos h5]; exact .inr (by simp)
  ·rw [if_neg h5]
   by_cases h6 : fitsB q (L.map yv) = true
   ·rw [if_pos h6]; exact .inl (by rw [sealS_length _ _ _ _ (by omega)]; exact Nat.le_refl _)
   ·rw [if_neg h6]; exact .inr (by simp))
 have HUR := hid (show upR kk q L = if (openA kk q L).2 ≠ 0 then (zeroNode,(openA kk q L).2) else getN ((openA kk q L).1.map yv) from rfl)
 have IK := hid (info_keys64 (kk ++ m) (by rw [← hks]; exact hp.kl))
 have HKS := hid hks
 have HQ0 := hid hQ0
 have HB1 := hid hb1
 have HAD := hid hrg.1
 generalize upR kk q L = ur at *
 generalize (openA kk q L).1 = ol at *
 generalize (openA kk q L).2 = oe at *
 generalize hZ : nzero = Z at *
 have HZ := hid hZ
 have hdev := (HPL.out _ hb1).dev
 generalize hQL : ptrRow q = QL at *
 generalize hw1 : (w.alloc (.cells QL.toArray 43)).alloc (.cells Z 38) = w1 at *
 have HQL := hid hQL
 clear hN0 hQ0 hsz hb1 hp hd hrg hZ hQL h0 hc hnu han ha hdn hL hks hk hm hK
 go_enter Tryz.func33,Tryz.ntmps33
 go_upto_region 3 with fail
 try rw [hw1]
 clear hw1 hz
 have hdevp := by_cell hdev
 have HSI3 := hid (fun p : BelowBy w1 => HSI.out p.now (HB1.out.trans (p.bel.mono HB1.out.size)))
 refine wp_region_below (by kernel_rfl) (by kernel_rfl) ?_
 repeat (first
  | (with_reducible refine quiet_load_row (o := ⟨some 12,_,_,_,_,_⟩) (by kernel_rfl) 43 _ rfl w.heap.size 0 rfl QL _ (by_range HRG.out) Tryz.underlying43 rfl SQ.out ?_
     simp only [Act.put,List.setIfInBounds_toArray,List.set_cons_zero,List.set_cons_succ])
  | (with_reducible refine quiet_load_row (o := ⟨some 15,_,_,_,_,_⟩) (by kernel_rfl) 43 _ rfl w.heap.size 0 rfl QL _ (by_range HRG.out) Tryz.underlying43 rfl SQ.out ?_
     simp only [Act.put,List.setIfInBounds_toArray,List.set_cons_zero,List.set_cons_succ])
  | (go_big_quiet_step (first
      | (go_at_call 44; exact calls_below (HNU.out _))
      | (go_at_call 59; exact calls_below_same (HSI3.out _))
      | (go_at_call 45; exact calls_below (HCH.out _)))))
 refine wpQuiet_nil ?_
 intro _ hw'
 obtain ⟨p3,hw''⟩ := hw'
 subst hw''
 clear hdevp
 have HB3 := hid (HB1.out.trans (p3.bel.mono HB1.out.size))
 have HQ3 := hid ((p3.bel.block _ (lt_of_block HQ0.out)).trans HQ0.out)
 have H13 := hid p3.bel
 obtain ⟨w3,hw3⟩ : ∃ z,z = p3.now := ⟨_,rfl⟩
 rw [← hw3] at HB3 HQ3 H13 ⊢
 clear hw3 p3 HNU HSI HCH HSI3
 go_upto_region 5 with fail
 have had := HAD.out
 have HS5 := hid (fun (W : World) (hW : Below w3.heap.size w3 W) => show W.cell? ⟨P,0,none⟩ = some (.pointer (some ⟨D,0,none⟩)) ∧ W.cell? ⟨w.heap.size,0,none⟩ = some (.int .u32 (a : Int)) from ⟨(HPL.out W (HB3.out.trans (hW.mono HB3.out.size))).dev,by rw [← HA.out]; exact ((H13.out.trans (hW.mono H13.out.size)).cell (p := ⟨w.heap.size,0,none⟩) (block_lt_of_cell HAD.out)).trans HAD.out⟩)
 have HBD := hid (HB3.out.trans (Below.refl _ _).drew)
 clear had
 try simp only [Act.put]
 refine wp_region_noPanic ?_
 refine wp_region_held_drew (S := fun W => W.cell? ⟨P,0,none⟩ = some (.pointer (some ⟨D,0,none⟩)) ∧ W.cell? ⟨w.heap.size,0,none⟩ = some (.int .u32 (a : Int))) (by kernel_rfl) (HS5.out _ (Below.refl _ _).drew) (fun hHeld => ?_)
 refine wpAnyH_take (i := 0) (oi := ⟨some 26,_,_,_,_,_⟩) (v := ?_) rfl (by kernel_rfl) (by decide +kernel) (by decide +kernel) (fun _ _ _ h => h) (Or.inl ⟨by rfl, ?_⟩) (by assumption) ?_
 rotate_left 1
 ·(intro w' hSw; go_simp; try with_reducible rfl)
 try simp only [Act.put,List.setIfInBounds_toArray,List.set_cons_zero,List.set_cons_succ]
 refine wpAnyH_take (i := 1) (oi := ⟨some 27,_,_,_,_,_⟩) (v := ?_) rfl (by kernel_rfl) (by decide +kernel) (by decide +kernel) (fun _ _ _ h => h) (Or.inl ⟨by rfl, ?_⟩) (by assumption) ?_
 rotate_left 1
 ·(intro w' hSw; go_simp; try with_reducible rfl)
 try simp only [Act.put,List.setIfInBounds_toArray,List.set_cons_zero,List.set_cons_succ]
 refine wpAnyH_take (i := 2) (oi := ⟨some 28,_,_,_,_,_⟩) (v := ?_) rfl (by kernel_rfl) (by decide +kernel) (by decide +kernel) (fun _ _ _ h => h) (Or.inl ⟨by rfl, ?_⟩) (by assumption) ?_
 rotate_left 1
 ·(intro w' hSw; clear hSw; go_simp; try with_reducible rfl)
 try simp only [Act.put,List.setIfInBounds_toArray,List.set_cons_zero,List.set_cons_succ]
 refine wpAnyH_take (i := 3) (oi := ⟨some 29,_,_,_,_,_⟩) (v := ?_) rfl (by kernel_rfl) (by decide +kernel) (by decide +kernel) (fun _ _ _ h => h) (Or.inl ⟨by rfl, ?_⟩) (by assumption) ?_
 rotate_left 1
 ·(intro w' hSw; have hc := hSw.1; clear hSw; go_simp; try with_reducible rfl)
 try simp only [Act.put,List.setIfInBounds_toArray,List.set_cons_zero,List.set_cons_succ]
 refine wpAnyH_take (i := 4) (oi := ⟨some 30,_,_,_,_,_⟩) (v := ?_) rfl (by kernel_rfl) (by decide +kernel) (by decide +kernel) (fun _ _ _ h => h) (Or.inl ⟨by rfl, ?_⟩) (by assumption) ?_
 rotate_left 1
 ·(intro w' hSw; go_simp; try with_reducible rfl)
 try simp only [Act.put,List.setIfInBounds_toArray,List.set_cons_zero,List.set_cons_succ]
 refine wpAnyH_take (i := 5) (oi := ⟨some 31,_,_,_,_,_⟩) (v := ?_) rfl (by kernel_rfl) (by decide +kernel) (by decide +kernel) (fun _ _ _ h => h) (Or.inl ⟨by rfl, ?_⟩) (by assumption) ?_
 rotate_left 1
 ·(intro w' hSw; have hc := hSw.2; clear hSw; go_simp; try with_reducible rfl)
 try simp only [Act.put,List.setIfInBounds_toArray,List.set_cons_zero,List.set_cons_succ]
 clear hHeld
 refine wpAnyH_ready (rs := [6]) (by decide +kernel) (by simp) ?_
 refine AllReadyH.cons rfl (fun K hK => ?_) AllReadyH.nil
 go_simp
 go_at_call 24
 refine (HRD.out _ HBD.out).mono ?_
 rintro e w4 ⟨rfl,hA4,hL4,hb4⟩
 have HB4 := hid (HBD.out.trans (hb4.mono HBD.out.size))
 have HS4 := hid (((Below.refl w3.heap.size w3).drew).trans (hb4.mono (Nat.le_refl _)))
 have HA4 := hid hA4
 have HL4 := hid hL4
 clear hA4 hL4 hb4 HRD
 go_wp2_with fail
 refine hK.out _ _ (HS5.out _ HS4.out) (fun hHeld => ?_)
 clear hK K
 try simp only [Act.put,List.setIfInBounds_toArray,List.set_cons_zero,List.set_cons_succ]
 refine wpAnyH_take (i := 7) (oi := ⟨some 25,_,_,_,_,_⟩) (v := ?_) rfl (by kernel_rfl) (by decide +kernel) (by decide +kernel) (fun _ _ _ h => h) (Or.inl ⟨by rfl, ?_⟩) (by assumption) ?_
 rotate_left 1
 ·(intro w' hSw; go_simp; try with_reducible rfl)
 try simp only [Act.put,List.setIfInBounds_toArray,List.set_cons_zero,List.set_cons_succ]
 refine wpAnyH_take (i := 8) (oi := ⟨some 33,_,_,_,_,_⟩) (v := ?_) rfl (by kernel_rfl) (by decide +kernel) (by decide +kernel) (fun _ _ _ h => h) (Or.inl ⟨by rfl, ?_⟩) (by assumption) ?_
 rotate_left 1
 ·(intro w' hSw; go_simp; try with_reducible rfl)
 try simp only [Act.put,List.setIfInBounds_toArray,List.set_cons_zero,List.set_cons_succ]
 refine wpAnyH_take (i := 9) (oi := ⟨some 34,_,_,_,_,_⟩) (v := ?_) rfl (by kernel_rfl) (by decide +kernel) (by decide +kernel) (fun _ _ _ h => h) (Or.inl ⟨by rfl, ?_⟩) (by assumption) ?_
 rotate_left 1
 ·(intro w' hSw; go_simp; try with_reducible rfl)
 try simp only [Act.put,List.setIfInBounds_toArray,List.set_cons_zero,List.set_cons_succ]
 refine wpAnyH_take (i := 10) (oi := ⟨some 6,_,_,_,_,_⟩) (v := ?_) rfl (by kernel_rfl) (by decide +kernel) (by decide +kernel) (fun _ _ _ h => h) (Or.inl ⟨by rfl, ?_⟩) (by assumption) ?_
 rotate_left 1
 ·(intro w' hSw; go_simp; try with_reducible rfl)
 try simp only [Act.put,List.setIfInBounds_toArray,List.set_cons_zero,List.set_cons_succ]
 refine wpAnyH_take (i := 11) (oi := ⟨some 7,_,_,_,_,_⟩) (v := ?_) rfl (by kernel_rfl) (by decide +kernel) (by decide +kernel) (fun _ _ _ h => h) (Or.inl ⟨by rfl, ?_⟩) (by assumption) ?_
 rotate_left 1
 ·(intro w' hSw; go_simp; try with_reducible rfl)
 try simp only [Act.put,List.setIfInBounds_toArray,List.set_cons_zero,List.set_cons_succ]
 clear hHeld
 refine wpAnyH_done (by decide +kernel) ?_ _
 refine NoPanic.normal ?_
 have HQ4 := hid ((HS4.out.block _ (lt_of_block HQ3.out)).trans HQ3.out)
 have HR4 := hid (fun (W : World) (hW : Below w4.heap.size w4 W) => show W.rangeAt P 1 (yvs (kk ++ m)).toList ∧ W.rangeAt w.heap.size 0 QL from
  ⟨by rw [← HKS.out]; exact (HPL.out W (HB4.out.trans (hW.mono HB4.out.size))).keys,fun j x hj => (((H13.out.trans (HS4.out.mono H13.out.size)).trans (hW.mono (Nat.le_trans H13.out.size HS4.out.size))).cell (block_lt_of_cell (HRG.out j x hj))).trans (HRG.out j x hj)⟩)
 have HBD4 := hid (HB4.out.trans (Below.refl _ _).drew)
 have HA4d := hid (show ArrY w4.drew w3.heap.size 117 L from HA4.out)
 clear HS5 HQ3 HB3 hdev HAD HA
 go_upto_region 8 with fail
 try simp only [Act.put]
 refine wp_region_noPanic ?_
 refine wp_region_held_drew (S := fun W => W.rangeAt P 1 (yvs (kk ++ m)).toList ∧ W.rangeAt w.heap.size 0 QL) (by kernel_rfl) (HR4.out _ (Below.refl _ _).drew) (fun hHeld => ?_)
 refine wpAnyH_take (i := 0) (oi := ⟨some 40,_,_,_,_,_⟩) (v := ?_) rfl (by kernel_rfl) (by decide +kernel) (by decide +kernel) (fun _ _ _ h => h) (Or.inl ⟨by rfl, ?_⟩) (by assumption) ?_
 rotate_left 1
 ·(intro w' hSw; go_simp; try with_reducible rfl)
 try simp only [Act.put,List.setIfInBounds_toArray,List.set_cons_zero,List.set_cons_succ]
 refine wpAnyH_take (i := 1) (oi := ⟨some 41,_,_,_,_,_⟩) (v := ?_) rfl (by kernel_rfl) (by decide +kernel) (by decide +kernel) (fun _ _ _ h => h) (Or.inl ⟨by rfl, ?_⟩) (by assumption) ?_
 rotate_left 1
 ·(intro w' hSw; go_simp; try with_reducible rfl)
 try simp only [Act.put,List.setIfInBounds_toArray,List.set_cons_zero,List.set_cons_succ]
 refine wpAnyH_take (i := 2) (oi := ⟨some 42,_,_,_,_,_⟩) (v := ?_) rfl (by kernel_rfl) (by decide +kernel) (by decide +kernel) (fun _ _ _ h => h) (Or.inl ⟨by rfl, ?_⟩) (by assumption) ?_
 rotate_left 1
 ·(intro w' hSw; clear hSw; go_simp; try with_reducible rfl)
 try simp only [Act.put,List.setIfInBounds_toArray,List.set_cons_zero,List.set_cons_succ]
 refine wpAnyH_take (i := 3) (oi := ⟨some 43,_,_,_,_,_⟩) rfl (by kernel_rfl) (by decide +kernel) (by decide +kernel) (fun _ _ _ h => h) (yieldsIf_load_mid (by rfl) _ _ rfl P 1 rfl (yvs (kk ++ m)).toList _ (fun w' h => h.1) Tryz.underlying30 rfl IK.out) (by assumption) ?_
 try simp only [Act.put,List.setIfInBounds_toArray,List.set_cons_zero,List.set_cons_succ,Array.toArray_toList]
 refine wpAnyH_take (i := 4) (oi := ⟨some 44,_,_,_,_,_⟩) rfl (by kernel_rfl) (by decide +kernel) (by decide +kernel) (fun _ _ _ h => h) (yieldsIf_load_mid (by rfl) _ _ rfl w.heap.size 0 rfl QL _ (fun w' h => h.2) Tryz.underlying43 rfl SQ.out) (by assumption) ?_
 try simp only [Act.put,List.setIfInBounds_toArray,List.set_cons_zero,List.set_cons_succ]
 refine wpAnyH_take (i := 5) (oi := ⟨some 45,_,_,_,_,_⟩) (v := ?_) rfl (by kernel_rfl) (by decide +kernel) (by decide +kernel) (fun _ _ _ h => h) (Or.inl ⟨by rfl, ?_⟩) (by assumption) ?_
 rotate_left 1
 ·(intro w' hSw; go_simp; try with_reducible rfl)
 try simp only [Act.put,List.setIfInBounds_toArray,List.set_cons_zero,List.set_cons_succ]
 clear hHeld
 refine wpAnyH_ready (rs := [6]) (by decide +kernel) (by simp) ?_
 refine AllReadyH.cons rfl (fun K hK => ?_) AllReadyH.nil
 go_simp
 go_at_call 60
 refine (HOP.out _ HBD4.out _ HA4d.out HL4.out).mono ?_
 rintro e w5 ⟨x,y,z,rfl,hbt,hb5⟩
 have HB5 := hid (HBD4.out.trans (hb5.mono HBD4.out.size))
 have HS5 := hid (((Below.refl w4.heap.size w4).drew).trans (hb5.mono (Nat.le_refl _)))
 have HBT := hid hbt.1
 clear hbt hb5 HOP
 go_wp2_with fail
 refine hK.out _ _ (HR4.out _ HS5.out) (fun hHeld => ?_)
 clear hK K
 try simp only [Act.put,List.setIfInBounds_toArray,List.set_cons_zero,List.set_cons_succ]
 refine wpAnyH_take (i := 7) (oi := ⟨some 39,_,_,_,_,_⟩) (v := ?_) rfl (by kernel_rfl) (by decide +kernel) (by decide +kernel) (fun _ _ _ h => h) (Or.inl ⟨by rfl, ?_⟩) (by assumption) ?_
 rotate_left 1
 ·(intro w' hSw; go_simp; try with_reducible rfl)
 try simp only [Act.put,List.setIfInBounds_toArray,List.set_cons_zero,List.set_cons_succ]
 refine wpAnyH_take (i := 8) (oi := ⟨some 47,_,_,_,_,_⟩) (v := ?_) rfl (by kernel_rfl) (by decide +kernel) (by decide +kernel) (fun _ _ _ h => h) (Or.inl ⟨by rfl, ?_⟩) (by assumption) ?_
 rotate_left 1
 ·(intro w' hSw; go_simp; try with_reducible rfl)
 try simp only [Act.put,List.setIfInBounds_toArray,List.set_cons_zero,List.set_cons_succ]
 refine wpAnyH_take (i := 9) (oi := ⟨some 48,_,_,_,_,_⟩) (v := ?_) rfl (by kernel_rfl) (by decide +kernel) (by decide +kernel) (fun _ _ _ h => h) (Or.inl ⟨by rfl, ?_⟩) (by assumption) ?_
 rotate_left 1
 ·(intro w' hSw; go_simp; try with_reducible rfl)
 try simp only [Act.put,List.setIfInBounds_toArray,List.set_cons_zero,List.set_cons_succ]
 refine wpAnyH_take (i := 10) (oi := ⟨some 8,_,_,_,_,_⟩) (v := ?_) rfl (by kernel_rfl) (by decide +kernel) (by decide +kernel) (fun _ _ _ h => h) (Or.inl ⟨by rfl, ?_⟩) (by assumption) ?_
 rotate_left 1
 ·(intro w' hSw; go_simp; try with_reducible rfl)
 try simp only [Act.put,List.setIfInBounds_toArray,List.set_cons_zero,List.set_cons_succ]
 refine wpAnyH_take (i := 11) (oi := ⟨some 7,_,_,_,_,_⟩) (v := ?_) rfl (by kernel_rfl) (by decide +kernel) (by decide +kernel) (fun _ _ _ h => h) (Or.inl ⟨by rfl, ?_⟩) (by assumption) ?_
 rotate_left 1
 ·(intro w' hSw; go_simp; try with_reducible rfl)
 try simp only [Act.put,List.setIfInBounds_toArray,List.set_cons_zero,List.set_cons_succ]
 clear hHeld
 refine wpAnyH_done (by decide +kernel) ?_ _
 refine NoPanic.normal ?_
 have HQ5 := hid ((HS5.out.block _ (lt_of_block HQ4.out)).trans HQ4.out)
 clear HR4 HQ4 HS5 HS4 HBD4 HA4d HA4 HBD HL4
 by_cases hoe : oe = 0
 ·subst hoe
  have hol : ol.length ≤ 512 := by rcases HOL.out with h | h; exact h; exact absurd rfl h
  have hur : ur = getN (ol.map yv) := by rw [HUR.out,if_neg (by simp)]
  have HGT := hid (nget_any (.slice x y z) (ol.map yv) w5 HBT.out (by rw [List.length_map]; omega))
  rw [← hur] at HGT
  clear hol hur HOL HUR HBT
  go_wp2_with fail
  refine HGT.out.mono ?_
  rintro e w6 ⟨k6,v6,p6,rfl,hn6,hb6⟩
  have HB6 := hid (HB5.out.trans (hb6.mono HB5.out.size))
  have HQ6 := hid ((hb6.block _ (lt_of_block HQ5.out)).trans HQ5.out)
  have HN6 := hid hn6
  have SR := hid (size_node ur.1.lf k6 v6 p6)
  have SRZ := hid (show Z.size = (#[.bool ur.1.lf,k6,v6,p6] : Array Value).size by rw [← HZ.out]; rfl)
  have SRO := hid (show (#[.bool ur.1.lf,k6,v6,p6] : Array Value).all (·.oneCell') = true from nr_one hn6 _)
  clear hb6 hn6 HGT HB5 HQ5
  go_wp2_with (first
   | (with_reducible refine wpList_store_row (o := ⟨none,.store _ (.tmp 4) _,_,_,_,_⟩) rfl 38 _ _ rfl (w.heap.size + 1) #[.bool ur.1.lf,k6,v6,p6] rfl rfl 38 Z HQ6.out SR.out SRZ.out SRO.out ?_))
  have hz6 : w6.heap[w.heap.size + 1]? = some (.cells #[.bool false,.slice none 0 0,.slice none 0 0,.slice none 0 0] 38 (0,0)) := by rw [HQ6.out,← HZ.out]; rfl
  obtain ⟨zk,zp⟩ := znr_no hz6
  exact bodyPost_ret (v := .tuple #[.agg #[.bool ur.1.lf,k6,v6,p6],.int .i64 ur.2]) (results_cell_two Tryz.results33 _ _ (w.heap.size + 1) 38 #[.bool ur.1.lf,k6,v6,p6] (0,0) _ rfl (setRow_heap _ (w.heap.size + 1) _ _ _ _ HQ6.out) Tryz.underlying38 rfl SR.out _ rfl) rfl ⟨k6,v6,p6,rfl,nr_row HN6.out hz6 zk zp,ybelow_row HB6.out (by omega) _⟩
 ·have hoe1 : (oe != 0) = true := by simpa using hoe
  have hur : ur = (zeroNode,oe) := by rw [HUR.out,if_pos hoe]
  have HUE := hid hur
  clear hoe hur HOL HUR HBT
  go_wp2_with (first
   | (with_reducible refine wpList_build_run (o := ⟨some 51,_,_,_,_,_⟩) rfl 38 _ rfl #[] (by simp [Act.eval]) (.agg Z) (HBN.out _) ?_)
   | (with_reducible refine wpList_store_row (o := ⟨none,.store _ (.tmp 4) _,_,_,_,_⟩) rfl 38 _ _ rfl (w.heap.size + 1) Z rfl rfl 38 Z HQ5.out SZ.out rfl SO.out ?_))
  refine bodyPost_ret (v := .tuple #[.agg Z,.int .i64 oe]) (results_cell_two Tryz.results33 _ _ (w.heap.size + 1) 38 Z (0,0) _ rfl (setRow_heap _ (w.heap.size + 1) _ Z _ _ HQ5.out) Tryz.underlying38 rfl SZ.out _ rfl) rfl ⟨.slice none 0 0,.slice none 0 0,.slice none 0 0, ?_, ?_,ybelow_row HB5.out (by omega) _⟩
  ·rw [HUE.out,← HZ.out]; rfl
  ·rw [HUE.out]; exact nr_zero _
end Go.Proofs.YtgckapolpifbkaaGreatDoor
