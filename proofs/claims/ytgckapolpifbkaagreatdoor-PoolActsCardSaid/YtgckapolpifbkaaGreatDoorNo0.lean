import Derived.Test.YtgckapolpifbkaaGreatDoorPt1
namespace Go.Proofs.YtgckapolpifbkaaGreatDoor
open Lib (hid)
section
set_option maxRecDepth 4000
set_option linter.unusedVariables false
open Go.ChangeShapes Go.WideShapes Go.ChangeAt Go.RowKit
structure NodeV where
 lf : Bool
 ks : List ByteArray
 vs : List ByteArray
 ps : List PtrV
def zeroNode : NodeV := ⟨false, [], [], []⟩
structure NR (w : World) (k v p : Value) (n : NodeV) : Prop where
 ks : SS w k n.ks
 vs : SS w v n.vs
 ps : PS w p n.ps
theorem NR.below {w w' : World} {k v p : Value} {n : NodeV} (h : NR w k v p n) (b : Below w.heap.size w w') : NR w' k v p n := ⟨h.ks.below b,h.vs.below b,h.ps.below b⟩
structure NB (n : NodeV) : Prop where
 kl : n.ks.length ≤ 140737488351232
 kz : ∀ s ∈ n.ks,s.size ≤ 140737488351232
 vl : n.vs.length ≤ 140737488351232
 vz : ∀ s ∈ n.vs,s.size ≤ 140737488351232
 pl : n.ps.length ≤ 140737488351232
theorem nb_zero : NB zeroNode := ⟨by decide,nofun,by decide,nofun,by decide⟩
theorem ps_nil (w : World) : PS w (.slice none 0 0) [] := ⟨none,0,rfl,fun i q hq => by simp at hq⟩
theorem nr_zero (w : World) : NR w (.slice none 0 0) (.slice none 0 0) (.slice none 0 0) zeroNode := ⟨ss_nil w,ss_nil w,ps_nil w⟩
theorem size_node (x : Bool) (k v p : Value) : (Tryz.prog.info? 38).map (·.size) = some (#[.bool x,k,v,p] : Array Value).size := by rw [show (Tryz.prog.info? 38).map (·.size) = some 4 by kernel_rfl]; rfl
theorem node_at {w : World} {g t : Nat} {x : Bool} {k v p : Value} {fr : Nat × Nat} (h : w.heap[g]? = some (.cells #[.bool x,k,v,p] t fr)) :
 w.cell? ⟨g,0,none⟩ = some (.bool x) ∧ w.cell? ⟨g,1,none⟩ = some k ∧ w.cell? ⟨g,2,none⟩ = some v ∧ w.cell? ⟨g,3,none⟩ = some p :=
 ⟨cell_of_row _ _ _ _ _ _ h,cell_of_row _ _ _ _ _ _ h,cell_of_row _ _ _ _ _ _ h,cell_of_row _ _ _ _ _ _ h⟩
def RNode : World → NodeV → List Value → Prop := fun W n cs => ∃ k v p,cs = [.bool n.lf,k,v,p] ∧ NR W k v p n ∧ NB n
theorem sl_str {W : World} {l : List ByteArray} {a : Option Addr} {n c : Nat} (h : SlR RStr 1 W l a n c) : SS W (.slice a n c) l ∧ l.length ≤ 140737488351232 ∧ ∀ s ∈ l,s.size ≤ 140737488351232 := by
 refine ⟨⟨a,c,by rw [h.len],by rw [h.len]; exact h.cap,fun i s hs => ?_⟩,by have := h.cap; have := h.big; have := h.len; omega,fun s hs => ?_⟩
 ·obtain ⟨hi,rfl⟩ := List.getElem?_eq_some_iff.1 hs
  obtain ⟨b,off,cs,h1,⟨h2,_⟩,h3,h4⟩ := h.here i hi
  subst h2
  exact ⟨b,off,h1,by have := h4 0 _ rfl; simpa using this⟩
 ·obtain ⟨i,hi,rfl⟩ := List.getElem_of_mem hs
  obtain ⟨b,off,cs,h1,⟨_,h2⟩,h3,h4⟩ := h.here i hi
  exact h2
theorem opn_strs : Opn 36 (RSl RStr 1) := opn_slice 1 Tryz.underlying36 (by kernel_rfl) (by decide) (of_decide_eq_true (by kernel_rfl)) (opn_str Tryz.underlying9)
theorem opn_node : Opn 38 RNode := by
 intro H enc W fuel cs y h hw
 obtain ⟨xs,k,_,hx,hlen,hxl,hfs⟩ := DataW.trod_struct Tryz.underlying38 h
 rw [show Tryz.prog.cellsOf 38 = 4 by kernel_rfl] at hlen
 have hxk : xs.length = 4 := hxl
 have hd := congrArg Prod.fst hx
 dsimp only at hd
 clear hx hxl
 match xs,hxk with
 | [y0,y1,y2,y3],_ =>
   have e0 : Tryz.prog.cellsOf 4 = 1 := by kernel_rfl
   have e1 : Tryz.prog.cellsOf 36 = 1 := by kernel_rfl
   have e2 : Tryz.prog.cellsOf 35 = 1 := by kernel_rfl
   have hw2 : ∀ n ∈ DataW.weightsEach Tryz.prog [4,36,36,35] [y0.1,y1.1,y2.1,y3.1],n ≤ reachBytes := fun n hn => hw n (by rw [hd]; simp only [DataW.weights,Tryz.underlying38]; exact hn)
   have g0 : DataW.trod enc Tryz.prog W 0 (fun _ => true) true k 4 ((cs.drop 0).take 1) = some y0 := by have q := hfs 0 _ rfl; rw [← e0]; exact q
   have g1 : DataW.trod enc Tryz.prog W 0 (fun _ => true) true k 36 ((cs.drop 1).take 1) = some y1 := by have q := hfs 1 _ rfl; rw [← e1]; exact q
   have g2 : DataW.trod enc Tryz.prog W 0 (fun _ => true) true k 36 ((cs.drop 2).take 1) = some y2 := by have q := hfs 2 _ rfl; rw [← e1]; exact q
   have g3 : DataW.trod enc Tryz.prog W 0 (fun _ => true) true k 35 ((cs.drop 3).take 1) = some y3 := by have q := hfs 3 _ rfl; rw [← e2]; exact q
   obtain ⟨a0,r0⟩ := opn_bool Tryz.underlying4 _ _ _ _ _ _ g0 (fun n hn => hw2 n (DataW.weights_mem_each (j := 0) rfl rfl n hn))
   obtain ⟨a1,s1,n1,c1,r1,q1⟩ := opn_strs _ _ _ _ _ _ g1 (fun n hn => hw2 n (DataW.weights_mem_each (j := 1) rfl rfl n hn))
   obtain ⟨a2,s2,n2,c2,r2,q2⟩ := opn_strs _ _ _ _ _ _ g2 (fun n hn => hw2 n (DataW.weights_mem_each (j := 2) rfl rfl n hn))
   obtain ⟨a3,s3,n3,c3,r3,q3⟩ := opn_ptrs _ _ _ _ _ _ g3 (fun n hn => hw2 n (DataW.weights_mem_each (j := 3) rfl rfl n hn))
   have hcs : cs = (cs.drop 0).take 1 ++ ((cs.drop 1).take 1 ++ ((cs.drop 2).take 1 ++ (cs.drop 3).take 1)) := by
    match cs,hlen with
    | [_,_,_,_],_ => rfl
   have r0' : (cs.drop 0).take 1 = [.bool a0] := r0
   rw [r0',r1,r2,r3] at hcs
   obtain ⟨f1,l1,z1⟩ := sl_str q1
   obtain ⟨f2,l2,z2⟩ := sl_str q2
   exact ⟨⟨a0,a1,a2,a3⟩,_,_,_,hcs,⟨f1,f2,ps_in q3⟩,⟨l1,z1,l2,z2,by have := q3.len; have := q3.cap; have := q3.big; dsimp only; omega⟩⟩
def risesFrom : ByteArray → List ByteArray → Bool
 | _, [] => true
 | a,k :: r => lo a k && decide (k.size ≤ 32) && risesFrom k r
def valOk (s : ByteArray) : Bool := decide (s.size ≤ 96)
def kidOk (q : PtrV) : Bool := !(q.ad == 0) && decide (checkE q 4096 = 0)
def countsB (n : NodeV) : Bool := if n.lf then decide (n.vs.length = n.ks.length) && decide (n.ps.length = 0) else decide (0 < n.ks.length) && decide (n.vs.length = 0) && decide (n.ps.length = n.ks.length + 1)
def formB (n : NodeV) : Bool := countsB n && risesFrom ⟨#[]⟩ n.ks && n.vs.all valOk && n.ps.all kidOk
def txs : List ByteArray → Nat
 | [] => 0
 | s :: r => 1 + s.size + txs r
def sizeN (n : NodeV) : Nat := 2 + txs n.ks + txs n.vs + 44 * n.ps.length
def sizeA (n : NodeV) : Int × Int := if formB n then ((sizeN n : Nat),0) else (0,4)
def checkN (n : NodeV) : Int := if formB n then (if sizeN n ≤ 512 then 0 else 6) else 4
theorem txs_app (l m : List ByteArray) : txs (l ++ m) = txs l + txs m := by
 induction l with
 | nil => simp [txs]
 | cons s l ih => simp only [List.cons_append,txs,ih]; omega
theorem txs_le (l : List ByteArray) (k : Nat) (h : ∀ s ∈ l,s.size ≤ k) : txs l ≤ l.length * (k + 1) := by
 induction l with
 | nil => simp [txs]
 | cons s l ih =>
   have h1 := h s (by simp)
   have h2 := ih (fun t ht => h t (by simp [ht]))
   simp only [txs,List.length_cons,Nat.add_mul]
   omega
theorem rises_small : ∀ (a : ByteArray) (l : List ByteArray),risesFrom a l = true → ∀ s ∈ l,s.size ≤ 32
 | _, [],_,s,hs => by simp at hs
 | a,k :: r,h,s,hs => by
   unfold risesFrom at h
   simp only [Bool.and_eq_true,decide_eq_true_eq] at h
   rcases List.mem_cons.1 hs with rfl | hs
   ·exact h.1.2
   ·exact rises_small k r h.2 s hs
theorem form_small {n : NodeV} (h : formB n = true) : (∀ s ∈ n.ks,s.size ≤ 32) ∧ (∀ s ∈ n.vs,s.size ≤ 96) := by
 unfold formB at h
 simp only [Bool.and_eq_true] at h
 exact ⟨rises_small _ _ h.1.1.2,fun s hs => by have := List.all_eq_true.1 h.1.2 s hs; simpa [valOk] using this⟩
set_option maxRecDepth 100000 in
set_option maxHeartbeats 1600000 in
theorem ptxs_any (u : Value) (l : List ByteArray) (w : World) (h : SS w u l) (hl : l.length ≤ 140737488351232) (hz : ∀ s ∈ l,s.size ≤ 96) :
 Calls Tryz.prog 88 #[u] w fun e w' => e = .returned (.int .i64 (txs l : Nat)) ∧ w' = w := by
 obtain ⟨a,c,rfl,hc,h1⟩ := h
 clear hc
 obtain ⟨n,hn⟩ : ∃ n,l.length = n := ⟨_,rfl⟩
 have H1 := hid h1
 have HN := hid hn
 have HZ := hid hz
 rw [hn] at hl ⊢
 have lI : (n : Int) ≤ 140737488351232 := by omega
 have HX := hid (show ∀ i,i ≤ n → txs (l.take i) ≤ 13651536370069504 from fun i hi => by
  have := txs_le (l.take i) 96 (fun s hs => hz s (List.mem_of_mem_take hs))
  rw [List.length_take] at this
  omega)
 have HE := hid (show txs (l.take n) = txs l by rw [← hn,List.take_length])
 clear h1 hz hn hl
 go_enter Tryz.func88,Tryz.ntmps88
 go_wp2_with fail
 go_loopw [3,5,8] (fun v3 _ v8 wr => ∃ i : Nat,i ≤ n ∧ v8 = .int .i64 (i : Int) ∧ v3 = .int .i64 ((txs (l.take i) : Nat) : Int) ∧ wr = w) (fun _ _ v _ => n - (intOf v).toNat)
 case atStart => exact ⟨0,by omega,rfl,rfl,rfl⟩
 case round =>
  obtain ⟨i,hi,rfl,rfl,rfl⟩ := hrel
  by_cases hlt : i < n
  ·obtain ⟨p,hp⟩ : ∃ p,l[i]? = some p := ⟨_,List.getElem?_eq_getElem (by have := HN.out; omega)⟩
   obtain ⟨b1,o1,rfl,g1⟩ := H1.out i p hp
   have hix := index_sl b1 o1 n c i hlt
   have HS := hid (show txs (l.take (i + 1)) = txs (l.take i) + (1 + p.size) by rw [List.take_add_one,hp,txs_app]; simp [txs])
   have hps := HZ.out p (List.mem_of_getElem? hp)
   have psI : (p.size : Int) ≤ 96 := by omega
   have hx1 : ((txs (l.take i) : Nat) : Int) ≤ 13651536370069504 := by have := HX.out i hi; omega
   have hx0 : (0 : Int) ≤ ((txs (l.take i) : Nat) : Int) := by omega
   have HLT := hid hlt
   have iI : (i : Int) < (n : Int) := by omega
   have i0 : (0 : Int) ≤ (i : Int) := by omega
   generalize txs (l.take i) = T at *
   clear hi hlt hp hps
   go_wp2_with fail
   go_roundw
   case rel => exact ⟨i + 1,by have := HLT.out; omega,by go_num,by rw [HS.out]; go_num,trivial⟩
   case measure => simp [intOf]; have := HLT.out; omega
  ·obtain rfl : i = n := by omega
   clear hi hlt
   have hx1 : ((txs (l.take i) : Nat) : Int) ≤ 13651536370069504 := by have := HX.out i (Nat.le_refl _); omega
   go_wp2_with fail
   go_ret
   rw [HE.out]
   exact ⟨rfl,rfl⟩
end
section
set_option maxRecDepth 4000
set_option linter.unusedVariables false
open Go.ChangeShapes Go.WideShapes Go.ChangeAt Go.RowKit
theorem str_three (a s : ByteArray) : (lo a s = true ∧ Op.bytesLess s.toList a.toList = false ∧ (s.toList == a.toList) = false) ∨ (lo a s = false ∧ Op.bytesLess s.toList a.toList = true ∧ (s.toList == a.toList) = false) ∨ (lo a s = false ∧ Op.bytesLess s.toList a.toList = false ∧ (s.toList == a.toList) = true) := by
 have ne : ∀ {x y : ByteArray},lo x y = true → x ≠ y := fun h e => by rw [e,lo_irr] at h; cases h
 rcases lo_tri a s with h | h | h
 ·exact .inl ⟨h,lo_asymm h,by rw [str_beq,decide_eq_false (ne h).symm]⟩
 ·subst h
  exact .inr (.inr ⟨lo_irr _,lo_irr _,by rw [str_beq,decide_eq_true rfl]⟩)
 ·exact .inr (.inl ⟨lo_asymm h,h,by rw [str_beq,decide_eq_false (ne h)]⟩)
set_option maxRecDepth 100000 in
set_option maxHeartbeats 1600000 in
theorem badkey_any (B : Nat) (a s : ByteArray) (w : World) (h : w.heap[B]? = some (.cells #[.string a] 9 (0,0))) (hs : s.size ≤ 140737488351232) :
 Calls Tryz.prog 109 #[.string s,.pointer (some ⟨B,0,none⟩)] w fun e w' => e = .returned (.bool (!(lo a s && decide (s.size ≤ 32)))) ∧ w' = w.setCell ⟨B,0,none⟩ (.string s) := by
 have c0 := cell_of_row _ B 0 _ _ _ h
 have f0 := frozen_of_row w B 0 _ _ h
 simp at c0
 have hsI : (s.size : Int) ≤ 140737488351232 := by omega
 have hd : decide ((s.size : Int) > 32) = !decide (s.size ≤ 32) := by
  by_cases e : s.size ≤ 32
  ·rw [decide_eq_true e]; simp; omega
  ·rw [decide_eq_false e]; simp; omega
 have fin : ∀ (x y z : Bool),Op.bytesLess s.toList a.toList = x → (s.toList == a.toList) = y → decide ((32 : Int) < (s.size : Int)) = z → (!(lo a s && decide (s.size ≤ 32))) = (x || y || z) →
  Calls Tryz.prog 109 #[.string s,.pointer (some ⟨B,0,none⟩)] w fun e w' => e = .returned (.bool (!(lo a s && decide (s.size ≤ 32)))) ∧ w' = w.setCell ⟨B,0,none⟩ (.string s) := by
  intro x y z h1 h2 h3 h4
  rw [h4]
  clear h4 h hs hd
  cases x <;> cases y <;> cases z <;>
  ·go_enter Tryz.func109,Tryz.ntmps109
   go_wp2_with fail
   go_ret
   exact ⟨rfl,rfl⟩
 obtain ⟨h1,h2,h3⟩ | ⟨h1,h2,h3⟩ | ⟨h1,h2,h3⟩ := str_three a s
 ·exact fin _ _ _ h2 h3 rfl (by rw [h1]; simp only [Bool.true_and,Bool.false_or]; rw [show decide ((32 : Int) < (s.size : Int)) = !decide (s.size ≤ 32) from hd])
 ·exact fin _ _ _ h2 h3 rfl (by rw [h1]; simp)
 ·exact fin _ _ _ h2 h3 rfl (by rw [h1]; simp)
set_option maxRecDepth 100000 in
set_option maxHeartbeats 1600000 in
theorem badval_any (s : ByteArray) (w : World) (hs : s.size ≤ 140737488351232) :
 Calls Tryz.prog 110 #[.string s] w fun e w' => e = .returned (.bool (!valOk s)) ∧ w' = w := by
 have hsI : (s.size : Int) ≤ 140737488351232 := by omega
 have hd : valOk s = !decide ((96 : Int) < (s.size : Int)) := by
  unfold valOk
  by_cases e : s.size ≤ 96
  ·rw [decide_eq_true e]; simp; omega
  ·rw [decide_eq_false e]; simp; omega
 rw [hd]
 clear hd hs
 go_enter Tryz.func110,Tryz.ntmps110
 go_wp2_with fail
 go_ret
 exact ⟨by simp,rfl⟩
set_option maxRecDepth 100000 in
set_option maxHeartbeats 1600000 in
theorem badkid_any (q : PtrV) (w : World) :
 Calls Tryz.prog 111 #[.agg (ptrRow q).toArray] w fun e w' => e = .returned (.bool (!kidOk q)) ∧ Below w.heap.size w w' := by
 have HB := hid ((Below.refl w.heap.size w).alloc (Nat.le_refl _) (.cells (ptrRow q).toArray 43))
 have HA := hid (heap_alloc_new w (.cells (ptrRow q).toArray 43))
 have HT := hid (show w.heap.size < (w.alloc (.cells (ptrRow q).toArray 43)).heap.size by simp)
 have SE := hid (size_ptrA q)
 have HN := hid (fun W => pnull_any q W)
 have HC := hid (fun W => pcheck_any q 4096 W)
 have hk : kidOk q = (!(q.ad == 0) && decide (checkE q 4096 = 0)) := rfl
 have hck : checkE q 4096 = 0 ∨ checkE q 4096 = 4 := by unfold checkE; split <;> simp
 rw [hk]
 clear hk
 generalize (ptrRow q).toArray = AR at *
 generalize hz : (q.ad == 0) = z at *
 generalize checkE q 4096 = ce at *
 clear hz
 go_enter Tryz.func111,Tryz.ntmps111
 go_wp2_with (first
  | (with_reducible refine wpList_load_row (o := ⟨some 3,_,_,_,_,_⟩) rfl 43 _ rfl w.heap.size rfl 43 AR (0,0) _ HA.out Tryz.underlying43 rfl SE.out ?_))
 refine (HN.out _).mono ?_
 rintro e w2 ⟨rfl,hb2⟩
 have HA2 := hid ((hb2.block w.heap.size HT.out).trans HA.out)
 have HB2 := hid (HB.out.trans (hb2.mono HB.out.size))
 clear hb2 HA HB HT HN
 cases z with
 | true =>
   clear hck
   go_wp2_with fail
   go_ret
   exact ⟨rfl,HB2.out⟩
 | false =>
   go_wp2_with (first
    | (with_reducible refine wpList_load_guarded (o := ⟨some 6,_,_,_,_,_⟩) (by kernel_rfl) 43 _ rfl w.heap.size rfl 43 AR (0,0) _ HA2.out Tryz.underlying43 rfl SE.out ?_))
   refine (HC.out _).mono ?_
   rintro e w3 ⟨rfl,hb3⟩
   have HB3 := hid (HB2.out.trans (hb3.mono HB2.out.size))
   clear hb3 HA2 HB2
   rcases hck with rfl | rfl
   ·go_wp2_with fail
    go_ret
    exact ⟨rfl,HB3.out⟩
   ·go_wp2_with fail
    go_ret
    exact ⟨rfl,HB3.out⟩
set_option maxRecDepth 100000 in
set_option maxHeartbeats 1600000 in
theorem keys_at (u : Value) (l : List ByteArray) (w0 w : World) (B : Nat) (hu : SS w0 u l) (hl : l.length ≤ 140737488351232) (hz : ∀ s ∈ l,s.size ≤ 140737488351232) (hB : w0.heap.size ≤ B) (hb : Below w0.heap.size w0 w) (hc0 : w.heap[B]? = some (.cells #[.string ⟨#[]⟩] 9 (0,0))) :
 Calls Tryz.prog 125 #[u,.func (.func 109) #[] #[.pointer (some ⟨B,0,none⟩)]] w fun e w' => ∃ r : Int,e = .returned (.int .i64 r) ∧ decide (0 ≤ r) = !(risesFrom ⟨#[]⟩ l) ∧ Below w0.heap.size w0 w' := by
 obtain ⟨a,c,rfl,hc,h1⟩ := hu
 obtain ⟨n,hn⟩ : ∃ n,l.length = n := ⟨_,rfl⟩
 have H1 := hid h1
 have HN := hid hn
 have HZ := hid hz
 have HBB := hid hB
 have HB0 := hid hb
 have HC0 := hid hc0
 rw [hn] at hl ⊢
 have lI : (n : Int) ≤ 140737488351232 := by omega
 clear h1 hn hl hz hB hb hc0
 go_enter Tryz.func125,Tryz.ntmps125
 go_wp2_with fail
 go_loopw [5,8] (fun _ v8 wr => ∃ i : Nat,i ≤ n ∧ v8 = .int .i64 (i : Int) ∧ ∃ a,wr.heap[B]? = some (.cells #[.string a] 9 (0,0)) ∧ risesFrom ⟨#[]⟩ l = risesFrom a (l.drop i) ∧ Below w0.heap.size w0 wr) (fun _ v _ => n - (intOf v).toNat)
 case atStart => exact ⟨0,by omega,rfl,⟨#[]⟩,HC0.out,by rw [List.drop_zero],HB0.out⟩
 case round =>
  obtain ⟨i,hi,rfl,a,hcw,hrs,hbw⟩ := hrel
  by_cases hlt : i < n
  ·obtain ⟨p,hp⟩ : ∃ p,l[i]? = some p := ⟨_,List.getElem?_eq_getElem (by have := HN.out; omega)⟩
   obtain ⟨b1,o1,rfl,g1⟩ := H1.out i p hp
   have hdr : l.drop i = p :: l.drop (i + 1) := by
    obtain ⟨hx,rfl⟩ := List.getElem?_eq_some_iff.1 hp
    exact List.drop_eq_getElem_cons hx
   have hix := index_sl b1 o1 n c i hlt
   have g1' := (hbw.cell (p := ⟨b1,o1 + i,none⟩) (block_lt_of_cell g1)).trans g1
   have HK := hid (badkey_any B a p wr hcw (HZ.out p (List.mem_of_getElem? hp)))
   have HR := hid (show risesFrom ⟨#[]⟩ l = ((lo a p && decide (p.size ≤ 32)) && risesFrom p (l.drop (i + 1))) by rw [hrs,hdr]; rfl)
   have HW := hid (show (wr.setCell ⟨B,0,none⟩ (.string p)).heap[B]? = some (.cells #[.string p] 9 (0,0)) from heap_setCell_same _ _ _ _ _ _ hcw)
   have HB := hid (hbw.setCell (p := ⟨B,0,none⟩) HBB.out (.string p))
   have HLT := hid hlt
   have iI : (i : Int) < (n : Int) := by omega
   have i0 : (0 : Int) ≤ (i : Int) := by omega
   clear hi hlt hp hdr g1 hcw hrs hbw
   go_wp2_with fail
   refine HK.out.mono ?_
   rintro e w2 ⟨rfl,rfl⟩
   clear HK
   cases hg : (lo a p && decide (p.size ≤ 32)) with
   | false =>
     go_wp2_with fail
     go_ret
     exact ⟨(i : Int),rfl,by rw [HR.out,hg]; simp,HB.out⟩
   | true =>
     go_wp2_with fail
     go_roundw
     case rel => exact ⟨i + 1,by have := HLT.out; omega,by go_num,p,HW.out,by rw [HR.out,hg,Bool.true_and],HB.out⟩
     case measure => simp [intOf]; have := HLT.out; omega
  ·obtain rfl : i = n := by omega
   have HE := hid (show risesFrom ⟨#[]⟩ l = true by rw [hrs,List.drop_eq_nil_of_le (by have := HN.out; omega)]; rfl)
   have HB := hid hbw
   clear hi hlt hcw hrs hbw
   go_wp2_with fail
   go_ret
   exact ⟨-1,rfl,by rw [HE.out]; decide,HB.out⟩
set_option maxRecDepth 100000 in
set_option maxHeartbeats 1600000 in
theorem keys_any (u : Value) (l : List ByteArray) (w0 w : World) (B : Nat) (hu : SS w0 u l) (hl : l.length ≤ 140737488351232) (hz : ∀ s ∈ l,s.size ≤ 140737488351232) (hB : w0.heap.size ≤ B) (hb : Below w0.heap.size w0 w) (hc0 : w.heap[B]? = some (.cells #[.string ⟨#[]⟩] 9 (0,0))) :
 Calls Tryz.prog 113 #[u,.func (.func 109) #[] #[.pointer (some ⟨B,0,none⟩)]] w fun e w' => e = .returned (.bool (!(risesFrom ⟨#[]⟩ l))) ∧ Below w0.heap.size w0 w' := by
 have HX := hid (keys_at u l w0 w B hu hl hz hB hb hc0)
 clear hu hl hz hB hb hc0
 go_enter Tryz.func113,Tryz.ntmps113
 go_wp2_with fail
 refine HX.out.mono ?_
 rintro e w1 ⟨r,rfl,hr,hb⟩
 have HB := hid hb
 clear HX hb
 cases hq : (risesFrom ⟨#[]⟩ l) with
 | true =>
   have hr0 : decide (0 ≤ r) = false := by rw [hr,hq]; rfl
   have HQ := hid hq
   clear hr hq
   go_wp2_with fail
   go_ret
   rw [HQ.out]
   exact ⟨rfl,HB.out⟩
 | false =>
   have hr0 : decide (0 ≤ r) = true := by rw [hr,hq]; rfl
   have HQ := hid hq
   clear hr hq
   go_wp2_with fail
   go_ret
   rw [HQ.out]
   exact ⟨rfl,HB.out⟩
set_option maxRecDepth 100000 in
set_option maxHeartbeats 1600000 in
theorem vals_at (u : Value) (l : List ByteArray) (w0 w : World) (hu : SS w0 u l) (hl : l.length ≤ 140737488351232) (hz : ∀ s ∈ l,s.size ≤ 140737488351232) (hb : Below w0.heap.size w0 w) :
 Calls Tryz.prog 125 #[u,.func (.func 110) #[] #[]] w fun e w' => ∃ r : Int,e = .returned (.int .i64 r) ∧ decide (0 ≤ r) = !(l.all valOk) ∧ Below w0.heap.size w0 w' := by
 obtain ⟨a,c,rfl,hc,h1⟩ := hu
 obtain ⟨n,hn⟩ : ∃ n,l.length = n := ⟨_,rfl⟩
 have H1 := hid h1
 have HN := hid hn
 have HZ := hid hz
 have HB0 := hid hb
 rw [hn] at hl ⊢
 have lI : (n : Int) ≤ 140737488351232 := by omega
 clear h1 hn hl hz hb
 go_enter Tryz.func125,Tryz.ntmps125
 go_wp2_with fail
 go_loopw [5,8] (fun _ v8 wr => ∃ i : Nat,i ≤ n ∧ v8 = .int .i64 (i : Int) ∧ l.all valOk = (l.drop i).all valOk ∧ Below w0.heap.size w0 wr) (fun _ v _ => n - (intOf v).toNat)
 case atStart => exact ⟨0,by omega,rfl,by rw [List.drop_zero],HB0.out⟩
 case round =>
  obtain ⟨i,hi,rfl,hrs,hbw⟩ := hrel
  by_cases hlt : i < n
  ·obtain ⟨p,hp⟩ : ∃ p,l[i]? = some p := ⟨_,List.getElem?_eq_getElem (by have := HN.out; omega)⟩
   obtain ⟨b1,o1,rfl,g1⟩ := H1.out i p hp
   have hdr : l.drop i = p :: l.drop (i + 1) := by
    obtain ⟨hx,rfl⟩ := List.getElem?_eq_some_iff.1 hp
    exact List.drop_eq_getElem_cons hx
   have hix := index_sl b1 o1 n c i hlt
   have g1' := (hbw.cell (p := ⟨b1,o1 + i,none⟩) (block_lt_of_cell g1)).trans g1
   have HK := hid (badval_any p wr (HZ.out p (List.mem_of_getElem? hp)))
   have HR := hid (show l.all valOk = (valOk p && (l.drop (i + 1)).all valOk) by rw [hrs,hdr]; rfl)
   have HB := hid hbw
   have HLT := hid hlt
   have iI : (i : Int) < (n : Int) := by omega
   have i0 : (0 : Int) ≤ (i : Int) := by omega
   clear hi hlt hp hdr g1 hrs hbw
   go_wp2_with fail
   refine HK.out.mono ?_
   rintro e w2 ⟨rfl,rfl⟩
   clear HK
   cases hg : valOk p with
   | false =>
     go_wp2_with fail
     go_ret
     exact ⟨(i : Int),rfl,by rw [HR.out,hg]; simp,HB.out⟩
   | true =>
     go_wp2_with fail
     go_roundw
     case rel => exact ⟨i + 1,by have := HLT.out; omega,by go_num,by rw [HR.out,hg,Bool.true_and],HB.out⟩
     case measure => simp [intOf]; have := HLT.out; omega
  ·obtain rfl : i = n := by omega
   have HE := hid (show l.all valOk = true by rw [hrs,List.drop_eq_nil_of_le (by have := HN.out; omega)]; rfl)
   have HB := hid hbw
   clear hi hlt hrs hbw
   go_wp2_with fail
   go_ret
   exact ⟨-1,rfl,by rw [HE.out]; decide,HB.out⟩
set_option maxRecDepth 100000 in
set_option maxHeartbeats 1600000 in
theorem vals_any (u : Value) (l : List ByteArray) (w0 w : World) (hu : SS w0 u l) (hl : l.length ≤ 140737488351232) (hz : ∀ s ∈ l,s.size ≤ 140737488351232) (hb : Below w0.heap.size w0 w) :
 Calls Tryz.prog 113 #[u,.func (.func 110) #[] #[]] w fun e w' => e = .returned (.bool (!(l.all valOk))) ∧ Below w0.heap.size w0 w' := by
 have HX := hid (vals_at u l w0 w hu hl hz hb)
 clear hu hl hz hb
 go_enter Tryz.func113,Tryz.ntmps113
 go_wp2_with fail
 refine HX.out.mono ?_
 rintro e w1 ⟨r,rfl,hr,hb⟩
 have HB := hid hb
 clear HX hb
 cases hq : (l.all valOk) with
 | true =>
   have hr0 : decide (0 ≤ r) = false := by rw [hr,hq]; rfl
   have HQ := hid hq
   clear hr hq
   go_wp2_with fail
   go_ret
   rw [HQ.out]
   exact ⟨rfl,HB.out⟩
 | false =>
   have hr0 : decide (0 ≤ r) = true := by rw [hr,hq]; rfl
   have HQ := hid hq
   clear hr hq
   go_wp2_with fail
   go_ret
   rw [HQ.out]
   exact ⟨rfl,HB.out⟩
set_option maxRecDepth 100000 in
set_option maxHeartbeats 1600000 in
theorem kids_at (u : Value) (l : List PtrV) (w0 w : World) (hu : PS w0 u l) (hl : l.length ≤ 140737488351232) (hb : Below w0.heap.size w0 w) :
 Calls Tryz.prog 126 #[u,.func (.func 111) #[] #[]] w fun e w' => ∃ r : Int,e = .returned (.int .i64 r) ∧ decide (0 ≤ r) = !(l.all kidOk) ∧ Below w0.heap.size w0 w' := by
 obtain ⟨a,c,rfl,h1⟩ := hu
 obtain ⟨n,hn⟩ : ∃ n,l.length = n := ⟨_,rfl⟩
 have H1 := hid h1
 have HN := hid hn
 have HB0 := hid hb
 rw [hn] at hl ⊢
 have lI : (n : Int) ≤ 140737488351232 := by omega
 clear h1 hn hl hb
 go_enter Tryz.func126,Tryz.ntmps126
 go_wp2_with fail
 go_loopw [5,8] (fun _ v8 wr => ∃ i : Nat,i ≤ n ∧ v8 = .int .i64 (i : Int) ∧ l.all kidOk = (l.drop i).all kidOk ∧ Below w0.heap.size w0 wr) (fun _ v _ => n - (intOf v).toNat)
 case atStart => exact ⟨0,by omega,rfl,by rw [List.drop_zero],HB0.out⟩
 case round =>
  obtain ⟨i,hi,rfl,hrs,hbw⟩ := hrel
  by_cases hlt : i < n
  ·obtain ⟨p,hp⟩ : ∃ p,l[i]? = some p := ⟨_,List.getElem?_eq_getElem (by have := HN.out; omega)⟩
   obtain ⟨b1,o1,rfl,g1⟩ := H1.out i p hp
   have hdr : l.drop i = p :: l.drop (i + 1) := by
    obtain ⟨hx,rfl⟩ := List.getElem?_eq_some_iff.1 hp
    exact List.drop_eq_getElem_cons hx
   have hix := index_ptr b1 o1 n c i hlt
   have HRG := hid (range_below g1 hbw)
   have HK := hid (badkid_any p wr)
   have HR := hid (show l.all kidOk = (kidOk p && (l.drop (i + 1)).all kidOk) by rw [hrs,hdr]; rfl)
   have HBW := hid hbw
   have SWC := hid (size_ptr p)
   have HLT := hid hlt
   have iI : (i : Int) < (n : Int) := by omega
   have i0 : (0 : Int) ≤ (i : Int) := by omega
   clear hi hlt hp hdr g1 hrs hbw
   go_wp2_with (first
    | (with_reducible refine wpList_load_mid (op := ⟨some 15,_,_,_,_,_⟩) rfl 43 _ rfl b1 (o1 + i * 34) rfl (ptrRow p) _ HRG.out Tryz.underlying43 rfl SWC.out ?_))
   refine HK.out.mono ?_
   rintro e w2 ⟨rfl,hb2⟩
   have HB := hid (HBW.out.trans (hb2.mono HBW.out.size))
   clear HK hb2 HBW HRG SWC
   cases hg : kidOk p with
   | false =>
     go_wp2_with fail
     go_ret
     exact ⟨(i : Int),rfl,by rw [HR.out,hg]; simp,HB.out⟩
   | true =>
     go_wp2_with fail
     go_roundw
     case rel => exact ⟨i + 1,by have := HLT.out; omega,by go_num,by rw [HR.out,hg,Bool.true_and],HB.out⟩
     case measure => simp [intOf]; have := HLT.out; omega
  ·obtain rfl : i = n := by omega
   have HE := hid (show l.all kidOk = true by rw [hrs,List.drop_eq_nil_of_le (by have := HN.out; omega)]; rfl)
   have HB := hid hbw
   clear hi hlt hrs hbw
   go_wp2_with fail
   go_ret
   exact ⟨-1,rfl,by rw [HE.out]; decide,HB.out⟩
set_option maxRecDepth 100000 in
set_option maxHeartbeats 1600000 in
theorem kids_any (u : Value) (l : List PtrV) (w0 w : World) (hu : PS w0 u l) (hl : l.length ≤ 140737488351232) (hb : Below w0.heap.size w0 w) :
 Calls Tryz.prog 114 #[u,.func (.func 111) #[] #[]] w fun e w' => e = .returned (.bool (!(l.all kidOk))) ∧ Below w0.heap.size w0 w' := by
 have HX := hid (kids_at u l w0 w hu hl hb)
 clear hu hl hb
 go_enter Tryz.func114,Tryz.ntmps114
 go_wp2_with fail
 refine HX.out.mono ?_
 rintro e w1 ⟨r,rfl,hr,hb⟩
 have HB := hid hb
 clear HX hb
 cases hq : (l.all kidOk) with
 | true =>
   have hr0 : decide (0 ≤ r) = false := by rw [hr,hq]; rfl
   have HQ := hid hq
   clear hr hq
   go_wp2_with fail
   go_ret
   rw [HQ.out]
   exact ⟨rfl,HB.out⟩
 | false =>
   have hr0 : decide (0 ≤ r) = true := by rw [hr,hq]; rfl
   have HQ := hid hq
   clear hr hq
   go_wp2_with fail
   go_ret
   rw [HQ.out]
   exact ⟨rfl,HB.out⟩
end
section
set_option maxRecDepth 4000
set_option linter.unusedVariables false
open Go.ChangeShapes Go.WideShapes Go.ChangeAt Go.RowKit
theorem SS.shape {w : World} {v : Value} {l : List ByteArray} (h : SS w v l) : ∃ a c,v = .slice a l.length c := by obtain ⟨a,c,e,_⟩ := h; exact ⟨a,c,e⟩
theorem PS.shape {w : World} {v : Value} {l : List PtrV} (h : PS w v l) : ∃ a c,v = .slice a l.length c := by obtain ⟨a,c,e,_⟩ := h; exact ⟨a,c,e⟩
theorem cast_beq (a b : Nat) : ((a : Int) == (b : Int)) = decide (a = b) := by
 by_cases h : a = b
 ·rw [h]; simp
 ·rw [decide_eq_false h]; simp; omega
set_option maxRecDepth 100000 in
set_option maxHeartbeats 1600000 in
theorem ncounts_any (k v p : Value) (n : NodeV) (w : World) (h : NR w k v p n) (hn : NB n) :
 Calls Tryz.prog 112 #[.agg #[.bool n.lf,k,v,p]] w fun e w' => e = .returned (.bool (countsB n)) ∧ Below w.heap.size w w' := by
 obtain ⟨ak,ck,rfl⟩ := h.ks.shape
 obtain ⟨av,cv,rfl⟩ := h.vs.shape
 obtain ⟨ap,cp,rfl⟩ := h.ps.shape
 have kI : (n.ks.length : Int) ≤ 140737488351232 := by have := hn.kl; omega
 have vI : (n.vs.length : Int) ≤ 140737488351232 := by have := hn.vl; omega
 have pI : (n.ps.length : Int) ≤ 140737488351232 := by have := hn.pl; omega
 have HE := hid (show countsB n = if n.lf then (((n.vs.length : Int) == (n.ks.length : Int)) && ((n.ps.length : Int) == 0)) else (decide (0 < n.ks.length) && ((n.vs.length : Int) == 0) && ((n.ps.length : Int) == (n.ks.length : Int) + 1)) by
  unfold countsB
  have e0 : ∀ a : Nat,((a : Int) == 0) = decide (a = 0) := fun a => cast_beq a 0
  have e1 : ((n.ps.length : Int) == (n.ks.length : Int) + 1) = decide (n.ps.length = n.ks.length + 1) := cast_beq _ (n.ks.length + 1)
  rw [e0,e0,e1,cast_beq])
 have HB := hid ((Below.refl w.heap.size w).alloc (Nat.le_refl _) (.cells #[.bool n.lf,.slice ak n.ks.length ck,.slice av n.vs.length cv,.slice ap n.ps.length cp] 38))
 obtain ⟨c0,c1,c2,c3⟩ := node_at (heap_alloc_new w (.cells #[.bool n.lf,.slice ak n.ks.length ck,.slice av n.vs.length cv,.slice ap n.ps.length cp] 38))
 have k0 : (0 : Int) ≤ (n.ks.length : Int) := by omega
 rw [HE.out]
 clear h hn HE
 generalize n.ks.length = K at *
 generalize n.vs.length = V at *
 generalize n.ps.length = Q at *
 generalize n.lf = L at *
 cases L with
 | true =>
   rw [if_pos rfl]
   have fin : ∀ (x y : Bool),((V : Int) == (K : Int)) = x → ((Q : Int) == 0) = y →
    Calls Tryz.prog 112 #[.agg #[.bool true,.slice ak K ck,.slice av V cv,.slice ap Q cp]] w fun e w' => e = .returned (.bool (x && y)) ∧ Below w.heap.size w w' := by
    intro x y h1 h2
    cases x <;> cases y <;>
    ·go_enter Tryz.func112,Tryz.ntmps112
     go_wp2_with fail
     all_goals (go_ret; exact ⟨rfl,HB.out⟩)
   exact fin _ _ rfl rfl
 | false =>
   rw [if_neg (by decide)]
   have fin : ∀ (x y z : Bool),decide (0 < K) = x → ((V : Int) == 0) = y → ((Q : Int) == (K : Int) + 1) = z →
    Calls Tryz.prog 112 #[.agg #[.bool false,.slice ak K ck,.slice av V cv,.slice ap Q cp]] w fun e w' => e = .returned (.bool (x && y && z)) ∧ Below w.heap.size w w' := by
    intro x y z h1 h2 h3
    cases x <;> cases y <;> cases z <;>
    ·go_enter Tryz.func112,Tryz.ntmps112
     go_wp2_with fail
     all_goals (go_ret; exact ⟨rfl,HB.out⟩)
   exact fin _ _ _ rfl rfl rfl
set_option maxRecDepth 100000 in
set_option maxHeartbeats 3200000 in
theorem nform_any (k v p : Value) (n : NodeV) (w : World) (h : NR w k v p n) (hn : NB n) :
 Calls Tryz.prog 87 #[.agg #[.bool n.lf,k,v,p]] w fun e w' => e = .returned (.bool (formB n)) ∧ Below w.heap.size w w' := by
 have two : ∀ (lf : Bool),∃ (w1 w2 : World),w1 = w.alloc (.cells #[.bool lf,k,v,p] 38) ∧ w2 = w1.alloc (.cells #[.string ⟨#[]⟩] 9) ∧ w1.heap.size = w.heap.size + 1 ∧ w1.heap[w.heap.size]? = some (.cells #[.bool lf,k,v,p] 38 (0,0)) ∧ w2.heap[w.heap.size + 1]? = some (.cells #[.string ⟨#[]⟩] 9 (0,0)) ∧ Below w1.heap.size w1 w2 ∧ Below w.heap.size w w1 := by
  intro lf
  have hb1 := (Below.refl w.heap.size w).alloc (Nat.le_refl _) (.cells #[.bool lf,k,v,p] 38)
  have hs1 : (w.alloc (.cells #[.bool lf,k,v,p] 38)).heap.size = w.heap.size + 1 := by simp
  refine ⟨_,_,rfl,rfl,hs1,heap_alloc_new w _, ?_,(Below.refl _ _).alloc (Nat.le_refl _) _,hb1⟩
  rw [← hs1]
  exact heap_alloc_new _ _
 obtain ⟨w1,w2,hw1,hw2,hs1,hA1,hA2,hb2,hb1⟩ := two n.lf
 have h1 := h.below hb1
 have HC := hid (fun W (b : Below w1.heap.size w1 W) => ncounts_any k v p n W (h1.below b) hn)
 have HK := hid (fun W (b : Below w1.heap.size w1 W) (hc : W.heap[w.heap.size + 1]? = some (.cells #[.string ⟨#[]⟩] 9 (0,0))) => keys_any k n.ks w1 W (w.heap.size + 1) h1.ks hn.kl hn.kz (by omega) b hc)
 have HV := hid (fun W (b : Below w1.heap.size w1 W) => vals_any v n.vs w1 W h1.vs hn.vl hn.vz b)
 have HP := hid (fun W (b : Below w1.heap.size w1 W) => kids_any p n.ps w1 W h1.ps hn.pl b)
 have HE := hid (show formB n = (countsB n && risesFrom ⟨#[]⟩ n.ks && n.vs.all valOk && n.ps.all kidOk) from rfl)
 have SE := hid (size_node n.lf k v p)
 have HAT := hid (fun W (b : Below w1.heap.size w1 W) => (b.block w.heap.size (by omega)).trans hA1)
 have HB1 := hid (show ∀ W,Below w1.heap.size w1 W → Below w.heap.size w W from fun W b => hb1.trans (b.mono (by omega)))
 rw [HE.out]
 generalize countsB n = cb at *
 generalize risesFrom ⟨#[]⟩ n.ks = kb at *
 generalize n.vs.all valOk = vb at *
 generalize n.ps.all kidOk = pb at *
 generalize n.lf = lf at *
 clear h h1 hn HE two hb1 hA1
 go_enter Tryz.func87,Tryz.ntmps87
 go_upto_region 5 with fail
 try simp only [← hw1,← hw2]
 clear hw1 hw2
 have HB2 := hid hb2
 have HC2 := hid (HC.out w2 hb2)
 have HA1 := hid (HAT.out w2 hb2)
 have HA2 := hid hA2
 have HS2 := hid (show w.heap.size + 1 < w2.heap.size from (Array.getElem?_eq_some_iff.1 hA2).1)
 have HS1 := hid hs1
 clear hA2 hb2 HC hs1
 go_wp2_with (first
  | (with_reducible refine wpList_load_row (o := ⟨some 8,_,_,_,_,_⟩) rfl 38 _ rfl w.heap.size rfl 38 #[.bool lf,k,v,p] (0,0) _ HA1.out Tryz.underlying38 rfl SE.out ?_))
 refine HC2.out.mono ?_
 rintro e w3 ⟨rfl,hb3⟩
 have HB3 := hid (HB2.out.trans (hb3.mono HB2.out.size))
 have HA4 := hid ((hb3.block _ HS2.out).trans HA2.out)
 have c1 := (node_at (HAT.out w3 HB3.out)).2.1
 clear hb3 HB2 HA1 HA2 HC2
 cases cb with
 | false =>
   clear HK HV HP c1
   go_wp2_with fail
   go_ret
   exact ⟨rfl,HB1.out _ HB3.out⟩
 | true =>
   have HKK := hid (HK.out w3 HB3.out HA4.out)
   clear HK HA4 HB3
   go_wp2_with fail
   refine HKK.out.mono ?_
   rintro e w4 ⟨rfl,hb4⟩
   have HB4 := hid hb4
   have c2 := (node_at (HAT.out w4 hb4)).2.2.1
   clear HKK hb4 c1
   cases kb with
   | false =>
     clear HV HP c2
     go_wp2_with fail
     go_ret
     exact ⟨rfl,HB1.out _ HB4.out⟩
   | true =>
     have HVV := hid (HV.out w4 HB4.out)
     clear HV HB4
     go_wp2_with fail
     refine HVV.out.mono ?_
     rintro e w5 ⟨rfl,hb5⟩
     have HB5 := hid hb5
     have c3 := (node_at (HAT.out w5 hb5)).2.2.2
     clear HVV hb5 c2
     cases vb with
     | false =>
       clear HP c3
       go_wp2_with fail
       go_ret
       exact ⟨rfl,HB1.out _ HB5.out⟩
     | true =>
       have HPP := hid (HP.out w5 HB5.out)
       clear HP HB5
       go_wp2_with fail
       refine HPP.out.mono ?_
       rintro e w6 ⟨rfl,hb6⟩
       have HB6 := hid hb6
       clear HPP hb6 c3
       cases pb with
       | false =>
         go_wp2_with fail
         go_ret
         exact ⟨rfl,HB1.out _ HB6.out⟩
       | true =>
         go_wp2_with fail
         go_ret
         exact ⟨rfl,HB1.out _ HB6.out⟩
set_option maxRecDepth 100000 in
set_option maxHeartbeats 3200000 in
theorem nsize_any (k v p : Value) (n : NodeV) (w : World) (h : NR w k v p n) (hn : NB n) :
 Calls Tryz.prog 56 #[.agg #[.bool n.lf,k,v,p]] w fun e w' => e = .returned (.tuple #[.int .i64 (sizeA n).1,.int .i64 (sizeA n).2]) ∧ Below w.heap.size w w' := by
 have hb1 := (Below.refl w.heap.size w).alloc (Nat.le_refl _) (.cells #[.bool n.lf,k,v,p] 38)
 have HA1 := hid (heap_alloc_new w (.cells #[.bool n.lf,k,v,p] 38))
 have HT := hid (show w.heap.size < (w.alloc (.cells #[.bool n.lf,k,v,p] 38)).heap.size by simp)
 have HF := hid (nform_any k v p n _ (h.below hb1) hn)
 have HB1 := hid hb1
 have SE := hid (size_node n.lf k v p)
 have HE := hid (show sizeA n = if formB n then (((sizeN n : Nat) : Int),0) else (0,4) from rfl)
 cases hf : formB n with
 | false =>
   rw [hf] at HF HE
   rw [show sizeA n = (0,4) from HE.out]
   clear h hn hb1 hf HE
   generalize n.lf = lf at *
   go_enter Tryz.func56,Tryz.ntmps56
   go_wp2_with (first
    | (with_reducible refine wpList_load_row (o := ⟨some 4,_,_,_,_,_⟩) rfl 38 _ rfl w.heap.size rfl 38 #[.bool lf,k,v,p] (0,0) _ HA1.out Tryz.underlying38 rfl SE.out ?_))
   refine HF.out.mono ?_
   rintro e w3 ⟨rfl,hb3⟩
   have HB3 := hid (HB1.out.trans (hb3.mono HB1.out.size))
   clear hb3 HF HB1 HA1
   go_wp2_with fail
   go_ret2
   exact ⟨rfl,HB3.out⟩
 | true =>
   rw [hf] at HF HE
   rw [show sizeA n = (((sizeN n : Nat) : Int),0) from HE.out]
   obtain ⟨hk,hv⟩ := form_small hf
   have HTK := hid (fun W (b : Below w.heap.size w W) => ptxs_any k n.ks W (h.ks.below b) hn.kl (fun s hs => Nat.le_trans (hk s hs) (by decide)))
   have HTV := hid (fun W (b : Below w.heap.size w W) => ptxs_any v n.vs W (h.vs.below b) hn.vl hv)
   obtain ⟨ap,cp,rfl⟩ := h.ps.shape
   have hsz : sizeN n = 2 + txs n.ks + txs n.vs + 44 * n.ps.length := rfl
   have pI : (n.ps.length : Int) ≤ 140737488351232 := by have := hn.pl; omega
   have kI : ((txs n.ks : Nat) : Int) ≤ 13651536370069504 := by have := txs_le n.ks 96 (fun s hs => Nat.le_trans (hk s hs) (by decide)); have := hn.kl; omega
   have vI : ((txs n.vs : Nat) : Int) ≤ 13651536370069504 := by have := txs_le n.vs 96 hv; have := hn.vl; omega
   have k0 : (0 : Int) ≤ ((txs n.ks : Nat) : Int) := by omega
   have v0 : (0 : Int) ≤ ((txs n.vs : Nat) : Int) := by omega
   have p0 : (0 : Int) ≤ (n.ps.length : Int) := by omega
   have HSZ := hid (show ((sizeN n : Nat) : Int) = 2 + ((txs n.ks : Nat) : Int) + ((txs n.vs : Nat) : Int) + 44 * (n.ps.length : Int) by rw [hsz]; omega)
   clear h hn hb1 hf HE hk hv hsz
   generalize n.lf = lf at *
   generalize txs n.ks = TK at *
   generalize txs n.vs = TV at *
   generalize n.ps.length = PL at *
   go_enter Tryz.func56,Tryz.ntmps56
   go_wp2_with (first
    | (with_reducible refine wpList_load_row (o := ⟨some 4,_,_,_,_,_⟩) rfl 38 _ rfl w.heap.size rfl 38 #[.bool lf,k,v,.slice ap PL cp] (0,0) _ HA1.out Tryz.underlying38 rfl SE.out ?_))
   refine HF.out.mono ?_
   rintro e w3 ⟨rfl,hb3⟩
   have HB3 := hid (HB1.out.trans (hb3.mono HB1.out.size))
   have HTK3 := hid (show ∀ q,Calls Tryz.prog 88 #[k] (w3.drewN q) _ from fun q => HTK.out (w3.drewN q) (ybelow_drewN HB3.out q))
   have HTV3 := hid (show ∀ q,Calls Tryz.prog 88 #[v] (w3.drewN q) _ from fun q => HTV.out (w3.drewN q) (ybelow_drewN HB3.out q))
   obtain ⟨_,c1,c2,c3⟩ := node_at ((hb3.block _ HT.out).trans HA1.out)
   clear hb3 HF HB1 HA1 HTK HTV
   go_upto_region 3 with fail
   go_quiet ((first | (go_at_call_of 88 k; exact Calls.quiet_of_same (HTK3.out _)) | (go_at_call_of 88 v; exact Calls.quiet_of_same (HTV3.out _))))
   go_wp2_with fail
   go_ret2
   rw [HSZ.out]
   exact ⟨rfl,ybelow_drewN HB3.out nq⟩
theorem sizeN_max {n : NodeV} (hf : formB n = true) (hn : NB n) : ((sizeN n : Nat) : Int) ≤ 36028797018963968 := by
 obtain ⟨hk,hv⟩ := form_small hf
 have h1 := txs_le n.ks 96 (fun s hs => Nat.le_trans (hk s hs) (by decide))
 have h2 := txs_le n.vs 96 hv
 have := hn.kl
 have := hn.vl
 have := hn.pl
 unfold sizeN
 omega
set_option maxRecDepth 100000 in
set_option maxHeartbeats 1600000 in
theorem ncheck_any (k v p : Value) (n : NodeV) (w : World) (h : NR w k v p n) (hn : NB n) :
 Calls Tryz.prog 30 #[.agg #[.bool n.lf,k,v,p]] w fun e w' => e = .returned (.int .i64 (checkN n)) ∧ Below w.heap.size w w' := by
 have hb1 := (Below.refl w.heap.size w).alloc (Nat.le_refl _) (.cells #[.bool n.lf,k,v,p] 38)
 have HA1 := hid (heap_alloc_new w (.cells #[.bool n.lf,k,v,p] 38))
 have HF := hid (nsize_any k v p n _ (h.below hb1) hn)
 have HB1 := hid hb1
 have SE := hid (size_node n.lf k v p)
 have HE := hid (show sizeA n = if formB n then (((sizeN n : Nat) : Int),0) else (0,4) from rfl)
 have HC := hid (show checkN n = if formB n then (if sizeN n ≤ 512 then 0 else 6) else 4 from rfl)
 have HM := hid (fun hf => sizeN_max (n := n) hf hn)
 cases hf : formB n with
 | false =>
   rw [hf] at HC HE
   rw [show sizeA n = (0,4) from HE.out] at HF
   rw [show checkN n = 4 from HC.out]
   clear h hn hb1 hf HE HC HM
   generalize n.lf = lf at *
   go_enter Tryz.func30,Tryz.ntmps30
   go_wp2_with (first
    | (with_reducible refine wpList_load_row (o := ⟨some 6,_,_,_,_,_⟩) rfl 38 _ rfl w.heap.size rfl 38 #[.bool lf,k,v,p] (0,0) _ HA1.out Tryz.underlying38 rfl SE.out ?_))
   refine HF.out.mono ?_
   rintro e w3 ⟨rfl,hb3⟩
   have HB3 := hid (HB1.out.trans (hb3.mono HB1.out.size))
   clear hb3 HF HB1 HA1
   go_wp2_with fail
   go_ret
   exact ⟨rfl,HB3.out⟩
 | true =>
   rw [hf] at HC HE
   rw [show sizeA n = (((sizeN n : Nat) : Int),0) from HE.out] at HF
   rw [show checkN n = if sizeN n ≤ 512 then 0 else 6 from HC.out]
   have zI := HM.out hf
   have z0 : (0 : Int) ≤ ((sizeN n : Nat) : Int) := by omega
   clear h hn hb1 hf HE HC HM
   generalize n.lf = lf at *
   generalize sizeN n = Z at *
   by_cases hz : Z ≤ 512
   ·rw [if_pos hz]
    have hd : decide ((512 : Int) < (Z : Int)) = false := by simp; omega
    clear hz
    go_enter Tryz.func30,Tryz.ntmps30
    go_wp2_with (first
     | (with_reducible refine wpList_load_row (o := ⟨some 6,_,_,_,_,_⟩) rfl 38 _ rfl w.heap.size rfl 38 #[.bool lf,k,v,p] (0,0) _ HA1.out Tryz.underlying38 rfl SE.out ?_))
    refine HF.out.mono ?_
    rintro e w3 ⟨rfl,hb3⟩
    have HB3 := hid (HB1.out.trans (hb3.mono HB1.out.size))
    clear hb3 HF HB1 HA1
    go_wp2_with fail
    go_ret
    exact ⟨rfl,HB3.out⟩
   ·rw [if_neg hz]
    have hd : decide ((512 : Int) < (Z : Int)) = true := by simp; omega
    clear hz
    go_enter Tryz.func30,Tryz.ntmps30
    go_wp2_with (first
     | (with_reducible refine wpList_load_row (o := ⟨some 6,_,_,_,_,_⟩) rfl 38 _ rfl w.heap.size rfl 38 #[.bool lf,k,v,p] (0,0) _ HA1.out Tryz.underlying38 rfl SE.out ?_))
    refine HF.out.mono ?_
    rintro e w3 ⟨rfl,hb3⟩
    have HB3 := hid (HB1.out.trans (hb3.mono HB1.out.size))
    clear hb3 HF HB1 HA1
    go_wp2_with fail
    go_ret
    exact ⟨rfl,HB3.out⟩
end
section
set_option maxRecDepth 4000
set_option linter.unusedVariables false
open Go.ChangeShapes Go.WideShapes Go.ChangeAt Go.RowKit
def pairB (q : ByteArray × ByteArray) : List Int := (strW q.1).1 ++ (strW q.2).1
def keyB9 (s : ByteArray) : List Int := (strW s).1
def nodeB (n : NodeV) : List Int := if n.lf then (1 :: (n.ks.length : Int) :: (n.ks.zip n.vs).flatMap pairB) else (2 :: (n.ks.length : Int) :: (n.ks.flatMap keyB9 ++ n.ps.flatMap ptrB))
def secB9 (n : NodeV) : List Int := nodeB n ++ List.replicate (512 - (nodeB n).length) 0
theorem keyB9_length (s : ByteArray) : (keyB9 s).length ≤ 256 := by
 unfold keyB9 strW
 split
 ·simp
 ·simp only [List.length_cons,btxt_length]; omega
theorem keyB9_byt (s : ByteArray) : Byt (keyB9 s) := by
 unfold keyB9 strW
 split
 ·intro z hz; simp at hz
 ·intro z hz
  rcases List.mem_cons.1 hz with rfl | hz
  ·omega
  ·exact btxt_byt s z hz
theorem keyB_small {s : ByteArray} (h : s.size ≤ 255) : keyB9 s = (s.size : Int) :: btxt s := by
 unfold keyB9 strW
 rw [if_neg (by omega)]
theorem keyB_len {s : ByteArray} (h : s.size ≤ 255) : (keyB9 s).length = 1 + s.size := by
 rw [keyB_small h,List.length_cons,btxt_length]; omega
theorem flat_length {α : Type} (f : α → List Int) (k : Nat) : ∀ l : List α,(∀ x ∈ l,(f x).length ≤ k) → (l.flatMap f).length ≤ l.length * k
 | [],_ => by simp
 | x :: l,h => by
   have h1 := h x (by simp)
   have h2 := flat_length f k l (fun y hy => h y (by simp [hy]))
   rw [List.flatMap_cons,List.length_append,List.length_cons,Nat.add_mul]
   omega
theorem flat_byt {α : Type} (f : α → List Int) (l : List α) (h : ∀ x ∈ l,Byt (f x)) : Byt (l.flatMap f) := by
 intro z hz
 obtain ⟨x,hx,hz⟩ := List.mem_flatMap.1 hz
 exact h x hx z hz
theorem flat_step {α : Type} (f : α → List Int) (l : List α) (i : Nat) (x : α) (h : l[i]? = some x) : (l.take (i + 1)).flatMap f = (l.take i).flatMap f ++ f x := by
 rw [List.take_add_one,h,List.flatMap_append]
 simp
theorem pairB_length (q : ByteArray × ByteArray) : (pairB q).length ≤ 512 := by
 have h1 := keyB9_length q.1
 have h2 := keyB9_length q.2
 unfold pairB
 unfold keyB9 at h1 h2
 rw [List.length_append]
 omega
theorem len_keys : ∀ l : List ByteArray,(∀ s ∈ l,s.size ≤ 96) → (l.flatMap keyB9).length = txs l
 | [],_ => rfl
 | s :: l,h => by
   rw [List.flatMap_cons,List.length_append,keyB_len (Nat.le_trans (h s (by simp)) (by decide)),len_keys l (fun t ht => h t (by simp [ht])),txs]
theorem len_pairs : ∀ (k v : List ByteArray),v.length = k.length → (∀ s ∈ k,s.size ≤ 96) → (∀ s ∈ v,s.size ≤ 96) → ((k.zip v).flatMap pairB).length = txs k + txs v
 | [], [],_,_,_ => rfl
 | [],_ :: _,h,_,_ => by simp at h
 | _ :: _, [],h,_,_ => by simp at h
 | a :: k,b :: v,h,hk,hv => by
   have ih := len_pairs k v (by simpa using h) (fun t ht => hk t (by simp [ht])) (fun t ht => hv t (by simp [ht]))
   have h1 := keyB_len (s := a) (Nat.le_trans (hk a (by simp)) (by decide))
   have h2 := keyB_len (s := b) (Nat.le_trans (hv b (by simp)) (by decide))
   unfold keyB9 at h1 h2
   rw [List.zip_cons_cons,List.flatMap_cons,List.length_append,ih]
   unfold pairB
   rw [List.length_append,h1,h2]
   simp only [txs]
   omega
theorem len_kids : ∀ l : List PtrV,(l.flatMap ptrB).length = 44 * l.length
 | [] => rfl
 | q :: l => by rw [List.flatMap_cons,List.length_append,ptrB_length,len_kids l,List.length_cons]; omega
theorem counts_leaf {n : NodeV} (hl : n.lf = true) (h : countsB n = true) : n.vs.length = n.ks.length ∧ n.ps = [] := by
 unfold countsB at h
 rw [if_pos hl] at h
 simp only [Bool.and_eq_true,decide_eq_true_eq] at h
 exact ⟨h.1,List.length_eq_zero_iff.1 h.2⟩
theorem counts_branch {n : NodeV} (hl : n.lf = false) (h : countsB n = true) : 0 < n.ks.length ∧ n.vs = [] ∧ n.ps.length = n.ks.length + 1 := by
 unfold countsB at h
 rw [hl] at h
 simp only [Bool.false_eq_true,if_false,Bool.and_eq_true,decide_eq_true_eq] at h
 exact ⟨h.1.1,List.length_eq_zero_iff.1 h.1.2,h.2⟩
theorem form_counts {n : NodeV} (h : formB n = true) : countsB n = true := by
 unfold formB at h
 simp only [Bool.and_eq_true] at h
 exact h.1.1.1
theorem nodeB_length {n : NodeV} (h : formB n = true) : (nodeB n).length = sizeN n := by
 obtain ⟨hk,hv⟩ := form_small h
 have hk' : ∀ s ∈ n.ks,s.size ≤ 96 := fun s hs => Nat.le_trans (hk s hs) (by decide)
 have hc := form_counts h
 unfold nodeB sizeN
 cases hl : n.lf with
 | true =>
   obtain ⟨h1,h2⟩ := counts_leaf hl hc
   rw [if_pos rfl,List.length_cons,List.length_cons,len_pairs _ _ h1 hk' hv,h2]
   simp; omega
 | false =>
   obtain ⟨_,h2,h3⟩ := counts_branch hl hc
   rw [if_neg (by decide),List.length_cons,List.length_cons,List.length_append,len_keys _ hk',len_kids,h2]
   simp [txs]; omega
theorem check_ok {n : NodeV} (h : checkN n = 0) : formB n = true ∧ sizeN n ≤ 512 := by
 unfold checkN at h
 cases hf : formB n with
 | false => rw [hf] at h; simp at h
 | true =>
   rw [hf] at h
   simp only [if_true] at h
   split at h
   ·exact ⟨rfl,by assumption⟩
   ·cases h
theorem txs_len : ∀ l : List ByteArray,l.length ≤ txs l
 | [] => Nat.le_refl _
 | s :: l => by have := txs_len l; simp only [txs,List.length_cons]; omega
theorem check_few {n : NodeV} (h : checkN n = 0) : n.ks.length ≤ 510 ∧ n.ps.length ≤ 11 := by
 obtain ⟨_,h2⟩ := check_ok h
 have h3 := txs_len n.ks
 unfold sizeN at h2
 omega
theorem rises_pos : ∀ (a : ByteArray) (l : List ByteArray),risesFrom a l = true → ∀ s ∈ l,lo ⟨#[]⟩ s = true
 | _, [],_,s,hs => by simp at hs
 | a,k :: r,h,s,hs => by
   unfold risesFrom at h
   simp only [Bool.and_eq_true,decide_eq_true_eq] at h
   rcases List.mem_cons.1 hs with rfl | hs
   ·rcases lo_tri ⟨#[]⟩ s with e | e | e
    ·exact e
    ·rw [← e,lo_lt,decide_eq_true_iff] at h
     exact absurd h.1.1 (by simp [Lib.toList_data,List.not_lt_nil])
    ·rw [lo_lt,decide_eq_true_iff] at e
     exact absurd e (by simp [Lib.toList_data,List.not_lt_nil])
   ·exact rises_pos k r h.2 s hs
theorem lo_pos {s : ByteArray} (h : lo ⟨#[]⟩ s = true) : 1 ≤ s.size := by
 rcases Nat.eq_zero_or_pos s.size with e | e
 ·have : s = ⟨#[]⟩ := ByteArray.ext (Array.eq_empty_of_size_eq_zero e)
  rw [this,lo_irr] at h
  cases h
 ·exact e
theorem txs_two : ∀ l : List ByteArray,(∀ s ∈ l,1 ≤ s.size) → 2 * l.length ≤ txs l
 | [],_ => Nat.le_refl _
 | s :: l,h => by
   have := txs_two l (fun t ht => h t (by simp [ht]))
   have := h s (by simp)
   simp only [txs,List.length_cons]
   omega
theorem check_255 {n : NodeV} (h : checkN n = 0) : n.ks.length ≤ 255 := by
 obtain ⟨h1,h2⟩ := check_ok h
 unfold formB at h1
 simp only [Bool.and_eq_true] at h1
 have h3 := txs_two n.ks (fun s hs => lo_pos (rises_pos _ _ h1.1.1.2 s hs))
 unfold sizeN at h2
 omega
set_option maxRecDepth 100000 in
set_option maxHeartbeats 1600000 in
theorem nkind_any (k v p : Value) (lf : Bool) (w : World) :
 Calls Tryz.prog 72 #[.agg #[.bool lf,k,v,p]] w fun e w' => e = .returned (.int .u8 (if lf then 1 else 2)) ∧ Below w.heap.size w w' := by
 have HB1 := hid ((Below.refl w.heap.size w).alloc (Nat.le_refl _) (.cells #[.bool lf,k,v,p] 38))
 obtain ⟨c0,_,_,_⟩ := node_at (heap_alloc_new w (.cells #[.bool lf,k,v,p] 38))
 cases lf with
 | true =>
   go_enter Tryz.func72,Tryz.ntmps72
   go_wp2_with fail
   go_ret
   exact ⟨rfl,HB1.out⟩
 | false =>
   go_enter Tryz.func72,Tryz.ntmps72
   go_wp2_with fail
   go_ret
   exact ⟨rfl,HB1.out⟩
theorem WL.more {w0 w : World} {P : Nat} {l m : List Int} (h : WL w0 w P l) (e : l = m) : WL w0 w P m := e ▸ h
set_option maxRecDepth 100000 in
set_option maxHeartbeats 3200000 in
theorem nput_true (k v p : Value) (l m : List ByteArray) (q : List PtrV) (w : World) (h : NR w k v p ⟨true,l,m,q⟩) (hn : NB ⟨true,l,m,q⟩) (hc : checkN ⟨true,l,m,q⟩ = 0) :
 Calls Tryz.prog 49 #[.agg #[.bool true,k,v,p]] w fun e w' => ∃ a c,e = .returned (.tuple #[.slice a 512 c,.int .i64 0]) ∧ 512 ≤ c ∧ BS w' (.slice a 512 c) (secB9 ⟨true,l,m,q⟩) ∧ Below w.heap.size w w' := by
 obtain ⟨hf,hz⟩ := check_ok hc
 have hlen := nodeB_length hf
 have h255 := check_255 hc
 obtain ⟨_,h11⟩ := check_few hc
 have hcn := form_counts hf
 have HCK := hid (fun W (b : Below w.heap.size w W) => ncheck_any k v p ⟨true,l,m,q⟩ W (h.below b) hn)
 have HKD := hid (fun W => nkind_any k v p true W)
 rw [hc] at HCK
 obtain ⟨ak,ck,rfl,_,hk⟩ := h.ks
 obtain ⟨av,cv,rfl,_,hv⟩ := h.vs
 obtain ⟨ap,cp,rfl,hp⟩ := h.ps
 obtain ⟨hcl,hq0⟩ := counts_leaf rfl hcn
 dsimp only at hcl hq0
 have HCL := hid hcl
 have HQ0 := hid hq0
 clear hcl hq0
 have hsec : secB9 ⟨true,l,m,q⟩ = (1 :: (l.length : Int) :: (l.zip m).flatMap pairB) ++ List.replicate (512 - ((1 :: (l.length : Int) :: (l.zip m).flatMap pairB)).length) 0 := rfl
 have hnb : ((1 :: (l.length : Int) :: (l.zip m).flatMap pairB)).length ≤ 512 := by have e : nodeB ⟨true,l,m,q⟩ = (1 :: (l.length : Int) :: (l.zip m).flatMap pairB) := rfl; rw [← e,hlen]; exact hz
 have hkz := hn.kz
 have hvz := hn.vz
 dsimp only at *
 have HK := hid hk
 have HV := hid hv
 have HP := hid hp
 have HSEC := hid hsec
 have HNB := hid hnb
 have HKZ := hid hkz
 have HVZ := hid hvz
 have HBX := hid (fun i => show (((l.zip m).take i).flatMap pairB).length ≤ i * 512 from Nat.le_trans (flat_length _ 512 _ (fun x _ => pairB_length x)) (Nat.mul_le_mul_right _ (by rw [List.length_take]; omega)))
 have HBK := hid (fun i => show ((q.take i).flatMap ptrB).length ≤ i * 44 from Nat.le_trans (flat_length _ 44 _ (fun x _ => by rw [ptrB_length]; exact Nat.le_refl _)) (Nat.mul_le_mul_right _ (by rw [List.length_take]; omega)))
 have HBT := hid (show ((l.zip m).flatMap pairB).length ≤ 512 by have := hnb; simp only [List.length_cons] at this; omega)
 have HTK := hid (show ∀ i,l.length ≤ i → ((l.zip m).take i).flatMap pairB = (l.zip m).flatMap pairB from fun i hi => by rw [List.take_of_length_le (by first | exact hi | (simp; omega))])
 have HTP := hid (show ∀ i,q.length ≤ i → (q.take i).flatMap ptrB = q.flatMap ptrB from fun i hi => by rw [List.take_of_length_le hi])
 clear h hn hc hf hz hlen hcn hk hv hp hsec hnb hkz hvz
 obtain ⟨N,hN⟩ : ∃ N,l.length = N := ⟨_,rfl⟩
 obtain ⟨V,hV⟩ : ∃ V,m.length = V := ⟨_,rfl⟩
 obtain ⟨M,hM⟩ : ∃ M,q.length = M := ⟨_,rfl⟩
 have HN := hid hN
 have HVL := hid hV
 have HM := hid hM
 rw [hN] at HCK HKD h255 HTK HSEC HNB ⊢
 rw [hV] at HCK HKD ⊢
 rw [hM] at HCK HKD h11 HTP ⊢
 have NI : (N : Int) ≤ 255 := by omega
 have N0 : (0 : Int) ≤ (N : Int) := by omega
 have MI : (M : Int) ≤ 11 := by omega
 have M0 : (0 : Int) ≤ (M : Int) := by omega
 have HN9 := hid (And.intro h255 h11)
 clear hN hV hM h255 h11
 have hb1 := (Below.refl w.heap.size w).alloc (Nat.le_refl _) (.cells #[.bool true,.slice ak N ck,.slice av V cv,.slice ap M cp] 38)
 have hA1 := heap_alloc_new w (.cells #[.bool true,.slice ak N ck,.slice av V cv,.slice ap M cp] 38)
 have SE := hid (size_node true (.slice ak N ck) (.slice av V cv) (.slice ap M cp))
 have hs1 : (w.alloc (.cells #[.bool true,.slice ak N ck,.slice av V cv,.slice ap M cp] 38)).heap.size = w.heap.size + 1 := by simp
 generalize hw1 : w.alloc (.cells #[.bool true,.slice ak N ck,.slice av V cv,.slice ap M cp] 38) = w1 at *
 have HAT := hid (fun W (b : Below w1.heap.size w1 W) => (b.block w.heap.size (by omega)).trans hA1)
 have HBW := hid (show ∀ W,Below w1.heap.size w1 W → Below w.heap.size w W from fun W b => hb1.trans (b.mono (by omega)))
 have HB1 := hid hb1
 have HA1 := hid hA1
 have HS1 := hid hs1
 clear hb1 hA1 hs1
 go_enter Tryz.func49,Tryz.ntmps49
 go_upto_region 1 with fail
 try rw [hw1]
 clear hw1
 go_wp2_with (first
  | (with_reducible refine wpList_load_row (o := ⟨some 10,_,_,_,_,_⟩) rfl 38 _ rfl w.heap.size rfl 38 #[.bool true,.slice ak N ck,.slice av V cv,.slice ap M cp] (0,0) _ HA1.out Tryz.underlying38 rfl SE.out ?_))
 refine (HCK.out w1 HB1.out).mono ?_
 rintro e w2 ⟨rfl,hb2⟩
 have HWL := hid (wl_new (w0 := w1) (w1 := w2) hb2)
 have HB2 := hid hb2
 obtain ⟨P,hP⟩ : ∃ P,w2.heap.size = P := ⟨_,rfl⟩
 have HA2 := hid (HAT.out _ HWL.out.bel)
 have hz := zero_writer
 clear hb2 HA1 HCK
 rw [hP] at HWL
 go_upto_region 5 with fail
 try simp only [hP]
 generalize hw3 : w2.alloc _ = w3 at *
 clear hP hw3 hz
 go_wp2_with (first
  | (with_reducible refine wpList_load_row (o := ⟨some 15,_,_,_,_,_⟩) rfl 38 _ rfl w.heap.size rfl 38 #[.bool true,.slice ak N ck,.slice av V cv,.slice ap M cp] (0,0) _ HA2.out Tryz.underlying38 rfl SE.out ?_))
 refine (HKD.out _).mono ?_
 rintro e w4 ⟨rfl,hb4⟩
 have HW4 := hid (wl_num w1 w4 P [] 1 1 (HWL.out.below hb4) (by decide) (by simp))
 rw [show numW 1 1 = ([1],0) by decide] at HW4
 clear hb4 HWL HA2 HKD
 try simp only [if_true]
 go_wp2_with fail
 refine HW4.out.mono ?_
 rintro e w5 ⟨rfl,h5⟩
 have HW5 := hid (wl_num w1 w5 P _ (N : Int) 1 h5 (by omega) (by simp))
 rw [show numW (N : Int) 1 = ([(N : Int)],0) from numW_one N (by have := HN9.out; omega)] at HW5
 have c1 := (node_at (HAT.out w5 h5.bel)).2.1
 have x1 : IntKind.u64.wrap (N : Int) = (N : Int) := IntWalk.u64_in _ (by omega)
 clear h5 HW4
 go_wp2_with fail
 refine HW5.out.mono ?_
 rintro e w6 ⟨rfl,h6⟩
 have HW6 := hid h6
 have c1' := (node_at (HAT.out w6 h6.bel)).2.1
 clear h6 HW5 c1 x1
 go_wp2_with fail
 clear c1'
 go_loopw [6,7,27] (fun _ _ v27 wr => ∃ i : Nat,i ≤ N ∧ v27 = .int .i64 (i : Int) ∧ WL w1 wr P ([1,(N : Int)] ++ ((l.zip m).take i).flatMap pairB)) (fun _ _ v _ => N - (intOf v).toNat)
 case atStart => exact ⟨0,by omega,rfl,HW6.out.more (by simp)⟩
 case round =>
  clear HW6
  obtain ⟨i,hi,rfl,hW⟩ := hrel
  by_cases hlt : i < N
  ·obtain ⟨x,hx⟩ : ∃ x,l[i]? = some x := ⟨_,List.getElem?_eq_getElem (by have := HN.out; omega)⟩
   obtain ⟨b1,o1,rfl,g1⟩ := HK.out i x hx
   have hix := index_sl b1 o1 N ck i hlt
   have g1' := ((HBW.out _ hW.bel).cell (p := ⟨b1,o1 + i,none⟩) (block_lt_of_cell g1)).trans g1
   have HST := hid (wl_str w1 wr P _ x hW (HKZ.out x (List.mem_of_getElem? hx)) (by have := HBX.out i; have := HN9.out; simp only [List.length_append,List.length_cons,List.length_nil]; omega))
   obtain ⟨y,hy⟩ : ∃ y,m[i]? = some y := ⟨_,List.getElem?_eq_getElem (by have := HN.out; have := HCL.out; omega)⟩
   obtain ⟨b2,o2,rfl,g2⟩ := HV.out i y hy
   have hix2 := index_sl b2 o2 V cv i (by have := HN.out; have := HCL.out; have := HVL.out; omega)
   have HG2 := hid g2
   have HNX := hid (show ((l.zip m).take (i + 1)).flatMap pairB = ((l.zip m).take i).flatMap pairB ++ ((strW x).1 ++ (strW y).1) from flat_step pairB (l.zip m) i (x,y) (by rw [List.getElem?_zip_eq_some]; exact ⟨hx,hy⟩))
   have HYZ := hid (HVZ.out y (List.mem_of_getElem? hy))
   have vI : (i : Int) < (V : Int) := by have := HN.out; have := HCL.out; have := HVL.out; omega
   have HXL := hid (keyB9_length x)
   clear hy g2
   have HLT := hid hlt
   have iI : (i : Int) < (N : Int) := by omega
   have i0 : (0 : Int) ≤ (i : Int) := by omega
   clear hi hlt hx hW g1
   go_wp2_with fail
   refine HST.out.mono ?_
   rintro e w7 ⟨rfl,h7⟩
   obtain ⟨c0,_,c2,_⟩ := node_at (HAT.out w7 h7.bel)
   have g2' := ((HBW.out _ h7.bel).cell (p := ⟨b2,o2 + i,none⟩) (block_lt_of_cell HG2.out)).trans HG2.out
   have HST2 := hid (wl_str w1 w7 P _ y h7 HYZ.out (by have := HBX.out i; have := HN9.out; have := HXL.out; unfold keyB9 at this; simp only [List.length_append,List.length_cons,List.length_nil]; omega))
   clear h7 HST hix
   go_wp2_with fail
   refine HST2.out.mono ?_
   rintro e w8 ⟨rfl,h8⟩
   have H8 := hid h8
   clear h8 HST2 c0 c2 g2'
   go_wp2_with fail
   go_roundw
   case rel => exact ⟨i + 1,by have := HLT.out; omega,by go_num,H8.out.more (by rw [HNX.out]; simp only [List.append_assoc])⟩
   case measure => simp [intOf]; have := HLT.out; omega
  ·obtain rfl : i = N := by omega
   rw [HTK.out i (Nat.le_refl _)] at hW
   have HW := hid hW
   obtain ⟨c0,_,_,c3⟩ := node_at (HAT.out wr hW.bel)
   clear hi hlt hW HTK HBX
   go_wp2_with fail
   clear c0 c3
   go_loopw [46] (fun v46 wr => ∃ j : Nat,j ≤ M ∧ v46 = .int .i64 (j : Int) ∧ WL w1 wr P (([1,(i : Int)] ++ (l.zip m).flatMap pairB) ++ (q.take j).flatMap ptrB)) (fun v _ => M - (intOf v).toNat)
   case atStart => exact ⟨0,by omega,rfl,HW.out.more (by simp)⟩
   case round =>
    clear HW
    obtain ⟨j,hj,rfl,hW⟩ := hrel
    by_cases hlt : j < M
    ·obtain ⟨x,hx⟩ : ∃ x,q[j]? = some x := ⟨_,List.getElem?_eq_getElem (by have := HM.out; omega)⟩
     obtain ⟨b1,o1,rfl,g1⟩ := HP.out j x hx
     have hix := index_ptr b1 o1 M cp j hlt
     have HRG := hid (range_below g1 (HBW.out _ hW.bel))
     have HNX := hid (flat_step ptrB q j x hx)
     have HLT := hid hlt
     have iI : (j : Int) < (M : Int) := by omega
     have i0 : (0 : Int) ≤ (j : Int) := by omega
     have SWC := hid (size_ptr x)
     have SWR := hid (size_ptrA x)
     have EW := hid (show (ptrRow zeroPtr).toArray.size = (ptrRow x).toArray.size by simp [ptrRow_length])
     have WO := hid (ptrRow_one x)
     have hzp := zero_ptr
     obtain ⟨ZA,hZA⟩ : ∃ ZA,(ptrRow zeroPtr).toArray = ZA := ⟨_,rfl⟩
     rw [hZA] at hzp EW
     have HPT := hid (fun W (hW : WL w1 W P (([1,(i : Int)] ++ (l.zip m).flatMap pairB) ++ (q.take j).flatMap ptrB)) => wl_ptr w1 W P _ x hW (by have := HBK.out j; have := HN9.out; have := HBT.out; simp only [List.length_append,List.length_cons,List.length_nil]; omega))
     have HW := hid hW
     clear hj hlt hx hW g1 hZA
     go_upto_region 17 with (first
      | (with_reducible refine wpList_load_mid (op := ⟨some 49,_,_,_,_,_⟩) rfl 43 _ rfl b1 (o1 + j * 34) rfl (ptrRow x) _ HRG.out Tryz.underlying43 rfl SWC.out ?_)
      | (with_reducible refine wpList_store_row (o := ⟨none,.store _ (.tmp 9) _,_,_,_,_⟩) rfl 43 _ _ rfl wr.heap.size (ptrRow x).toArray rfl rfl 43 ZA (heap_alloc_new wr _) SWR.out EW.out WO.out ?_))
     clear hix hzp
     obtain ⟨h7,hb7⟩ := new_row8 wr ZA (ptrRow x).toArray
     generalize World.setRow _ wr.heap.size _ = w7 at *
     have H7 := hid h7
     have HPT7 := hid (HPT.out w7 (HW.out.below hb7))
     clear h7 hb7 HPT HW HRG SWC EW WO
     generalize (ptrRow x).toArray = AR at *
     go_wp2_with (first
      | (with_reducible refine wpList_load_row (o := ⟨some 50,_,_,_,_,_⟩) rfl 43 _ rfl wr.heap.size rfl 43 AR (0,0) _ H7.out Tryz.underlying43 rfl SWR.out ?_))
     refine HPT7.out.mono ?_
     rintro e w8 ⟨rfl,h8⟩
     have H8 := hid h8
     clear h8 HPT7 H7
     go_wp2_with fail
     go_roundw
     case rel => exact ⟨j + 1,by have := HLT.out; omega,by go_num,H8.out.more (by rw [HNX.out,List.append_assoc])⟩
     case measure => simp [intOf]; have := HLT.out; omega
    ·obtain rfl : j = M := by omega
     rw [HTP.out j (Nat.le_refl _)] at hW
     have hW' := hW.more (m := (1 :: (i : Int) :: (l.zip m).flatMap pairB)) (by rw [HQ0.out]; simp)
     have HPD := hid (wl_pad w1 wr P _ 512 hW' (by have := HNB.out; omega))
     rw [show padW ((1 :: (i : Int) :: (l.zip m).flatMap pairB)).length 512 = (List.replicate (512 - ((1 :: (i : Int) :: (l.zip m).flatMap pairB)).length) 0,0) by unfold padW; rw [if_neg (by have := HNB.out; omega)]; rfl] at HPD
     clear hj hlt hW hW'
     go_wp2_with fail
     refine HPD.out.mono ?_
     rintro e w9 ⟨rfl,h9⟩
     rw [← HSEC.out] at h9
     have HBY := hid (wl_bytes w1 w9 P _ h9 (by rw [show (secB9 ⟨true,l,m,q⟩).length = 512 by rw [HSEC.out,List.length_append,List.length_replicate]; have := HNB.out; omega]; decide))
     rw [show (secB9 ⟨true,l,m,q⟩).length = 512 by rw [HSEC.out,List.length_append,List.length_replicate]; have := HNB.out; omega] at HBY
     have H9 := hid h9
     clear h9 HPD
     go_wp2_with fail
     refine HBY.out.mono ?_
     rintro e w10 ⟨a,c,rfl,hc,hbs,hwl,hb10⟩
     have HF := hid (And.intro hc (And.intro hbs (HBW.out _ hwl.bel)))
     clear hc hbs hwl hb10 HBY H9
     go_wp2_with fail
     go_ret2
     exact ⟨a,c,rfl,HF.out.1,HF.out.2.1,HF.out.2.2⟩
set_option maxRecDepth 100000 in
set_option maxHeartbeats 3200000 in
theorem nput_false (k v p : Value) (l m : List ByteArray) (q : List PtrV) (w : World) (h : NR w k v p ⟨false,l,m,q⟩) (hn : NB ⟨false,l,m,q⟩) (hc : checkN ⟨false,l,m,q⟩ = 0) :
 Calls Tryz.prog 49 #[.agg #[.bool false,k,v,p]] w fun e w' => ∃ a c,e = .returned (.tuple #[.slice a 512 c,.int .i64 0]) ∧ 512 ≤ c ∧ BS w' (.slice a 512 c) (secB9 ⟨false,l,m,q⟩) ∧ Below w.heap.size w w' := by
 obtain ⟨hf,hz⟩ := check_ok hc
 have hlen := nodeB_length hf
 have h255 := check_255 hc
 obtain ⟨_,h11⟩ := check_few hc
 have hcn := form_counts hf
 have HCK := hid (fun W (b : Below w.heap.size w W) => ncheck_any k v p ⟨false,l,m,q⟩ W (h.below b) hn)
 have HKD := hid (fun W => nkind_any k v p false W)
 rw [hc] at HCK
 obtain ⟨ak,ck,rfl,_,hk⟩ := h.ks
 obtain ⟨av,cv,rfl,_,hv⟩ := h.vs
 obtain ⟨ap,cp,rfl,hp⟩ := h.ps
 obtain ⟨hcl,hq0,_⟩ := counts_branch rfl hcn
 dsimp only at hcl hq0
 clear hcl hq0
 have hsec : secB9 ⟨false,l,m,q⟩ = (2 :: (l.length : Int) :: (l.flatMap keyB9 ++ q.flatMap ptrB)) ++ List.replicate (512 - ((2 :: (l.length : Int) :: (l.flatMap keyB9 ++ q.flatMap ptrB))).length) 0 := rfl
 have hnb : ((2 :: (l.length : Int) :: (l.flatMap keyB9 ++ q.flatMap ptrB))).length ≤ 512 := by have e : nodeB ⟨false,l,m,q⟩ = (2 :: (l.length : Int) :: (l.flatMap keyB9 ++ q.flatMap ptrB)) := rfl; rw [← e,hlen]; exact hz
 have hkz := hn.kz
 have hvz := hn.vz
 dsimp only at *
 have HK := hid hk
 have HV := hid hv
 have HP := hid hp
 have HSEC := hid hsec
 have HNB := hid hnb
 have HKZ := hid hkz
 have HVZ := hid hvz
 have HBX := hid (fun i => show ((l.take i).flatMap keyB9).length ≤ i * 512 from Nat.le_trans (flat_length _ 512 _ (fun x _ => Nat.le_trans (keyB9_length x) (by decide))) (Nat.mul_le_mul_right _ (by rw [List.length_take]; omega)))
 have HBK := hid (fun i => show ((q.take i).flatMap ptrB).length ≤ i * 44 from Nat.le_trans (flat_length _ 44 _ (fun x _ => by rw [ptrB_length]; exact Nat.le_refl _)) (Nat.mul_le_mul_right _ (by rw [List.length_take]; omega)))
 have HBT := hid (show (l.flatMap keyB9).length ≤ 512 by have := hnb; simp only [List.length_cons,List.length_append] at this; omega)
 have HTK := hid (show ∀ i,l.length ≤ i → (l.take i).flatMap keyB9 = l.flatMap keyB9 from fun i hi => by rw [List.take_of_length_le (by first | exact hi | (simp; omega))])
 have HTP := hid (show ∀ i,q.length ≤ i → (q.take i).flatMap ptrB = q.flatMap ptrB from fun i hi => by rw [List.take_of_length_le hi])
 clear h hn hc hf hz hlen hcn hk hv hp hsec hnb hkz hvz
 obtain ⟨N,hN⟩ : ∃ N,l.length = N := ⟨_,rfl⟩
 obtain ⟨V,hV⟩ : ∃ V,m.length = V := ⟨_,rfl⟩
 obtain ⟨M,hM⟩ : ∃ M,q.length = M := ⟨_,rfl⟩
 have HN := hid hN
 have HVL := hid hV
 have HM := hid hM
 rw [hN] at HCK HKD h255 HTK HSEC HNB ⊢
 rw [hV] at HCK HKD ⊢
 rw [hM] at HCK HKD h11 HTP ⊢
 have NI : (N : Int) ≤ 255 := by omega
 have N0 : (0 : Int) ≤ (N : Int) := by omega
 have MI : (M : Int) ≤ 11 := by omega
 have M0 : (0 : Int) ≤ (M : Int) := by omega
 have HN9 := hid (And.intro h255 h11)
 clear hN hV hM h255 h11
 have hb1 := (Below.refl w.heap.size w).alloc (Nat.le_refl _) (.cells #[.bool false,.slice ak N ck,.slice av V cv,.slice ap M cp] 38)
 have hA1 := heap_alloc_new w (.cells #[.bool false,.slice ak N ck,.slice av V cv,.slice ap M cp] 38)
 have SE := hid (size_node false (.slice ak N ck) (.slice av V cv) (.slice ap M cp))
 have hs1 : (w.alloc (.cells #[.bool false,.slice ak N ck,.slice av V cv,.slice ap M cp] 38)).heap.size = w.heap.size + 1 := by simp
 generalize hw1 : w.alloc (.cells #[.bool false,.slice ak N ck,.slice av V cv,.slice ap M cp] 38) = w1 at *
 have HAT := hid (fun W (b : Below w1.heap.size w1 W) => (b.block w.heap.size (by omega)).trans hA1)
 have HBW := hid (show ∀ W,Below w1.heap.size w1 W → Below w.heap.size w W from fun W b => hb1.trans (b.mono (by omega)))
 have HB1 := hid hb1
 have HA1 := hid hA1
 have HS1 := hid hs1
 clear hb1 hA1 hs1
 go_enter Tryz.func49,Tryz.ntmps49
 go_upto_region 1 with fail
 try rw [hw1]
 clear hw1
 go_wp2_with (first
  | (with_reducible refine wpList_load_row (o := ⟨some 10,_,_,_,_,_⟩) rfl 38 _ rfl w.heap.size rfl 38 #[.bool false,.slice ak N ck,.slice av V cv,.slice ap M cp] (0,0) _ HA1.out Tryz.underlying38 rfl SE.out ?_))
 refine (HCK.out w1 HB1.out).mono ?_
 rintro e w2 ⟨rfl,hb2⟩
 have HWL := hid (wl_new (w0 := w1) (w1 := w2) hb2)
 have HB2 := hid hb2
 obtain ⟨P,hP⟩ : ∃ P,w2.heap.size = P := ⟨_,rfl⟩
 have HA2 := hid (HAT.out _ HWL.out.bel)
 have hz := zero_writer
 clear hb2 HA1 HCK
 rw [hP] at HWL
 go_upto_region 5 with fail
 try simp only [hP]
 generalize hw3 : w2.alloc _ = w3 at *
 clear hP hw3 hz
 go_wp2_with (first
  | (with_reducible refine wpList_load_row (o := ⟨some 15,_,_,_,_,_⟩) rfl 38 _ rfl w.heap.size rfl 38 #[.bool false,.slice ak N ck,.slice av V cv,.slice ap M cp] (0,0) _ HA2.out Tryz.underlying38 rfl SE.out ?_))
 refine (HKD.out _).mono ?_
 rintro e w4 ⟨rfl,hb4⟩
 have HW4 := hid (wl_num w1 w4 P [] 2 1 (HWL.out.below hb4) (by decide) (by simp))
 rw [show numW 2 1 = ([2],0) by decide] at HW4
 clear hb4 HWL HA2 HKD
 try simp only [Bool.false_eq_true,if_false]
 go_wp2_with fail
 refine HW4.out.mono ?_
 rintro e w5 ⟨rfl,h5⟩
 have HW5 := hid (wl_num w1 w5 P _ (N : Int) 1 h5 (by omega) (by simp))
 rw [show numW (N : Int) 1 = ([(N : Int)],0) from numW_one N (by have := HN9.out; omega)] at HW5
 have c1 := (node_at (HAT.out w5 h5.bel)).2.1
 have x1 : IntKind.u64.wrap (N : Int) = (N : Int) := IntWalk.u64_in _ (by omega)
 clear h5 HW4
 go_wp2_with fail
 refine HW5.out.mono ?_
 rintro e w6 ⟨rfl,h6⟩
 have HW6 := hid h6
 have c1' := (node_at (HAT.out w6 h6.bel)).2.1
 clear h6 HW5 c1 x1
 go_wp2_with fail
 clear c1'
 go_loopw [6,7,27] (fun _ _ v27 wr => ∃ i : Nat,i ≤ N ∧ v27 = .int .i64 (i : Int) ∧ WL w1 wr P ([2,(N : Int)] ++ (l.take i).flatMap keyB9)) (fun _ _ v _ => N - (intOf v).toNat)
 case atStart => exact ⟨0,by omega,rfl,HW6.out.more (by simp)⟩
 case round =>
  clear HW6
  obtain ⟨i,hi,rfl,hW⟩ := hrel
  by_cases hlt : i < N
  ·obtain ⟨x,hx⟩ : ∃ x,l[i]? = some x := ⟨_,List.getElem?_eq_getElem (by have := HN.out; omega)⟩
   obtain ⟨b1,o1,rfl,g1⟩ := HK.out i x hx
   have hix := index_sl b1 o1 N ck i hlt
   have g1' := ((HBW.out _ hW.bel).cell (p := ⟨b1,o1 + i,none⟩) (block_lt_of_cell g1)).trans g1
   have HST := hid (wl_str w1 wr P _ x hW (HKZ.out x (List.mem_of_getElem? hx)) (by have := HBX.out i; have := HN9.out; simp only [List.length_append,List.length_cons,List.length_nil]; omega))
   have HNX := hid (show (l.take (i + 1)).flatMap keyB9 = (l.take i).flatMap keyB9 ++ (strW x).1 from flat_step keyB9 l i x hx)
   have HLT := hid hlt
   have iI : (i : Int) < (N : Int) := by omega
   have i0 : (0 : Int) ≤ (i : Int) := by omega
   clear hi hlt hx hW g1
   go_wp2_with fail
   refine HST.out.mono ?_
   rintro e w7 ⟨rfl,h7⟩
   obtain ⟨c0,_,_,_⟩ := node_at (HAT.out w7 h7.bel)
   have H7 := hid h7
   clear h7 HST hix
   go_wp2_with fail
   go_roundw
   case rel => exact ⟨i + 1,by have := HLT.out; omega,by go_num,H7.out.more (by rw [HNX.out,List.append_assoc])⟩
   case measure => simp [intOf]; have := HLT.out; omega
  ·obtain rfl : i = N := by omega
   rw [HTK.out i (Nat.le_refl _)] at hW
   have HW := hid hW
   obtain ⟨c0,_,_,c3⟩ := node_at (HAT.out wr hW.bel)
   clear hi hlt hW HTK HBX
   go_wp2_with fail
   clear c0 c3
   go_loopw [46] (fun v46 wr => ∃ j : Nat,j ≤ M ∧ v46 = .int .i64 (j : Int) ∧ WL w1 wr P (([2,(i : Int)] ++ l.flatMap keyB9) ++ (q.take j).flatMap ptrB)) (fun v _ => M - (intOf v).toNat)
   case atStart => exact ⟨0,by omega,rfl,HW.out.more (by simp)⟩
   case round =>
    clear HW
    obtain ⟨j,hj,rfl,hW⟩ := hrel
    by_cases hlt : j < M
    ·obtain ⟨x,hx⟩ : ∃ x,q[j]? = some x := ⟨_,List.getElem?_eq_getElem (by have := HM.out; omega)⟩
     obtain ⟨b1,o1,rfl,g1⟩ := HP.out j x hx
     have hix := index_ptr b1 o1 M cp j hlt
     have HRG := hid (range_below g1 (HBW.out _ hW.bel))
     have HNX := hid (flat_step ptrB q j x hx)
     have HLT := hid hlt
     have iI : (j : Int) < (M : Int) := by omega
     have i0 : (0 : Int) ≤ (j : Int) := by omega
     have SWC := hid (size_ptr x)
     have SWR := hid (size_ptrA x)
     have EW := hid (show (ptrRow zeroPtr).toArray.size = (ptrRow x).toArray.size by simp [ptrRow_length])
     have WO := hid (ptrRow_one x)
     have hzp := zero_ptr
     obtain ⟨ZA,hZA⟩ : ∃ ZA,(ptrRow zeroPtr).toArray = ZA := ⟨_,rfl⟩
     rw [hZA] at hzp EW
     have HPT := hid (fun W (hW : WL w1 W P (([2,(i : Int)] ++ l.flatMap keyB9) ++ (q.take j).flatMap ptrB)) => wl_ptr w1 W P _ x hW (by have := HBK.out j; have := HN9.out; have := HBT.out; simp only [List.length_append,List.length_cons,List.length_nil]; omega))
     have HW := hid hW
     clear hj hlt hx hW g1 hZA
     go_upto_region 17 with (first
      | (with_reducible refine wpList_load_mid (op := ⟨some 49,_,_,_,_,_⟩) rfl 43 _ rfl b1 (o1 + j * 34) rfl (ptrRow x) _ HRG.out Tryz.underlying43 rfl SWC.out ?_)
      | (with_reducible refine wpList_store_row (o := ⟨none,.store _ (.tmp 9) _,_,_,_,_⟩) rfl 43 _ _ rfl wr.heap.size (ptrRow x).toArray rfl rfl 43 ZA (heap_alloc_new wr _) SWR.out EW.out WO.out ?_))
     clear hix hzp
     obtain ⟨h7,hb7⟩ := new_row8 wr ZA (ptrRow x).toArray
     generalize World.setRow _ wr.heap.size _ = w7 at *
     have H7 := hid h7
     have HPT7 := hid (HPT.out w7 (HW.out.below hb7))
     clear h7 hb7 HPT HW HRG SWC EW WO
     generalize (ptrRow x).toArray = AR at *
     go_wp2_with (first
      | (with_reducible refine wpList_load_row (o := ⟨some 50,_,_,_,_,_⟩) rfl 43 _ rfl wr.heap.size rfl 43 AR (0,0) _ H7.out Tryz.underlying43 rfl SWR.out ?_))
     refine HPT7.out.mono ?_
     rintro e w8 ⟨rfl,h8⟩
     have H8 := hid h8
     clear h8 HPT7 H7
     go_wp2_with fail
     go_roundw
     case rel => exact ⟨j + 1,by have := HLT.out; omega,by go_num,H8.out.more (by rw [HNX.out,List.append_assoc])⟩
     case measure => simp [intOf]; have := HLT.out; omega
    ·obtain rfl : j = M := by omega
     rw [HTP.out j (Nat.le_refl _)] at hW
     have hW' := hW.more (m := (2 :: (i : Int) :: (l.flatMap keyB9 ++ q.flatMap ptrB))) (by simp)
     have HPD := hid (wl_pad w1 wr P _ 512 hW' (by have := HNB.out; omega))
     rw [show padW ((2 :: (i : Int) :: (l.flatMap keyB9 ++ q.flatMap ptrB))).length 512 = (List.replicate (512 - ((2 :: (i : Int) :: (l.flatMap keyB9 ++ q.flatMap ptrB))).length) 0,0) by unfold padW; rw [if_neg (by have := HNB.out; omega)]; rfl] at HPD
     clear hj hlt hW hW'
     go_wp2_with fail
     refine HPD.out.mono ?_
     rintro e w9 ⟨rfl,h9⟩
     rw [← HSEC.out] at h9
     have HBY := hid (wl_bytes w1 w9 P _ h9 (by rw [show (secB9 ⟨false,l,m,q⟩).length = 512 by rw [HSEC.out,List.length_append,List.length_replicate]; have := HNB.out; omega]; decide))
     rw [show (secB9 ⟨false,l,m,q⟩).length = 512 by rw [HSEC.out,List.length_append,List.length_replicate]; have := HNB.out; omega] at HBY
     have H9 := hid h9
     clear h9 HPD
     go_wp2_with fail
     refine HBY.out.mono ?_
     rintro e w10 ⟨a,c,rfl,hc,hbs,hwl,hb10⟩
     have HF := hid (And.intro hc (And.intro hbs (HBW.out _ hwl.bel)))
     clear hc hbs hwl hb10 HBY H9
     go_wp2_with fail
     go_ret2
     exact ⟨a,c,rfl,HF.out.1,HF.out.2.1,HF.out.2.2⟩
theorem nput_any (k v p : Value) (n : NodeV) (w : World) (h : NR w k v p n) (hn : NB n) (hc : checkN n = 0) :
 Calls Tryz.prog 49 #[.agg #[.bool n.lf,k,v,p]] w fun e w' => ∃ a c,e = .returned (.tuple #[.slice a 512 c,.int .i64 0]) ∧ 512 ≤ c ∧ BS w' (.slice a 512 c) (secB9 n) ∧ Below w.heap.size w w' := by
 obtain ⟨lf,l,m,q⟩ := n
 cases lf with
 | true => exact nput_true k v p l m q w h hn hc
 | false => exact nput_false k v p l m q w h hn hc
set_option maxRecDepth 100000 in
set_option maxHeartbeats 1600000 in
theorem nput_bad (k v p : Value) (n : NodeV) (w : World) (h : NR w k v p n) (hn : NB n) (hc : checkN n ≠ 0) :
 Calls Tryz.prog 49 #[.agg #[.bool n.lf,k,v,p]] w fun e w' => e = .returned (.tuple #[.slice none 0 0,.int .i64 (checkN n)]) ∧ Below w.heap.size w w' := by
 have hb1 := (Below.refl w.heap.size w).alloc (Nat.le_refl _) (.cells #[.bool n.lf,k,v,p] 38)
 have HA1 := hid (heap_alloc_new w (.cells #[.bool n.lf,k,v,p] 38))
 have HF := hid (ncheck_any k v p n _ (h.below hb1) hn)
 have HB1 := hid hb1
 have SE := hid (size_node n.lf k v p)
 have hd : (checkN n == 0) = false := by simpa using hc
 clear h hn hb1 hc
 generalize checkN n = ce at *
 generalize n.lf = lf at *
 go_enter Tryz.func49,Tryz.ntmps49
 go_wp2_with (first
  | (with_reducible refine wpList_load_row (o := ⟨some 10,_,_,_,_,_⟩) rfl 38 _ rfl w.heap.size rfl 38 #[.bool lf,k,v,p] (0,0) _ HA1.out Tryz.underlying38 rfl SE.out ?_))
 refine HF.out.mono ?_
 rintro e w3 ⟨rfl,hb3⟩
 have HB3 := hid (HB1.out.trans (hb3.mono HB1.out.size))
 clear hb3 HF HB1 HA1
 go_wp2_with fail
 go_ret2
 exact ⟨rfl,HB3.out⟩
end
section
set_option maxRecDepth 4000
set_option linter.unusedVariables false
open Go.ChangeShapes Go.WideShapes Go.ChangeAt Go.RowKit
end
section
set_option maxRecDepth 4000
set_option linter.unusedVariables false
open Go.ChangeShapes Go.WideShapes Go.ChangeAt Go.RowKit
theorem wrap_in (x : Int) (h0 : -9223372036854775808 ≤ x) (h1 : x ≤ 9223372036854775807) : wrap64 x = x := by
 have e := IntWalk.i64_in x (by omega)
 rw [IntKind.wrap_i64] at e
 unfold wrap64
 exact e
theorem ps_row {w : World} {g : Nat} {l : List PtrV} (c : Nat) (h : w.heap[g]? = some (.cells (rowsP l).toArray 43 (0,0))) : PS w (.slice (some ⟨g,0,none⟩) l.length c) l := by
 refine ⟨_,c,rfl,fun i q hq => ⟨g,0,rfl,fun j u hj => ?_⟩⟩
 have hj34 : j < 34 := by have := (List.getElem?_eq_some_iff.1 hj).1; rwa [ptrRow_length] at this
 have e := rowsP_at l i q hq j hj34
 rw [Nat.zero_add,cell_of_row _ _ _ _ _ _ h,List.getElem?_toArray,e,hj]
end
end Go.Proofs.YtgckapolpifbkaaGreatDoor
