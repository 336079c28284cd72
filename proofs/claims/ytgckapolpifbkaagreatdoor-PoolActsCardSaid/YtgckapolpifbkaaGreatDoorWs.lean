import Derived.Test.YtgckapolpifbkaaGreatDoorWr
namespace Go.Proofs.YtgckapolpifbkaaGreatDoor
set_option maxRecDepth 4000
set_option linter.unusedVariables false
open Go.ChangeShapes Go.WideShapes Go.ChangeAt Go.RowKit
structure AS (w0 W : World) (P D gl n : Nat) (F : Nat → Bool) (b : Nat) (V : List (BitVec 8)) (ws : List (Nat × List (BitVec 8))) (lim : Int) (dn : Bool) (L : List RowE) (R MS G Mb c : Nat) (F2 : Nat → Bool) (b2 : Nat) (B : Nat → Blk) (v : Value) (m : Nat) (X : List PtrV) : Prop where
 q : ∃ M,QL w0 W P D gl n (keyE ++ macE) F b V ws lim dn L M ∧ (∀ k ∈ [R,MS,G,Mb],k ∈ M) ∧ ∀ g,v.ownBlock = some g → g ∈ M
 r : R13 W R MS G Mb n c F2 b2 B
 a : W.ownsRow w0.heap.size 43 34 v m (rowsP X)
 nl : ∀ r ∈ L,r.1 ∉ [R,MS,G,Mb] ∧ v.ownBlock ≠ some r.1
 nw : ∀ k ∈ [R,MS,G,Mb],w0.heap.size ≤ k
section
variable {w0 W W' : World} {P D gl n b : Nat} {V : List (BitVec 8)} {F : Nat → Bool} {ws : List (Nat × List (BitVec 8))} {lim : Int} {dn : Bool} {L : List RowE} {R MS G Mb c b2 : Nat} {F2 : Nat → Bool} {B : Nat → Blk} {v : Value} {m : Nat} {X : List PtrV}
theorem AS.bel (h : AS w0 W P D gl n F b V ws lim dn L R MS G Mb c F2 b2 B v m X) : Below w0.heap.size w0 W := by
 obtain ⟨M,hq,_⟩ := h.q
 exact hq.bel
theorem AS.row (h : AS w0 W P D gl n F b V ws lim dn L R MS G Mb c F2 b2 B v m X) (i : Nat) (r : RowE) (hr : L[i]? = some r) : W.heap[r.1]? = some (.cells r.2.1 r.2.2 (0,0)) := by
 obtain ⟨M,hq,_⟩ := h.q
 exact hq.row i r hr
theorem AS.apart (h : AS w0 W P D gl n F b V ws lim dn L R MS G Mb c F2 b2 B v m X) : ∀ g,v.ownBlock = some g → g ∉ [R,MS,G,Mb] := by
 intro g hg hm
 obtain ⟨c1,e1⟩ := own_type h.a hg
 simp only [List.mem_cons,List.not_mem_nil,or_false] at hm
 have ht : ∀ (cs : Array Value) (t : TypeId) (fr : Nat × Nat),W.heap[g]? = some (.cells cs t fr) → t = 43 := fun cs t fr e2 => by
  rw [e1] at e2
  injection e2 with e2
  injection e2 with _ e2
  exact e2.symm
 rcases hm with rfl | rfl | rfl | rfl
 ·exact absurd (ht _ _ _ h.r.cell) (by decide)
 ·exact absurd (ht _ _ _ h.r.sp.cell) (by decide)
 ·exact absurd (ht _ _ _ h.r.sp.row) (by decide)
 ·obtain ⟨Dm,⟨es,clock,hb,_⟩,_⟩ := h.r.mp.map
  rw [hb] at e1
  injection e1 with e1
  injection e1
theorem AS.below (h : AS w0 W P D gl n F b V ws lim dn L R MS G Mb c F2 b2 B v m X) (q : Below W.heap.size W W') : AS w0 W' P D gl n F b V ws lim dn L R MS G Mb c F2 b2 B v m X := by
 obtain ⟨M,hq,m1,m2⟩ := h.q
 exact ⟨⟨M,hq.below q,m1,m2⟩,h.r.below q,own_belowP h.a q,h.nl,h.nw⟩
theorem AS.fresh (h : AS w0 W P D gl n F b V ws lim dn L R MS G Mb c F2 b2 B v m X) (o1 c1 : Array Value) (T1 : TypeId) : ∀ W',W' = (W.alloc (.cells o1 T1)).setRow W.heap.size c1 → AS w0 W' P D gl n F b V ws lim dn ((W.heap.size,c1,T1) :: L) R MS G Mb c F2 b2 B v m X := fun W' hW => by
 obtain ⟨M,hq,m1,m2⟩ := h.q
 have hb := (fresh13 W o1 c1 T1 W' hW).2
 refine ⟨⟨M,hq.fresh o1 c1 T1 W' hW,m1,m2⟩,h.r.below hb,own_belowP h.a hb,fun r hr => ?_,h.nw⟩
 rcases List.mem_cons.1 hr with rfl | hr
 ·refine ⟨fun e => ?_,fun e => absurd (h.a.lt _ e).2 (Nat.lt_irrefl _)⟩
  have h1 := h.r.lt
  have h2 := h.r.sp.ltM
  have h3 := h.r.sp.ltG
  have h4 := h.r.mp.lt
  simp only [List.mem_cons,List.not_mem_nil,or_false] at e
  omega
 ·exact h.nl r hr
theorem AS.less {L' : List RowE} (h : AS w0 W P D gl n F b V ws lim dn L R MS G Mb c F2 b2 B v m X) (hL : ∀ r ∈ L',r ∈ L) : AS w0 W P D gl n F b V ws lim dn L' R MS G Mb c F2 b2 B v m X := by
 obtain ⟨M,hq,m1,m2⟩ := h.q
 exact ⟨⟨M,hq.less hL (fun k hk => hk),m1,m2⟩,h.r,h.a,fun r hr => h.nl r (hL r hr),h.nw⟩
theorem R13.stay (h : R13 W R MS G Mb n c F2 b2 B) (q : ∀ k ∈ [R,MS,G,Mb],W'.heap[k]? = W.heap[k]?) : R13 W' R MS G Mb n c F2 b2 B :=
 ⟨(q R (by simp)).trans h.cell,⟨(q MS (by simp)).trans h.sp.cell,(q G (by simp)).trans h.sp.row,h.sp.lo,h.sp.hi⟩,h.mp.move (q Mb (by simp))⟩
theorem AS.calls {fn : FuncId} {args : Array Value} {F' : Nat → Bool} {b' : Nat} {V' : List (BitVec 8)} {ws' : List (Nat × List (BitVec 8))} {lim' : Int} {dn' : Bool} {A : Ending → Prop} (h : AS w0 W P D gl n F b V ws lim dn L R MS G Mb c F2 b2 B v m X)
 (k : ∀ M,QL w0 W P D gl n (keyE ++ macE) F b V ws lim dn L M → Calls Tryz.prog fn args W fun e w' => A e ∧ QL w0 w' P D gl n (keyE ++ macE) F' b' V' ws' lim' dn' L M ∧ Stay M W w') :
 Calls Tryz.prog fn args W fun e w' => A e ∧ AS w0 w' P D gl n F' b' V' ws' lim' dn' L R MS G Mb c F2 b2 B v m X := by
 obtain ⟨M,hq,m1,m2⟩ := h.q
 refine (k M hq).mono ?_
 rintro e w' ⟨he,hq',hs⟩
 exact ⟨he,⟨M,hq',m1,m2⟩,h.r.stay (fun k hk => hs k (m1 k hk)),own_stay h.a (fun g hg => hs g (m2 g hg)),h.nl,h.nw⟩
theorem AS.callsP {fn : FuncId} {args : Array Value} {F' : Nat → Bool} {b' : Nat} {V' : List (BitVec 8)} {ws' : List (Nat × List (BitVec 8))} {lim' : Int} {dn' : Bool} {A : Ending → Prop} (h : AS w0 W P D gl n F b V ws lim dn L R MS G Mb c F2 b2 B v m X)
 (k : ∀ M,QL w0 W P D gl n (keyE ++ macE) F b V ws lim dn L M → Calls Tryz.prog fn args W fun e w' => A e ∧ QL w0 w' P D gl n (keyE ++ macE) F' b' V' ws' lim' dn' L M ∧ Touch [P] W w') :
 Calls Tryz.prog fn args W fun e w' => A e ∧ AS w0 w' P D gl n F' b' V' ws' lim' dn' L R MS G Mb c F2 b2 B v m X := by
 refine h.calls fun M hq => (k M hq).mono ?_
 rintro e w' ⟨he,hq',ht⟩
 have hlt : ∀ k ∈ M,k < W.heap.size := by
  obtain ⟨_,_,_,_,a3,_⟩ := hq.po
  exact fun k hk => a3 k (List.mem_cons_of_mem _ (List.mem_append_right _ hk))
 exact ⟨he,hq',fun k hk => ht.block k (hlt k hk) (fun e => hq.mne (by rw [List.mem_singleton] at e; exact e ▸ hk))⟩
theorem AS.ref {l : List Nat} {c' b2' : Nat} {F2' : Nat → Bool} {B' : Nat → Blk} (h : AS w0 W P D gl n F b V ws lim dn L R MS G Mb c F2 b2 B v m X) (t : Touch l W W') (hl : ∀ k ∈ l,k ∈ [R,MS,G,Mb]) (hr : R13 W' R MS G Mb n c' F2' b2' B') : AS w0 W' P D gl n F b V ws lim dn L R MS G Mb c' F2' b2' B' v m X := by
 obtain ⟨M,hq,m1,m2⟩ := h.q
 exact ⟨⟨M,hq.touchM t (fun k hk => ⟨m1 k (hl k hk),h.nw k (hl k hk)⟩) (fun r hr e => (h.nl r hr).1 (hl _ e)),m1,m2⟩,hr,own_touch h.a t (fun g hg e => h.apart g hg (hl g e)),h.nl,h.nw⟩
theorem AS.refG {l : List Nat} {G' : Nat} {F2' : Nat → Bool} (h : AS w0 W P D gl n F b V ws lim dn L R MS G Mb c F2 b2 B v m X) (t : Touch l W W') (hl : ∀ k ∈ l,k ∈ [R,MS,G,Mb]) (hr : R13 W' R MS G' Mb n c F2' b2 B) (hG : G' = G ∨ W.heap.size ≤ G') : AS w0 W' P D gl n F b V ws lim dn L R MS G' Mb c F2' b2 B v m X := by
 rcases hG with rfl | hG
 ·exact h.ref t hl hr
 ·obtain ⟨M,hq,m1,m2⟩ := h.q
  have h1 := h.r.lt
  have h2 := h.r.sp.ltM
  have h4 := h.r.mp.lt
  have hs := h.bel.size
  refine ⟨⟨G' :: M,hq.growM t (fun k hk => ⟨m1 k (hl k hk),h.nw k (hl k hk)⟩) (fun r hr e => (h.nl r hr).1 (hl _ e)) G' hG hr.sp.ltG,fun k hk => ?_,fun g hg => List.mem_cons_of_mem _ (m2 g hg)⟩,hr,own_touch h.a t (fun g hg e => h.apart g hg (hl g e)),fun r hm => ⟨fun e => ?_,(h.nl r hm).2⟩,fun k hk => ?_⟩
  ·simp only [List.mem_cons,List.not_mem_nil,or_false] at hk ⊢
   rcases hk with rfl | rfl | rfl | rfl
   ·exact .inr (m1 _ (by simp))
   ·exact .inr (m1 _ (by simp))
   ·exact .inl rfl
   ·exact .inr (m1 _ (by simp))
  ·have hlt := lt_of_block (hq.rows r hm).1
   have hn := (h.nl r hm).1
   simp only [List.mem_cons,List.not_mem_nil,or_false] at e hn
   omega
  ·simp only [List.mem_cons,List.not_mem_nil,or_false] at hk
   rcases hk with rfl | rfl | rfl | rfl
   ·exact h.nw _ (by simp)
   ·exact h.nw _ (by simp)
   ·omega
   ·exact h.nw _ (by simp)
theorem AS.app (h : AS w0 W P D gl n F b V ws lim dn L R MS G Mb c F2 b2 B v m X) (p : PtrV) (A : Array Value) (hA : (ptrRow p).toArray = A) (hm : m ≤ 1000000) :
 ∃ a k W',(Builtin.append_ #[35,35] 35 #[v,.slice (some ⟨W.heap.size,0,none⟩) 1 1]).run Tryz.prog (W.alloc (.cells A 43)) = .ok (.slice a (m + 1) k) W' ∧ AS w0 W' P D gl n F b V ws lim dn L R MS G Mb c F2 b2 B (.slice a (m + 1) k) (m + 1) (X ++ [p]) := by
 subst hA
 have hb := (Below.refl W.heap.size W).alloc (Nat.le_refl _) (.cells (ptrRow p).toArray 43)
 have h' := h.below hb
 obtain ⟨M,hq,m1,m2⟩ := h'.q
 obtain ⟨a,k,W',hr,ho,hg,hnb⟩ := append_one (P := Tryz.prog) Tryz.underlying35 info_ptr (by simp [ptrRow_length]) (by decide) h'.a W.heap.size (ptrRow p) (heap_alloc_new W _) (ptrRow_length p) (fun u hu => Array.all_eq_true_iff_forall_mem.1 (ptrRow_one p) u (by simpa using hu)) hm (by decide) hq.bel.size
 have ht := Touch.grown hg
 obtain ⟨M',hq',hs,hn⟩ := hq.grown13 ht (fun g e => ⟨m2 g e,(h'.a.lt g e).1⟩) (fun r hr => (h'.nl r hr).2) (o' := (Value.slice a (m + 1) k).ownBlock) (hnb.imp id (fun e => ⟨_,e,Nat.le_refl _,(ho.lt _ e).2⟩))
 have hap : ∀ k ∈ [R,MS,G,Mb],k ∉ v.ownBlock.toList := fun k hk e => h'.apart k (by simpa using e) hk
 refine ⟨a,k,W',hr,⟨M',hq',fun k hk => hs k (m1 k hk),hn⟩,h'.r.touch ht (hap _ (by simp)) (hap _ (by simp)) (hap _ (by simp)) (hap _ (by simp)),by rw [rowsP_snoc]; exact ho,fun r hm => ⟨(h'.nl r hm).1,fun e => ?_⟩,h.nw⟩
 rcases hnb with e2 | e2
 ·exact (h'.nl r hm).2 (e2.symm.trans e)
 ·rw [e] at e2
  have := lt_of_block (hq.rows r hm).1
  injection e2 with e2
  omega
theorem AS.at (h : AS w0 W P D gl n F b V ws lim dn L R MS G Mb c F2 b2 B v m X) (i : Nat) (hn : i < m) : ∃ g k p,v = .slice (some ⟨g,0,none⟩) m k ∧ W.rangeAt g (i * 34) (ptrRow p) := by
 rcases h.a.2 with ⟨_,h0⟩ | ⟨g,k,_,hv,_⟩
 ·omega
 ·have hl : i < X.length := by
   have := h.a.1
   rw [rowsP_length] at this
   omega
  refine ⟨g,k,X[i],hv,fun j v hj => ?_⟩
  have hlj : j < 34 := by have := (List.getElem?_eq_some_iff.1 hj).1; rwa [ptrRow_length] at this
  have hc := h.a.cells (g := g) (by rw [hv]; rfl) (i * 34 + j) v (by rw [rowsP_at X i X[i] (List.getElem?_eq_getElem hl) j hlj]; exact hj)
  rw [Addr.add_mid,Nat.zero_add] at hc
  exact hc
theorem AS.reads (h : AS w0 W P D gl n F b V ws lim dn L R MS G Mb c F2 b2 B v m X) (hl : LIE w0 n V ws B) (hw : WOK n ws) (q : PtrV) :
 Calls Tryz.prog 17 #[.pointer (some ⟨P,0,none⟩),.pointer (some ⟨D,0,none⟩),.pointer (some ⟨R,0,none⟩),.int .i64 (n : Int),.agg (ptrRow q).toArray] W fun e w' => e = .returned (.bool true) ∧ AS w0 w' P D gl n F b V ws lim dn L R MS G Mb c F2 b2 B v m X := by
 obtain ⟨M,hq,_⟩ := h.q
 exact (reads13 hq h.r (hl.below hq.bel) hw q).mono fun e w' ⟨he,hb⟩ => ⟨he,h.below hb⟩
theorem R13.setb (h : R13 W R MS G Mb n c F2 b2 B) (x : Nat) : R13 (W.setCell ⟨R,2,none⟩ (.int .u64 (x : Int))) R MS G Mb n c F2 x B ∧ Touch [R] W (W.setCell ⟨R,2,none⟩ (.int .u64 (x : Int))) := by
 have ht := touch_set W R 2 (.int .u64 (x : Int))
 have hne := h.apart
 refine ⟨⟨?_,h.sp.touch ht (by simpa using Ne.symm hne.1) (by simpa using Ne.symm hne.2.1),h.mp.move (ht.block Mb h.mp.lt (by simpa using Ne.symm hne.2.2.1))⟩,ht⟩
 rw [heap_setCell_same W R 2 _ _ _ h.cell]
 rfl
end
theorem QL.addMs {w0 w w' : World} {P D gl n b : Nat} {ks V : List (BitVec 8)} {F : Nat → Bool} {ws : List (Nat × List (BitVec 8))} {lim : Int} {dn : Bool} {L : List RowE} {M : List Nat} (h : QL w0 w P D gl n ks F b V ws lim dn L M) (q : Below w.heap.size w w') (N : List Nat) (hN : ∀ k ∈ N,w.heap.size ≤ k ∧ k < w'.heap.size) : QL w0 w' P D gl n ks F b V ws lim dn L (N ++ M) := by
 have hb := h.below q
 have hp := h.pl.lt
 obtain ⟨bm,vw,a1,a2,a3,a4⟩ := h.po
 refine ⟨⟨bm,vw,a1.below q,fun g hg => ⟨(a2 g hg).1,fun e => ?_⟩,fun k hk => ?_,a4.trans (q.mono a4.size)⟩,hb.pl,hb.pn,hb.kt,hb.tz,hb.rows,fun e => ?_⟩
 ·have h3 := a1.lt g hg
  simp only [List.mem_cons,List.mem_append] at e
  rcases e with e | e | e | e
  ·exact (a2 g hg).2 (by simp [e])
  ·exact (a2 g hg).2 (List.mem_cons_of_mem _ (List.mem_append_left _ e))
  ·have := (hN g e).1
   omega
  ·exact (a2 g hg).2 (List.mem_cons_of_mem _ (List.mem_append_right _ e))
 ·have hs := q.size
  simp only [List.mem_cons,List.mem_append] at hk
  rcases hk with e | e | e | e
  ·subst e; omega
  ·exact Nat.lt_of_lt_of_le (a3 k (List.mem_cons_of_mem _ (List.mem_append_left _ e))) hs
  ·exact (hN k e).2
  ·exact Nat.lt_of_lt_of_le (a3 k (List.mem_cons_of_mem _ (List.mem_append_right _ e))) hs
 ·rcases List.mem_append.1 e with e | e
  ·have := (hN P e).1
   omega
  ·exact h.mne e
section
variable {w0 W : World} {P D gl n b : Nat} {V : List (BitVec 8)} {F : Nat → Bool} {ws : List (Nat × List (BitVec 8))} {lim : Int} {dn : Bool} {L : List RowE} {R MS G Mb c b2 : Nat} {F2 : Nat → Bool} {B : Nat → Blk} {v : Value} {m : Nat} {X : List PtrV}
theorem AS.takenP (k : Nat) (h : AS w0 W P D gl n F b V ws lim dn L R MS G Mb c F2 b2 B v m X) (hk : (tkn F n).length = k) :
 Calls Tryz.prog 27 #[.pointer (some ⟨P,0,none⟩)] W fun e w' => ∃ a c,e = .returned (.slice a k c) ∧ US w' a k c (tkn F n) ∧ Below W.heap.size W w' := by
 obtain ⟨M,hq,_⟩ := h.q
 subst hk
 refine (ql_taken hq).mono ?_
 rintro e w' ⟨a,c,he,ho,hb⟩
 exact ⟨a,c,he,us_own ho (fun y hy => by have := ((tkn_mem F y n).1 hy).1; have := hq.pl.sp.hi; omega) rfl,hb⟩
theorem AS.takenR (k : Nat) (h : AS w0 W P D gl n F b V ws lim dn L R MS G Mb c F2 b2 B v m X) (hk : (tkn F2 n).length = k) :
 Calls Tryz.prog 28 #[.pointer (some ⟨MS,0,none⟩)] W fun e w' => ∃ a c,e = .returned (.slice a k c) ∧ US w' a k c (tkn F2 n) ∧ Below W.heap.size W w' := by
 subst hk
 refine (rtaken11_any MS G n F2 W h.r.sp).mono ?_
 rintro e w' ⟨a,c,he,ho,hb⟩
 exact ⟨a,c,he,us_own ho (fun y hy => by have := ((tkn_mem F2 y n).1 hy).1; have := h.r.sp.hi; omega) rfl,hb⟩
theorem AS.left (h : AS w0 W P D gl n F b V ws lim dn L R MS G Mb c F2 b2 B v m X) :
 Calls Tryz.prog 29 #[.pointer (some ⟨P,0,none⟩)] W fun e w' => e = .returned (.int .i64 (cnt F n : Nat)) ∧ w' = W := by
 obtain ⟨M,hq,_⟩ := h.q
 exact ql_left hq
theorem AS.own (h : AS w0 W P D gl n F b V ws lim dn L R MS G Mb c F2 b2 B v m X) : ∀ a,F a = true → 2 ≤ a ∧ a < n := by
 obtain ⟨M,hq,_⟩ := h.q
 exact hq.pl.sp.own
theorem AS.count (h : AS w0 W P D gl n F b V ws lim dn L R MS G Mb c F2 b2 B v m X) : cnt F n + (tkn F n).length + 2 = n := by
 have := tkn_count F (fun y hy => (h.own y hy).1) n (by have := h.r.sp.lo; omega)
 have := h.r.sp.lo
 omega
end
theorem AS.upd {w0 W W' : World} {P D gl n b : Nat} {V : List (BitVec 8)} {F : Nat → Bool} {ws : List (Nat × List (BitVec 8))} {lim : Int} {dn : Bool} {L : List RowE} {R MS G Mb c b2 : Nat} {F2 : Nat → Bool} {B : Nat → Blk} {v : Value} {m : Nat} {X : List PtrV} {x : Nat} {A A' : Array Value} {Y : TypeId}
 (h : AS w0 W P D gl n F b V ws lim dn ((x,A,Y) :: L) R MS G Mb c F2 b2 B v m X) (t : Touch [x] W W') (hR : W'.heap[x]? = some (.cells A' Y (0,0))) (hne : ∀ r ∈ L,r.1 ≠ x) : AS w0 W' P D gl n F b V ws lim dn ((x,A',Y) :: L) R MS G Mb c F2 b2 B v m X := by
 obtain ⟨M,hq,m1,m2⟩ := h.q
 have hx := h.nl (x,A,Y) (List.mem_cons_self ..)
 have hap : ∀ k ∈ [R,MS,G,Mb],k ∉ [x] := fun k hk e => by
  rw [List.mem_singleton] at e
  subst e
  exact hx.1 hk
 refine ⟨⟨M,hq.upd t hR hne,m1,m2⟩,h.r.touch t (hap _ (by simp)) (hap _ (by simp)) (hap _ (by simp)) (hap _ (by simp)),own_touch h.a t (fun g hg e => ?_),fun r hr => ?_,h.nw⟩
 ·rw [List.mem_singleton] at e
  subst e
  exact hx.2 hg
 ·rcases List.mem_cons.1 hr with rfl | hr
  ·exact hx
  ·exact h.nl r (List.mem_cons_of_mem _ hr)
theorem built_blk (parts : List (Nat × Value)) : Tryz.prog.built 67 parts = Instr.fill (#[(0,34),(34,4)][·]?) (blkRow zeroBlk).toArray parts := by kernel_rfl
theorem fill_blk (p : PtrV) (e : ENode) : Instr.fill (#[(0,34),(34,4)][·]?) (blkRow zeroBlk).toArray [(0,.agg (ptrRow p).toArray),(1,.agg (nrow e).toArray)] = some (blkRow (p,e)).toArray := by
 have hl := ptrRow_length p
 have hz := ptrRow_length zeroPtr
 have hn : ∀ e : ENode,(nrow e).length = 4 := fun _ => rfl
 rw [fill_cons _ (blkRow zeroBlk).toArray (ptrRow p ++ nrow zeroE).toArray (ptrRow p).toArray (.agg (ptrRow p).toArray) 0 0 34 _ rfl rfl (by simp [hl]) (by simp [hl,blkRow_length]) (fun i => by
     by_cases h : i < 34
     ·rw [if_pos ⟨Nat.zero_le _,by simp [hl]; exact h⟩,List.getElem?_toArray,List.getElem?_append_left (by omega),List.getElem?_toArray,Nat.sub_zero]
     ·rw [if_neg (by simp [hl]; omega),List.getElem?_toArray,List.getElem?_append_right (by omega),List.getElem?_toArray,blkRow,List.getElem?_append_right (by show (ptrRow zeroPtr).length ≤ i; omega)]
      show (nrow zeroE)[i - (ptrRow p).length]? = (nrow zeroE)[i - (ptrRow zeroPtr).length]?
      rw [hl,hz]),
  fill_cons _ (ptrRow p ++ nrow zeroE).toArray (blkRow (p,e)).toArray (nrow e).toArray (.agg (nrow e).toArray) 1 34 4 _ rfl rfl rfl (by simp [hl,hn]) (fun i => by
   by_cases h : i < 34
   ·rw [if_neg (by omega),List.getElem?_toArray,List.getElem?_toArray,blkRow,List.getElem?_append_left (by show i < (ptrRow p).length; omega),List.getElem?_append_left (by omega)]
   ·by_cases h2 : i < 38
    ·rw [if_pos ⟨by omega,by simp [hn]; omega⟩,List.getElem?_toArray,blkRow,List.getElem?_append_right (by show (ptrRow p).length ≤ i; omega),List.getElem?_toArray]
     show (nrow e)[i - (ptrRow p).length]? = (nrow e)[i - 34]?
     rw [hl]
    ·rw [if_neg (by simp [hn]; omega),List.getElem?_toArray,List.getElem?_toArray,List.getElem?_eq_none (by rw [blkRow_length]; omega),List.getElem?_eq_none (by simp [hl,hn]; omega)])]
 rfl
theorem build_blk (p : PtrV) (e : ENode) (W : World) : (Instr.build 67 #[(0,.agg (ptrRow p).toArray),(1,.agg (nrow e).toArray)]).run Tryz.prog W = .ok (.agg (blkRow (p,e)).toArray) W :=
 run_build W 67 _ _ (by rw [built_blk]; exact fill_blk p e)
end Go.Proofs.YtgckapolpifbkaaGreatDoor
