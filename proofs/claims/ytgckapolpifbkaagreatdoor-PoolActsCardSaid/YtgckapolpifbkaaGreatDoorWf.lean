import Derived.Test.YtgckapolpifbkaaGreatDoorWe
import Derived.Test.YtgckapolpifbkaaGreatDoorLb
namespace Go.Proofs.YtgckapolpifbkaaGreatDoor
set_option maxRecDepth 4000
set_option linter.unusedVariables false
open Go.ChangeShapes Go.WideShapes Go.ChangeAt Go.RowKit
abbrev RowE := Nat × Array Value × TypeId
structure QL (w0 w : World) (P D gl n : Nat) (ks : List (BitVec 8)) (F : Nat → Bool) (b : Nat) (V : List (BitVec 8)) (ws : List (Nat × List (BitVec 8))) (lim : Int) (dn : Bool) (L : List RowE) (M : List Nat) : Prop where
 po : PO w0 w (P :: (L.map (·.1) ++ M)) D gl n V ws lim dn
 pl : PL w P D n ks F b
 pn : w0.heap.size ≤ P
 kt : KT w0
 tz : TZ w0
 rows : ∀ r ∈ L,w.heap[r.1]? = some (.cells r.2.1 r.2.2 (0,0)) ∧ r.1 ≠ P ∧ w0.heap.size ≤ r.1
 mne : P ∉ M
section
variable {w0 w w' : World} {P D gl n b : Nat} {ks V : List (BitVec 8)} {F : Nat → Bool} {ws : List (Nat × List (BitVec 8))} {lim : Int} {dn : Bool} {L : List RowE} {M : List Nat}
theorem QL.bel (h : QL w0 w P D gl n ks F b V ws lim dn L M) : Below w0.heap.size w0 w := h.po.bel
theorem QL.ktn (h : QL w0 w P D gl n ks F b V ws lim dn L M) : KT w := h.kt.below h.bel h.kt.pos
theorem QL.tzn (h : QL w0 w P D gl n ks F b V ws lim dn L M) : TZ w := h.tz.below h.bel
theorem QL.nek (h : QL w0 w P D gl n ks F b V ws lim dn L M) : P ≠ 0 := by
 have := h.kt.pos
 have := h.pn
 omega
theorem QL.below (h : QL w0 w P D gl n ks F b V ws lim dn L M) (q : Below w.heap.size w w') : QL w0 w' P D gl n ks F b V ws lim dn L M :=
 ⟨h.po.below q,h.pl.below q,h.pn,h.kt,h.tz,fun r hr => ⟨(q.block _ (lt_of_block (h.rows r hr).1)).trans (h.rows r hr).1,(h.rows r hr).2⟩,h.mne⟩
theorem QL.len (h : QL w0 w P D gl n ks F b V ws lim dn L M) : V.length = n * 512 := h.po.len
theorem QL.row (h : QL w0 w P D gl n ks F b V ws lim dn L M) (i : Nat) (r : RowE) (hr : L[i]? = some r) : w.heap[r.1]? = some (.cells r.2.1 r.2.2 (0,0)) := (h.rows r (List.mem_of_getElem? hr)).1
theorem QL.add (h : QL w0 w P D gl n ks F b V ws lim dn L M) (q : Below w.heap.size w w') (X : Nat) (R : Array Value) (T : TypeId) (hX : w.heap.size ≤ X) (hR : w'.heap[X]? = some (.cells R T (0,0))) : QL w0 w' P D gl n ks F b V ws lim dn ((X,R,T) :: L) M := by
 have h2 := h.below q
 have hp := h.pl.lt
 have hs := h.bel.size
 refine ⟨?_,h2.pl,h.pn,h.kt,h.tz,fun r hr => ?_,h.mne⟩
 ·have hq := h.po.add q X hX (lt_of_block hR)
  obtain ⟨bm,vw,a1,a2,a3,a4⟩ := hq
  refine ⟨bm,vw,a1,fun g hg => ⟨(a2 g hg).1,fun hm => (a2 g hg).2 ?_⟩,fun k hk => a3 k ?_,a4⟩
  ·simp only [List.map_cons,List.cons_append,List.mem_cons] at hm ⊢
   rcases hm with h1 | h1 | h1
   ·exact .inr (.inl h1)
   ·exact .inl h1
   ·exact .inr (.inr h1)
  ·simp only [List.map_cons,List.cons_append,List.mem_cons] at hk ⊢
   rcases hk with h1 | h1 | h1
   ·exact .inr (.inl h1)
   ·exact .inl h1
   ·exact .inr (.inr h1)
 ·rcases List.mem_cons.1 hr with rfl | hr
  ·exact ⟨hR,by show X ≠ P; omega,by show w0.heap.size ≤ X; omega⟩
  ·exact h2.rows r hr
theorem QL.pool {F' : Nat → Bool} {b' : Nat} (h : QL w0 w P D gl n ks F b V ws lim dn L M) (t : Touch [P] w w') (hp : PL w' P D n ks F' b') : QL w0 w' P D gl n ks F' b' V ws lim dn L M :=
 ⟨h.po.touch t (fun k hk => by simp only [List.mem_singleton] at hk; subst hk; exact ⟨List.mem_cons_self ..,h.pn⟩),hp,h.pn,h.kt,h.tz,fun r hr => ⟨(t.block _ (lt_of_block (h.rows r hr).1) (by simpa using (h.rows r hr).2.1)).trans (h.rows r hr).1,(h.rows r hr).2⟩,h.mne⟩
theorem QL.dev {bm bm' : Nat} {vw vw' : Value} {V' : List (BitVec 8)} {ws' : List (Nat × List (BitVec 8))} {lim' : Int} {dn' : Bool} {F' : Nat → Bool} {b' : Nat}
 (h : QL w0 w P D gl n ks F b V ws lim dn L M) (hd : PD w D gl bm n vw V ws lim dn) (hf : ∀ g ∈ pfp D gl bm vw,w0.heap.size ≤ g ∧ g ∉ P :: (L.map (·.1) ++ M))
 (hd' : PD w' D gl bm' n vw' V' ws' lim' dn') (hp' : PL w' P D n ks F' b') (t : Touch (P :: pfp D gl bm vw) w w') (hn : ∀ g ∈ pfp D gl bm' vw',g ∈ pfp D gl bm vw ∨ w.heap.size ≤ g) :
 QL w0 w' P D gl n ks F' b' V' ws' lim' dn' L M ∧ Stay M w w' := by
 have hlt : ∀ k ∈ P :: (L.map (·.1) ++ M),k < w.heap.size := by obtain ⟨_,_,_,_,a3,_⟩ := h.po; exact a3
 have hst : ∀ k ∈ L.map (·.1) ++ M,k ≠ P → w'.heap[k]? = w.heap[k]? := fun k hk hne => t.block k (hlt k (List.mem_cons_of_mem _ hk)) (fun e => by
  rcases List.mem_cons.1 e with e | e
  ·exact hne e
  ·exact (hf k e).2 (List.mem_cons_of_mem _ hk))
 have hb := h.bel
 refine ⟨⟨⟨bm',vw',hd',fun g hg => ?_,fun k hk => Nat.lt_of_lt_of_le (hlt k hk) t.size,hb.trans (t.below hb.size (fun k hk => ?_))⟩,hp',h.pn,h.kt,h.tz,fun r hr => ⟨(hst _ (List.mem_append_left _ (List.mem_map_of_mem hr)) (h.rows r hr).2.1).trans (h.rows r hr).1,(h.rows r hr).2⟩,h.mne⟩,fun k hk => hst k (List.mem_append_right _ hk) (fun e => h.mne (e ▸ hk))⟩
 ·rcases hn g hg with h1 | h1
  ·exact hf g h1
  ·exact ⟨Nat.le_trans hb.size h1,fun hm => by have := hlt g hm; omega⟩
 ·rcases List.mem_cons.1 hk with rfl | hk
  ·exact h.pn
  ·exact (hf k hk).1
end
section
variable {w0 w : World} {P D gl n b : Nat} {ks V : List (BitVec 8)} {F : Nat → Bool} {ws : List (Nat × List (BitVec 8))} {lim : Int} {dn : Bool} {L : List RowE} {M : List Nat}
theorem pfp_new {D gl bm : Nat} {vw vw' : Value} {s : Nat} (h : ∀ g,vw'.ownBlock = some g → vw.ownBlock = some g ∨ s ≤ g) : ∀ g ∈ pfp D gl bm vw',g ∈ pfp D gl bm vw ∨ s ≤ g := by
 intro g hg
 simp only [pfp,List.mem_cons,Option.mem_toList] at hg ⊢
 rcases hg with h1 | h1 | h1 | h1
 ·exact .inl (.inl h1)
 ·exact .inl (.inr (.inl h1))
 ·exact .inl (.inr (.inr (.inl h1)))
 ·rcases h g h1 with h2 | h2
  ·exact .inl (.inr (.inr (.inr h2)))
  ·exact .inr h2
theorem ql_begin (x : Nat) (h : QL w0 w P D gl n ks F b V ws lim dn L M) :
 Calls Tryz.prog 14 #[.pointer (some ⟨P,0,none⟩),.int .u64 (x : Int)] w fun e w' => e = .returned (.int .i64 (if x = 0 then 2 else 0)) ∧ QL w0 w' P D gl n ks F (if x = 0 then b else x) V ws lim dn L M ∧ Touch [P] w w' :=
 (pbegin_any P D n b x ks F w h.pl).mono fun e w' ⟨he,hp,ht⟩ => ⟨he,h.pool ht hp,ht⟩
theorem ql_keep (len cap : Nat) (a : Option Addr) (l : List Nat) (h : QL w0 w P D gl n ks F b V ws lim dn L M) (hl : US w a len cap l) (hlen : len ≤ 100000000) (ok : Bool) (hok : ok = true ↔ allIn n l) :
 Calls Tryz.prog 15 #[.pointer (some ⟨P,0,none⟩),.slice a len cap] w fun e w' => e = .returned (.int .i64 (setA n F l ok).1) ∧ QL w0 w' P D gl n ks (setA n F l ok).2 b V ws lim dn L M ∧ Touch [P] w w' :=
 (pkeep_any P D n b len cap a ks F l w h.pl hl hlen ok hok).mono fun e w' ⟨he,hp,ht⟩ => ⟨he,h.pool ht hp,ht⟩
theorem ql_left (h : QL w0 w P D gl n ks F b V ws lim dn L M) :
 Calls Tryz.prog 29 #[.pointer (some ⟨P,0,none⟩)] w fun e w' => e = .returned (.int .i64 (cnt F n : Nat)) ∧ w' = w := ppleft_any P D n b ks F w h.pl
theorem ql_taken (h : QL w0 w P D gl n ks F b V ws lim dn L M) :
 Calls Tryz.prog 27 #[.pointer (some ⟨P,0,none⟩)] w fun e w' => ∃ a c,e = .returned (.slice a (tkn F n).length c) ∧ OU w' w.heap.size (.slice a (tkn F n).length c) (tkn F n) ∧ Below w.heap.size w w' := pptaken_any P D n b ks F w h.pl
theorem ql_wzero (k v p : Value) (nd : NodeV) (h : QL w0 w P D gl n ks F b V ws lim dn L M) (hn : NR w k v p nd) (hnb : NB nd) (hb0 : b = 0) :
 Calls Tryz.prog 21 #[.pointer (some ⟨P,0,none⟩),.agg #[.bool nd.lf,k,v,p]] w fun e w' => e = .returned (.tuple #[.agg (ptrRow zeroPtr).toArray,.int .i64 2]) ∧ Below w.heap.size w w' := pwr_zero P D n b ks F k v p nd w h.pl hn hnb hb0
theorem ql_wbad (k v p : Value) (nd : NodeV) (h : QL w0 w P D gl n ks F b V ws lim dn L M) (hn : NR w k v p nd) (hnb : NB nd) (hb0 : b ≠ 0) (hc : checkN nd ≠ 0) :
 Calls Tryz.prog 21 #[.pointer (some ⟨P,0,none⟩),.agg #[.bool nd.lf,k,v,p]] w fun e w' => e = .returned (.tuple #[.agg (ptrRow zeroPtr).toArray,.int .i64 (checkN nd)]) ∧ Below w.heap.size w w' := pwr_bad P D n b ks F k v p nd w h.pl hn hnb hb0 hc
theorem ql_wfull (k v p : Value) (nd : NodeV) (h : QL w0 w P D gl n ks F b V ws lim dn L M) (hn : NR w k v p nd) (hnb : NB nd) (hb0 : b ≠ 0) (hc : checkN nd = 0) (hF : ∀ a,F a = false) :
 Calls Tryz.prog 21 #[.pointer (some ⟨P,0,none⟩),.agg #[.bool nd.lf,k,v,p]] w fun e w' => e = .returned (.tuple #[.agg (ptrRow zeroPtr).toArray,.int .i64 6]) ∧ Below w.heap.size w w' := pwr_full P D n b ks F k v p nd w h.pl hn hnb hb0 hc hF
def sealQ (kk : List (BitVec 8)) (b a : Nat) (nd : NodeV) : List (BitVec 8) := sealS kk b a (secY9 nd)
def ptrQ (kk : List (BitVec 8)) (b a : Nat) (nd : NodeV) : PtrV := ptrOf12 b a ((sealQ kk b a nd).map yv)
theorem ql_wok (a : Nat) (kk m : List (BitVec 8)) (k v p : Value) (nd : NodeV) (h : QL w0 w P D gl n (kk ++ m) F b V ws lim dn L M) (hk : kk.length = 32) (hm : m.length = 32) (hn : NR w k v p nd) (hnb : NB nd) (hb : b < 18446744073709551616) (hb0 : b ≠ 0) (hc : checkN nd = 0) (hF : F a = true) (hlow : ∀ x,x < a → F x = false) (hws : ws.length ≤ 1000000) (hg : (goP lim dn).2 = false) :
 Calls Tryz.prog 21 #[.pointer (some ⟨P,0,none⟩),.agg #[.bool nd.lf,k,v,p]] w fun e w' => e = .returned (.tuple #[.agg (ptrRow (ptrQ kk b a nd)).toArray,.int .i64 0]) ∧ QL w0 w' P D gl n (kk ++ m) (updF F a false) b V (ws ++ [(a,sealQ kk b a nd)]) (goP lim dn).1 false L M ∧ Stay M w w' := by
 obtain ⟨bm,vw,hd,hf,a3,a4⟩ := h.po
 refine (pwr_some P D gl bm n b a vw V ws lim dn kk m F k v p nd w h.pl hd (fun e => (hf P e).2 (List.mem_cons_self ..)) h.ktn h.tzn h.nek hk hm hn hnb hb hb0 hc hF hlow hws).mono ?_
 rintro e w' (⟨hg',_⟩ | ⟨_,he,hp,vw',hd',ht,hn'⟩)
 ·rw [hg] at hg'; cases hg'
 ·exact ⟨he,h.dev hd hf hd' hp ht (pfp_new hn')⟩
theorem ql_wdown (a : Nat) (kk m : List (BitVec 8)) (k v p : Value) (nd : NodeV) (h : QL w0 w P D gl n (kk ++ m) F b V ws lim dn L M) (hk : kk.length = 32) (hm : m.length = 32) (hn : NR w k v p nd) (hnb : NB nd) (hb : b < 18446744073709551616) (hb0 : b ≠ 0) (hc : checkN nd = 0) (hF : F a = true) (hlow : ∀ x,x < a → F x = false) (hws : ws.length ≤ 1000000) (hg : (goP lim dn).2 = true) :
 Calls Tryz.prog 21 #[.pointer (some ⟨P,0,none⟩),.agg #[.bool nd.lf,k,v,p]] w fun e w' => e = .returned (.tuple #[.agg (ptrRow zeroPtr).toArray,.int .i64 7]) ∧ QL w0 w' P D gl n (kk ++ m) F b V ws (goP lim dn).1 true L M ∧ Stay M w w' := by
 obtain ⟨bm,vw,hd,hf,a3,a4⟩ := h.po
 refine (pwr_some P D gl bm n b a vw V ws lim dn kk m F k v p nd w h.pl hd (fun e => (hf P e).2 (List.mem_cons_self ..)) h.ktn h.tzn h.nek hk hm hn hnb hb hb0 hc hF hlow hws).mono ?_
 rintro e w' (⟨_,he,hd',hp,ht⟩ | ⟨hg',_⟩)
 ·exact ⟨he,h.dev hd hf hd' hp ht (fun g hg => .inl hg)⟩
 ·rw [hg] at hg'; cases hg'
def readQ (k : List (BitVec 8)) (n : Nat) (q : PtrV) (V : List (BitVec 8)) (ws : List (Nat × List (BitVec 8))) (dn : Bool) : NodeV × Int :=
 if q.ad = 0 ∨ checkE q n ≠ 0 then (zeroNode,2) else if dn = true then (zeroNode,7) else upR k q (readM V ws q.ad.toNat)
theorem ql_read (P' b' : Nat) (F' : Nat → Bool) (kk m : List (BitVec 8)) (q : PtrV) (h : QL w0 w P D gl n ks F b V ws lim dn L M) (hp : PL w P' D n (kk ++ m) F' b') (hk : kk.length = 32) (hm : m.length = 32) :
 Calls Tryz.prog 33 #[.pointer (some ⟨P',0,none⟩),.agg (ptrRow q).toArray] w fun e w' => ∃ k v p',e = .returned (.tuple #[.agg #[.bool (readQ kk n q V ws dn).1.lf,k,v,p'],.int .i64 (readQ kk n q V ws dn).2]) ∧ NR w' k v p' (readQ kk n q V ws dn).1 ∧ Below w.heap.size w w' := by
 obtain ⟨bm,vw,hd,hf,a3,a4⟩ := h.po
 unfold readQ
 by_cases h0 : q.ad = 0
 ·rw [if_pos (.inl h0)]
  exact (prd_null P' D gl bm n b' vw V ws lim dn (kk ++ m) F' q w hp hd h0).mono fun e w' ⟨he,hb⟩ => ⟨_,_,_,he,nr_zero _,hb⟩
 ·by_cases hc : checkE q n = 0
  ·rw [if_neg (by simp [h0,hc])]
   cases dn with
   | true =>
     rw [if_pos rfl]
     exact (prd_down P' D gl bm n b' vw V ws lim true (kk ++ m) F' q w hp hd h0 hc rfl).mono fun e w' ⟨he,hb⟩ => ⟨_,_,_,he,nr_zero _,hb⟩
   | false =>
     rw [if_neg (by simp)]
     have ha := q.a0
     exact prd_up P' D gl bm n b' vw V ws lim false (kk ++ m) F' q w hp hd kk m rfl hk hm h.ktn q.ad.toNat h0 hc rfl (by omega) _ rfl
  ·rw [if_pos (.inr hc)]
   exact (prd_bad P' D gl bm n b' vw V ws lim dn (kk ++ m) F' q w hp hd h0 hc).mono fun e w' ⟨he,hb⟩ => ⟨_,_,_,he,nr_zero _,hb⟩
theorem ql_limit (x : Int) (h : QL w0 w P D gl n ks F b V ws lim dn L M) (hx : x ≤ 9223372036854775807) :
 Calls Tryz.prog 18 #[.pointer (some ⟨D,0,none⟩),.int .i64 x] w fun e w' => e = .returned (.tuple #[]) ∧ QL w0 w' P D gl n ks F b V ws (if x < 0 then -1 else x) dn L M ∧ Stay M w w' := by
 obtain ⟨bm,vw,hd,hf,a3,a4⟩ := h.po
 refine (plimit_any D gl bm n vw V ws lim x dn w hd hx).mono ?_
 rintro e w' ⟨he,hd',ho⟩
 have hPD : P ≠ D := fun e => (hf D (by simp [pfp])).2 (by rw [e]; exact List.mem_cons_self ..)
 exact ⟨he,h.dev hd hf hd' (h.pl.keep (ho.rest _ hPD)) (touch_only ho (by simp [pfp])) (fun g hg => .inl hg)⟩
theorem ql_crash (keep : Nat) (torn : Int) (h : QL w0 w P D gl n ks F b V ws lim dn L M) (hws : ws.length ≤ 1000000) (hk : keep < 18446744073709551616) :
 Calls Tryz.prog 19 #[.pointer (some ⟨D,0,none⟩),.int .u64 (keep : Int),.int .i64 torn] w fun e w' => e = .returned (.tuple #[]) ∧ QL w0 w' P D gl n ks F b (crashM keep torn V ws ws.length) [] (-1) false L M ∧ Stay M w w' := by
 obtain ⟨bm,vw,hd,hf,a3,a4⟩ := h.po
 refine (pcrash_any D gl bm n keep torn vw V ws lim dn w hd hws hk).mono ?_
 rintro e w' ⟨he,bm',hd',ht,hn⟩
 have hne : ∀ g ∈ [D,gl],P ≠ g := fun g hg e => (hf g (by simp only [List.mem_cons,List.not_mem_nil,or_false] at hg; rcases hg with rfl | rfl <;> simp [pfp])).2 (by rw [← e]; exact List.mem_cons_self ..)
 exact ⟨he,h.dev hd hf hd' (h.pl.touch ht (fun hm => hne P hm rfl)) (ht.more (by intro k hk; simp only [List.mem_cons,List.not_mem_nil,or_false] at hk; rcases hk with rfl | rfl <;> simp [pfp])) (pfp_settled hn)⟩
theorem ql_dread (a : Nat) (h : QL w0 w P D gl n ks F b V ws lim false L M) (ha : a < n) :
 Calls Tryz.prog 24 #[.pointer (some ⟨D,0,none⟩),.int .u32 (a : Int)] w (Fresh6 w (readM V ws a)) := by
 obtain ⟨bm,vw,hd,hf,a3,a4⟩ := h.po
 exact pread_ok D gl bm n a vw V ws lim w hd ha
theorem ql_down (h : QL w0 w P D gl n ks F b V ws lim dn L M) :
 Calls Tryz.prog 23 #[.pointer (some ⟨D,0,none⟩)] w fun e w' => e = .returned (.bool dn) ∧ w' = w := by
 obtain ⟨bm,vw,hd,hf,a3,a4⟩ := h.po
 exact pdown_any D gl bm n vw V ws lim dn w hd
end
end Go.Proofs.YtgckapolpifbkaaGreatDoor
