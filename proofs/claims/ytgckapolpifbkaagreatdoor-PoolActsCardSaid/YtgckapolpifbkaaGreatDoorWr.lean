import Derived.Test.YtgckapolpifbkaaGreatDoorWq
namespace Go.Proofs.YtgckapolpifbkaaGreatDoor
set_option maxRecDepth 4000
set_option linter.unusedVariables false
open Go.ChangeShapes Go.WideShapes Go.ChangeAt Go.RowKit
def LIE (w : World) (n : Nat) (V : List (BitVec 8)) (ws : List (Nat × List (BitVec 8))) (B : Nat → Blk) : Prop :=
 ∀ a,2 ≤ a → a < n → B a = zeroBlk ∨ ∃ b : Nat,b ≠ 0 ∧ b < 18446744073709551616 ∧ (B a).1 = ptrQ keyE b a (B a).2.1 ∧ checkN (B a).2.1 = 0 ∧ NR w (B a).2.2.1 (B a).2.2.2.1 (B a).2.2.2.2 (B a).2.1 ∧ readM V ws a = sealQ keyE b a (B a).2.1
def WOK (n : Nat) (ws : List (Nat × List (BitVec 8))) : Prop := ∀ p ∈ ws,p.1 < n ∧ p.2.length = 512
theorem lie_start (w : World) (n : Nat) (V : List (BitVec 8)) (ws : List (Nat × List (BitVec 8))) : LIE w n V ws (fun _ => zeroBlk) := fun _ _ _ => .inl rfl
theorem LIE.below {w w' : World} {n : Nat} {V : List (BitVec 8)} {ws : List (Nat × List (BitVec 8))} {B : Nat → Blk} (h : LIE w n V ws B) (q : Below w.heap.size w w') : LIE w' n V ws B := fun a h1 h2 => by
 rcases h a h1 h2 with h | ⟨b,c1,c2,c3,c4,c5,c6⟩
 ·exact .inl h
 ·exact .inr ⟨b,c1,c2,c3,c4,c5.below q,c6⟩
theorem readM_len {n : Nat} {V : List (BitVec 8)} (hV : V.length = n * 512) (a : Nat) (ha : a < n) : ∀ (k : Nat) (ws : List (Nat × List (BitVec 8))),ws.length = k → WOK n ws → (readM V ws a).length = 512
 | 0,ws,hk,_ => by
   rw [List.eq_nil_of_length_eq_zero hk]
   show (secY V a).length = 512
   unfold secY
   simp
   omega
 | k + 1,ws,hk,h => by
   obtain ⟨m,p,rfl⟩ := list_snoc ws (fun e => by rw [e] at hk; simp at hk)
   rw [readM_more]
   by_cases e : p.1 = a
   ·rw [if_pos e]; exact (h p (by simp)).2
   ·rw [if_neg e]; exact readM_len hV a ha k m (by simpa using hk) (fun p hp => h p (List.mem_append_left _ hp))
theorem LIE.crash {w : World} {n : Nat} {V : List (BitVec 8)} {ws : List (Nat × List (BitVec 8))} {B : Nat → Blk} (h : LIE w n V ws B) (hV : V.length = n * 512) (hw : WOK n ws) : LIE w n (crashM 18446744073709551615 (-1) V ws ws.length) [] B := fun a h1 h2 => by
 rcases h a h1 h2 with h | ⟨b,c1,c2,c3,c4,c5,c6⟩
 ·exact .inl h
 ·refine .inr ⟨b,c1,c2,c3,c4,c5, ?_⟩
  rw [crash_all V ws _ (Nat.le_refl _),List.take_length]
  exact (flush_read n a V hV _ ws rfl hw).trans c6
theorem LIE.write {w : World} {n : Nat} {V : List (BitVec 8)} {ws : List (Nat × List (BitVec 8))} {B : Nat → Blk} (h : LIE w n V ws B) (a b : Nat) (e : ENode) (hb0 : b ≠ 0) (hb : b < 18446744073709551616) (hc : checkN e.1 = 0) (hn : NR w e.2.1 e.2.2.1 e.2.2.2 e.1) :
 LIE w n V (ws ++ [(a,sealQ keyE b a e.1)]) (fun j => if j = a then (ptrQ keyE b a e.1,e) else B j) := fun j h1 h2 => by
 by_cases q : j = a
 ·subst q
  refine .inr ⟨b,hb0,hb, ?_⟩
  dsimp only
  rw [if_pos rfl]
  exact ⟨rfl,hc,hn,by rw [readM_more,if_pos rfl]⟩
 ·rcases h j h1 h2 with h | ⟨b',c1,c2,c3,c4,c5,c6⟩
  ·exact .inl (by dsimp only; rw [if_neg q]; exact h)
  ·refine .inr ⟨b',c1,c2, ?_⟩
   dsimp only
   rw [if_neg q]
   exact ⟨c3,c4,c5,by rw [readM_more,if_neg (fun e => q e.symm)]; exact c6⟩
theorem WOK.write {n : Nat} {ws : List (Nat × List (BitVec 8))} (h : WOK n ws) (a b : Nat) (nd : NodeV) (ha : a < n) (hc : checkN nd = 0) : WOK n (ws ++ [(a,sealQ keyE b a nd)]) := fun p hp => by
 rcases List.mem_append.1 hp with hp | hp
 ·exact h p hp
 ·rw [List.mem_singleton] at hp
  subst hp
  exact ⟨ha,sealQ_length hc⟩
theorem blk_one {w : World} {n : Nat} {V : List (BitVec 8)} {ws : List (Nat × List (BitVec 8))} {B : Nat → Blk} (h : LIE w n V ws B) (a : Nat) (h1 : 2 ≤ a) (h2 : a < n) : (blkRow (B a)).toArray.all (·.oneCell') = true := by
 rcases h a h1 h2 with h | ⟨b,_,_,_,_,hn,_⟩
 ·rw [h]
  apply all_oneCell_toArray
  intro v hv
  rcases List.mem_append.1 hv with hv | hv
  ·exact Array.all_eq_true_iff_forall_mem.1 (ptrRow_one zeroPtr) v (by simpa [zeroBlk] using hv)
  ·simp only [zeroBlk,zeroE,nrow,List.mem_cons,List.not_mem_nil,or_false] at hv
   rcases hv with rfl | rfl | rfl | rfl <;> rfl
 ·apply all_oneCell_toArray
  intro v hv
  rcases List.mem_append.1 hv with hv | hv
  ·exact Array.all_eq_true_iff_forall_mem.1 (ptrRow_one (B a).1) v (by simpa using hv)
  ·exact Array.all_eq_true_iff_forall_mem.1 (nr_one hn (B a).2.1.lf) v (by simpa [nrow] using hv)
theorem reads13 {w0 w : World} {P D gl n b : Nat} {V : List (BitVec 8)} {F F' : Nat → Bool} {ws : List (Nat × List (BitVec 8))} {lim : Int} {dn : Bool} {L : List RowE} {M : List Nat} {R MS G Mb c b' : Nat} {B : Nat → Blk}
 (h : QL w0 w P D gl n (keyE ++ macE) F b V ws lim dn L M) (hr : R13 w R MS G Mb n c F' b' B) (hl : LIE w n V ws B) (hw : WOK n ws) (q : PtrV) :
 Calls Tryz.prog 17 #[.pointer (some ⟨P,0,none⟩),.pointer (some ⟨D,0,none⟩),.pointer (some ⟨R,0,none⟩),.int .i64 (n : Int),.agg (ptrRow q).toArray] w fun e w' => e = .returned (.bool true) ∧ Below w.heap.size w w' := by
 have hz : NB zeroNode ∧ zeroNode.ps.length ≤ 1000000 := ⟨nb_zero,by decide⟩
 by_cases h0 : q.ad = 0
 ·exact reads13_null h hr q zeroNode (by unfold readQ; rw [if_pos (.inl h0)]) hz rfl h0
 by_cases hc : checkE q n = 0
 case neg => exact reads13_bad h hr q zeroNode (by unfold readQ; rw [if_pos (.inr hc)]) hz rfl h0 hc
 cases dn with
 | true => exact reads13_down h hr q zeroNode (by unfold readQ; rw [if_neg (by simp [h0,hc]),if_pos rfl]) hz rfl h0 hc
 | false =>
   obtain ⟨a,hqa,ha2,han,_⟩ := may_lt h0 hc
   have hone := blk_one hl a ha2 han
   have hlen := readM_len h.len a han _ ws rfl hw
   have hat : readM V ws q.ad.toNat = readM V ws a := by rw [hqa,Int.toNat_natCast]
   have hn4 : n ≤ 4294967295 := by have := h.pl.sp.hi; omega
   have hsplit : ∀ r : Int,r ≠ 0 → (readQ keyE n q V ws false).2 = r → readQ keyE n q V ws false = (zeroNode,r) := fun r hr0 hr1 => by
    rcases readQ_node keyE n q V ws false with ⟨h1,_⟩ | ⟨_,h1⟩
    ·omega
    ·exact Prod.ext h1 hr1
   have hzero : ∀ nd r,readQ keyE n q V ws false = (nd,r) → NB nd ∧ nd.ps.length ≤ 1000000 := fun nd r e => by
    have := readQ_nb keyE n q V ws false
    rwa [e] at this
   by_cases hpq : (B a).1 = q
   ·rcases hl a ha2 han with hz0 | ⟨b1,c1,c2,c3,c4,c5,c6⟩
    ·exact absurd (by rw [← hpq,hz0]; rfl) h0
    ·have hrq : readQ keyE n q V ws false = ((B a).2.1,0) := by
      rw [← hpq,c3]
      exact readQ_wrote (kk := keyE) (b := b1) (a := a) (n := n) (nd := (B a).2.1) c4 ha2 han (by omega) c2 c1 c6
     exact reads13_same h hr q _ hrq (hzero _ _ hrq) a hqa han h0 hc hone hpq rfl c5
   ·by_cases had : (B a).1.ad = (a : Int)
    ·by_cases hsu : (B a).1.su = q.su
     ·rcases hl a ha2 han with hz0 | ⟨b1,c1,c2,c3,c4,c5,c6⟩
      ·rw [hz0] at had
       exact absurd had (by show ¬ (0 : Int) = (a : Int); omega)
      ·obtain ⟨_,_,g3⟩ := ptrQ_parts (kk := keyE) (b := b1) (a := a) (nd := (B a).2.1) (by omega) c2
       have hf := readQ_fits13 (kk := keyE) (n := n) (V := V) (ws := ws) h0 hc (by rw [hat]; exact hlen) (by rw [hat,c6,← hsu,c3,g3])
       rcases hf with hf | hf
       ·exact reads13_born0 h hr q _ (Prod.ext rfl hf) (readQ_nb _ _ _ _ _ _) a hqa han h0 hc hone hpq had hsu
       ·exact reads13_born4 h hr q zeroNode (hsplit 4 (by decide) hf) hz rfl a hqa han h0 hc hone hpq had hsu
     ·by_cases hh : hashS ((readM V ws a).map yv) = q.su
      ·rcases readQ_fits13 (kk := keyE) (n := n) (V := V) (ws := ws) h0 hc (by rw [hat]; exact hlen) (by rw [hat]; exact hh) with hf | hf
       ·exact reads13_su0 h hr q _ (Prod.ext rfl hf) (readQ_nb _ _ _ _ _ _) a hqa han h0 hc hone hpq had hsu hh
       ·exact reads13_su4 h hr q zeroNode (hsplit 4 (by decide) hf) hz rfl a hqa han h0 hc hone hpq had hsu hh
      ·exact reads13_su5 h hr q zeroNode (readQ_sum h0 hc (by rw [hat]; exact hlen) (by rw [hat]; exact hh)) hz rfl a hqa han h0 hc hone hpq had hsu
    ·by_cases hh : hashS ((readM V ws a).map yv) = q.su
     ·rcases readQ_fits13 (kk := keyE) (n := n) (V := V) (ws := ws) h0 hc (by rw [hat]; exact hlen) (by rw [hat]; exact hh) with hf | hf
      ·exact reads13_ad0 h hr q _ (Prod.ext rfl hf) (readQ_nb _ _ _ _ _ _) a hqa han h0 hc hone hpq had hh
      ·exact reads13_ad4 h hr q zeroNode (hsplit 4 (by decide) hf) hz rfl a hqa han h0 hc hone hpq had hh
     ·exact reads13_ad5 h hr q zeroNode (readQ_sum h0 hc (by rw [hat]; exact hlen) (by rw [hat]; exact hh)) hz rfl a hqa han h0 hc hone hpq had
end Go.Proofs.YtgckapolpifbkaaGreatDoor
