import Derived.Test.YtgckapolpifbkaaGreatDoorLaid
import Derived.Stop.BytesEq
import Derived.Laws.IdiomStrings
namespace Go.Proofs.YtgckapolpifbkaaGreatDoor
section
set_option maxRecDepth 4000
open Go.RowKit
theorem Has.grown {w w' : World} {b g : Nat} {s : List Int} (h : Has w b s) (hg : w.grownBy w' (some g)) (hne : b ≠ g) : Has w' b s := by
 obtain ⟨st,rest,h1,h2⟩ := h
 exact ⟨st,rest,(hg.block b (lt_of_block h1) (fun e => hne (Option.some.inj e))).trans h1,h2⟩
theorem room_of (a : Option Addr) (n c : Nat) (h : n ≤ c) (hc : c ≤ 9223372036854775807) : Room (.slice a n c) := by
 intro a' n' c' e
 injection e with e1 e2 e3
 subst e2; subst e3
 exact ⟨h,hc⟩
theorem eq_hash_same (x : List Int) (hx : x.length = 32) (hy : Byt x) (w : World) : (Op.equalIn 10000 28 (.agg (u8s x)) (.agg (u8s x))).run Tryz.prog w = .ok true w := by
 obtain ⟨i0,hi,hs⟩ := Option.map_eq_some_iff.1 one_u8
 have e : u8s x = ((x.map fun n => UInt8.ofNat n.toNat).map Extern.Stop.cell).toArray := by
  unfold u8s
  rw [List.map_map]
  congr 1
  apply List.map_congr_left
  intro z hz
  have := hy z hz
  simp only [Function.comp,Extern.Stop.cell]
  congr 1
  simp
  omega
 rw [e,run_equalIn_bytes w 9998 28 5 32 Tryz.underlying28 Tryz.underlying5 (fun w => by simp [sizeOf,typeInfo,hi,hs]) _ _ (by simpa using hx) (by simpa using hx)]
 simp
theorem ArrB.range {w : World} {g t : Nat} {l : List Int} (h : ArrB w g t l) : w.rangeAt g 0 (u8s l).toList := fun j v hv => by
 rw [Nat.zero_add,cell_of_row _ _ _ _ _ _ h,← Array.getElem?_toList]; exact hv
theorem fresh_row (w : World) (old cs : Array Value) (T : TypeId) : ∀ W,W = (w.alloc (.cells old T)).setRow w.heap.size cs →
 W.heap[w.heap.size]? = some (.cells cs T (0,0)) ∧ W.heap.size = w.heap.size + 1 ∧ Below w.heap.size w W := by
 rintro W rfl
 exact ⟨setRow_heap _ _ _ cs _ _ (heap_alloc_new w _),by simp,((Below.refl w.heap.size w).alloc (Nat.le_refl _) _).trans ⟨rfl,rfl,rfl,by simp,fun k hk => setRow_other _ _ k cs (by omega)⟩⟩
theorem ArrB.grown {w w' : World} {b g t : Nat} {l : List Int} (h : ArrB w b t l) (hg : w.grownBy w' (some g)) (hne : b ≠ g) : ArrB w' b t l :=
 (hg.block b (lt_of_block h) (fun e => hne (Option.some.inj e))).trans h
theorem ArrB.lt {w : World} {b t : Nat} {l : List Int} (h : ArrB w b t l) : b < w.heap.size := lt_of_block h
end
section
set_option maxRecDepth 4000
open Go.RowKit
structure One (w W : World) (h : Nat) (t : List Int) : Prop where
 bel : Below w.heap.size w W
 kt : KT W
 hh : Has W h t
 hl : w.heap.size ≤ h
theorem One.below {w W W' : World} {h : Nat} {t : List Int} (q : One w W h t) (hb : Below W.heap.size W W') : One w W' h t :=
 ⟨q.bel.trans (hb.mono q.bel.size),q.kt.below hb q.kt.pos,q.hh.below hb q.hh.lt,q.hl⟩
theorem One.pos {w W : World} {h : Nat} {t : List Int} (q : One w W h t) (hw : 0 < w.heap.size) : h ≠ 0 := by have := q.hl; omega
theorem One.put {w W W' : World} {h : Nat} {t t' : List Int} (q : One w W h t) (hw : 0 < w.heap.size) (hg : W.grownBy W' (some h)) (hs : Has W' h t') : One w W' h t' :=
 ⟨q.bel.grown hg q.bel.size (fun k hk => by obtain rfl := Option.some.inj hk; exact q.hl),q.kt.grown hg (q.pos hw),hs,q.hl⟩
theorem One.cell {w W : World} {h : Nat} {t : List Int} (q : One w W h t) (hw : 0 < w.heap.size) (g o : Nat) (v : Value) (hg : w.heap.size ≤ g) (hne : h ≠ g) : One w (W.setCell ⟨g,o,none⟩ v) h t := by
 refine ⟨q.bel.setCell (p := ⟨g,o,none⟩) hg v, ?_, ?_,q.hl⟩
 ·exact q.kt.grown (b := g) ⟨rfl,rfl,rfl,by simp [World.setCell],fun k _ hk => Below.heap_setCell _ _ _ _ (fun e => hk (by rw [e]))⟩ (by omega)
 ·obtain ⟨st,rest,h1,h2⟩ := q.hh
  exact ⟨st,rest,(Below.heap_setCell _ _ _ _ hne).trans h1,h2⟩
theorem One.lt {w W : World} {h : Nat} {t : List Int} (q : One w W h t) : h < W.heap.size := q.hh.lt
end
end Go.Proofs.YtgckapolpifbkaaGreatDoor
