import Derived.Test.YtgckapolpifbkaaGreatDoorDv0
import Derived.Maps.OwnSet
import Derived.Maps.AppendAt
import Derived.Test.YtgckapolpifbkaaGreatDoorCod0
import Derived.Test.YtgckapolpifbkaaGreatDoorCtr0
import Derived.Deep.Grids
namespace Go.Proofs.YtgckapolpifbkaaGreatDoor
open Lib (hid)
section
set_option maxRecDepth 4000
open Go.RowKit
open Go.Maps (Keyed)
def pdCells (gl bm n : Nat) (vw : Value) (lb : Bool) (left : Int) (dn : Bool) : Array Value := #[.slice (some ⟨gl,0,none⟩) n n,vw,.map (some bm),.bool lb,.int .i64 left,.bool dn]
theorem pd_at {w : World} {D t gl bm n : Nat} {vw : Value} {lb : Bool} {left : Int} {dn : Bool} (h : w.heap[D]? = some (.cells (pdCells gl bm n vw lb left dn) t (0,0))) :
 w.cell? ⟨D,0,none⟩ = some (.slice (some ⟨gl,0,none⟩) n n) ∧ w.cell? ⟨D,1,none⟩ = some vw ∧ w.cell? ⟨D,2,none⟩ = some (.map (some bm)) ∧ w.cell? ⟨D,3,none⟩ = some (.bool lb) ∧ w.cell? ⟨D,4,none⟩ = some (.int .i64 left) ∧ w.cell? ⟨D,5,none⟩ = some (.bool dn) :=
 ⟨cell_of_row _ _ _ _ _ _ h,cell_of_row _ _ _ _ _ _ h,cell_of_row _ _ _ _ _ _ h,cell_of_row _ _ _ _ _ _ h,cell_of_row _ _ _ _ _ _ h,cell_of_row _ _ _ _ _ _ h⟩
theorem pd_free {w : World} {D t gl bm n : Nat} {vw : Value} {lb : Bool} {left : Int} {dn : Bool} (h : w.heap[D]? = some (.cells (pdCells gl bm n vw lb left dn) t (0,0))) (k : Nat) : w.frozen? ⟨D,k,none⟩ = false := frozen_of_row w D k _ _ h
inductive MapOf : List (Nat × List (BitVec 8)) → DataW Unit → Prop
 | none : MapOf [] (.map [])
 | more (ws : List (Nat × List (BitVec 8))) (m : DataW Unit) (p : Nat × List (BitVec 8)) : MapOf ws m → MapOf (ws ++ [p]) (m.put (.int .u32 (p.1 : Int)) (.lit (.int .i64 (ws.length : Int))))
def MapAt (w : World) (bm : Nat) (ws : List (Nat × List (BitVec 8))) : Prop := ∃ m,MapOf ws m ∧ w.ownsMap Tryz.prog 41 (plainElem Tryz.prog 3) bm ws.length m
structure PD (w : World) (D gl bm n : Nat) (vw : Value) (F : List (BitVec 8)) (ws : List (Nat × List (BitVec 8))) (lim : Int) (dn : Bool) : Prop where
 dev : ∃ left,w.heap[D]? = some (.cells (pdCells gl bm n vw (decide (0 ≤ lim)) left dn) 112 (0,0)) ∧ (0 ≤ lim → left = lim)
 lay : ArrY w gl 117 F
 len : F.length = n * 512
 wai : w.ownsRow 0 120 513 vw ws.length (wcells ws)
 wok : ∀ p ∈ ws,p.2.length = 512 ∧ p.1 < n
 big : n ≤ 4096
 lim1 : lim ≤ 9223372036854775807
 map : MapAt w bm ws
def pfp (D gl bm : Nat) (vw : Value) : List Nat := D :: gl :: bm :: vw.ownBlock.toList
theorem MapAt.keep {w w' : World} {bm : Nat} {ws : List (Nat × List (BitVec 8))} (h : MapAt w bm ws) (e : w'.heap[bm]? = w.heap[bm]?) : MapAt w' bm ws := by
 obtain ⟨m,hm,es,clock,hb,F,hs,hD⟩ := h
 exact ⟨m,hm,es,clock,e.trans hb,F,hs,hD⟩
theorem MapAt.is {w : World} {bm : Nat} {ws : List (Nat × List (BitVec 8))} (h : MapAt w bm ws) : ∃ es clock,w.heap[bm]? = some (.map es clock) := by
 obtain ⟨m,hm,es,clock,hb,F,hs,hD⟩ := h
 exact ⟨es,clock,hb⟩
theorem MapAt.lt {w : World} {bm : Nat} {ws : List (Nat × List (BitVec 8))} (h : MapAt w bm ws) : bm < w.heap.size := by
 obtain ⟨m,hm,h⟩ := h
 exact h.lt
theorem MapAt.ne {w : World} {bm g t : Nat} {cs : Array Value} {fr : Nat × Nat} {ws : List (Nat × List (BitVec 8))} (h : MapAt w bm ws) (q : w.heap[g]? = some (.cells cs t fr)) : g ≠ bm := by
 obtain ⟨es,clock,hb⟩ := h.is
 rintro rfl
 rw [hb] at q
 exact absurd q (by simp)
theorem own_lt {B n k : Nat} {e : TypeId} {v : Value} {xs : List Value} {w : World} (h : w.ownsRow B e k v n xs) : ∀ g,v.ownBlock = some g → g < w.heap.size := by
 rcases h.2 with ⟨rfl,_⟩ | ⟨g',cap,cur,rfl,_,hg',_⟩
 ·intro g hg; simp [Value.ownBlock] at hg
 ·intro g hg
  simp only [Value.ownBlock,Option.some.injEq] at hg
  subst hg
  exact rd_lt hg'
theorem own_map_ne {B n k : Nat} {e : TypeId} {v : Value} {xs : List Value} {w : World} {bm : Nat} {ws : List (Nat × List (BitVec 8))} (h : w.ownsRow B e k v n xs) (q : MapAt w bm ws) : v.ownBlock ≠ some bm := by
 rcases h.2 with ⟨rfl,_⟩ | ⟨g',cap,cur,rfl,_,hg',_⟩
 ·simp [Value.ownBlock]
 ·simp only [Value.ownBlock,ne_eq,Option.some.injEq]
  exact q.ne hg'
theorem PD.lt {w : World} {D gl bm n : Nat} {vw : Value} {F : List (BitVec 8)} {ws : List (Nat × List (BitVec 8))} {lim : Int} {dn : Bool} (h : PD w D gl bm n vw F ws lim dn) : ∀ g ∈ pfp D gl bm vw,g < w.heap.size := by
 intro g hg
 obtain ⟨left,hd,_⟩ := h.dev
 simp only [pfp,List.mem_cons,Option.mem_toList] at hg
 rcases hg with rfl | rfl | rfl | hg
 ·exact rd_lt hd
 ·exact zlt h.lay
 ·exact h.map.lt
 ·exact own_lt h.wai g hg
theorem PD.touch {w w' : World} {l : List Nat} {D gl bm n : Nat} {vw : Value} {F : List (BitVec 8)} {ws : List (Nat × List (BitVec 8))} {lim : Int} {dn : Bool} (h : PD w D gl bm n vw F ws lim dn) (q : Touch l w w') (hne : ∀ g ∈ pfp D gl bm vw,g ∉ l) : PD w' D gl bm n vw F ws lim dn := by
 obtain ⟨left,hd,hl⟩ := h.dev
 exact ⟨⟨left,(q.block D (rd_lt hd) (hne D (by simp [pfp]))).trans hd,hl⟩,q.arr h.lay (hne gl (by simp [pfp])),h.len,own_touch h.wai q (fun g hg => hne g (by simp [pfp,hg])),h.wok,h.big,h.lim1,h.map.keep (q.block bm h.map.lt (hne bm (by simp [pfp])))⟩
theorem PD.below {w w' : World} {D gl bm n : Nat} {vw : Value} {F : List (BitVec 8)} {ws : List (Nat × List (BitVec 8))} {lim : Int} {dn : Bool} (h : PD w D gl bm n vw F ws lim dn) (hb : Below w.heap.size w w') : PD w' D gl bm n vw F ws lim dn :=
 h.touch (l := []) (Touch.of_below hb) (fun _ _ => by simp)
theorem PD.relay {w w' : World} {D gl bm n : Nat} {vw : Value} {F F' : List (BitVec 8)} {ws : List (Nat × List (BitVec 8))} {lim : Int} {dn : Bool} (h : PD w D gl bm n vw F ws lim dn) (q : Only gl w w') (hF : ArrY w' gl 117 F') (hl : F'.length = n * 512) : PD w' D gl bm n vw F' ws lim dn := by
 obtain ⟨left,hd,hle⟩ := h.dev
 exact ⟨⟨left,(q.rest D (type_ne hd h.lay (by decide))).trans hd,hle⟩,hF,hl,own_only h.wai q (own_type6 h.wai h.lay (by decide)),h.wok,h.big,h.lim1,h.map.keep (q.rest bm (Ne.symm (h.map.ne h.lay)))⟩
theorem PD.redev {w w' : World} {D gl bm n : Nat} {vw : Value} {F : List (BitVec 8)} {ws : List (Nat × List (BitVec 8))} {lim lim' left' : Int} {dn dn' : Bool} (h : PD w D gl bm n vw F ws lim dn) (q : Only D w w') (hD : w'.heap[D]? = some (.cells (pdCells gl bm n vw (decide (0 ≤ lim')) left' dn') 112 (0,0))) (hle : 0 ≤ lim' → left' = lim') (hl : lim' ≤ 9223372036854775807) : PD w' D gl bm n vw F ws lim' dn' := by
 obtain ⟨left,hd,_⟩ := h.dev
 exact ⟨⟨left',hD,hle⟩,q.arr h.lay (type_ne h.lay hd (by decide)),h.len,own_only h.wai q (own_type6 h.wai hd (by decide)),h.wok,h.big,hl,h.map.keep (q.rest bm (Ne.symm (h.map.ne hd)))⟩
set_option maxHeartbeats 800000 in
theorem placks_any (D gl bm n a : Nat) (vw : Value) (F : List (BitVec 8)) (ws : List (Nat × List (BitVec 8))) (lim : Int) (dn : Bool) (w : World) (h : PD w D gl bm n vw F ws lim dn) (ha : a < 4294967296) :
 Calls Tryz.prog 51 #[.pointer (some ⟨D,0,none⟩),.int .u32 (a : Int)] w fun e w' => e = .returned (.int .i64 (if a < n then 0 else 2)) ∧ w' = w := by
 have hn := h.big
 obtain ⟨left,hd,_⟩ := h.dev
 obtain ⟨c0,_⟩ := pd_at hd
 have aI : (a : Int) < 4294967296 := by omega
 have nI : (n : Int) ≤ 4096 := by omega
 have hw : IntKind.u32.wrap (n : Int) = (n : Int) := IntWalk.u32_in _ (by omega)
 by_cases hlt : a < n
 ·rw [if_pos hlt]
  have hbv : decide ((n : Int) ≤ (a : Int)) = false := by simp; omega
  have hbv2 : decide (n ≤ a) = false := by simp; omega
  clear h ha hn hd hlt
  go_enter Tryz.func51,Tryz.ntmps51
  go_wp2_with fail
  go_ret
  exact ⟨rfl,rfl⟩
 ·rw [if_neg hlt]
  have hbv : decide ((n : Int) ≤ (a : Int)) = true := by simp; omega
  have hbv2 : decide (n ≤ a) = true := by simp; omega
  clear h ha hn hd hlt
  go_enter Tryz.func51,Tryz.ntmps51
  go_wp2_with fail
  go_ret
  exact ⟨rfl,rfl⟩
set_option maxHeartbeats 800000 in
theorem prefuses_any (D gl bm n a : Nat) (vw : Value) (F : List (BitVec 8)) (ws : List (Nat × List (BitVec 8))) (lim : Int) (dn : Bool) (ab : Option Addr) (lb capb : Nat) (w : World) (h : PD w D gl bm n vw F ws lim dn) (ha : a < 4294967296) :
 Calls Tryz.prog 64 #[.pointer (some ⟨D,0,none⟩),.int .u32 (a : Int),.slice ab lb capb] w fun e w' => e = .returned (.int .i64 (if a < n ∧ lb = 512 then 0 else 2)) ∧ w' = w := by
 have HT := hid (placks_any D gl bm n a vw F ws lim dn w h ha)
 by_cases hlt : a < n
 ·have HT2 := hid (show Calls Tryz.prog 51 #[.pointer (some ⟨D,0,none⟩),.int .u32 (a : Int)] w fun e w' => e = .returned (.int .i64 0) ∧ w' = w by have q := HT.out; rwa [if_pos hlt] at q)
  by_cases hl : lb = 512
  ·rw [if_pos ⟨hlt,hl⟩]
   subst hl
   clear h ha HT hlt
   go_enter Tryz.func64,Tryz.ntmps64
   go_wp2_with fail
   refine HT2.out.mono ?_
   rintro e w1 ⟨rfl,rfl⟩
   go_wp2_with fail
   go_ret
   exact ⟨rfl,rfl⟩
  ·rw [if_neg (fun h => hl h.2)]
   have hbv : ((lb : Int) == 512) = false := by simp; omega
   clear h ha HT hlt hl
   go_enter Tryz.func64,Tryz.ntmps64
   go_wp2_with fail
   refine HT2.out.mono ?_
   rintro e w1 ⟨rfl,rfl⟩
   go_wp2_with fail
   go_ret
   exact ⟨rfl,rfl⟩
 ·have HT2 := hid (show Calls Tryz.prog 51 #[.pointer (some ⟨D,0,none⟩),.int .u32 (a : Int)] w fun e w' => e = .returned (.int .i64 2) ∧ w' = w by have q := HT.out; rwa [if_neg hlt] at q)
  rw [if_neg (fun h => hlt h.1)]
  clear h ha HT hlt
  go_enter Tryz.func64,Tryz.ntmps64
  go_wp2_with fail
  refine HT2.out.mono ?_
  rintro e w1 ⟨rfl,rfl⟩
  go_wp2_with fail
  go_ret
  exact ⟨rfl,rfl⟩
def goP (lim : Int) (dn : Bool) : Int × Bool := (if dn = false ∧ 0 < lim then lim - 1 else lim,dn || decide (lim = 0))
set_option maxHeartbeats 1600000 in
theorem pgoes_any (D gl bm n : Nat) (vw : Value) (F : List (BitVec 8)) (ws : List (Nat × List (BitVec 8))) (lim : Int) (dn : Bool) (w : World) (h : PD w D gl bm n vw F ws lim dn) :
 Calls Tryz.prog 57 #[.pointer (some ⟨D,0,none⟩)] w fun e w' => e = .returned (.bool (!(goP lim dn).2)) ∧ PD w' D gl bm n vw F ws (goP lim dn).1 (goP lim dn).2 ∧ Only D w w' := by
 have hl := h.lim1
 obtain ⟨left,hd,hle⟩ := h.dev
 obtain ⟨_,_,_,c3,c4,c5⟩ := pd_at hd
 have f4 := pd_free hd 4
 have f5 := pd_free hd 5
 have H := hid h
 have HD := hid hd
 rcases Int.lt_trichotomy lim 0 with h0 | h0 | h0
 ·have hb : decide (0 ≤ lim) = false := by simp; omega
  rw [hb] at c3
  have HG := hid (show goP lim dn = (lim,dn) by unfold goP; rw [if_neg (by omega)]; simp; omega)
  clear h hd h0 hle hl hb
  cases dn
  all_goals
   go_enter Tryz.func57,Tryz.ntmps57
   go_wp2_with fail
   go_ret
   rw [HG.out]
   exact ⟨rfl,H.out,Only.refl _ _⟩
 ·subst h0
  have e0 := hle (Int.le_refl 0)
  subst e0
  have HG := hid (show goP 0 dn = (0,true) by unfold goP; simp)
  rw [show decide ((0 : Int) ≤ 0) = true from rfl] at c3
  clear h hd hl hle
  go_enter Tryz.func57,Tryz.ntmps57
  go_wp2_with fail
  go_ret
  rw [HG.out]
  have hO : Only D w (w.setCell ⟨D,5,none⟩ (.bool true)) := (Only.refl _ _).setCell _ _
  exact ⟨rfl,H.out.redev hO (heap_setCell_same _ _ _ _ _ _ HD.out) (fun _ => rfl) (by omega),hO⟩
 ·have hb : decide (0 ≤ lim) = true := by simp; omega
  rw [hb] at c3
  have e0 := hle (by omega)
  subst e0
  have b1 : (left == 0) = false := by simp; omega
  cases dn
  ·have HG := hid (show goP left false = (left - 1,false) by unfold goP; rw [if_pos ⟨rfl,h0⟩]; simp; omega)
   have hb2 := hid (show decide (0 ≤ left - 1) = decide (0 ≤ left) by rw [hb]; simp; omega)
   clear h hd hle hb
   go_enter Tryz.func57,Tryz.ntmps57
   go_wp2_with fail
   go_ret
   rw [HG.out]
   have hO : Only D w (w.setCell ⟨D,4,none⟩ (.int .i64 (left - 1))) := (Only.refl _ _).setCell _ _
   exact ⟨rfl,H.out.redev hO (by rw [hb2.out]; exact heap_setCell_same _ _ _ _ _ _ HD.out) (fun _ => rfl) (by omega),hO⟩
  ·have HG := hid (show goP left true = (left,true) by unfold goP; simp)
   clear h hd hle hb hl
   go_enter Tryz.func57,Tryz.ntmps57
   go_wp2_with fail
   go_ret
   rw [HG.out]
   exact ⟨rfl,H.out,Only.refl _ _⟩
end
section
set_option maxRecDepth 4000
open Go.RowKit
open Go.Maps (Keyed)
theorem pslice_sec (g o : Nat) (W : World) : (Instr.sliceAt 117 (.pointer (some ⟨g,o,none⟩)) none none none).run Tryz.prog W = .ok (.slice (some ⟨g,o,none⟩) 512 512) W := by
 obtain ⟨i0,hi0,_⟩ := Option.map_eq_some_iff.1 yone
 simp [Instr.sliceAt,run_underlying Tryz.underlying117,Instr.sureAddr,Instr.sliceBounds,sizeOf,typeInfo,hi0,Addr.add_mid]
theorem pindex_sec (gl n a : Nat) (h : a < n) (W : World) : (Instr.indexAt 108 (.slice (some ⟨gl,0,none⟩) n n) (.int .u32 (a : Int))).run Tryz.prog W = .ok (.pointer (some ⟨gl,a * 512,none⟩)) W := by
 obtain ⟨i0,hi,hs⟩ := Option.map_eq_some_iff.1 (show (Tryz.prog.info? 117).map (·.size) = some 512 by kernel_rfl)
 simp [Instr.indexAt,asIntOf,run_underlying Tryz.underlying108,sizeOf,typeInfo,hi,hs,h,Addr.add_mid]
theorem pindex_wait (g len cap i : Nat) (h : i < len) (W : World) : (Instr.indexAt 109 (.slice (some ⟨g,0,none⟩) len cap) (.int .i64 (i : Int))).run Tryz.prog W = .ok (.pointer (some ⟨g,i * 513,none⟩)) W := by
 obtain ⟨i0,hi,hs⟩ := Option.map_eq_some_iff.1 (show (Tryz.prog.info? 120).map (·.size) = some 513 by kernel_rfl)
 simp [Instr.indexAt,asIntOf,run_underlying Tryz.underlying109,sizeOf,typeInfo,hi,hs,h,Addr.add_mid]
theorem psize_sec (l : List (BitVec 8)) (h : l.length = 512) : (Tryz.prog.info? 117).map (·.size) = some (yvs l).size := by rw [show (Tryz.prog.info? 117).map (·.size) = some 512 by kernel_rfl,yvs_size,h]
theorem pzero_sec (W : World) : (zeroValue 117).run Tryz.prog W = .ok (.agg (yvs (zeroY 512))) W := by kernel_rfl
theorem range_tail {w : World} {g o : Nat} {x : Value} {xs : List Value} (h : w.rangeAt g o (x :: xs)) : w.rangeAt g (o + 1) xs := by
 intro j v hv
 have q := h (j + 1) v (by simpa using hv)
 rwa [show o + (j + 1) = o + 1 + j by omega] at q
theorem isMap_of {ws : List (Nat × List (BitVec 8))} {m : DataW Unit} (h : MapOf ws m) : Maps.IsMap m := by
 induction h with
 | none => exact Maps.isMap_empty
 | more ws m p h ih => exact ih.put _ _
theorem readM_more (F : List (BitVec 8)) (ws : List (Nat × List (BitVec 8))) (p : Nat × List (BitVec 8)) (a : Nat) : readM F (ws ++ [p]) a = if p.1 = a then p.2 else readM F ws a := by
 unfold readM; rw [List.foldl_append]; rfl
theorem map_read {ws : List (Nat × List (BitVec 8))} {m : DataW Unit} (h : MapOf ws m) (a : Nat) (z : DataW Unit) :
 (Maps.has m (.int .u32 (a : Int)) = false ∧ ∀ F,readM F ws a = secY F a) ∨
 (Maps.has m (.int .u32 (a : Int)) = true ∧ ∃ i,∃ h : i < ws.length,m.atKey (.int .u32 (a : Int)) z = .lit (.int .i64 (i : Int)) ∧ (∀ F,readM F ws a = (ws[i]).2)) := by
 induction h with
 | none => exact .inl ⟨rfl,fun _ => rfl⟩
 | more ws m p hm ih =>
   by_cases hp : p.1 = a
   ·refine .inr ⟨?_,ws.length,by simp, ?_,fun F => ?_⟩
    ·rw [hp]; exact Maps.has_put_same (isMap_of hm) (by trivial) _
    ·rw [hp]; exact Maps.atKey_put_same (isMap_of hm) (by trivial) _ _
    ·rw [readM_more,if_pos hp]; simp
   ·have hne : (Lit.int .u32 (a : Int)) ≠ Lit.int .u32 (p.1 : Int) := by
     intro e
     injection e with _ e
     exact hp (by omega)
    rw [Maps.has_put_other hne,Maps.atKey_put_other hne]
    rcases ih with ⟨h1,h2⟩ | ⟨h1,i,hi,h2,h3⟩
    ·exact .inl ⟨h1,fun F => by rw [readM_more,if_neg hp]; exact h2 F⟩
    ·refine .inr ⟨h1,i,by simp; omega,h2,fun F => ?_⟩
     rw [readM_more,if_neg hp,h3 F,List.getElem_append_left hi]
set_option maxHeartbeats 800000 in
theorem psize_any (D gl bm n : Nat) (vw : Value) (F : List (BitVec 8)) (ws : List (Nat × List (BitVec 8))) (lim : Int) (dn : Bool) (w : World) (h : PD w D gl bm n vw F ws lim dn) :
 Calls Tryz.prog 59 #[.pointer (some ⟨D,0,none⟩)] w fun e w' => e = .returned (.int .i64 (n : Int)) ∧ w' = w := by
 obtain ⟨left,hd,_⟩ := h.dev
 obtain ⟨c0,_⟩ := pd_at hd
 have hn := h.big
 have nI : (n : Int) ≤ 4096 := by omega
 clear h hd hn
 go_enter Tryz.func59,Tryz.ntmps59
 go_wp2_with fail
 go_ret
 exact ⟨rfl,rfl⟩
theorem pd_form {w : World} {D gl bm n : Nat} {vw : Value} {F : List (BitVec 8)} {ws : List (Nat × List (BitVec 8))} {lim : Int} {dn : Bool} (h : PD w D gl bm n vw F ws lim dn) : ∃ a cap,vw = .slice a ws.length cap ∧ (0 < ws.length → ∃ g,a = some ⟨g,0,none⟩) := by
 rcases h.wai.2 with ⟨hv,h0⟩ | ⟨g,cap,cur,hv,_⟩
 ·exact ⟨none,0,by rw [hv,h0],fun h => by omega⟩
 ·exact ⟨_,cap,hv,fun _ => ⟨g,rfl⟩⟩
set_option maxHeartbeats 800000 in
theorem pdown_any (D gl bm n : Nat) (vw : Value) (F : List (BitVec 8)) (ws : List (Nat × List (BitVec 8))) (lim : Int) (dn : Bool) (w : World) (h : PD w D gl bm n vw F ws lim dn) :
 Calls Tryz.prog 23 #[.pointer (some ⟨D,0,none⟩)] w fun e w' => e = .returned (.bool dn) ∧ w' = w := by
 obtain ⟨left,hd,_⟩ := h.dev
 obtain ⟨_,_,_,_,_,c5⟩ := pd_at hd
 clear h hd
 go_enter Tryz.func23,Tryz.ntmps23
 go_wp2_with fail
 go_ret
 exact ⟨rfl,rfl⟩
set_option maxHeartbeats 800000 in
theorem plimit_any (D gl bm n : Nat) (vw : Value) (F : List (BitVec 8)) (ws : List (Nat × List (BitVec 8))) (lim x : Int) (dn : Bool) (w : World) (h : PD w D gl bm n vw F ws lim dn) (hx : x ≤ 9223372036854775807) :
 Calls Tryz.prog 18 #[.pointer (some ⟨D,0,none⟩),.int .i64 x] w fun e w' => e = .returned (.tuple #[]) ∧ PD w' D gl bm n vw F ws (if x < 0 then -1 else x) dn ∧ Only D w w' := by
 obtain ⟨left,hd,_⟩ := h.dev
 obtain ⟨_,_,_,c3,c4,_⟩ := pd_at hd
 have f3 := pd_free hd 3
 have f4 := pd_free hd 4
 have H := hid h
 have HS := hid (heap_setCell_same _ D 4 _ _ (.int .i64 x) (heap_setCell_same w D 3 _ _ (.bool (decide (0 ≤ x))) hd))
 have hO : Only D w ((w.setCell ⟨D,3,none⟩ (.bool (decide (0 ≤ x)))).setCell ⟨D,4,none⟩ (.int .i64 x)) := ((Only.refl _ _).setCell _ _).setCell _ _
 have HO := hid hO
 obtain ⟨L,hL⟩ : ∃ L,(if x < 0 then -1 else x) = L := ⟨_,rfl⟩
 have HL1 := hid (show decide (0 ≤ L) = decide (0 ≤ x) by rw [← hL]; split <;> simp <;> omega)
 have HL2 := hid (show 0 ≤ L → x = L by rw [← hL]; split <;> omega)
 have HL3 := hid (show L ≤ 9223372036854775807 by rw [← hL]; split <;> omega)
 rw [hL]
 clear h hd hO hL
 go_enter Tryz.func18,Tryz.ntmps18
 go_wp2_with fail
 go_end0
 exact ⟨rfl,H.out.redev (left' := x) HO.out (by rw [HL1.out]; exact HS.out) HL2.out HL3.out,HO.out⟩
def Fresh6 (w : World) (L : List (BitVec 8)) (e : Ending) (w' : World) : Prop := e = .returned (.tuple #[.slice (some ⟨w.heap.size,0,none⟩) 512 512,.int .i64 0]) ∧ ArrY w' w.heap.size 117 L ∧ L.length = 512 ∧ Below w.heap.size w w'
set_option maxHeartbeats 800000 in
theorem pread_down (D gl bm n a : Nat) (vw : Value) (F : List (BitVec 8)) (ws : List (Nat × List (BitVec 8))) (lim : Int) (w : World) (h : PD w D gl bm n vw F ws lim true) (ha : a < n) :
 Calls Tryz.prog 24 #[.pointer (some ⟨D,0,none⟩),.int .u32 (a : Int)] w fun e w' => e = .returned (.tuple #[.slice none 0 0,.int .i64 7]) ∧ w' = w := by
 have HT := hid (show Calls Tryz.prog 51 #[.pointer (some ⟨D,0,none⟩),.int .u32 (a : Int)] w fun e w' => e = .returned (.int .i64 0) ∧ w' = w by have hb := h.big; have q := placks_any D gl bm n a vw F ws lim true w h (by omega); rwa [if_pos ha] at q)
 obtain ⟨left,hd,_⟩ := h.dev
 obtain ⟨_,_,_,_,_,c5⟩ := pd_at hd
 clear h ha hd
 go_enter Tryz.func24,Tryz.ntmps24
 go_wp2_with fail
 refine HT.out.mono ?_
 rintro e w1 ⟨rfl,rfl⟩
 go_wp2_with fail
 go_ret2
 exact ⟨rfl,rfl⟩
theorem key_u32_6 (a : Nat) (ha : a < 4294967296) : keyOf Tryz.prog 41 (.int .u32 (a : Int)) = some (.int .u32 (a : Int)) := Maps.keyOf_int_mk Tryz.underlying41 (by simp [Lit.wf,IntKind.min,IntKind.max,IntKind.bits,IntKind.signed]; omega)
set_option maxRecDepth 100000 in
set_option maxHeartbeats 3200000 in
theorem pread_ok (D gl bm n a : Nat) (vw : Value) (F : List (BitVec 8)) (ws : List (Nat × List (BitVec 8))) (lim : Int) (w : World) (h : PD w D gl bm n vw F ws lim false) (ha : a < n) :
 Calls Tryz.prog 24 #[.pointer (some ⟨D,0,none⟩),.int .u32 (a : Int)] w (Fresh6 w (readM F ws a)) := by
 have hbig := h.big
 have HT2 := hid (show Calls Tryz.prog 51 #[.pointer (some ⟨D,0,none⟩),.int .u32 (a : Int)] w fun e w' => e = .returned (.int .i64 0) ∧ w' = w by have q := placks_any D gl bm n a vw F ws lim false w h (by omega); rwa [if_pos ha] at q)
 have hkey := key_u32_6 a (by omega)
 obtain ⟨left,hd,_⟩ := h.dev
 obtain ⟨c0,_,_,_,_,c5⟩ := pd_at hd
 have H := hid h
 have hsl : ∀ g W,_ := fun g W => pslice_sec g 0 W
 have hix := pindex_sec gl n a ha
 have hz := pzero_sec
 have HSL := hid (secY_length F a n h.len ha)
 have HRG := hid (show w.rangeAt gl (a * 512) (yvs (secY F a)).toList from h.lay.range (a * 512) 512)
 obtain ⟨SA,hSA⟩ : ∃ y,secY F a = y := ⟨_,rfl⟩
 have HSA := hid hSA
 rw [hSA] at HSL HRG
 have SWC := hid (show (Tryz.prog.info? 117).map (·.size) = some (yvs SA).toList.length by rw [Array.length_toList]; exact psize_sec _ HSL.out)
 have SWR := hid (show (Tryz.prog.info? 117).map (·.size) = some (yvs SA).toList.toArray.size by rw [Array.toArray_toList]; exact psize_sec _ HSL.out)
 have WO := hid (show (yvs SA).toList.toArray.all (·.oneCell') = true by rw [Array.toArray_toList]; exact yvs_one SA)
 have EW := hid (show (yvs (zeroY 512)).size = (yvs SA).toList.toArray.size by rw [Array.toArray_toList,yvs_size,yvs_size,HSL.out]; rfl)
 have HSS := hid (show (yvs SA).toList.toArray = yvs SA from Array.toArray_toList)
 generalize (yvs SA).toList = SL at *
 generalize yvs (zeroY 512) = ZW at *
 clear h ha hd hSA hbig
 go_enter Tryz.func24,Tryz.ntmps24
 go_wp2_with fail
 refine HT2.out.mono ?_
 rintro e w1 ⟨rfl,rfl⟩
 go_upto_region 7 with (first
  | (with_reducible refine wpList_load_mid (op := ⟨some 26,_,_,_,_,_⟩) rfl 117 _ rfl gl (a * 512) rfl SL _ HRG.out Tryz.underlying117 rfl SWC.out ?_)
  | (with_reducible refine wpList_store_row (o := ⟨none,.store _ (.tmp 7) _,_,_,_,_⟩) rfl 117 _ _ rfl w1.heap.size SL.toArray rfl rfl 117 ZW (heap_alloc_new w1 _) SWR.out EW.out WO.out ?_))
 clear hix
 generalize hW7 : World.setRow _ w1.heap.size _ = W7
 have h7 : ArrY W7 w1.heap.size 117 SA ∧ Below w1.heap.size w1 W7 := by
  obtain ⟨e1,e2,e3⟩ := ygen_row (w := w1) (old := ZW) (cs := SL.toArray) (T := 117)
  rw [← hW7]
  exact ⟨by unfold ArrY; rw [← HSS.out]; exact e1,e3⟩
 have HR := H.out.below h7.2
 obtain ⟨left,hd,_⟩ := HR.dev
 obtain ⟨_,c1,c2,_⟩ := pd_at hd
 obtain ⟨m,hm,hown⟩ := HR.map
 obtain ⟨aw,capw,rfl,hag⟩ := pd_form HR
 have HAG := hid hag
 have HR7 := hid HR
 have H7 := hid h7
 have HOWN := hid hown
 clear hW7 h7 c0 hz c5 HR hd hown hag
 rcases map_read hm a (.lit (.int .i64 0)) with ⟨hhas,hr⟩ | ⟨hhas,i,hi,hat,hr⟩
 ·have HR2 := hid (hr F)
  clear hr
  go_wp2_with (first
   | (at_lookup; refine wpList_lookup_own_ok_int _ rfl _ _ 110 rfl 41 3 .i64 (Maps.int_keyed Tryz.underlying41) Tryz.underlying110 Tryz.underlying3 (by kernel_rfl) bm _ m rfl HOWN.out _ _ rfl hkey ?_; intro c hat hwc))
  go_ret2
  exact ⟨rfl,by rw [HR2.out,HSA.out]; exact H7.out.1,by rw [HR2.out,HSA.out]; exact HSL.out,H7.out.2⟩
 ·obtain ⟨g,rfl⟩ := HAG.out (by omega)
  have HR2 := hid (hr F)
  have hpw := HR7.out.wok _ (List.getElem_mem hi)
  have hrg := range_tail (own_range (by have q := HR7.out.wai; exact q) (fun p hp => (HR7.out.wok p hp).1) i hi)
  have hix := pindex_wait g ws.length capw i hi
  generalize ws[i] = p at *
  have hiI : (i : Int) < (ws.length : Int) := by omega
  generalize ws.length = N at *
  have HRG := hid (show W7.rangeAt g (i * 513 + 1) (yvs p.2).toList from by simpa [wcell,yvs] using hrg)
  have SWC := hid (show (Tryz.prog.info? 117).map (·.size) = some (yvs p.2).toList.length by rw [Array.length_toList]; exact psize_sec _ hpw.1)
  have SWR := hid (show (Tryz.prog.info? 117).map (·.size) = some (yvs p.2).toList.toArray.size by rw [Array.toArray_toList]; exact psize_sec _ hpw.1)
  have WO := hid (show (yvs p.2).toList.toArray.all (·.oneCell') = true by rw [Array.toArray_toList]; exact yvs_one p.2)
  have EW := hid (show (yvs SA).size = (yvs p.2).toList.toArray.size by rw [Array.toArray_toList,yvs_size,yvs_size,HSL.out,hpw.1])
  have HSS := hid (show (yvs p.2).toList.toArray = yvs p.2 from Array.toArray_toList)
  have HPL := hid hpw.1
  have HX := hid (show W7.heap[w1.heap.size]? = some (.cells (yvs SA) 117 (0,0)) from H7.out.1)
  have HB := hid (ybelow_row H7.out.2 (Nat.le_refl _) (yvs p.2))
  have HN := hid (show ArrY (W7.setRow w1.heap.size (yvs p.2)) w1.heap.size 117 p.2 from setRow_heap W7 _ _ _ _ _ HX.out)
  generalize (yvs p.2).toList = PL at *
  clear hr hpw hrg hi
  generalize hX : w1.heap.size = X at *
  have HXX := hid hX
  clear hX
  go_upto_region 10 with (first
   | (at_lookup; refine wpList_lookup_own_ok_int _ rfl _ _ 110 rfl 41 3 .i64 (Maps.int_keyed Tryz.underlying41) Tryz.underlying110 Tryz.underlying3 (by kernel_rfl) bm _ m rfl HOWN.out _ _ rfl hkey ?_; intro c hat' hwc; rw [hat] at hat'; injection hat' with e1; injection e1 with _ e1; subst e1)
   | (with_reducible refine wpList_load_mid (op := ⟨some 44,_,_,_,_,_⟩) rfl 117 _ rfl g (i * 513 + 1) rfl PL _ HRG.out Tryz.underlying117 rfl SWC.out ?_)
   | (with_reducible refine wpList_store_row (o := ⟨none,.store _ (.tmp 7) _,_,_,_,_⟩) rfl 117 _ _ rfl X PL.toArray rfl rfl 117 (yvs SA) HX.out SWR.out EW.out WO.out ?_))
  rw [HSS.out]
  clear hix c1 c2
  go_wp2_with fail
  go_ret2
  unfold Fresh6
  rw [HXX.out]
  exact ⟨rfl,by rw [HR2.out]; exact HN.out,by rw [HR2.out]; exact HPL.out,HB.out⟩
end
section
set_option maxRecDepth 4000
open Go.RowKit
theorem zero_len : (zeroY 512).length = 512 := List.length_replicate
theorem wrow_size (p : Nat × List (BitVec 8)) (h : p.2.length = 512) : (wrow p).size = 513 := by rw [wrow,List.size_toArray,wcell_length p h]
theorem fill_write' (a : Nat) (l Z : List (BitVec 8)) (hl : l.length = 512) (hz : Z.length = 512) : Instr.fill (#[(0,1),(1,512)][·]?) (wrow (0,Z)) [(0,.int .u32 (a : Int)),(1,.agg (yvs l))] = some (wrow (a,l)) := by
 have z1 : (wrow (0,Z)).size = 513 := wrow_size _ hz
 have z2 : (wrow (a,Z)).size = 513 := wrow_size _ hz
 rw [fill_cons _ _ (wrow (a,Z)) #[.int .u32 (a : Int)] (.int .u32 (a : Int)) 0 0 1 _ rfl rfl rfl (by rw [z1]; exact Nat.le_of_ble_eq_true rfl) (fun i => by
  unfold wrow wcell
  cases i with
  | zero => simp
  | succ i => simp)]
 rw [fill_cons _ _ (wrow (a,l)) (yvs l) (.agg (yvs l)) 1 1 512 _ rfl rfl (by rw [yvs_size,hl]) (by rw [yvs_size,hl,z2]; decide) (fun i => by
  unfold wrow wcell yvs
  cases i with
  | zero => simp
  | succ i =>
    by_cases h : i < l.length
    ·rw [if_pos (by simp; omega)]; simp
    ·rw [if_neg (by simp; omega)]
     simp only [List.getElem?_toArray,List.getElem?_cons_succ]
     rw [List.getElem?_eq_none (by simp; omega),List.getElem?_eq_none (by simp [hz]; omega)])]
 rfl
theorem fill_write (a : Nat) (l : List (BitVec 8)) (hl : l.length = 512) : Instr.fill (#[(0,1),(1,512)][·]?) (wrow (0,zeroY 512)) [(0,.int .u32 (a : Int)),(1,.agg (yvs l))] = some (wrow (a,l)) := fill_write' a l _ hl zero_len
theorem built_pwrite (parts : List (Nat × Value)) : Tryz.prog.built 120 parts = Instr.fill (#[(0,1),(1,512)][·]?) (wrow (0,zeroY 512)) parts := by kernel_rfl
theorem build_pwrite (a : Nat) (l : List (BitVec 8)) (hl : l.length = 512) (W : World) : (Instr.build 120 #[(0,.int .u32 (a : Int)),(1,.agg (yvs l))]).run Tryz.prog W = .ok (.agg (wrow (a,l))) W :=
 run_build W 120 _ _ (by rw [built_pwrite]; exact fill_write a l hl)
theorem info_pwrite : (Tryz.prog.info? 120).map (fun i => (i.zero,i.size,i.bytes)) = some (some (.agg (wrow (0,zeroY 512))),513,516) := by kernel_rfl
theorem lit_pwrite (p : Nat × List (BitVec 8)) (h : p.2.length = 512) (W : World) : (Instr.buildSlice 109 1 #[(0,.agg (wrow p))]).run Tryz.prog W = .ok (.slice (some ⟨W.heap.size,0,none⟩) 1 1) (W.alloc (.cells (wrow p) 120)) := by
 obtain ⟨i,hi,hzz⟩ := Option.map_eq_some_iff.1 info_pwrite
 simp only [Prod.mk.injEq] at hzz
 obtain ⟨hz,hs,hb⟩ := hzz
 refine run_buildSlice W 109 120 1 _ (wrow p) i _ Tryz.underlying109 hi hz (by rw [hs]; decide) (by rw [hs]; decide) ?_
 rw [hs]
 exact fill_one _ _ 513 (wrow_size p h) (by simp)
theorem parr_ptr (ad : Addr) (cap : Nat) (W : World) : (Instr.arrayAt 117 (.slice (some ad) 512 cap)).run Tryz.prog W = .ok (.pointer (some ad)) W := by
 simp [Instr.arrayAt,run_underlying Tryz.underlying117]
end
section
set_option maxRecDepth 4000
open Go.RowKit
open Go.Maps (Keyed)
theorem pinfo_sec : (Tryz.prog.info? 117).map (fun i => (i.zero,i.size,i.bytes)) = some (some (.agg (yvs (zeroY 512))),512,512) := by kernel_rfl
theorem pmake_secs (n : Nat) (h : n ≤ 4096) (w : World) : (Instr.makeSlice 108 (.int .i64 (n : Int)) (.int .i64 (n : Int))).run Tryz.prog w = .ok (.slice (some ⟨w.heap.size,0,none⟩) n n) (w.alloc (.cells (yvs (zeroY (n * 512))) 117)) := by
 obtain ⟨i,hi,hzz⟩ := Option.map_eq_some_iff.1 pinfo_sec
 simp only [Prod.mk.injEq] at hzz
 obtain ⟨hz,hs,hb⟩ := hzz
 rw [run_make (P := Tryz.prog) w 108 117 i _ Tryz.underlying108 hi hz .i64 .i64 n n (by omega) (by omega) (by rw [hb]; omega) (by omega),hs]
 simp only [Int.toNat_natCast]
 rw [show (Value.agg (yvs (zeroY 512))).cells = yvs (zeroY 512) from rfl,made_secs]
set_option maxRecDepth 100000 in
set_option maxHeartbeats 1600000 in
theorem pnew_ok (n : Nat) (w : World) (h0 : 16 ≤ n) (h1 : n ≤ 4096) :
 Calls Tryz.prog 40 #[.int .i64 (n : Int)] w fun e w' => e = .returned (.tuple #[.pointer (some ⟨w.heap.size + 2,0,none⟩),.int .i64 0]) ∧ PD w' (w.heap.size + 2) w.heap.size (w.heap.size + 1) n (.slice none 0 0) (zeroY (n * 512)) [] (-1) false ∧ Below w.heap.size w w' := by
 have i0 : (16 : Int) ≤ (n : Int) := by omega
 have i1 : (n : Int) ≤ 4096 := by omega
 have hmk := pmake_secs n h1
 have hmm : ∀ W : World,(Instr.makeMap 110 none).run Tryz.prog W = .ok (.map (some W.heap.size)) (W.alloc (.map #[] 0)) := fun W => run_makeMap _ W
 have H1 := hid h1
 clear h0 h1
 go_enter Tryz.func40,Tryz.ntmps40
 go_wp2_with fail
 clear hmk hmm
 go_ret2
 generalize hO1 : Obj.cells (yvs (zeroY (n * 512))) 117 = O1
 have hb1 : Below w.heap.size w (w.alloc O1) := (Below.refl _ _).alloc (Nat.le_refl _) _
 have hsz : (w.alloc O1).heap.size = w.heap.size + 1 := by simp
 have hb2 : Below w.heap.size w ((w.alloc O1).alloc (.map #[] 0)) := hb1.alloc (by omega) _
 have hsz2 : ((w.alloc O1).alloc (.map #[] 0)).heap.size = w.heap.size + 2 := by simp
 have hmap := World.ownsMap_made (w.alloc O1) Tryz.prog 41 (plainElem (H := Unit) Tryz.prog 3)
 rw [hsz] at hmap
 generalize hW2 : (w.alloc O1).alloc (.map #[] 0) = W2 at *
 generalize hO2 : Obj.cells #[.slice (some ⟨w.heap.size,0,none⟩) n n,.slice none 0 0,.map (some (w.heap.size + 1)),.bool false,.int .i64 0,.bool false] 112 = O2
 have hb3 : Below w.heap.size w (W2.alloc O2) := hb2.alloc (by omega) _
 have hb4 : Below W2.heap.size W2 (W2.alloc O2) := (Below.refl _ _).alloc (Nat.le_refl _) _
 have e2 := heap_alloc_new W2 O2
 rw [hsz2] at e2
 have e1 : W2.heap[w.heap.size]? = some O1 := by
  rw [← hW2]
  have q := (Below.refl (w.alloc O1).heap.size (w.alloc O1)).alloc (Nat.le_refl _) (.map #[] 0)
  exact (q.block w.heap.size (by omega)).trans (heap_alloc_new w O1)
 have e3 := (hb4.block w.heap.size (by omega)).trans e1
 have hmap2 : MapAt W2 (w.heap.size + 1) [] := ⟨_,MapOf.none,hmap⟩
 refine ⟨rfl,⟨⟨0,e2.trans (congrArg some hO2.symm),fun h => by omega⟩,e3.trans (congrArg some hO1.symm),by simp [zeroY],World.ownsRow_nil _ _ _ _,(fun p hp => by cases hp),H1.out,by omega,hmap2.keep (hb4.block _ (by omega))⟩,hb3⟩
theorem arr_range {w : World} {b t : Nat} {l : List (BitVec 8)} (h : ArrY w b t l) : w.rangeAt b 0 (yvs l).toList := h.all
set_option maxHeartbeats 800000 in
theorem pwrite_down (D gl bm n a : Nat) (vw : Value) (F : List (BitVec 8)) (ws : List (Nat × List (BitVec 8))) (lim : Int) (dn : Bool) (ab : Option Addr) (capb : Nat) (w : World) (h : PD w D gl bm n vw F ws lim dn) (ha : a < n) (hdn : (goP lim dn).2 = true) :
 Calls Tryz.prog 39 #[.pointer (some ⟨D,0,none⟩),.int .u32 (a : Int),.slice ab 512 capb] w fun e w' => e = .returned (.int .i64 7) ∧ PD w' D gl bm n vw F ws (goP lim dn).1 true ∧ Only D w w' := by
 have hbig := h.big
 have HT := hid (show Calls Tryz.prog 64 #[.pointer (some ⟨D,0,none⟩),.int .u32 (a : Int),.slice ab 512 capb] w fun e w' => e = .returned (.int .i64 0) ∧ w' = w by have q := prefuses_any D gl bm n a vw F ws lim dn ab 512 capb w h (by omega); rwa [if_pos ⟨ha,rfl⟩] at q)
 have hgo := pgoes_any D gl bm n vw F ws lim dn w h
 rw [hdn] at hgo
 have HG := hid hgo
 clear h ha hbig hgo hdn
 go_enter Tryz.func39,Tryz.ntmps39
 go_wp2_with fail
 refine HT.out.mono ?_
 rintro e w1 ⟨rfl,rfl⟩
 go_wp2_with fail
 refine HG.out.mono ?_
 rintro e w2 ⟨rfl,hP,hO⟩
 have HP := hid hP
 have HO := hid hO
 clear hP hO HG
 go_wp2_with fail
 go_ret
 exact ⟨rfl,HP.out,HO.out⟩
theorem wp_mapUpdate_at {P : Program} {o : Oper} {a : Act} {w : World} {K : Act → World → Prop} {Q : Exit → Act → World → Prop} (t : TypeId) (m x v : Operand) (ho : o.op = .mapUpdate t m x v) (mv key val : Value) (hm : a.eval m = mv) (hx : a.eval x = key) (hv : a.eval v = val)
 (w' : World) (hrun : (Instr.mapUpdate t mv key val).run P w = .ok () w') (h : K (a.put o.dst undef) w') : o.wp P a w K Q := by
 unfold Oper.wp execOp
 simp [ho,hm,hx,hv,hrun,Result.andThen]
 exact h
theorem wp_append_at6 {P : Program} {o : Oper} {a : Act} {w : World} {K : Act → World → Prop} {Q : Exit → Act → World → Prop} (s x : Operand) (t : TypeId) (ho : o.op = .call { callee := .builtin .append,args := #[s,x],argTypes := #[t,t] }) (sv xv : Value) (hs : a.eval s = sv) (hx : a.eval x = xv)
 (v' : Value) (w' : World) (hr : (Builtin.append_ #[t,t] o.type #[sv,xv]).run P w = .ok v' w') (h : K (a.put o.dst v') w') : o.wp P a w K Q := by
 unfold Oper.wp execOp
 simp only [ho,resolve,invoke,builtin,Sem.run_bind,Sem.run_pure,Result.andThen_ok,List.map_toArray,List.map_cons,List.map_nil,hs,hx,hr]
 exact h
theorem wp_lit_at6 {P : Program} {o : Oper} {a : Act} {w : World} {K : Act → World → Prop} {Q : Exit → Act → World → Prop} (t : TypeId) (len : Nat) (parts : Array (Nat × Operand)) (ho : o.op = .buildSlice t len parts) (vs : Array (Nat × Value)) (hv : (parts.map fun (i,x) => (i,a.eval x)) = vs)
 (v : Value) (w' : World) (hr : (Instr.buildSlice t len vs).run P w = .ok v w') (h : K (a.put o.dst v) w') : o.wp P a w K Q := by
 subst hv
 unfold Oper.wp execOp
 simp only [ho,Sem.run_bind,hr,Result.andThen_ok]
 exact h
theorem yieldsIf_build6 {P : Program} {ops : Array Oper} {S : World → Prop} {op : Oper} {a : Act} (hw : Region.wanted op (yielded ops a.tmps) = true) (t : TypeId) (parts : Array (Nat × Operand)) (ho : op.op = .build t parts) (vs : Array (Nat × Value)) (v : Value) (hv : (parts.map fun (i,x) => (i,a.eval x)) = vs)
 (hr : ∀ W,(Instr.build t vs).run P W = .ok v W) : YieldsIf P ops S op v a := by
 subst hv
 exact .inl ⟨hw,fun w hw' => by
  unfold execOp
  simp only [ho,Sem.run_bind,Sem.run_pure,Result.andThen_ok,hr]⟩
theorem wcells_more (ws : List (Nat × List (BitVec 8))) (p : Nat × List (BitVec 8)) : wcells (ws ++ [p]) = wcells ws ++ (wrow p).toList := by
 unfold wcells wrow
 rw [List.flatMap_append]; simp
set_option maxRecDepth 100000 in
set_option maxHeartbeats 3200000 in
theorem pwrite_ok (D gl bm n a bx cap : Nat) (vw : Value) (F l : List (BitVec 8)) (ws : List (Nat × List (BitVec 8))) (lim : Int) (w : World) (h : PD w D gl bm n vw F ws lim false) (ha : a < n) (hB : ArrY w bx 5 l) (hl : l.length = 512) (hlim : lim ≠ 0) (hws : ws.length ≤ 1000000) :
 Calls Tryz.prog 39 #[.pointer (some ⟨D,0,none⟩),.int .u32 (a : Int),.slice (some ⟨bx,0,none⟩) 512 cap] w fun e w' => e = .returned (.int .i64 0) ∧
  ∃ vw',PD w' D gl bm n vw' F (ws ++ [(a,l)]) (goP lim false).1 false ∧ Touch (pfp D gl bm vw) w w' ∧ (∀ g,vw'.ownBlock = some g → vw.ownBlock = some g ∨ w.heap.size ≤ g) := by
 have hbig := h.big
 have HT := hid (show Calls Tryz.prog 64 #[.pointer (some ⟨D,0,none⟩),.int .u32 (a : Int),.slice (some ⟨bx,0,none⟩) 512 cap] w fun e w' => e = .returned (.int .i64 0) ∧ w' = w by have q := prefuses_any D gl bm n a vw F ws lim false (some ⟨bx,0,none⟩) 512 cap w h (by omega); rwa [if_pos ⟨ha,rfl⟩] at q)
 have hgo := pgoes_any D gl bm n vw F ws lim false w h
 rw [show (goP lim false).2 = false by unfold goP; simp [hlim]] at hgo
 generalize (goP lim false).1 = lim' at *
 have HG := hid hgo
 obtain ⟨left0,hd0,_⟩ := h.dev
 have hneD : D ≠ bx := type_ne hd0 hB (by decide)
 have HB := hid hB
 have HL := hid hl
 have HA := hid ha
 have HBIG := hid hbig
 have wI : (ws.length : Int) ≤ 1000000 := by omega
 have HWS := hid hws
 have HSZ := hid (Nat.le_refl w.heap.size)
 have harr := parr_ptr ⟨bx,0,none⟩ cap
 have hkey := hid (key_u32_6 a (by omega))
 have hbuild := hid (build_pwrite a l hl)
 have hlit := hid (lit_pwrite (a,l) hl)
 have IP := hid (show (Tryz.prog.info? 117).map (·.size) = some (yvs l).toList.length by rw [Array.length_toList]; exact psize_sec _ hl)
 obtain ⟨aw,capw,rfl,_⟩ := pd_form h
 generalize hN : ws.length = N at *
 have HN := hid hN
 clear hgo hlim h hws hbig hd0 hB hl ha hN
 go_enter Tryz.func39,Tryz.ntmps39
 go_wp2_with fail
 refine HT.out.mono ?_
 rintro e w1 ⟨rfl,rfl⟩
 go_wp2_with fail
 refine HG.out.mono ?_
 rintro e w2 ⟨rfl,hP2,hO2⟩
 clear HG HT
 obtain ⟨left,hd,hle⟩ := hP2.dev
 obtain ⟨_,c1,c2,_⟩ := pd_at hd
 obtain ⟨m,hm,hown⟩ := hP2.map
 obtain ⟨w6,hrun,hown6,hg6⟩ := World.ownsMap.update (w := w2.drew) (t := 110) (e := 3) hown.drew (Maps.int_keyed Tryz.underlying41) Tryz.underlying110 (by rw [HN.out]; have := HWS.out; unfold maxLen; omega) hkey.out
  (plainElem_int (H := Unit) Tryz.underlying3 (a := (N : Int)) (by have := HWS.out; simp [Lit.wf,IntKind.min,IntKind.max,IntKind.bits,IntKind.signed]; omega))
 have hDm : D ≠ bm := hP2.map.ne hd
 have hdm : some D ≠ some bm := by simpa using hDm
 have hsz6 : w2.heap.size ≤ w6.heap.size := hg6.size
 have k6 : ∀ k,k < w2.heap.size → k ≠ bm → w6.heap[k]? = w2.heap[k]? := fun k hk hb => hg6.block k hk (by simpa using hb)
 have hd6 : w6.heap[D]? = _ := (k6 D (rd_lt hd) hDm).trans hd
 have HB2 := hid (hO2.arr HB.out (Ne.symm hneD))
 have hbm : bx ≠ bm := hP2.map.ne HB2.out
 have HB6 := hid (show ArrY w6 bx 5 l from (k6 bx (zlt HB2.out) hbm).trans HB2.out)
 have hlay6 : ArrY w6 gl 117 F := (k6 gl (zlt hP2.lay) (hP2.map.ne hP2.lay)).trans hP2.lay
 have hT6 : Touch [D,bm] w1 w6 := (Touch.of_only hO2 (by simp)).trans ⟨hg6.os,hg6.tape,hg6.output,hg6.size,fun k hk hn => k6 k hk (fun e => hn (by simp [e]))⟩
 have hwai6 := own_touch hP2.wai (l := [bm]) (w' := w6) ⟨hg6.os,hg6.tape,hg6.output,hg6.size,fun k hk hn => k6 k hk (fun e => hn (by simp [e]))⟩ (fun g hg => by
  have := own_map_ne hP2.wai hP2.map
  simp only [List.mem_cons,List.not_mem_nil,or_false]
  rintro rfl
  exact this hg)
 have HRUN := hid hrun
 have HS0 := hid (show w2.drew.cell? ⟨D,2,none⟩ = some (.map (some bm)) ∧ w2.drew.cell? ⟨D,1,none⟩ = some (.slice aw N capw) from ⟨c2,c1⟩)
 have HS1 := hid (show w6.cell? ⟨D,2,none⟩ = some (.map (some bm)) ∧ w6.cell? ⟨D,1,none⟩ = some (.slice aw N capw) from ⟨(pd_at hd6).2.2.1,(pd_at hd6).2.1⟩)
 have C6 := hid (show w6.drew.cell? ⟨D,1,none⟩ = some (.slice aw N capw) from (pd_at hd6).2.1)
 have HS2 := hid (show w6.drew.rangeAt bx 0 (yvs l).toList from arr_range (show ArrY w6.drew bx _ l from HB6.out))
 -- the slice of the one write
 have hlt6 : ∀ k,k < w6.heap.size → (w6.drew.alloc (.cells (wrow (a,l)) 120)).heap[k]? = w6.heap[k]? := fun k hk => ((Below.refl w6.heap.size w6).drew.alloc (Nat.le_refl _) _).block k hk
 have hnew6 : (w6.drew.alloc (.cells (wrow (a,l)) 120)).heap[w6.heap.size]? = some (.cells (wrow (a,l)) 120 (0,0)) := heap_alloc_new w6.drew _
 have hT8 : Touch [] w6 (w6.drew.alloc (.cells (wrow (a,l)) 120)) := Touch.of_below ((Below.refl w6.heap.size w6).drew.alloc (Nat.le_refl _) _)
 have hwai8 := own_touch hwai6 hT8 (fun g _ => by simp)
 have hd8 := (hlt6 D (rd_lt hd6)).trans hd6
 have HB8 := hid (show ArrY (w6.drew.alloc (.cells (wrow (a,l)) 120)) bx 5 l from (hlt6 bx (zlt HB6.out)).trans HB6.out)
 have hlay8 : ArrY (w6.drew.alloc (.cells (wrow (a,l)) 120)) gl 117 F := (hlt6 gl (zlt hlay6)).trans hlay6
 have hown8 := hown6.drew.alloc (.cells (wrow (a,l)) 120)
 have C8 := hid (show (w6.drew.alloc (.cells (wrow (a,l)) 120)).cell? ⟨D,1,none⟩ = some (.slice aw N capw) from (pd_at hd8).2.1)
 have HS3 := hid (show (w6.drew.alloc (.cells (wrow (a,l)) 120)).rangeAt bx 0 (yvs l).toList from arr_range HB8.out)
 obtain ⟨i8,hi8,hzz⟩ := Option.map_eq_some_iff.1 info_pwrite
 simp only [Prod.mk.injEq] at hzz
 obtain ⟨hz8,hs8,hby8⟩ := hzz
 have hwl : (wrow (a,l)).toList.length = 1 * 513 := by rw [Array.length_toList,wrow_size _ HL.out]
 generalize hW8 : w6.drew.alloc (.cells (wrow (a,l)) 120) = w8 at *
 obtain ⟨v9,w9,hrun9,hown9,hg9,_,hloc9⟩ := run_append_own_at (P := Tryz.prog) w8 0 109 109 120 i8 _ 513 516 Tryz.underlying109 hi8 hz8 hs8 hby8 (wrow_size _ zero_len) (by decide)
  _ N (wcells ws) (by rw [← HN.out]; exact hwai8) ⟨w6.heap.size,0,none⟩ 1 1 (wrow (a,l)).toList hwl (fun j u hu => by
    rw [Addr.add_mid,cell_of_row _ _ _ _ _ _ hnew6]; simpa using hu) (fun u hu => Array.all_eq_true_iff_forall_mem.1 (wrow_one (a,l)) u (by simpa using hu)) (by have := HWS.out; unfold maxLen; omega) (by have := HWS.out; omega) (Nat.zero_le _)
 obtain ⟨a9,cap9,rfl⟩ : ∃ x c,v9 = .slice x (N + 1) c := by
  rcases hown9.2 with ⟨hv,h0⟩ | ⟨g,c,cur,hv,_⟩
  ·omega
  ·exact ⟨_,_,hv⟩
 have hvD : Value.ownBlock (.slice aw N capw) ≠ some D := own_type6 hwai8 hd8 (by decide)
 have hvB : Value.ownBlock (.slice aw N capw) ≠ some bx := own_type6 hwai8 HB8.out (by decide)
 have hvL : Value.ownBlock (.slice aw N capw) ≠ some gl := own_type6 hwai8 hlay8 (by decide)
 have hvM : Value.ownBlock (.slice aw N capw) ≠ some bm := own_map_ne hwai8 (ws := ws ++ [(a,l)]) ⟨_,MapOf.more ws m (a,l) hm,by rw [List.length_append,HN.out]; rw [HN.out] at hown8; exact hown8⟩
 have k9 : ∀ k,k < w8.heap.size → Value.ownBlock (.slice aw N capw) ≠ some k → w9.heap[k]? = w8.heap[k]? := fun k hk hb => hg9.block k hk (fun e => hb e.symm)
 have hd9 := (k9 D (rd_lt hd8) hvD).trans hd8
 have HRUN9 := hid hrun9
 have HS4 := hid (show w9.rangeAt bx 0 (yvs l).toList from arr_range (show ArrY w9 bx _ l from (k9 bx (zlt HB8.out) hvB).trans HB8.out))
 have C9 := hid (show w9.cell? ⟨D,1,none⟩ = some (.slice aw N capw) from (pd_at hd9).2.1)
 have F9 := hid (pd_free hd9 1)
 have hO10 : Only D w9 (w9.setCell ⟨D,1,none⟩ (.slice a9 (N + 1) cap9)) := (Only.refl _ _).setCell _ _
 have hB9 : ArrY w9 bx 5 l := (k9 bx (zlt HB8.out) hvB).trans HB8.out
 have HS5 := hid (show (w9.setCell ⟨D,1,none⟩ (.slice a9 (N + 1) cap9)).rangeAt bx 0 (yvs l).toList from arr_range (hO10.arr hB9 (Ne.symm hneD)))
 have hd10 := heap_setCell_same _ D 1 _ _ (.slice a9 (N + 1) cap9) hd9
 have hlay9 : ArrY w9 gl 117 F := (k9 gl (zlt hlay8) hvL).trans hlay8
 have hmap8 : MapAt w8 bm (ws ++ [(a,l)]) := ⟨_,MapOf.more ws m (a,l) hm,by rw [List.length_append,HN.out]; rw [HN.out] at hown8; exact hown8⟩
 have hmap9 : MapAt w9 bm (ws ++ [(a,l)]) := hmap8.keep (k9 bm hmap8.lt hvM)
 have hv9D : Value.ownBlock (.slice a9 (N + 1) cap9) ≠ some D := own_type6 hown9 hd9 (by decide)
 have HPD := hid (show PD (w9.setCell ⟨D,1,none⟩ (.slice a9 (N + 1) cap9)) D gl bm n (.slice a9 (N + 1) cap9) F (ws ++ [(a,l)]) lim' false from
  ⟨⟨left,hd10,hle⟩,hO10.arr hlay9 (type_ne hlay9 hd9 (by decide)),hP2.len,by
    rw [wcells_more,List.length_append,HN.out]
    exact own_only hown9 hO10 hv9D,fun p hp => by
    rcases List.mem_append.1 hp with hp | hp
    ·exact hP2.wok p hp
    ·simp only [List.mem_cons,List.not_mem_nil,or_false] at hp
     subst hp
     exact ⟨HL.out,HA.out⟩,HBIG.out,hP2.lim1,hmap9.keep (hO10.rest bm (Ne.symm (hmap9.ne hd9)))⟩)
 have HTT := hid (show Touch (pfp D gl bm (.slice aw N capw)) w1 (w9.setCell ⟨D,1,none⟩ (.slice a9 (N + 1) cap9)) from by
  have t1 : Touch (pfp D gl bm (.slice aw N capw)) w1 w6 := hT6.more (by intro k hk; simp only [List.mem_cons,List.not_mem_nil,or_false] at hk; rcases hk with rfl | rfl <;> simp [pfp])
  have t2 : Touch (pfp D gl bm (.slice aw N capw)) w6 w8 := hT8.more (by simp)
  have t3 : Touch (pfp D gl bm (.slice aw N capw)) w8 w9 := ⟨hg9.os,hg9.tape,hg9.output,hg9.size,fun k hk hn => k9 k hk (fun e => hn (by simp [pfp,e]))⟩
  exact ((t1.trans t2).trans t3).trans (Touch.of_only hO10 (by simp [pfp])))
 have HLOC := hid (show ∀ g,Value.ownBlock (.slice a9 (N + 1) cap9) = some g → Value.ownBlock (.slice aw N capw) = some g ∨ w1.heap.size ≤ g from fun g hg => by
  rcases hloc9 with e | e
  ·exact .inl (e ▸ hg)
  ·rw [hg] at e
   injection e with e
   have h8 := hT8.size
   have h6 := hT6.size
   exact .inr (by omega))
 have HS3w := HS3
 rw [← hW8] at HS3
 clear hP2 hO2 hd hle hm hown hown6 hg6 hrun hdm hsz6 k6 hd6 hlay6 hT6 hwai6 hlt6 hnew6 hT8 hwai8 hd8 hlay8 hown8 hi8 hz8 hs8 hby8 hwl hrun9 hown9 hg9 hloc9 hvD hvB hvL hvM k9 hd9 hO10 hB9 hd10 hlay9 hmap8 hmap9 hv9D c1 c2 hneD hbm hDm
 go_upto_region 6 with fail
 try simp only [Act.put]
 refine wp_region_noPanic ?_
 refine wp_region_held_drew (S := fun W => W.cell? ⟨D,2,none⟩ = some (.map (some bm)) ∧ W.cell? ⟨D,1,none⟩ = some (.slice aw N capw)) (by kernel_rfl) (HS0.out) (fun hHeld => ?_)
 refine wpAnyH_take (i := 0) (oi := ⟨some 18,_,_,_,_,_⟩) (v := ?_) rfl (by kernel_rfl) (by decide +kernel) (by decide +kernel) (fun _ _ _ h => h) (Or.inl ⟨by rfl, ?_⟩) (by assumption) ?_
 rotate_left 1
 ·(intro w' hSw; go_simp; try with_reducible rfl)
 try simp only [Act.put,List.setIfInBounds_toArray,List.set_cons_zero,List.set_cons_succ]
 refine wpAnyH_take (i := 1) (oi := ⟨some 19,_,_,_,_,_⟩) (v := ?_) rfl (by kernel_rfl) (by decide +kernel) (by decide +kernel) (fun _ _ _ h => h) (Or.inl ⟨by rfl, ?_⟩) (by assumption) ?_
 rotate_left 1
 ·(intro w' hSw; go_simp; try with_reducible rfl)
 try simp only [Act.put,List.setIfInBounds_toArray,List.set_cons_zero,List.set_cons_succ]
 refine wpAnyH_take (i := 2) (oi := ⟨some 20,_,_,_,_,_⟩) (v := ?_) rfl (by kernel_rfl) (by decide +kernel) (by decide +kernel) (fun _ _ _ h => h) (Or.inl ⟨by rfl, ?_⟩) (by assumption) ?_
 rotate_left 1
 ·(intro w' hSw; go_simp; try with_reducible rfl)
 try simp only [Act.put,List.setIfInBounds_toArray,List.set_cons_zero,List.set_cons_succ]
 refine wpAnyH_take (i := 3) (oi := ⟨some 21,_,_,_,_,_⟩) (v := ?_) rfl (by kernel_rfl) (by decide +kernel) (by decide +kernel) (fun _ _ _ h => h) (Or.inl ⟨by rfl, ?_⟩) (by assumption) ?_
 rotate_left 1
 ·(intro w' hSw; have hcell := hSw.1; clear hSw; go_simp; try with_reducible rfl)
 try simp only [Act.put,List.setIfInBounds_toArray,List.set_cons_zero,List.set_cons_succ]
 refine wpAnyH_take (i := 4) (oi := ⟨some 22,_,_,_,_,_⟩) (v := ?_) rfl (by kernel_rfl) (by decide +kernel) (by decide +kernel) (fun _ _ _ h => h) (Or.inl ⟨by rfl, ?_⟩) (by assumption) ?_
 rotate_left 1
 ·(intro w' hSw; go_simp; try with_reducible rfl)
 try simp only [Act.put,List.setIfInBounds_toArray,List.set_cons_zero,List.set_cons_succ]
 refine wpAnyH_take (i := 5) (oi := ⟨some 23,_,_,_,_,_⟩) (v := ?_) rfl (by kernel_rfl) (by decide +kernel) (by decide +kernel) (fun _ _ _ h => h) (Or.inl ⟨by rfl, ?_⟩) (by assumption) ?_
 rotate_left 1
 ·(intro w' hSw; go_simp; try with_reducible rfl)
 try simp only [Act.put,List.setIfInBounds_toArray,List.set_cons_zero,List.set_cons_succ]
 refine wpAnyH_take (i := 6) (oi := ⟨some 24,_,_,_,_,_⟩) (v := ?_) rfl (by kernel_rfl) (by decide +kernel) (by decide +kernel) (fun _ _ _ h => h) (Or.inl ⟨by rfl, ?_⟩) (by assumption) ?_
 rotate_left 1
 ·(intro w' hSw; go_simp; try with_reducible rfl)
 try simp only [Act.put,List.setIfInBounds_toArray,List.set_cons_zero,List.set_cons_succ]
 refine wpAnyH_take (i := 7) (oi := ⟨some 25,_,_,_,_,_⟩) (v := ?_) rfl (by kernel_rfl) (by decide +kernel) (by decide +kernel) (fun _ _ _ h => h) (Or.inl ⟨by rfl, ?_⟩) (by assumption) ?_
 rotate_left 1
 ·(intro w' hSw; go_simp; try with_reducible rfl)
 try simp only [Act.put,List.setIfInBounds_toArray,List.set_cons_zero,List.set_cons_succ]
 refine wpAnyH_take (i := 8) (oi := ⟨some 26,_,_,_,_,_⟩) (v := ?_) rfl (by kernel_rfl) (by decide +kernel) (by decide +kernel) (fun _ _ _ h => h) (Or.inl ⟨by rfl, ?_⟩) (by assumption) ?_
 rotate_left 1
 ·(intro w' hSw; have hcell := hSw.2; clear hSw; go_simp; try with_reducible rfl)
 try simp only [Act.put,List.setIfInBounds_toArray,List.set_cons_zero,List.set_cons_succ]
 refine wpAnyH_take (i := 9) (oi := ⟨some 27,_,_,_,_,_⟩) (v := ?_) rfl (by kernel_rfl) (by decide +kernel) (by decide +kernel) (fun _ _ _ h => h) (Or.inl ⟨by rfl, ?_⟩) (by assumption) ?_
 rotate_left 1
 ·(intro w' hSw; go_simp; try with_reducible rfl)
 try simp only [Act.put,List.setIfInBounds_toArray,List.set_cons_zero,List.set_cons_succ]
 clear hHeld
 refine wpAnyH_ready (rs := [10]) (by decide +kernel) (by simp) ?_
 refine AllReadyH.cons rfl (fun K hK => ?_) AllReadyH.nil
 rw [if_pos (by kernel_rfl)]
 refine wp_mapUpdate_at (o := ⟨none,.mapUpdate _ (.tmp 21) (.tmp 22) (.tmp 27),_,_,_,_⟩) _ _ _ _ rfl _ _ _ rfl rfl rfl w6 HRUN.out ?_
 refine hK.out _ _ (HS1.out) (fun hHeld => ?_)
 clear hK K hHeld
 try simp only [Act.put]
 refine wpAnyH_done (by decide +kernel) ?_ _
 refine NoPanic.normal ?_
 go_upto_region 7 with fail
 try simp only [Act.put]
 refine wp_region_noPanic ?_
 refine wp_region_held_drew (S := fun W => W.rangeAt bx 0 (yvs l).toList) (by kernel_rfl) (HS2.out) (fun hHeld => ?_)
 refine wpAnyH_take (i := 0) (oi := ⟨some 28,_,_,_,_,_⟩) (v := ?_) rfl (by kernel_rfl) (by decide +kernel) (by decide +kernel) (fun _ _ _ h => h) (Or.inl ⟨by rfl, ?_⟩) (by assumption) ?_
 rotate_left 1
 ·(intro w' hSw; go_simp; try with_reducible rfl)
 try simp only [Act.put,List.setIfInBounds_toArray,List.set_cons_zero,List.set_cons_succ]
 refine wpAnyH_take (i := 1) (oi := ⟨some 29,_,_,_,_,_⟩) (v := ?_) rfl (by kernel_rfl) (by decide +kernel) (by decide +kernel) (fun _ _ _ h => h) (Or.inl ⟨by rfl, ?_⟩) (by assumption) ?_
 rotate_left 1
 ·(intro w' hSw; go_simp; try with_reducible rfl)
 try simp only [Act.put,List.setIfInBounds_toArray,List.set_cons_zero,List.set_cons_succ]
 refine wpAnyH_take (i := 2) (oi := ⟨some 30,_,_,_,_,_⟩) (v := ?_) rfl (by kernel_rfl) (by decide +kernel) (by decide +kernel) (fun _ _ _ h => h) (Or.inl ⟨by rfl, ?_⟩) (by assumption) ?_
 rotate_left 1
 ·(intro w' hSw; go_simp; try with_reducible rfl)
 try simp only [Act.put,List.setIfInBounds_toArray,List.set_cons_zero,List.set_cons_succ]
 refine wpAnyH_take (i := 3) (oi := ⟨some 31,_,_,_,_,_⟩) (v := ?_) rfl (by kernel_rfl) (by decide +kernel) (by decide +kernel) (fun _ _ _ h => h) (Or.inl ⟨by rfl, ?_⟩) (by assumption) ?_
 rotate_left 1
 ·(intro w' hSw; go_simp; try with_reducible rfl)
 try simp only [Act.put,List.setIfInBounds_toArray,List.set_cons_zero,List.set_cons_succ]
 refine wpAnyH_take (i := 5) (oi := ⟨some 33,_,_,_,_,_⟩) (v := ?_) rfl (by kernel_rfl) (by decide +kernel) (by decide +kernel) (fun _ _ _ h => h) (Or.inl ⟨by rfl, ?_⟩) (by assumption) ?_
 rotate_left 1
 ·(intro w' hSw; go_simp; try with_reducible rfl)
 try simp only [Act.put,List.setIfInBounds_toArray,List.set_cons_zero,List.set_cons_succ]
 refine wpAnyH_take (i := 6) (oi := ⟨some 34,_,_,_,_,_⟩) (v := ?_) rfl (by kernel_rfl) (by decide +kernel) (by decide +kernel) (fun _ _ _ h => h) (Or.inl ⟨by rfl, ?_⟩) (by assumption) ?_
 rotate_left 1
 ·(intro w' hSw; go_simp; try with_reducible rfl)
 try simp only [Act.put,List.setIfInBounds_toArray,List.set_cons_zero,List.set_cons_succ]
 refine wpAnyH_take (i := 7) (oi := ⟨some 35,_,_,_,_,_⟩) (v := ?_) rfl (by kernel_rfl) (by decide +kernel) (by decide +kernel) (fun _ _ _ h => h) (Or.inl ⟨by rfl, ?_⟩) (by assumption) ?_
 rotate_left 1
 ·(intro w' hSw; go_simp; try with_reducible rfl)
 try simp only [Act.put,List.setIfInBounds_toArray,List.set_cons_zero,List.set_cons_succ]
 refine wpAnyH_take (i := 8) (oi := ⟨some 36,_,_,_,_,_⟩) rfl (by kernel_rfl) (by decide +kernel) (by decide +kernel) (fun _ _ _ h => h) (yieldsIf_load_mid (by rfl) _ _ rfl (bx) (0) rfl (yvs l).toList _ (fun w' h => h) Tryz.underlying117 rfl IP.out) (by assumption) ?_
 try simp only [Act.put,List.setIfInBounds_toArray,List.set_cons_zero,List.set_cons_succ,Array.toArray_toList]
 refine wpAnyH_take (i := 9) (oi := ⟨some 37,_,_,_,_,_⟩) rfl (by kernel_rfl) (by decide +kernel) (by decide +kernel) (fun _ _ _ h => h) (yieldsIf_build6 (by rfl) _ _ rfl #[(0,.int .u32 (a : Int)),(1,.agg (yvs l))] _ (by simp [Act.eval]) hbuild.out) (by assumption) ?_
 try simp only [Act.put,List.setIfInBounds_toArray,List.set_cons_zero,List.set_cons_succ]
 clear hHeld
 refine wpAnyH_ready (rs := [4,10]) (by decide +kernel) (by simp) ?_
 refine AllReadyH.cons rfl (fun K hK => ?_) (AllReadyH.cons rfl (fun K hK => ?_) AllReadyH.nil)
 ·have co' := C6.out
  go_simp
  refine hK.out _ _ (HS2.out) (fun hHeld => ?_)
  clear hK K co' hHeld
  try simp only [Act.put,List.setIfInBounds_toArray,List.set_cons_zero,List.set_cons_succ]
  refine wpAnyH_ready (rs := [10]) (by decide +kernel) (by simp) ?_
  refine AllReadyH.cons rfl (fun K hK => ?_) AllReadyH.nil
  rw [if_pos (by kernel_rfl)]
  refine wp_lit_at6 (o := ⟨some 38,_,_,_,_,_⟩) _ _ _ rfl #[(0,.agg (wrow (a,l)))] (by simp [Act.eval]) _ _ (hlit.out w6.drew) ?_
  refine hK.out _ (w6.drew.alloc (.cells (wrow (a,l)) 120)) (HS3.out) (fun hHeld => ?_)
  clear hK K hHeld
  try simp only [Act.put,List.setIfInBounds_toArray,List.set_cons_zero,List.set_cons_succ]
  rw [hW8]
  refine wpAnyH_ready (rs := [11]) (by decide +kernel) (by simp) ?_
  refine AllReadyH.cons rfl (fun K hK => ?_) AllReadyH.nil
  rw [if_pos (by kernel_rfl)]
  refine wp_append_at6 (o := ⟨some 39,_,_,_,_,_⟩) _ _ _ rfl (.slice aw N capw) (.slice (some ⟨w6.heap.size,0,none⟩) 1 1) rfl rfl (.slice a9 (N + 1) cap9) w9 HRUN9.out ?_
  refine hK.out _ _ (HS4.out) (fun hHeld => ?_)
  clear hK K
  try simp only [Act.put,List.setIfInBounds_toArray,List.set_cons_zero,List.set_cons_succ]
  refine wpAnyH_take (i := 12) (oi := ⟨some 40,_,_,_,_,_⟩) (v := ?_) rfl (by kernel_rfl) (by decide +kernel) (by decide +kernel) (fun _ _ _ h => h) (Or.inl ⟨by rfl, ?_⟩) (by assumption) ?_
  rotate_left 1
  ·(intro w' hSw; go_simp; try with_reducible rfl)
  try simp only [Act.put,List.setIfInBounds_toArray,List.set_cons_zero,List.set_cons_succ]
  refine wpAnyH_take (i := 13) (oi := ⟨some 41,_,_,_,_,_⟩) (v := ?_) rfl (by kernel_rfl) (by decide +kernel) (by decide +kernel) (fun _ _ _ h => h) (Or.inl ⟨by rfl, ?_⟩) (by assumption) ?_
  rotate_left 1
  ·(intro w' hSw; go_simp; try with_reducible rfl)
  try simp only [Act.put,List.setIfInBounds_toArray,List.set_cons_zero,List.set_cons_succ]
  clear hHeld
  refine wpAnyH_ready (rs := [14]) (by decide +kernel) (by simp) ?_
  refine AllReadyH.cons rfl (fun K hK => ?_) AllReadyH.nil
  have co' := C9.out
  have fo' := F9.out
  go_simp
  refine hK.out _ _ (HS5.out) (fun hHeld => ?_)
  clear hK K co' fo' hHeld
  try simp only [Act.put,List.setIfInBounds_toArray,List.set_cons_zero,List.set_cons_succ]
  refine wpAnyH_done (by decide +kernel) ?_ _
  refine NoPanic.normal ?_
  go_wp2_with fail
  go_ret
  exact ⟨rfl,.slice a9 (N + 1) cap9,HPD.out,HTT.out,HLOC.out⟩
 ·rw [if_pos (by kernel_rfl)]
  refine wp_lit_at6 (o := ⟨some 38,_,_,_,_,_⟩) _ _ _ rfl #[(0,.agg (wrow (a,l)))] (by simp [Act.eval]) _ _ (hlit.out w6.drew) ?_
  refine hK.out _ (w6.drew.alloc (.cells (wrow (a,l)) 120)) (HS3.out) (fun hHeld => ?_)
  clear hK K hHeld
  try simp only [Act.put,List.setIfInBounds_toArray,List.set_cons_zero,List.set_cons_succ]
  rw [hW8]
  refine wpAnyH_ready (rs := [4]) (by decide +kernel) (by simp) ?_
  refine AllReadyH.cons rfl (fun K hK => ?_) AllReadyH.nil
  have co' := C8.out
  go_simp
  refine hK.out _ _ (HS3w.out) (fun hHeld => ?_)
  clear hK K co' hHeld
  try simp only [Act.put,List.setIfInBounds_toArray,List.set_cons_zero,List.set_cons_succ]
  refine wpAnyH_ready (rs := [11]) (by decide +kernel) (by simp) ?_
  refine AllReadyH.cons rfl (fun K hK => ?_) AllReadyH.nil
  rw [if_pos (by kernel_rfl)]
  refine wp_append_at6 (o := ⟨some 39,_,_,_,_,_⟩) _ _ _ rfl (.slice aw N capw) (.slice (some ⟨w6.heap.size,0,none⟩) 1 1) rfl rfl (.slice a9 (N + 1) cap9) w9 HRUN9.out ?_
  refine hK.out _ _ (HS4.out) (fun hHeld => ?_)
  clear hK K
  try simp only [Act.put,List.setIfInBounds_toArray,List.set_cons_zero,List.set_cons_succ]
  refine wpAnyH_take (i := 12) (oi := ⟨some 40,_,_,_,_,_⟩) (v := ?_) rfl (by kernel_rfl) (by decide +kernel) (by decide +kernel) (fun _ _ _ h => h) (Or.inl ⟨by rfl, ?_⟩) (by assumption) ?_
  rotate_left 1
  ·(intro w' hSw; go_simp; try with_reducible rfl)
  try simp only [Act.put,List.setIfInBounds_toArray,List.set_cons_zero,List.set_cons_succ]
  refine wpAnyH_take (i := 13) (oi := ⟨some 41,_,_,_,_,_⟩) (v := ?_) rfl (by kernel_rfl) (by decide +kernel) (by decide +kernel) (fun _ _ _ h => h) (Or.inl ⟨by rfl, ?_⟩) (by assumption) ?_
  rotate_left 1
  ·(intro w' hSw; go_simp; try with_reducible rfl)
  try simp only [Act.put,List.setIfInBounds_toArray,List.set_cons_zero,List.set_cons_succ]
  clear hHeld
  refine wpAnyH_ready (rs := [14]) (by decide +kernel) (by simp) ?_
  refine AllReadyH.cons rfl (fun K hK => ?_) AllReadyH.nil
  have co' := C9.out
  have fo' := F9.out
  go_simp
  refine hK.out _ _ (HS5.out) (fun hHeld => ?_)
  clear hK K co' fo' hHeld
  try simp only [Act.put,List.setIfInBounds_toArray,List.set_cons_zero,List.set_cons_succ]
  refine wpAnyH_done (by decide +kernel) ?_ _
  refine NoPanic.normal ?_
  go_wp2_with fail
  go_ret
  exact ⟨rfl,.slice a9 (N + 1) cap9,HPD.out,HTT.out,HLOC.out⟩
end
section
set_option maxRecDepth 4000
open Go.RowKit
theorem pslice_half (g o : Nat) (W : World) : (Instr.sliceAt 117 (.pointer (some ⟨g,o,none⟩)) none (some (.int .i64 256)) none).run Tryz.prog W = .ok (.slice (some ⟨g,o,none⟩) 256 512) W := by
 obtain ⟨i0,hi0,_⟩ := Option.map_eq_some_iff.1 yone
 have b : (Instr.sliceBound (.int .i64 256) 512 .sliceAlen).run Tryz.prog W = .ok 256 W := ybound_ok 256 512 .sliceAlen (by omega) W
 simp [Instr.sliceAt,run_underlying Tryz.underlying117,Instr.sureAddr,Instr.sliceBounds,sizeOf,typeInfo,hi0,Addr.add_mid,b]
theorem range_head {w : World} {g o : Nat} {x : Value} {xs : List Value} (h : w.rangeAt g o (x :: xs)) : w.cell? ⟨g,o,none⟩ = some x := by
 have q := h 0 x rfl
 exact q
theorem cell_congr {w w' : World} {b : Nat} (e : w'.heap[b]? = w.heap[b]?) (o : Nat) : w'.cell? ⟨b,o,none⟩ = w.cell? ⟨b,o,none⟩ := by simp [World.cell?,e]
theorem shr_bit (keep m : Nat) : (bits BinOp.and IntKind.u64 ((keep : Int) / 2 ^ m) 1 == 1) = decide (keep / 2 ^ m % 2 = 1) := by
 rw [show ((keep : Int) / 2 ^ m) = ((keep / 2 ^ m : Nat) : Int) by simp,show (1 : Int) = ((1 : Nat) : Int) from rfl,ybits_and]
 generalize keep / 2 ^ m = x
 rw [show IntKind.u64.bits = 64 from rfl,show 1 % 2 ^ 64 = 1 from rfl,Nat.and_one_is_mod,show x % 2 ^ 64 % 2 = x % 2 by omega,IntWalk.u64_in _ (by omega)]
 rw [Bool.eq_iff_iff]; simp; omega
set_option maxRecDepth 100000 in
set_option maxHeartbeats 3200000 in
theorem psettle_any (D gl bm n keep : Nat) (torn : Int) (vw : Value) (F : List (BitVec 8)) (ws : List (Nat × List (BitVec 8))) (lim : Int) (dn : Bool) (w : World) (h : PD w D gl bm n vw F ws lim dn) (hws : ws.length ≤ 1000000) (hk : keep < 18446744073709551616) :
 Calls Tryz.prog 46 #[.pointer (some ⟨D,0,none⟩),.int .u64 (keep : Int),.int .i64 torn] w fun e w' => e = .returned (.tuple #[]) ∧ ∃ bm',PD w' D gl bm' n (.slice none 0 0) (crashM keep torn F ws ws.length) [] lim dn ∧ Touch [D,gl] w w' ∧ w.heap.size ≤ bm' := by
 obtain ⟨aw,capw,rfl,hag⟩ := pd_form h
 obtain ⟨left,hd,_⟩ := h.dev
 obtain ⟨_,d1,_⟩ := pd_at hd
 have HAG := hid hag
 have H1 := hid h
 have wI : (ws.length : Int) ≤ 1000000 := by omega
 have HK := hid hk
 clear h hws hag hk hd
 go_enter Tryz.func46,Tryz.ntmps46
 generalize hN : ws.length = N at *
 have HN := hid hN
 clear hN
 go_wp2_with fail
 clear d1
 go_loopw [13] (fun v13 wr => ∃ i : Nat,i ≤ N ∧ v13 = .int .i64 (i : Nat) ∧ PD wr D gl bm n (.slice aw N capw) (crashM keep torn F ws i) ws lim dn ∧ Touch [D,gl] w wr) (fun v _ => N - (intOf v).toNat)
 case atStart => exact ⟨0,by omega,rfl,H1.out,Touch.refl _ _⟩
 case round =>
  obtain ⟨i,hi,rfl,hR,hT⟩ := hrel
  by_cases hlt : i < N
  ·obtain ⟨g,rfl⟩ := HAG.out (by omega)
   have hil : i < ws.length := by have := HN.out; omega
   have hpw := hR.wok _ (List.getElem_mem hil)
   have hnx : crashM keep torn F ws (i + 1) = stepC keep torn (crashM keep torn F ws i) ws[i] i := by rw [crashM]; simp [List.getD,hil]
   have hrg := own_range (by have q := hR.wai; rw [HN.out] at q ⊢; exact q) (fun p hp => (hR.wok p hp).1) i hil
   obtain ⟨left,hd,_⟩ := hR.dev
   obtain ⟨c0,c1,_⟩ := pd_at hd
   have hgD : g ≠ D := fun e => (own_type6 hR.wai hd (by decide)) (by rw [e]; rfl)
   have hgL : g ≠ gl := fun e => (own_type6 hR.wai hR.lay (by decide)) (by rw [e]; rfl)
   generalize hp : ws[i] = p at *
   obtain ⟨FI,hFI⟩ : ∃ y,crashM keep torn F ws i = y := ⟨_,rfl⟩
   rw [hFI] at hnx hR
   have hix := pindex_wait g N capw i hlt
   have HP := hid hpw
   have HR := hid hR
   have HT := hid hT
   have HLT := hid hlt
   have iI : (i : Int) < (N : Int) := by omega
   have i0 : (0 : Int) ≤ (i : Int) := by omega
   have HC := hid (range_head hrg)
   have HRG := hid (show wr.rangeAt g (i * 513 + 1) (yvs p.2).toList from by have q := range_tail hrg; simpa [yvs] using q)
   have HS6 := hid (show ∀ W,Below wr.heap.size wr W → W.cell? ⟨D,0,none⟩ = some (.slice (some ⟨gl,0,none⟩) n n) ∧ W.cell? ⟨g,i * 513,none⟩ = some (.int .u32 (p.1 : Int)) ∧ W.rangeAt g (i * 513 + 1) (yvs p.2).toList from fun W hW => by
    have hgl : g < wr.heap.size := own_lt HR.out.wai g rfl
    exact ⟨(hW.cell (p := ⟨D,0,none⟩) (HR.out.lt D (by simp [pfp]))).trans c0,(hW.cell (p := ⟨g,i * 513,none⟩) hgl).trans HC.out,fun j v hv => (hW.cell (p := ⟨g,i * 513 + 1 + j,none⟩) hgl).trans (HRG.out j v hv)⟩)
   have HSO := hid (show ∀ W,Only gl wr.drew W → W.cell? ⟨D,0,none⟩ = some (.slice (some ⟨gl,0,none⟩) n n) ∧ W.cell? ⟨g,i * 513,none⟩ = some (.int .u32 (p.1 : Int)) ∧ W.rangeAt g (i * 513 + 1) (yvs p.2).toList from fun W hW => by
    have e1 := hW.rest g hgL
    have e2 := hW.rest D (type_ne hd HR.out.lay (by decide))
    have hD2 : W.heap[D]? = _ := e2.trans hd
    refine ⟨(pd_at hD2).1,(cell_congr e1 _).trans HC.out,fun j v hv => (cell_congr e1 _).trans (HRG.out j v hv)⟩)
   obtain ⟨m,hm,hm2⟩ : ∃ m : Nat,(i : Int) % 64 = (m : Int) ∧ i % 64 = m := ⟨i % 64,by omega,rfl⟩
   have HM := hid (show m < 64 by omega)
   have HNX2 := hid (show crashM keep torn F ws (i + 1) = if (i : Int) = torn then putL FI (p.1 * 512) (p.2.take 256) else if keep / 2 ^ m % 2 = 1 then putL FI (p.1 * 512) p.2 else FI by rw [hnx,stepC,hm2])
   have hfl : p.1 * 512 + 512 ≤ FI.length := by rw [HR.out.len]; have := HP.out.2; omega
   have HFL := hid hfl
   clear hR hT hi hlt hil hpw hnx hrg hp hFI hm2 hfl hd c0 hgD hgL
   by_cases ht : (i : Int) = torn
   ·have htb : ((i : Int) == torn) = true := by simp [ht]
    have HN2 := hid (show crashM keep torn F ws (i + 1) = putL FI (p.1 * 512) (p.2.take 256) by rw [HNX2.out,if_pos ht])
    obtain ⟨PH,hPH⟩ : ∃ y,p.2.take 256 = y := ⟨_,rfl⟩
    have hpl : PH.length = 256 := by rw [← hPH,List.length_take,HP.out.1]; omega
    rw [hPH] at HN2
    have HAC := hid (show wr.drew.heap[gl]? = some (.cells (yvs FI).toList.toArray 117 (0,0)) from HR.out.lay)
    have HSRC := hid (show ∀ j v,(yvs PH).toList[j]? = some v → wr.drew.cell? ((⟨g,i * 513 + 1,none⟩ : Addr).add j) = some v from fun j v hv => by
     rw [Addr.add_mid]
     have hj : j < 256 := by
      have := (List.getElem?_eq_some_iff.1 hv).1
      rwa [Array.length_toList,yvs_size,hpl] at this
     refine (HS6.out _ (Below.refl _ wr).drew).2.2 j v ?_
     rw [← hv,← hPH]
     simp [yvs,hj])
    have HCP := hid (show (yvs PH).toList.length = Nat.min 512 256 ∧ p.1 * 512 + (yvs PH).toList.length ≤ (yvs FI).toList.length ∧ ∀ v ∈ (yvs PH).toList,v.oneCell' = true from
     ⟨by rw [Array.length_toList,yvs_size,hpl]; rfl,by rw [Array.length_toList,Array.length_toList,yvs_size,yvs_size,hpl]; have := HFL.out; omega,fun v hv => Array.all_eq_true_iff_forall_mem.1 (yvs_one PH) v (by simpa using hv)⟩)
    have HO8 := hid (only_setRow wr.drew gl (yvs (putL FI (p.1 * 512) PH)))
    have HR8 := hid ((HR.out.below (Below.refl _ _).drew).relay HO8.out (setRow_heap wr.drew gl _ _ _ (0,0) HR.out.lay) (by rw [putL_length _ _ _ (by rw [hpl]; have := HFL.out; omega)]; exact HR.out.len))
    have HS8 := hid (HSO.out _ HO8.out)
    have HTT := hid (show Touch [D,gl] w (wr.drew.setRow gl (yvs (putL FI (p.1 * 512) PH))) from HT.out.trans ((Touch.of_below (Below.refl _ _).drew).trans (Touch.of_only HO8.out (by simp))))
    clear ht hPH hpl HNX2
    go_upto_region 5 with fail
    clear htb hix c1
    try simp only [Act.put]
    refine wp_region_noPanic ?_
    refine wp_region_held_drew (S := fun W => W.cell? ⟨D,0,none⟩ = some (.slice (some ⟨gl,0,none⟩) n n) ∧ W.cell? ⟨g,i * 513,none⟩ = some (.int .u32 (p.1 : Int)) ∧ W.rangeAt g (i * 513 + 1) (yvs p.2).toList) (by kernel_rfl) (HS6.out _ (Below.refl _ wr).drew) (fun hHeld => ?_)
    refine wpAnyH_take (i := 0) (oi := ⟨some 25,_,_,_,_,_⟩) (v := ?_) rfl (by kernel_rfl) (by decide +kernel) (by decide +kernel) (fun _ _ _ h => h) (Or.inl ⟨by rfl, ?_⟩) (by assumption) ?_
    rotate_left 1
    ·(intro w' hSw; go_simp; try with_reducible rfl)
    try simp only [Act.put,List.setIfInBounds_toArray,List.set_cons_zero,List.set_cons_succ]
    refine wpAnyH_take (i := 1) (oi := ⟨some 26,_,_,_,_,_⟩) (v := ?_) rfl (by kernel_rfl) (by decide +kernel) (by decide +kernel) (fun _ _ _ h => h) (Or.inl ⟨by rfl, ?_⟩) (by assumption) ?_
    rotate_left 1
    ·(intro w' hSw; go_simp; try with_reducible rfl)
    try simp only [Act.put,List.setIfInBounds_toArray,List.set_cons_zero,List.set_cons_succ]
    refine wpAnyH_take (i := 2) (oi := ⟨some 27,_,_,_,_,_⟩) (v := ?_) rfl (by kernel_rfl) (by decide +kernel) (by decide +kernel) (fun _ _ _ h => h) (Or.inl ⟨by rfl, ?_⟩) (by assumption) ?_
    rotate_left 1
    ·(intro w' hSw; go_simp; try with_reducible rfl)
    try simp only [Act.put,List.setIfInBounds_toArray,List.set_cons_zero,List.set_cons_succ]
    refine wpAnyH_take (i := 3) (oi := ⟨some 28,_,_,_,_,_⟩) (v := ?_) rfl (by kernel_rfl) (by decide +kernel) (by decide +kernel) (fun _ _ _ h => h) (Or.inl ⟨by rfl, ?_⟩) (by assumption) ?_
    rotate_left 1
    ·(intro w' hSw; have hcell := hSw.1; clear hSw; go_simp; try with_reducible rfl)
    try simp only [Act.put,List.setIfInBounds_toArray,List.set_cons_zero,List.set_cons_succ]
    refine wpAnyH_take (i := 4) (oi := ⟨some 29,_,_,_,_,_⟩) (v := ?_) rfl (by kernel_rfl) (by decide +kernel) (by decide +kernel) (fun _ _ _ h => h) (Or.inl ⟨by rfl, ?_⟩) (by assumption) ?_
    rotate_left 1
    ·(intro w' hSw; go_simp; try with_reducible rfl)
    try simp only [Act.put,List.setIfInBounds_toArray,List.set_cons_zero,List.set_cons_succ]
    refine wpAnyH_take (i := 5) (oi := ⟨some 30,_,_,_,_,_⟩) (v := ?_) rfl (by kernel_rfl) (by decide +kernel) (by decide +kernel) (fun _ _ _ h => h) (Or.inl ⟨by rfl, ?_⟩) (by assumption) ?_
    rotate_left 1
    ·(intro w' hSw; go_simp; try with_reducible rfl)
    try simp only [Act.put,List.setIfInBounds_toArray,List.set_cons_zero,List.set_cons_succ]
    refine wpAnyH_take (i := 6) (oi := ⟨some 31,_,_,_,_,_⟩) (v := ?_) rfl (by kernel_rfl) (by decide +kernel) (by decide +kernel) (fun _ _ _ h => h) (Or.inl ⟨by rfl, ?_⟩) (by assumption) ?_
    rotate_left 1
    ·(intro w' hSw; go_simp; try with_reducible rfl)
    try simp only [Act.put,List.setIfInBounds_toArray,List.set_cons_zero,List.set_cons_succ]
    refine wpAnyH_take (i := 7) (oi := ⟨some 32,_,_,_,_,_⟩) (v := ?_) rfl (by kernel_rfl) (by decide +kernel) (by decide +kernel) (fun _ _ _ h => h) (Or.inl ⟨by rfl, ?_⟩) (by assumption) ?_
    rotate_left 1
    ·(intro w' hSw; have hcell := hSw.2.1; clear hSw; go_simp; try with_reducible rfl)
    try simp only [Act.put,List.setIfInBounds_toArray,List.set_cons_zero,List.set_cons_succ]
    have hix := pindex_sec gl n p.1 HP.out.2
    refine wpAnyH_take (i := 8) (oi := ⟨some 33,_,_,_,_,_⟩) (v := ?_) rfl (by kernel_rfl) (by decide +kernel) (by decide +kernel) (fun _ _ _ h => h) (Or.inl ⟨by rfl, ?_⟩) (by assumption) ?_
    rotate_left 1
    ·(intro w' hSw; go_simp; try with_reducible rfl)
    try simp only [Act.put,List.setIfInBounds_toArray,List.set_cons_zero,List.set_cons_succ]
    clear hix
    have hsh := pslice_half gl (p.1 * 512)
    refine wpAnyH_take (i := 9) (oi := ⟨some 34,_,_,_,_,_⟩) (v := ?_) rfl (by kernel_rfl) (by decide +kernel) (by decide +kernel) (fun _ _ _ h => h) (Or.inl ⟨by rfl, ?_⟩) (by assumption) ?_
    rotate_left 1
    ·(intro w' hSw; go_simp; try with_reducible rfl)
    try simp only [Act.put,List.setIfInBounds_toArray,List.set_cons_zero,List.set_cons_succ]
    clear hsh
    refine wpAnyH_take (i := 10) (oi := ⟨some 35,_,_,_,_,_⟩) (v := ?_) rfl (by kernel_rfl) (by decide +kernel) (by decide +kernel) (fun _ _ _ h => h) (Or.inl ⟨by rfl, ?_⟩) (by assumption) ?_
    rotate_left 1
    ·(intro w' hSw; go_simp; try with_reducible rfl)
    try simp only [Act.put,List.setIfInBounds_toArray,List.set_cons_zero,List.set_cons_succ]
    refine wpAnyH_take (i := 11) (oi := ⟨some 36,_,_,_,_,_⟩) (v := ?_) rfl (by kernel_rfl) (by decide +kernel) (by decide +kernel) (fun _ _ _ h => h) (Or.inl ⟨by rfl, ?_⟩) (by assumption) ?_
    rotate_left 1
    ·(intro w' hSw; go_simp; try with_reducible rfl)
    try simp only [Act.put,List.setIfInBounds_toArray,List.set_cons_zero,List.set_cons_succ]
    refine wpAnyH_take (i := 12) (oi := ⟨some 37,_,_,_,_,_⟩) (v := ?_) rfl (by kernel_rfl) (by decide +kernel) (by decide +kernel) (fun _ _ _ h => h) (Or.inl ⟨by rfl, ?_⟩) (by assumption) ?_
    rotate_left 1
    ·(intro w' hSw; go_simp; try with_reducible rfl)
    try simp only [Act.put,List.setIfInBounds_toArray,List.set_cons_zero,List.set_cons_succ]
    have hsh := pslice_sec g (i * 513 + 1)
    refine wpAnyH_take (i := 13) (oi := ⟨some 38,_,_,_,_,_⟩) (v := ?_) rfl (by kernel_rfl) (by decide +kernel) (by decide +kernel) (fun _ _ _ h => h) (Or.inl ⟨by rfl, ?_⟩) (by assumption) ?_
    rotate_left 1
    ·(intro w' hSw; go_simp; try with_reducible rfl)
    try simp only [Act.put,List.setIfInBounds_toArray,List.set_cons_zero,List.set_cons_succ]
    clear hsh hHeld
    refine wpAnyH_ready (rs := [14]) (by decide +kernel) (by simp) ?_
    refine AllReadyH.cons rfl (fun K hK => ?_) AllReadyH.nil
    refine ystep_copy (o := ⟨some 39,_,_,_,_,_⟩) rfl (.tmp 34) (.tmp 38) 62 62 (by rfl) 5 Tryz.underlying62 yone gl (p.1 * 512) 256 512 ⟨g,i * 513 + 1,none⟩ 512 512 (by rfl) (by rfl) (yvs FI).toList 117 HAC.out (yvs PH).toList HCP.out.1 HSRC.out HCP.out.2.1 HCP.out.2.2 ?_
    rw [yvs_putL]
    refine hK.out _ _ (HS8.out) (fun hHeld => ?_)
    clear hK K hHeld
    try simp only [Act.put]
    refine wpAnyH_done (by decide +kernel) ?_ _
    refine NoPanic.normal ?_
    go_wp2_with fail
    go_roundw
    case rel => exact ⟨i + 1,by have := HLT.out; omega,by go_num,by rw [HN2.out]; exact HR8.out,HTT.out⟩
    case measure => simp [intOf]; have := HLT.out; omega
   ·have htb : ((i : Int) == torn) = false := by simp [ht]
    by_cases hb : keep / 2 ^ m % 2 = 1
    ·have hbb : (bits BinOp.and IntKind.u64 ((keep : Int) / 2 ^ m) 1 == 1) = true := by rw [shr_bit _ _]; simp [hb]
     have HN2 := hid (show crashM keep torn F ws (i + 1) = putL FI (p.1 * 512) p.2 by rw [HNX2.out,if_neg ht,if_pos hb])
     have IP := hid (show (Tryz.prog.info? 117).map (·.size) = some (yvs p.2).toList.length by rw [Array.length_toList]; exact psize_sec _ HP.out.1)
     have SP := hid (psize_sec _ HP.out.1)
     have HTH := hid (show wr.drew.there gl (p.1 * 512) (yvs p.2).size by rw [yvs_size,HP.out.1]; exact (show ArrY wr.drew gl 117 _ from HR.out.lay).there _ _ HFL.out)
     have HO8 := hid (only_setCells (yvs p.2).toList (p.1 * 512) wr.drew wr.drew (Only.refl gl _))
     have HA8 := hid (ArrY.put 117 gl p.2 (p.1 * 512) _ wr.drew HR.out.lay (by rw [HP.out.1]; exact HFL.out))
     have HR8 := hid ((HR.out.below (Below.refl _ _).drew).relay HO8.out HA8.out (by rw [putL_length _ _ _ (by rw [HP.out.1]; exact HFL.out)]; exact HR.out.len))
     have HS7 := hid (HSO.out _ HO8.out)
     have HTT := hid (show Touch [D,gl] w (wr.drew.setCells gl (p.1 * 512) (yvs p.2).toList) from HT.out.trans ((Touch.of_below (Below.refl _ _).drew).trans (Touch.of_only HO8.out (by simp))))
     clear ht hb HNX2
     go_upto_region 7 with fail
     clear htb hbb hix c1
     try simp only [Act.put]
     refine wp_region_noPanic ?_
     refine wp_region_held_drew (S := fun W => W.cell? ⟨D,0,none⟩ = some (.slice (some ⟨gl,0,none⟩) n n) ∧ W.cell? ⟨g,i * 513,none⟩ = some (.int .u32 (p.1 : Int)) ∧ W.rangeAt g (i * 513 + 1) (yvs p.2).toList) (by kernel_rfl) (HS6.out _ (Below.refl _ wr).drew) (fun hHeld => ?_)
     refine wpAnyH_take (i := 0) (oi := ⟨some 46,_,_,_,_,_⟩) (v := ?_) rfl (by kernel_rfl) (by decide +kernel) (by decide +kernel) (fun _ _ _ h => h) (Or.inl ⟨by rfl, ?_⟩) (by assumption) ?_
     rotate_left 1
     ·(intro w' hSw; go_simp; try with_reducible rfl)
     try simp only [Act.put,List.setIfInBounds_toArray,List.set_cons_zero,List.set_cons_succ]
     refine wpAnyH_take (i := 1) (oi := ⟨some 47,_,_,_,_,_⟩) (v := ?_) rfl (by kernel_rfl) (by decide +kernel) (by decide +kernel) (fun _ _ _ h => h) (Or.inl ⟨by rfl, ?_⟩) (by assumption) ?_
     rotate_left 1
     ·(intro w' hSw; go_simp; try with_reducible rfl)
     try simp only [Act.put,List.setIfInBounds_toArray,List.set_cons_zero,List.set_cons_succ]
     refine wpAnyH_take (i := 2) (oi := ⟨some 48,_,_,_,_,_⟩) (v := ?_) rfl (by kernel_rfl) (by decide +kernel) (by decide +kernel) (fun _ _ _ h => h) (Or.inl ⟨by rfl, ?_⟩) (by assumption) ?_
     rotate_left 1
     ·(intro w' hSw; go_simp; try with_reducible rfl)
     try simp only [Act.put,List.setIfInBounds_toArray,List.set_cons_zero,List.set_cons_succ]
     refine wpAnyH_take (i := 3) (oi := ⟨some 49,_,_,_,_,_⟩) (v := ?_) rfl (by kernel_rfl) (by decide +kernel) (by decide +kernel) (fun _ _ _ h => h) (Or.inl ⟨by rfl, ?_⟩) (by assumption) ?_
     rotate_left 1
     ·(intro w' hSw; have hcell := hSw.1; clear hSw; go_simp; try with_reducible rfl)
     try simp only [Act.put,List.setIfInBounds_toArray,List.set_cons_zero,List.set_cons_succ]
     refine wpAnyH_take (i := 4) (oi := ⟨some 50,_,_,_,_,_⟩) (v := ?_) rfl (by kernel_rfl) (by decide +kernel) (by decide +kernel) (fun _ _ _ h => h) (Or.inl ⟨by rfl, ?_⟩) (by assumption) ?_
     rotate_left 1
     ·(intro w' hSw; go_simp; try with_reducible rfl)
     try simp only [Act.put,List.setIfInBounds_toArray,List.set_cons_zero,List.set_cons_succ]
     refine wpAnyH_take (i := 5) (oi := ⟨some 51,_,_,_,_,_⟩) (v := ?_) rfl (by kernel_rfl) (by decide +kernel) (by decide +kernel) (fun _ _ _ h => h) (Or.inl ⟨by rfl, ?_⟩) (by assumption) ?_
     rotate_left 1
     ·(intro w' hSw; go_simp; try with_reducible rfl)
     try simp only [Act.put,List.setIfInBounds_toArray,List.set_cons_zero,List.set_cons_succ]
     refine wpAnyH_take (i := 6) (oi := ⟨some 52,_,_,_,_,_⟩) (v := ?_) rfl (by kernel_rfl) (by decide +kernel) (by decide +kernel) (fun _ _ _ h => h) (Or.inl ⟨by rfl, ?_⟩) (by assumption) ?_
     rotate_left 1
     ·(intro w' hSw; go_simp; try with_reducible rfl)
     try simp only [Act.put,List.setIfInBounds_toArray,List.set_cons_zero,List.set_cons_succ]
     refine wpAnyH_take (i := 7) (oi := ⟨some 53,_,_,_,_,_⟩) (v := ?_) rfl (by kernel_rfl) (by decide +kernel) (by decide +kernel) (fun _ _ _ h => h) (Or.inl ⟨by rfl, ?_⟩) (by assumption) ?_
     rotate_left 1
     ·(intro w' hSw; have hcell := hSw.2.1; clear hSw; go_simp; try with_reducible rfl)
     try simp only [Act.put,List.setIfInBounds_toArray,List.set_cons_zero,List.set_cons_succ]
     refine wpAnyH_take (i := 8) (oi := ⟨some 54,_,_,_,_,_⟩) (v := ?_) rfl (by kernel_rfl) (by decide +kernel) (by decide +kernel) (fun _ _ _ h => h) (Or.inl ⟨by rfl, ?_⟩) (by assumption) ?_
     rotate_left 1
     ·(intro w' hSw; go_simp; try with_reducible rfl)
     try simp only [Act.put,List.setIfInBounds_toArray,List.set_cons_zero,List.set_cons_succ]
     refine wpAnyH_take (i := 9) (oi := ⟨some 55,_,_,_,_,_⟩) (v := ?_) rfl (by kernel_rfl) (by decide +kernel) (by decide +kernel) (fun _ _ _ h => h) (Or.inl ⟨by rfl, ?_⟩) (by assumption) ?_
     rotate_left 1
     ·(intro w' hSw; go_simp; try with_reducible rfl)
     try simp only [Act.put,List.setIfInBounds_toArray,List.set_cons_zero,List.set_cons_succ]
     refine wpAnyH_take (i := 10) (oi := ⟨some 56,_,_,_,_,_⟩) (v := ?_) rfl (by kernel_rfl) (by decide +kernel) (by decide +kernel) (fun _ _ _ h => h) (Or.inl ⟨by rfl, ?_⟩) (by assumption) ?_
     rotate_left 1
     ·(intro w' hSw; go_simp; try with_reducible rfl)
     try simp only [Act.put,List.setIfInBounds_toArray,List.set_cons_zero,List.set_cons_succ]
     refine wpAnyH_take (i := 11) (oi := ⟨some 57,_,_,_,_,_⟩) rfl (by kernel_rfl) (by decide +kernel) (by decide +kernel) (fun _ _ _ h => h) (yieldsIf_load_mid (by rfl) _ _ rfl (g) (i * 513 + 1) rfl (yvs p.2).toList _ (fun w' h => h.2.2) Tryz.underlying117 rfl IP.out) (by assumption) ?_
     try simp only [Act.put,List.setIfInBounds_toArray,List.set_cons_zero,List.set_cons_succ,Array.toArray_toList]
     have hix := pindex_sec gl n p.1 HP.out.2
     refine wpAnyH_take (i := 12) (oi := ⟨some 58,_,_,_,_,_⟩) (v := ?_) rfl (by kernel_rfl) (by decide +kernel) (by decide +kernel) (fun _ _ _ h => h) (Or.inl ⟨by rfl, ?_⟩) (by assumption) ?_
     rotate_left 1
     ·(intro w' hSw; go_simp; try with_reducible rfl)
     try simp only [Act.put,List.setIfInBounds_toArray,List.set_cons_zero,List.set_cons_succ]
     clear hix hHeld
     refine wpAnyH_ready (rs := [13]) (by decide +kernel) (by simp) ?_
     refine AllReadyH.cons rfl (fun K hK => ?_) AllReadyH.nil
     rw [if_pos (by kernel_rfl)]
     refine wp_store_mid (op := ⟨none,.store _ (.tmp 58) _,_,_,_,_⟩) 117 _ _ rfl gl (p.1 * 512) (yvs p.2) rfl rfl HTH.out SP.out (yvs_one _) ?_
     refine hK.out _ _ (HS7.out) (fun hHeld => ?_)
     clear hK K hHeld
     try simp only [Act.put]
     refine wpAnyH_done (by decide +kernel) ?_ _
     refine NoPanic.normal ?_
     go_wp2_with fail
     go_roundw
     case rel => exact ⟨i + 1,by have := HLT.out; omega,by go_num,by rw [HN2.out]; exact HR8.out,HTT.out⟩
     case measure => simp [intOf]; have := HLT.out; omega
    ·have hbb : (bits BinOp.and IntKind.u64 ((keep : Int) / 2 ^ m) 1 == 1) = false := by rw [shr_bit _ _]; simp [hb]
     have HN2 := hid (show crashM keep torn F ws (i + 1) = FI by rw [HNX2.out,if_neg ht,if_neg hb])
     clear ht hb HNX2
     go_wp2_with fail
     go_roundw
     case rel => exact ⟨i + 1,by have := HLT.out; omega,by go_num,by rw [HN2.out]; exact HR.out,HT.out⟩
     case measure => simp [intOf]; have := HLT.out; omega
  ·have hbv : decide (i < N) = false := by simp; omega
   have hi2 : i = N := by omega
   rw [hi2] at hR
   obtain ⟨left,hd,hle⟩ := hR.dev
   have hmm : ∀ W : World,(Instr.makeMap 110 none).run Tryz.prog W = .ok (.map (some W.heap.size)) (W.alloc (.map #[] 0)) := fun W => run_makeMap _ W
   have hbA : Below wr.heap.size wr (wr.alloc (.map #[] 0)) := (Below.refl _ _).alloc (Nat.le_refl _) _
   have hdA := (hbA.block D (rd_lt hd)).trans hd
   obtain ⟨_,d1,d2,_⟩ := pd_at hdA
   have f1 := pd_free hdA 1
   have f2 := pd_free hdA 2
   have h1 := heap_setCell_same _ D 1 _ _ (.slice none 0 0) hdA
   have h2 := heap_setCell_same _ D 2 _ _ (.map (some wr.heap.size)) h1
   have HDD := hid h2
   have hO : Only D (wr.alloc (.map #[] 0)) (((wr.alloc (.map #[] 0)).setCell ⟨D,1,none⟩ (.slice none 0 0)).setCell ⟨D,2,none⟩ (.map (some wr.heap.size))) := ((Only.refl _ _).setCell _ _).setCell _ _
   have HO := hid hO
   have HLE := hid hle
   have HR := hid hR
   have HLA := hid (hO.arr (hR.lay.below hbA (zlt hR.lay)) (type_ne hR.lay hd (by decide)))
   have HMM := hid (show MapAt (((wr.alloc (.map #[] 0)).setCell ⟨D,1,none⟩ (.slice none 0 0)).setCell ⟨D,2,none⟩ (.map (some wr.heap.size))) wr.heap.size [] from
    (show MapAt (wr.alloc (.map #[] 0)) wr.heap.size [] from ⟨_,MapOf.none,World.ownsMap_made wr Tryz.prog 41 (plainElem (H := Unit) Tryz.prog 3)⟩).keep (hO.rest _ (by have := rd_lt hd; omega)))
   have HEND := hid (show Touch [D,gl] w (((wr.alloc (.map #[] 0)).setCell ⟨D,1,none⟩ (.slice none 0 0)).setCell ⟨D,2,none⟩ (.map (some wr.heap.size))) from (hT.trans (Touch.of_below hbA)).trans (Touch.of_only hO (by simp)))
   have HSZ := hid hT.size
   clear hR hT hi hlt hi2 h1 h2 hO hd hbA hdA hle
   go_wp2_with fail
   go_end0
   exact ⟨rfl,wr.heap.size,⟨⟨left,HDD.out,HLE.out⟩,HLA.out,HR.out.len,World.ownsRow_nil _ _ _ _,(fun p hp => by cases hp),HR.out.big,HR.out.lim1,HMM.out⟩,HEND.out,HSZ.out⟩
end
section
set_option maxRecDepth 4000
open Go.RowKit
theorem all_bits : ∀ m : Nat,m < 64 → (18446744073709551615 : Nat) / 2 ^ m % 2 = 1 := by decide +kernel
theorem crash_all (F : List (BitVec 8)) (ws : List (Nat × List (BitVec 8))) : ∀ i,i ≤ ws.length → crashM 18446744073709551615 (-1) F ws i = flushM F (ws.take i)
 | 0,_ => rfl
 | i + 1,h => by
   rw [crashM,crash_all F ws i (by omega),flushM_next F ws i (by omega),stepC,if_neg (by omega),if_pos (all_bits _ (by omega))]
   simp [List.getD,show i < ws.length by omega]
set_option maxHeartbeats 1600000 in
theorem pcrash_any (D gl bm n keep : Nat) (torn : Int) (vw : Value) (F : List (BitVec 8)) (ws : List (Nat × List (BitVec 8))) (lim : Int) (dn : Bool) (w : World) (h : PD w D gl bm n vw F ws lim dn) (hws : ws.length ≤ 1000000) (hk : keep < 18446744073709551616) :
 Calls Tryz.prog 19 #[.pointer (some ⟨D,0,none⟩),.int .u64 (keep : Int),.int .i64 torn] w fun e w' => e = .returned (.tuple #[]) ∧ ∃ bm',PD w' D gl bm' n (.slice none 0 0) (crashM keep torn F ws ws.length) [] (-1) false ∧ Touch [D,gl] w w' ∧ w.heap.size ≤ bm' := by
 have HS := hid (psettle_any D gl bm n keep torn vw F ws lim dn w h hws hk)
 clear h hws hk
 go_enter Tryz.func19,Tryz.ntmps19
 go_wp2_with fail
 refine HS.out.mono ?_
 rintro e w3 ⟨rfl,bm',hP,hT,hB⟩
 obtain ⟨left,hd,hle⟩ := hP.dev
 obtain ⟨_,_,_,d3,d4,d5⟩ := pd_at hd
 have f3 := pd_free hd 3
 have f4 := pd_free hd 4
 have f5 := pd_free hd 5
 have h3 := heap_setCell_same _ D 5 _ _ (.bool false) (heap_setCell_same _ D 4 _ _ (.int .i64 0) (heap_setCell_same w3 D 3 _ _ (.bool false) hd))
 have hO : Only D w3 (((w3.setCell ⟨D,3,none⟩ (.bool false)).setCell ⟨D,4,none⟩ (.int .i64 0)).setCell ⟨D,5,none⟩ (.bool false)) := (((Only.refl _ _).setCell _ _).setCell _ _).setCell _ _
 have HP := hid (show PD (((w3.setCell ⟨D,3,none⟩ (.bool false)).setCell ⟨D,4,none⟩ (.int .i64 0)).setCell ⟨D,5,none⟩ (.bool false)) D gl bm' n (.slice none 0 0) (crashM keep torn F ws ws.length) [] (-1) false from hP.redev (left' := 0) hO h3 (fun h => by omega) (by omega))
 have HT := hid (hT.trans (Touch.of_only hO (by simp)))
 have HB := hid hB
 clear hP hT hB HS hd hle h3 hO
 go_wp2_with fail
 go_end0
 exact ⟨rfl,bm',HP.out,HT.out,HB.out⟩
end
section
set_option maxRecDepth 4000
open Go.RowKit
theorem secY_at (F : List (BitVec 8)) (a i : Nat) (hi : i < 512) : (secY F a)[i]? = F[a * 512 + i]? := by
 unfold secY
 rw [List.getElem?_take_of_lt hi,List.getElem?_drop]
theorem putL_get (F l : List (BitVec 8)) (o i : Nat) (h : o + l.length ≤ F.length) : (putL F o l)[i]? = if o ≤ i ∧ i < o + l.length then l[i - o]? else F[i]? := by
 unfold putL
 by_cases h1 : i < o
 ·rw [if_neg (by omega),List.append_assoc,List.getElem?_append_left (by rw [List.length_take]; omega),List.getElem?_take_of_lt h1]
 ·by_cases h2 : i < o + l.length
  ·rw [if_pos (by omega),List.append_assoc,List.getElem?_append_right (by rw [List.length_take]; omega),List.length_take,show min o F.length = o by omega,List.getElem?_append_left (by omega)]
  ·rw [if_neg (by omega),List.getElem?_append_right (by rw [List.length_append,List.length_take]; omega),List.getElem?_drop,List.length_append,List.length_take,show min o F.length = o by omega,show o + l.length + (i - (o + l.length)) = i by omega]
theorem secY_same (F l : List (BitVec 8)) (a n : Nat) (hF : F.length = n * 512) (ha : a < n) (hl : l.length = 512) : secY (putL F (a * 512) l) a = l := by
 have hle : a * 512 + 512 ≤ F.length := by omega
 apply List.ext_getElem?
 intro i
 by_cases hi : i < 512
 ·rw [secY_at _ _ _ hi,putL_get _ _ _ _ (by omega),if_pos (by omega),show a * 512 + i - a * 512 = i by omega]
 ·rw [List.getElem?_eq_none (by unfold secY; rw [List.length_take]; omega),List.getElem?_eq_none (by omega)]
theorem secY_other (F l : List (BitVec 8)) (a b n : Nat) (hF : F.length = n * 512) (ha : a < n) (hl : l.length ≤ 512) (hne : a ≠ b) : secY (putL F (a * 512) l) b = secY F b := by
 have hle : a * 512 + 512 ≤ F.length := by omega
 apply List.ext_getElem?
 intro i
 by_cases hi : i < 512
 ·rw [secY_at _ _ _ hi,secY_at _ _ _ hi,putL_get _ _ _ _ (by omega),if_neg (by omega)]
 ·rw [List.getElem?_eq_none (by unfold secY; rw [List.length_take]; omega),List.getElem?_eq_none (by unfold secY; rw [List.length_take]; omega)]
def PO (w0 w : World) (K : List Nat) (D gl n : Nat) (F : List (BitVec 8)) (ws : List (Nat × List (BitVec 8))) (lim : Int) (dn : Bool) : Prop :=
 ∃ bm vw,PD w D gl bm n vw F ws lim dn ∧ (∀ g ∈ pfp D gl bm vw,w0.heap.size ≤ g ∧ g ∉ K) ∧ (∀ k ∈ K,k < w.heap.size) ∧ Below w0.heap.size w0 w
def Stay (K : List Nat) (w w' : World) : Prop := ∀ k ∈ K,w'.heap[k]? = w.heap[k]?
theorem PO.below {w0 w w' : World} {K : List Nat} {D gl n : Nat} {F : List (BitVec 8)} {ws : List (Nat × List (BitVec 8))} {lim : Int} {dn : Bool} (h : PO w0 w K D gl n F ws lim dn) (q : Below w.heap.size w w') : PO w0 w' K D gl n F ws lim dn := by
 obtain ⟨bm,vw,h,hf,hk,hb⟩ := h
 exact ⟨bm,vw,h.below q,hf,fun k hm => Nat.lt_of_lt_of_le (hk k hm) q.size,hb.trans (q.mono hb.size)⟩
theorem PO.add {w0 w w' : World} {K : List Nat} {D gl n : Nat} {F : List (BitVec 8)} {ws : List (Nat × List (BitVec 8))} {lim : Int} {dn : Bool} (h : PO w0 w K D gl n F ws lim dn) (q : Below w.heap.size w w') (k : Nat) (h1 : w.heap.size ≤ k) (h2 : k < w'.heap.size) : PO w0 w' (k :: K) D gl n F ws lim dn := by
 obtain ⟨bm,vw,h,hf,hk,hb⟩ := h
 refine ⟨bm,vw,h.below q,fun g hg => ⟨(hf g hg).1, ?_⟩, ?_,hb.trans (q.mono hb.size)⟩
 ·have h3 := h.lt g hg
  simp only [List.mem_cons,not_or]
  exact ⟨by omega,(hf g hg).2⟩
 ·intro j hj
  rcases List.mem_cons.1 hj with rfl | hj
  ·exact h2
  ·exact Nat.lt_of_lt_of_le (hk j hj) q.size
theorem PO.set {w0 w w' : World} {K : List Nat} {D gl n k : Nat} {F : List (BitVec 8)} {ws : List (Nat × List (BitVec 8))} {lim : Int} {dn : Bool} (h : PO w0 w K D gl n F ws lim dn) (q : Only k w w') (hk : k ∈ K) (h0 : w0.heap.size ≤ k) : PO w0 w' K D gl n F ws lim dn := by
 obtain ⟨bm,vw,h,hf,hkk,hb⟩ := h
 have t : Touch [k] w w' := Touch.of_only q (by simp)
 refine ⟨bm,vw,h.touch t (fun g hg e => (hf g hg).2 ?_),hf,fun j hj => Nat.lt_of_lt_of_le (hkk j hj) t.size,hb.trans (t.below hb.size (by simpa using h0))⟩
 simp only [List.mem_cons,List.not_mem_nil,or_false] at e
 exact e ▸ hk
theorem PO.bel {w0 w : World} {K : List Nat} {D gl n : Nat} {F : List (BitVec 8)} {ws : List (Nat × List (BitVec 8))} {lim : Int} {dn : Bool} (h : PO w0 w K D gl n F ws lim dn) : Below w0.heap.size w0 w := by
 obtain ⟨_,_,_,_,_,hb⟩ := h; exact hb
theorem PO.len {w0 w : World} {K : List Nat} {D gl n : Nat} {F : List (BitVec 8)} {ws : List (Nat × List (BitVec 8))} {lim : Int} {dn : Bool} (h : PO w0 w K D gl n F ws lim dn) : F.length = n * 512 := by
 obtain ⟨_,_,h,_⟩ := h; exact h.len
theorem goP_free : goP (-1) false = (-1,false) := by decide
theorem pfp_settled {D gl bm bm' : Nat} {vw : Value} {s : Nat} (hs : s ≤ bm') : ∀ g ∈ pfp D gl bm' (.slice none 0 0),g ∈ pfp D gl bm vw ∨ s ≤ g := by
 intro g hg
 simp only [pfp,Value.ownBlock,Option.toList_none,List.mem_cons,List.not_mem_nil,or_false] at hg ⊢
 rcases hg with h1 | h1 | h1
 ·exact .inl (.inl h1)
 ·exact .inl (.inr (.inl h1))
 ·exact .inr (by omega)
end
section
set_option maxRecDepth 4000
open Go.ChangeShapes Go.WideShapes Go.ChangeAt Go.RowKit
section
variable {H : Type} {enc : TypeId × Value → H}
end
end
section
set_option maxRecDepth 4000
open Go.RowKit
theorem PO.touch {w0 w w' : World} {K l : List Nat} {D gl n : Nat} {F : List (BitVec 8)} {ws : List (Nat × List (BitVec 8))} {lim : Int} {dn : Bool} (h : PO w0 w K D gl n F ws lim dn) (t : Touch l w w') (hl : ∀ k ∈ l,k ∈ K ∧ w0.heap.size ≤ k) : PO w0 w' K D gl n F ws lim dn := by
 obtain ⟨bm,vw,h,hf,hk,hb⟩ := h
 exact ⟨bm,vw,h.touch t (fun g hg e => (hf g hg).2 (hl g e).1),hf,fun k hm => Nat.lt_of_lt_of_le (hk k hm) t.size,hb.trans (t.below hb.size (fun k hm => (hl k hm).2))⟩
theorem PO.grow {w0 w w' : World} {K l : List Nat} {D gl n : Nat} {F : List (BitVec 8)} {ws : List (Nat × List (BitVec 8))} {lim : Int} {dn : Bool} (h : PO w0 w K D gl n F ws lim dn) (t : Touch l w w') (hl : ∀ k ∈ l,k ∈ K ∧ w0.heap.size ≤ k) (k : Nat) (h1 : w.heap.size ≤ k) (h2 : k < w'.heap.size) : PO w0 w' (k :: K) D gl n F ws lim dn := by
 obtain ⟨bm,vw,h,hf,hk,hb⟩ := h
 refine ⟨bm,vw,h.touch t (fun g hg e => (hf g hg).2 (hl g e).1),fun g hg => ⟨(hf g hg).1, ?_⟩, ?_,hb.trans (t.below hb.size (fun k hm => (hl k hm).2))⟩
 ·have h3 := h.lt g hg
  simp only [List.mem_cons,not_or]
  exact ⟨by omega,(hf g hg).2⟩
 ·intro j hj
  rcases List.mem_cons.1 hj with rfl | hj
  ·exact h2
  ·exact Nat.lt_of_lt_of_le (hk j hj) t.size
end
end Go.Proofs.YtgckapolpifbkaaGreatDoor
