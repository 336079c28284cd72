/-
  The program's device of layer 6, in memory; its small calls.
-/
import Derived.Test.YtmfpdbmohebodaaDBad
import Derived.Test.YtmfpdbmohebodaaDCrash
import Derived.Test.YtmfpdbmohebodaaDRead
import Derived.Maps.OwnSet
import Derived.Maps.AppendAt
namespace Go.Proofs.Ytmfpdbmohebodaa
open Go.RowKit
open Go.Maps (Keyed)

/-- The cells of the program's device. -/
def pdCells (gl bm n : Nat) (vw : Value) (lb : Bool) (left : Int) (dn : Bool) : Array Value := #[.slice (some ⟨gl, 0, none⟩) n n, vw, .map (some bm), .bool lb, .int .i64 left, .bool dn]
theorem pd_at {w : World} {D t gl bm n : Nat} {vw : Value} {lb : Bool} {left : Int} {dn : Bool} (h : w.heap[D]? = some (.cells (pdCells gl bm n vw lb left dn) t (0, 0))) :
    w.cell? ⟨D, 0, none⟩ = some (.slice (some ⟨gl, 0, none⟩) n n) ∧ w.cell? ⟨D, 1, none⟩ = some vw ∧ w.cell? ⟨D, 2, none⟩ = some (.map (some bm)) ∧ w.cell? ⟨D, 3, none⟩ = some (.bool lb) ∧ w.cell? ⟨D, 4, none⟩ = some (.int .i64 left) ∧ w.cell? ⟨D, 5, none⟩ = some (.bool dn) :=
  ⟨cell_of_row _ _ _ _ _ _ h, cell_of_row _ _ _ _ _ _ h, cell_of_row _ _ _ _ _ _ h, cell_of_row _ _ _ _ _ _ h, cell_of_row _ _ _ _ _ _ h, cell_of_row _ _ _ _ _ _ h⟩
theorem pd_free {w : World} {D t gl bm n : Nat} {vw : Value} {lb : Bool} {left : Int} {dn : Bool} (h : w.heap[D]? = some (.cells (pdCells gl bm n vw lb left dn) t (0, 0))) (k : Nat) : w.frozen? ⟨D, k, none⟩ = false := frozen_of_row w D k _ _ h
/-- What the map holds of writes that wait: of each sector the number of its last one. -/
inductive MapOf : List (Nat × List (BitVec 8)) → DataW Unit → Prop
  | none : MapOf [] (.map [])
  | more (ws : List (Nat × List (BitVec 8))) (m : DataW Unit) (p : Nat × List (BitVec 8)) : MapOf ws m → MapOf (ws ++ [p]) (m.put (.int .u32 (p.1 : Int)) (.lit (.int .i64 (ws.length : Int))))
/-- The map, in memory. -/
def MapAt (w : World) (bm : Nat) (ws : List (Nat × List (BitVec 8))) : Prop := ∃ m, MapOf ws m ∧ w.ownsMap Try.prog 32 (plainElem Try.prog 3) bm ws.length m
/-- A device of the program, in memory. -/
structure PD (w : World) (D gl bm n : Nat) (vw : Value) (F : List (BitVec 8)) (ws : List (Nat × List (BitVec 8))) (lim : Int) (dn : Bool) : Prop where
  dev : ∃ left, w.heap[D]? = some (.cells (pdCells gl bm n vw (decide (0 ≤ lim)) left dn) 71 (0, 0)) ∧ (0 ≤ lim → left = lim)
  lay : ArrY w gl 74 F
  len : F.length = n * 512
  wai : w.ownsRow 0 79 513 vw ws.length (wcells ws)
  wok : ∀ p ∈ ws, p.2.length = 512 ∧ p.1 < n
  big : n ≤ 4096
  lim1 : lim ≤ 9223372036854775807
  map : MapAt w bm ws
/-- Its blocks. -/
def pfp (D gl bm : Nat) (vw : Value) : List Nat := D :: gl :: bm :: vw.ownBlock.toList
theorem MapAt.keep {w w' : World} {bm : Nat} {ws : List (Nat × List (BitVec 8))} (h : MapAt w bm ws) (e : w'.heap[bm]? = w.heap[bm]?) : MapAt w' bm ws := by
  obtain ⟨m, hm, es, clock, hb, F, hs, hD⟩ := h
  exact ⟨m, hm, es, clock, e.trans hb, F, hs, hD⟩
theorem MapAt.is {w : World} {bm : Nat} {ws : List (Nat × List (BitVec 8))} (h : MapAt w bm ws) : ∃ es clock, w.heap[bm]? = some (.map es clock) := by
  obtain ⟨m, hm, es, clock, hb, F, hs, hD⟩ := h
  exact ⟨es, clock, hb⟩
theorem MapAt.lt {w : World} {bm : Nat} {ws : List (Nat × List (BitVec 8))} (h : MapAt w bm ws) : bm < w.heap.size := by
  obtain ⟨m, hm, h⟩ := h
  exact h.lt
theorem MapAt.ne {w : World} {bm g t : Nat} {cs : Array Value} {fr : Nat × Nat} {ws : List (Nat × List (BitVec 8))} (h : MapAt w bm ws) (q : w.heap[g]? = some (.cells cs t fr)) : g ≠ bm := by
  obtain ⟨es, clock, hb⟩ := h.is
  rintro rfl
  rw [hb] at q
  exact absurd q (by simp)
theorem own_lt {B n k : Nat} {e : TypeId} {v : Value} {xs : List Value} {w : World} (h : w.ownsRow B e k v n xs) : ∀ g, v.ownBlock = some g → g < w.heap.size := by
  rcases h.2 with ⟨rfl, _⟩ | ⟨g', cap, cur, rfl, _, hg', _⟩
  · intro g hg; simp [Value.ownBlock] at hg
  · intro g hg
    simp only [Value.ownBlock, Option.some.injEq] at hg
    subst hg
    exact rd_lt hg'
theorem own_map_ne {B n k : Nat} {e : TypeId} {v : Value} {xs : List Value} {w : World} {bm : Nat} {ws : List (Nat × List (BitVec 8))} (h : w.ownsRow B e k v n xs) (q : MapAt w bm ws) : v.ownBlock ≠ some bm := by
  rcases h.2 with ⟨rfl, _⟩ | ⟨g', cap, cur, rfl, _, hg', _⟩
  · simp [Value.ownBlock]
  · simp only [Value.ownBlock, ne_eq, Option.some.injEq]
    exact q.ne hg'
theorem PD.lt {w : World} {D gl bm n : Nat} {vw : Value} {F : List (BitVec 8)} {ws : List (Nat × List (BitVec 8))} {lim : Int} {dn : Bool} (h : PD w D gl bm n vw F ws lim dn) : ∀ g ∈ pfp D gl bm vw, g < w.heap.size := by
  intro g hg
  obtain ⟨left, hd, _⟩ := h.dev
  simp only [pfp, List.mem_cons, Option.mem_toList] at hg
  rcases hg with rfl | rfl | rfl | hg
  · exact rd_lt hd
  · exact zlt h.lay
  · exact h.map.lt
  · exact own_lt h.wai g hg
theorem PD.touch {w w' : World} {l : List Nat} {D gl bm n : Nat} {vw : Value} {F : List (BitVec 8)} {ws : List (Nat × List (BitVec 8))} {lim : Int} {dn : Bool} (h : PD w D gl bm n vw F ws lim dn) (q : Touch l w w') (hne : ∀ g ∈ pfp D gl bm vw, g ∉ l) : PD w' D gl bm n vw F ws lim dn := by
  obtain ⟨left, hd, hl⟩ := h.dev
  exact ⟨⟨left, (q.block D (rd_lt hd) (hne D (by simp [pfp]))).trans hd, hl⟩, q.arr h.lay (hne gl (by simp [pfp])), h.len, own_touch h.wai q (fun g hg => hne g (by simp [pfp, hg])), h.wok, h.big, h.lim1, h.map.keep (q.block bm h.map.lt (hne bm (by simp [pfp])))⟩
theorem PD.below {w w' : World} {D gl bm n : Nat} {vw : Value} {F : List (BitVec 8)} {ws : List (Nat × List (BitVec 8))} {lim : Int} {dn : Bool} (h : PD w D gl bm n vw F ws lim dn) (hb : Below w.heap.size w w') : PD w' D gl bm n vw F ws lim dn :=
  h.touch (l := []) (Touch.of_below hb) (fun _ _ => by simp)
/-- The bytes that lie there have changed. -/
theorem PD.relay {w w' : World} {D gl bm n : Nat} {vw : Value} {F F' : List (BitVec 8)} {ws : List (Nat × List (BitVec 8))} {lim : Int} {dn : Bool} (h : PD w D gl bm n vw F ws lim dn) (q : Only gl w w') (hF : ArrY w' gl 74 F') (hl : F'.length = n * 512) : PD w' D gl bm n vw F' ws lim dn := by
  obtain ⟨left, hd, hle⟩ := h.dev
  exact ⟨⟨left, (q.rest D (type_ne hd h.lay (by decide))).trans hd, hle⟩, hF, hl, own_only h.wai q (own_type h.wai h.lay (by decide)), h.wok, h.big, h.lim1, h.map.keep (q.rest bm (Ne.symm (h.map.ne h.lay)))⟩
/-- Its own cells have changed, what waits not. -/
theorem PD.redev {w w' : World} {D gl bm n : Nat} {vw : Value} {F : List (BitVec 8)} {ws : List (Nat × List (BitVec 8))} {lim lim' left' : Int} {dn dn' : Bool} (h : PD w D gl bm n vw F ws lim dn) (q : Only D w w') (hD : w'.heap[D]? = some (.cells (pdCells gl bm n vw (decide (0 ≤ lim')) left' dn') 71 (0, 0))) (hle : 0 ≤ lim' → left' = lim') (hl : lim' ≤ 9223372036854775807) : PD w' D gl bm n vw F ws lim' dn' := by
  obtain ⟨left, hd, _⟩ := h.dev
  exact ⟨⟨left', hD, hle⟩, q.arr h.lay (type_ne h.lay hd (by decide)), h.len, own_only h.wai q (own_type h.wai hd (by decide)), h.wok, h.big, hl, h.map.keep (q.rest bm (Ne.symm (h.map.ne hd)))⟩

set_option maxHeartbeats 800000 in
theorem placks_any (D gl bm n a : Nat) (vw : Value) (F : List (BitVec 8)) (ws : List (Nat × List (BitVec 8))) (lim : Int) (dn : Bool) (w : World) (h : PD w D gl bm n vw F ws lim dn) (ha : a < 4294967296) :
    Calls Try.prog 38 #[.pointer (some ⟨D, 0, none⟩), .int .u32 (a : Int)] w fun e w' => e = .returned (.int .i64 (if a < n then 0 else 2)) ∧ w' = w := by
  have hn := h.big
  obtain ⟨left, hd, _⟩ := h.dev
  obtain ⟨c0, _⟩ := pd_at hd
  have aI : (a : Int) < 4294967296 := by omega
  have nI : (n : Int) ≤ 4096 := by omega
  have hw : IntKind.u32.wrap (n : Int) = (n : Int) := IntWalk.u32_in _ (by omega)
  by_cases hlt : a < n
  · rw [if_pos hlt]
    have hbv : decide ((n : Int) ≤ (a : Int)) = false := by simp; omega
    have hbv2 : decide (n ≤ a) = false := by simp; omega
    clear h ha hn hd hlt
    go_enter Try.func38, Try.ntmps38
    go_wp2_with fail
    go_ret
    exact ⟨rfl, rfl⟩
  · rw [if_neg hlt]
    have hbv : decide ((n : Int) ≤ (a : Int)) = true := by simp; omega
    have hbv2 : decide (n ≤ a) = true := by simp; omega
    clear h ha hn hd hlt
    go_enter Try.func38, Try.ntmps38
    go_wp2_with fail
    go_ret
    exact ⟨rfl, rfl⟩
set_option maxHeartbeats 800000 in
theorem prefuses_any (D gl bm n a : Nat) (vw : Value) (F : List (BitVec 8)) (ws : List (Nat × List (BitVec 8))) (lim : Int) (dn : Bool) (ab : Option Addr) (lb capb : Nat) (w : World) (h : PD w D gl bm n vw F ws lim dn) (ha : a < 4294967296) :
    Calls Try.prog 36 #[.pointer (some ⟨D, 0, none⟩), .int .u32 (a : Int), .slice ab lb capb] w fun e w' => e = .returned (.int .i64 (if a < n ∧ lb = 512 then 0 else 2)) ∧ w' = w := by
  have HT := Lib.hid (placks_any D gl bm n a vw F ws lim dn w h ha)
  by_cases hlt : a < n
  · have HT2 := Lib.hid (show Calls Try.prog 38 #[.pointer (some ⟨D, 0, none⟩), .int .u32 (a : Int)] w fun e w' => e = .returned (.int .i64 0) ∧ w' = w by have q := HT.out; rwa [if_pos hlt] at q)
    by_cases hl : lb = 512
    · rw [if_pos ⟨hlt, hl⟩]
      subst hl
      clear h ha HT hlt
      go_enter Try.func36, Try.ntmps36
      go_wp2_with fail
      refine HT2.out.mono ?_
      rintro e w1 ⟨rfl, rfl⟩
      go_wp2_with fail
      go_ret
      exact ⟨rfl, rfl⟩
    · rw [if_neg (fun h => hl h.2)]
      have hbv : ((lb : Int) == 512) = false := by simp; omega
      clear h ha HT hlt hl
      go_enter Try.func36, Try.ntmps36
      go_wp2_with fail
      refine HT2.out.mono ?_
      rintro e w1 ⟨rfl, rfl⟩
      go_wp2_with fail
      go_ret
      exact ⟨rfl, rfl⟩
  · have HT2 := Lib.hid (show Calls Try.prog 38 #[.pointer (some ⟨D, 0, none⟩), .int .u32 (a : Int)] w fun e w' => e = .returned (.int .i64 2) ∧ w' = w by have q := HT.out; rwa [if_neg hlt] at q)
    rw [if_neg (fun h => hlt h.1)]
    clear h ha HT hlt
    go_enter Try.func36, Try.ntmps36
    go_wp2_with fail
    refine HT2.out.mono ?_
    rintro e w1 ⟨rfl, rfl⟩
    go_wp2_with fail
    go_ret
    exact ⟨rfl, rfl⟩
/-- Whether one more goes well: the limit, and whether it is down, behind it. -/
def goP (lim : Int) (dn : Bool) : Int × Bool := (if dn = false ∧ 0 < lim then lim - 1 else lim, dn || decide (lim = 0))
set_option maxHeartbeats 1600000 in
theorem pgoes_any (D gl bm n : Nat) (vw : Value) (F : List (BitVec 8)) (ws : List (Nat × List (BitVec 8))) (lim : Int) (dn : Bool) (w : World) (h : PD w D gl bm n vw F ws lim dn) :
    Calls Try.prog 33 #[.pointer (some ⟨D, 0, none⟩)] w fun e w' => e = .returned (.bool (!(goP lim dn).2)) ∧ PD w' D gl bm n vw F ws (goP lim dn).1 (goP lim dn).2 ∧ Only D w w' := by
  have hl := h.lim1
  obtain ⟨left, hd, hle⟩ := h.dev
  obtain ⟨_, _, _, c3, c4, c5⟩ := pd_at hd
  have f4 := pd_free hd 4
  have f5 := pd_free hd 5
  have H := Lib.hid h
  have HD := Lib.hid hd
  rcases Int.lt_trichotomy lim 0 with h0 | h0 | h0
  · have hb : decide (0 ≤ lim) = false := by simp; omega
    rw [hb] at c3
    have HG := Lib.hid (show goP lim dn = (lim, dn) by unfold goP; rw [if_neg (by omega)]; simp; omega)
    clear h hd h0 hle hl hb
    cases dn
    all_goals
      go_enter Try.func33, Try.ntmps33
      go_wp2_with fail
      go_ret
      rw [HG.out]
      exact ⟨rfl, H.out, Only.refl _ _⟩
  · subst h0
    have e0 := hle (Int.le_refl 0)
    subst e0
    have HG := Lib.hid (show goP 0 dn = (0, true) by unfold goP; simp)
    rw [show decide ((0 : Int) ≤ 0) = true from rfl] at c3
    clear h hd hl hle
    go_enter Try.func33, Try.ntmps33
    go_wp2_with fail
    go_ret
    rw [HG.out]
    have hO : Only D w (w.setCell ⟨D, 5, none⟩ (.bool true)) := (Only.refl _ _).setCell _ _
    exact ⟨rfl, H.out.redev hO (heap_setCell_same _ _ _ _ _ _ HD.out) (fun _ => rfl) (by omega), hO⟩
  · have hb : decide (0 ≤ lim) = true := by simp; omega
    rw [hb] at c3
    have e0 := hle (by omega)
    subst e0
    have b1 : (left == 0) = false := by simp; omega
    cases dn
    · have HG := Lib.hid (show goP left false = (left - 1, false) by unfold goP; rw [if_pos ⟨rfl, h0⟩]; simp; omega)
      have hb2 := Lib.hid (show decide (0 ≤ left - 1) = decide (0 ≤ left) by rw [hb]; simp; omega)
      clear h hd hle hb
      go_enter Try.func33, Try.ntmps33
      go_wp2_with fail
      go_ret
      rw [HG.out]
      have hO : Only D w (w.setCell ⟨D, 4, none⟩ (.int .i64 (left - 1))) := (Only.refl _ _).setCell _ _
      exact ⟨rfl, H.out.redev hO (by rw [hb2.out]; exact heap_setCell_same _ _ _ _ _ _ HD.out) (fun _ => rfl) (by omega), hO⟩
    · have HG := Lib.hid (show goP left true = (left, true) by unfold goP; simp)
      clear h hd hle hb hl
      go_enter Try.func33, Try.ntmps33
      go_wp2_with fail
      go_ret
      rw [HG.out]
      exact ⟨rfl, H.out, Only.refl _ _⟩
end Go.Proofs.Ytmfpdbmohebodaa
