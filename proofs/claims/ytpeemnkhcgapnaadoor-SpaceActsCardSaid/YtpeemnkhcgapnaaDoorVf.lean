/-
  What layer 11's laws share: the table that the row lists; a Space of a law's own; the chapter's example.
-/
import Derived.Test.YtpeemnkhcgapnaaDoorVe
import Derived.ProofKit
import Derived.LaidMore
import Derived.OpenShut
import Derived.Stop.Joined
import Derived.SizedLaws
import Derived.ChangeOld
import Derived.Below
import Derived.ShutString
namespace Go.Proofs.YtpeemnkhcgapnaaDoor
set_option maxRecDepth 4000
set_option linter.unusedVariables false
open Go.ChangeShapes Go.WideShapes Go.ChangeAt Go.RowKit

theorem own11 : ownKnob Tryd.prog.godebug = none := by kernel_rfl
theorem laidOut11 : laidOutB Tryd.prog = true := by kernel_rfl
theorem gTab : Tryd.prog.globalNamed "math/bits.deBruijn64tab" = some 0 := by kernel_rfl
theorem tTab : (Tryd.prog.globals[0]?).map (·.type) = some 66 := by kernel_rfl
theorem door_met11 (os : Os) (args : Array Value) : laidMetH Tryd.prog [("math/bits.deBruijn64tab", Rows.laid_math_bits_deBruijn64tab)] ((World.doorLaid Tryd.prog 400 os).forCall (fun _ _ => 0) ⟨#[], args, []⟩).memory :=
  laidMetH_of_parts3 (fuel := 8) (laidMet_of_run' 8 (by kernel_rfl) (by kernel_rfl)) (by kernel_rfl) (by kernel_rfl)
def TLits : List (DataW Unit) := Lib.deBruijn64tab.map fun (b : Nat) => .lit (.int .u8 (b : Int))
set_option maxRecDepth 100000 in
theorem laid_eq11 : (Rows.laid_math_bits_deBruijn64tab : DataW Unit) = .agg TLits := by rfl
theorem of_laid11 {W : World} (h : laidMetH Tryd.prog [("math/bits.deBruijn64tab", Rows.laid_math_bits_deBruijn64tab)] W) : TZ W := by
  rw [MakeChecks.laidMetH_plain _ _ _ (by kernel_rfl)] at h
  obtain ⟨ps, ⟨g0, t0, cs0, f0, p0, q0, hg0, ht0, hv0, hd0, _, _⟩, _, _⟩ := h
  obtain rfl := Option.some.inj (gTab.symm.trans hg0)
  obtain rfl := Option.some.inj (tTab.symm.trans ht0)
  have hcell := World.var?_cell hg0 hv0
  obtain ⟨xs, m, rfl, hx, hlen, hn, hel⟩ := DataW.trod_array Tryd.underlying66 hd0
  have c1 : Tryd.prog.cellsOf 5 = 1 := by kernel_rfl
  have hmap : xs.map (fun x => x.fst) = TLits := by
    have := congrArg Prod.fst hx
    rw [laid_eq11] at this
    injection this with this
    exact this.symm
  intro i hi
  have h0 := hel i hi
  rw [c1, Nat.mul_one] at h0
  obtain ⟨y, hy⟩ : ∃ y, xs[i]? = some y := ⟨_, List.getElem?_eq_getElem (by omega)⟩
  rw [hy] at h0
  obtain ⟨n, e1, e2, _⟩ := DataW.trod_int Tryd.underlying5 h0
  have e3 : (xs.map (fun x => x.fst))[i]? = some (.lit (.int .u8 n)) := by rw [List.getElem?_map, hy, e2]; rfl
  have hl : i < Lib.deBruijn64tab.length := hi
  rw [hmap] at e3
  unfold TLits at e3
  rw [List.getElem?_map, List.getElem?_eq_getElem hl] at e3
  simp only [Option.map_some, Option.some.injEq, DataW.lit.injEq, Lit.int.injEq, true_and] at e3
  rw [hcell i]
  have e4 : cs0.toList[i]? = some (.int .u8 n) := by
    have := congrArg (fun l => l[0]?) e1
    simpa using this
  rw [← Array.getElem?_toList, e4, ← e3]
  simp [hl]

/-! ### a Space of a law's own -/
structure SO (w0 w : World) (S n : Nat) (F : Nat → Bool) : Prop where
  sp : SP w S n F
  new : w0.heap.size ≤ S
  bel : Below w0.heap.size w0 w
  tz0 : TZ w0
theorem SO.tz {w0 w : World} {S n : Nat} {F : Nat → Bool} (h : SO w0 w S n F) : TZ w := h.tz0.below h.bel
theorem SO.lt {w0 w : World} {S n : Nat} {F : Nat → Bool} (h : SO w0 w S n F) : S < w.heap.size := h.sp.arr.lt
theorem SO.step {w0 w w' : World} {S n : Nat} {F F' : Nat → Bool} (h : SO w0 w S n F) (s : SP w' S n F') (t : Touch [S] w w') : SO w0 w' S n F' :=
  ⟨s, h.new, h.bel.trans (t.below h.bel.size (by intro k hk; simp at hk; rw [hk]; exact h.new)), h.tz0⟩
theorem SO.below {w0 w w' : World} {S n : Nat} {F : Nat → Bool} (h : SO w0 w S n F) (b : Below w.heap.size w w') : SO w0 w' S n F :=
  ⟨h.sp.below b, h.new, h.bel.trans (b.mono h.bel.size), h.tz0⟩
/-- Blocks of the law's own, new ones all, may have changed, but not the space's. -/
theorem SO.touch {w0 w w' : World} {S n : Nat} {F : Nat → Bool} {l : List Nat} (h : SO w0 w S n F) (t : Touch l w w') (hS : S ∉ l) (hl : ∀ k ∈ l, w0.heap.size ≤ k) : SO w0 w' S n F :=
  ⟨h.sp.touch t hS, h.new, h.bel.trans (t.below h.bel.size hl), h.tz0⟩
theorem so_new (w0 w : World) (n : Nat) (hT : TZ w0) (hb : Below w0.heap.size w0 w) (h0 : 16 ≤ n) (h1 : n ≤ 4096) :
    Calls Tryd.prog 11 #[.int .i64 (n : Int)] w fun e w' => e = .returned (.tuple #[.pointer (some ⟨w.heap.size, 0, none⟩), .int .i64 0]) ∧ SO w0 w' w.heap.size n (allF n) ∧ Below w.heap.size w w' :=
  (pnew11_ok n w h0 h1).mono fun e w' ⟨he, hs, hB⟩ => ⟨he, ⟨hs, hb.size, hb.trans (hB.mono hb.size), hT⟩, hB⟩
theorem so_mark (w0 w : World) (S n a : Nat) (F : Nat → Bool) (h : SO w0 w S n F) :
    Calls Tryd.prog 13 #[.pointer (some ⟨S, 0, none⟩), .int .u32 (a : Int)] w fun e w' => e = .returned (.int .i64 (markA n F a).1) ∧ SO w0 w' S n (markA n F a).2 ∧ Touch [S] w w' :=
  (pmark11_any S n a F w h.sp).mono fun e w' ⟨he, hs, ht⟩ => ⟨he, h.step hs ht, ht⟩
theorem so_free (w0 w : World) (S n a : Nat) (F : Nat → Bool) (h : SO w0 w S n F) :
    Calls Tryd.prog 15 #[.pointer (some ⟨S, 0, none⟩), .int .u32 (a : Int)] w fun e w' => e = .returned (.int .i64 (freeA n F a).1) ∧ SO w0 w' S n (freeA n F a).2 ∧ Touch [S] w w' :=
  (pfree11_any S n a F w h.sp).mono fun e w' ⟨he, hs, ht⟩ => ⟨he, h.step hs ht, ht⟩
theorem so_has (w0 w : World) (S n a : Nat) (F : Nat → Bool) (h : SO w0 w S n F) :
    Calls Tryd.prog 25 #[.pointer (some ⟨S, 0, none⟩), .int .u32 (a : Int)] w fun e w' => e = .returned (.bool (hasA n F a)) ∧ SO w0 w' S n F ∧ Below w.heap.size w w' :=
  (phas11_any S n a F w h.sp).mono fun e w' ⟨he, hb⟩ => ⟨he, h.below hb, hb⟩
theorem so_left (w0 w : World) (S n : Nat) (F : Nat → Bool) (h : SO w0 w S n F) :
    Calls Tryd.prog 24 #[.pointer (some ⟨S, 0, none⟩)] w fun e w' => e = .returned (.int .i64 (cnt F n : Nat)) ∧ w' = w := pleft11_any S n F w h.sp
theorem so_taken (w0 w : World) (S n : Nat) (F : Nat → Bool) (h : SO w0 w S n F) :
    Calls Tryd.prog 23 #[.pointer (some ⟨S, 0, none⟩)] w fun e w' => ∃ a c, e = .returned (.slice a (tkn F n).length c) ∧ OU w' w.heap.size (.slice a (tkn F n).length c) (tkn F n) ∧ SO w0 w' S n F ∧ Below w.heap.size w w' :=
  (ptaken11_any S n F w h.sp).mono fun e w' ⟨a, c, he, ho, hb⟩ => ⟨a, c, he, ho, h.below hb, hb⟩
theorem so_take (w0 w : World) (S n a : Nat) (F : Nat → Bool) (h : SO w0 w S n F) (ha : F a = true) (hlow : ∀ x, x < a → F x = false) :
    Calls Tryd.prog 19 #[.pointer (some ⟨S, 0, none⟩)] w fun e w' => e = .returned (.tuple #[.int .u32 (a : Int), .int .i64 0]) ∧ SO w0 w' S n (updF F a false) ∧ Touch [S] w w' :=
  (ptake11_ok S n a F w h.sp h.tz ha hlow).mono fun e w' ⟨he, hs, ht⟩ => ⟨he, h.step hs ht, ht⟩
theorem so_full (w0 w : World) (S n : Nat) (F : Nat → Bool) (h : SO w0 w S n F) (hF : ∀ a, F a = false) :
    Calls Tryd.prog 19 #[.pointer (some ⟨S, 0, none⟩)] w fun e w' => e = .returned (.tuple #[.int .u32 0, .int .i64 6]) ∧ w' = w := ptake11_full S n F w h.sp hF
theorem so_set (w0 w : World) (S n len cap : Nat) (a : Option Addr) (F : Nat → Bool) (l : List Nat) (h : SO w0 w S n F) (hl : US w a len cap l) (hlen : len ≤ 100000000) (ok : Bool) (hok : ok = true ↔ allIn n l) :
    Calls Tryd.prog 17 #[.pointer (some ⟨S, 0, none⟩), .slice a len cap] w fun e w' => e = .returned (.int .i64 (setA n F l ok).1) ∧ SO w0 w' S n (setA n F l ok).2 ∧ Touch [S] w w' :=
  (pset11_any S n len cap a F l w h.sp hl hlen ok hok).mono fun e w' ⟨he, hs, ht⟩ => ⟨he, h.step hs ht, ht⟩

/-! ### the chapter's example -/
set_option maxRecDepth 100000 in
set_option maxHeartbeats 3200000 in
theorem alive11_any (w : World) (hT : TZ w) : Calls Tryd.prog 10 #[] w fun e w' => e = .returned (.bool true) ∧ Below w.heap.size w w' := by
  have HN := Lib.hid (so_new w w 16 hT (Below.refl _ _) (by decide) (by decide))
  clear hT
  go_enter Tryd.func10, Tryd.ntmps10
  go_wp2_with fail
  refine HN.out.mono ?_
  rintro e w1 ⟨rfl, h1, _⟩
  have HT1 := Lib.hid (so_take _ _ _ _ 2 _ h1 (by decide) (by decide))
  clear HN h1
  generalize hS : w.heap.size = S at *
  have HS := Lib.hid hS
  clear hS
  go_wp2_with fail
  refine HT1.out.mono ?_
  rintro e w2 ⟨rfl, h2, _⟩
  have HT2 := Lib.hid (so_take _ _ _ _ 3 _ h2 (by decide) (by decide))
  clear HT1 h2
  go_wp2_with fail
  refine HT2.out.mono ?_
  rintro e w3 ⟨rfl, h3, _⟩
  have HF3 := Lib.hid (so_free _ _ _ _ 2 _ h3)
  rw [show freeA 16 (updF (updF (allF 16) 2 false) 3 false) 2 = (0, updF (updF (updF (allF 16) 2 false) 3 false) 2 true) by unfold freeA; rw [if_neg (by decide), if_neg (by decide)]] at HF3
  clear HT2 h3
  go_wp2_with fail
  refine HF3.out.mono ?_
  rintro e w4 ⟨rfl, h4, _⟩
  have HT4 := Lib.hid (so_take _ _ _ _ 2 _ h4 (by decide) (by decide))
  clear HF3 h4
  go_wp2_with fail
  refine HT4.out.mono ?_
  rintro e w5 ⟨rfl, h5, _⟩
  have HL5 := Lib.hid (so_left _ _ _ _ _ h5)
  rw [show cnt (updF (updF (updF (updF (allF 16) 2 false) 3 false) 2 true) 2 false) 16 = 12 by decide] at HL5
  have HB5 := Lib.hid h5.bel
  have HNL := Lib.hid (ptake11_nil w5)
  clear HT4 h5
  go_wp2_with fail
  refine HNL.out.mono ?_
  rintro e w6 ⟨rfl, rfl⟩
  clear HNL
  go_wp2_with fail
  refine HL5.out.mono ?_
  rintro e w7 ⟨rfl, rfl⟩
  clear HL5
  go_wp2_with fail
  go_ret
  rw [HS.out]
  exact ⟨rfl, by have := HB5.out; rw [HS.out] at this; exact this⟩
end Go.Proofs.YtpeemnkhcgapnaaDoor
