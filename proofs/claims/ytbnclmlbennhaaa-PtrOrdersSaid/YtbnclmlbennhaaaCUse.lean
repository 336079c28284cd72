/-
  What the laws of layer 5 use: parts of slices, an appended slice, Crypt of any slice that reads as bytes.
-/
import Derived.Test.YtbnclmlbennhaaaCAlive
namespace Go.Proofs.Ytbnclmlbennhaaa
set_option maxRecDepth 4000
open Go.RowKit

/-- Part of a slice. -/
theorem slice_cut (W : World) (a : Option Addr) (len cap lo hi : Nat) (l : List Int) (hB : BS W (.slice a len cap) l) (hl : l.length = len) (h1 : lo ≤ hi) (h2 : hi ≤ len) (h3 : len ≤ cap) :
    ∃ a2 : Option Addr, (∀ W', (Instr.slice 28 (.slice a len cap) (some (.int .i64 (lo : Int))) (some (.int .i64 (hi : Int))) none).run Try.prog W' = .ok (.slice a2 (hi - lo) (cap - lo)) W') ∧
      (hi = len → ∀ W', (Instr.slice 28 (.slice a len cap) (some (.int .i64 (lo : Int))) none none).run Try.prog W' = .ok (.slice a2 (hi - lo) (cap - lo)) W') ∧
      (lo = 0 → ∀ W', (Instr.slice 28 (.slice a len cap) none (some (.int .i64 (hi : Int))) none).run Try.prog W' = .ok (.slice a2 (hi - lo) (cap - lo)) W') ∧
      BS W (.slice a2 (hi - lo) (cap - lo)) ((l.drop lo).take (hi - lo)) := by
  obtain ⟨i0, hi0, hs⟩ := Option.map_eq_some_iff.1 yone
  obtain ⟨a', cap', he, hy, hn, hc⟩ := hB
  injection he with e1 e2 e3
  subst e1; subst e3
  have hlen : ((l.drop lo).take (hi - lo)).length = hi - lo := by rw [List.length_take, List.length_drop]; omega
  have hyy : Byt ((l.drop lo).take (hi - lo)) := fun z hz => hy z (List.mem_of_mem_drop (List.mem_of_mem_take hz))
  refine ⟨if cap = lo then a else a.map (·.add (lo * 1)), ?_, ?_, ?_, ?_⟩
  · intro W'
    have b1 := ybound_ok hi cap .sliceAcap (by omega) W'
    have b2 := ybound_ok lo hi .sliceB h1 W'
    simp [Instr.slice, run_underlying Try.underlying28, Instr.sliceBounds, sizeOf, typeInfo, hi0, hs, b1, b2]
  · rintro rfl W'
    have b2 := ybound_ok lo hi .sliceB h1 W'
    simp [Instr.slice, run_underlying Try.underlying28, Instr.sliceBounds, sizeOf, typeInfo, hi0, hs, b2]
  · rintro rfl W'
    have b1 := ybound_ok hi cap .sliceAcap (by omega) W'
    simp [Instr.slice, run_underlying Try.underlying28, Instr.sliceBounds, sizeOf, typeInfo, hi0, b1]
  · refine ⟨_, _, by rw [hlen], hyy, ?_, ?_⟩
    · intro hnone
      cases a with
      | none => have := hn rfl; omega
      | some x =>
        by_cases h : cap = lo
        · omega
        · simp [h] at hnone
    · by_cases h0 : (l.drop lo).take (hi - lo) = []
      · exact .inl h0
      · right
        have hpos : 0 < hi - lo := by rw [← hlen]; exact List.length_pos_iff.2 h0
        rcases hc with hc | ⟨b, off, rfl, hc⟩
        · subst hc; simp at hl; omega
        · refine ⟨b, off + lo, ?_, fun i hi' => ?_⟩
          · rw [if_neg (by omega)]
            simp [Addr.add_mid]
          · rw [hlen] at hi'
            have := hc (lo + i) (by omega)
            rw [← Nat.add_assoc] at this
            rw [this, List.getD_eq_getElem?_getD, List.getD_eq_getElem?_getD, List.getElem?_take, if_pos hi', List.getElem?_drop]
/-- A slice's beginning. -/
theorem slice_to (W : World) (a : Option Addr) (len cap i : Nat) (l : List (BitVec 8)) (hB : BS W (.slice a len cap) (l.map yv)) (hl : l.length = len) (h : i ≤ len) (h3 : len ≤ cap) :
    ∃ a2 : Option Addr, (∀ W', (Instr.slice 28 (.slice a len cap) none (some (.int .i64 (i : Int))) none).run Try.prog W' = .ok (.slice a2 i cap) W') ∧ BS W (.slice a2 i cap) ((l.take i).map yv) := by
  obtain ⟨a2, _, _, h1, h2⟩ := slice_cut W a len cap 0 i (l.map yv) hB (by simpa using hl) (Nat.zero_le _) h h3
  refine ⟨a2, h1 rfl, ?_⟩
  rw [List.drop_zero, ← List.map_take] at h2
  exact h2
/-- A slice's end. -/
theorem slice_on (W : World) (a : Option Addr) (len cap i : Nat) (l : List (BitVec 8)) (hB : BS W (.slice a len cap) (l.map yv)) (hl : l.length = len) (h : i ≤ len) (h3 : len ≤ cap) :
    ∃ a2 : Option Addr, (∀ W', (Instr.slice 28 (.slice a len cap) (some (.int .i64 (i : Int))) none none).run Try.prog W' = .ok (.slice a2 (len - i) (cap - i)) W') ∧ BS W (.slice a2 (len - i) (cap - i)) ((l.drop i).map yv) := by
  obtain ⟨a2, _, h1, _, h2⟩ := slice_cut W a len cap i len (l.map yv) hB (by simpa using hl) h (Nat.le_refl _) h3
  refine ⟨a2, h1 rfl, ?_⟩
  rw [← List.map_drop, List.take_of_length_le (by simp; omega)] at h2
  exact h2
/-- What an append into a row of the call's own gives. -/
theorem own_bytes {w : World} {base n : Nat} {v : Value} {l : List (BitVec 8)} (h : w.ownsRow base 5 1 v n ((l.map yv).map (Value.int .u8))) (hl : l.length = n) :
    ∃ a cap, v = .slice a n cap ∧ n ≤ cap ∧ cap ≤ maxLen ∧ BS w (.slice a n cap) (l.map yv) := by
  have hb := BS.of_own h (by simpa using hl) (byt_yv l)
  rcases h.2 with ⟨rfl, rfl⟩ | ⟨g, cap, cur, rfl, _, _, h1, h2, _⟩
  · exact ⟨none, 0, rfl, Nat.le_refl _, by unfold maxLen; omega, hb⟩
  · exact ⟨_, cap, rfl, h1, h2, hb⟩
theorem sumB_take (a b : List (BitVec 8)) (i : Nat) : (sumB a b).take i = sumB (a.take i) (b.take i) := by simp [sumB, List.take_zipWith]
theorem sumB_twice (a b : List (BitVec 8)) (h : a.length = b.length) : sumB (sumB a b) b = a := by
  apply List.ext_getElem
  · simp [sumB, h]
  · intro i h1 h2
    simp [sumB, BitVec.xor_assoc]
theorem sumB_zero (n : Nat) (b : List (BitVec 8)) (h : b.length = n) : sumB (zeroY n) b = b := by
  apply List.ext_getElem
  · simp [sumB, zeroY, h]
  · intro i h1 h2
    simp [sumB, zeroY]
theorem size_k32 (l : List (BitVec 8)) (h : l.length = 32) : (Try.prog.info? 24).map (·.size) = some (yvs l).size := by rw [show (Try.prog.info? 24).map (·.size) = some 32 by kernel_rfl, yvs_size, h]
theorem results_cell_two {P : Program} {fn : Func} {p q : Tmp} {ty : TypeId} (h : fn.results = #[.cell p ty, .tmp q]) (tmps : Array Value) (w : World) (g : Nat) (t : TypeId) (cs : Array Value) (fr : Nat × Nat) (d : TypeDesc)
    (hp : tmps.getD p undef = .pointer (some ⟨g, 0, none⟩)) (hg : w.heap[g]? = some (.cells cs t fr))
    (hu : P.underlying ty = some d) (hd : (match d with | .struct _ | .array _ _ => true | _ => false) = true) (hi : (P.info? ty).map (·.size) = some cs.size) (v : Value) (hv : tmps.getD q undef = v) :
    (results fn tmps).run P w = .ok (.tuple #[.agg cs, v]) w := by
  have hp' : tmps[p]?.getD undef = .pointer (some ⟨g, 0, none⟩) := by simpa using hp
  have hv' : tmps[q]?.getD undef = v := by simpa using hv
  simp [results, h, hp', hv', asAddr, run_loadVar_row w g t ty cs fr d hg hu hd hi]
theorem wpList_copy_y {P : Program} {ops : Array Oper} {rest : List Oper} {o : Oper} {a : Act} {w : World} {Q : Exit → Act → World → Prop} (hgd : o.guard = none) (d s : Operand) (dT sT : TypeId)
    (ho : o.op = .call { callee := .builtin .copy, args := #[d, s], argTypes := #[dT, sT] }) (elem : TypeId) (hu : P.underlying dT = some (.slice elem)) (hsz : (P.info? elem).map (·.size) = some 1)
    (g off dLen dCap : Nat) (ad : Addr) (sLen sCap : Nat) (hd : a.eval d = .slice (some ⟨g, off, none⟩) dLen dCap) (hs : a.eval s = .slice (some ad) sLen sCap)
    (cur : List Value) (t : TypeId) (hg : w.heap[g]? = some (.cells cur.toArray t (0, 0))) (cs : List Value) (hn : cs.length = Nat.min sLen dLen)
    (hsrc : ∀ j v, cs[j]? = some v → w.cell? (ad.add j) = some v) (hfit : off + cs.length ≤ cur.length) (h1 : ∀ v ∈ cs, v.oneCell' = true)
    (h : wpList P ops Q rest (a.put o.dst (goInt cs.length)) (w.setRow g (List.take off cur ++ (cs ++ List.drop (off + cs.length) cur)).toArray)) : wpList P ops Q (o :: rest) a w := by
  refine wpList_plain hgd fun K hK => ?_
  have hrun := run_copy_row (P := P) w dT sT o.type elem g off dLen dCap ad sLen sCap cur.toArray t cs hu hsz hg hn hsrc (by simpa using hfit) h1
  unfold Oper.wp
  simp [execOp, ho, resolve, invoke, builtin, hd, hs, hrun, Result.andThen]
  exact hK _ _ h
theorem wpList_load_guarded {P : Program} {ops : Array Oper} {rest : List Oper} {o : Oper} {a : Act} {w : World} {Q : Exit → Act → World → Prop} (hw : Region.wanted o (yielded ops a.tmps) = true) (ty : TypeId) (x : Operand) (ho : o.op = .load ty x)
    (g : Nat) (hx : a.eval x = .pointer (some ⟨g, 0, none⟩)) (t : TypeId) (cs : Array Value) (fr : Nat × Nat) (d : TypeDesc) (hg : w.heap[g]? = some (.cells cs t fr))
    (hu : P.underlying ty = some d) (hd : (match d with | .struct _ | .array _ _ => true | _ => false) = true) (hi : (P.info? ty).map (·.size) = some cs.size)
    (h : wpList P ops Q rest (a.put o.dst (.agg cs)) w) : wpList P ops Q (o :: rest) a w :=
  wpList_step fun _ hK => by rw [if_pos hw]; exact wp_load_row ty x ho g hx t cs fr d hg hu hd hi (hK _ _ h)
theorem bs_src {w : World} {a : Option Addr} {n cap : Nat} {l : List (BitVec 8)} (h : BS w (.slice a n cap) (l.map yv)) (hl : 0 < l.length) :
    ∃ ad, a = some ad ∧ ∀ j v, (yvs l).toList[j]? = some v → w.cell? (ad.add j) = some v := by
  obtain ⟨a', cap', hv, hy, hn, h⟩ := h
  injection hv with e1 e2 e3
  rcases h with h | ⟨b, off, ha, hc⟩
  · have : l = [] := List.map_eq_nil_iff.1 h
    subst this
    simp at hl
  · refine ⟨⟨b, off, none⟩, e1.trans ha, fun j v hv => ?_⟩
    have hj : j < l.length := by
      have := (List.getElem?_eq_some_iff.1 hv).1
      rwa [Array.length_toList, yvs_size] at this
    rw [Addr.add_mid, hc j (by simpa using hj)]
    simp only [yvs, List.getElem?_map] at hv
    simp [List.getD, hj] at hv ⊢
    exact hv
end Go.Proofs.Ytbnclmlbennhaaa
