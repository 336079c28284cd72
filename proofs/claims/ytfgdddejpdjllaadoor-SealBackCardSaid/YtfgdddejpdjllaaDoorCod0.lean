/-
  Txt: Texts as bytes; what is appended to a row of the law's or the reference's own. (As in Mac and Zeros, under names of its own: a seat without those packages.)
  Tch: Worlds in which some blocks may have changed, and new ones may have been made; appends into a row of one's own, with the block that it has then.
  Fill: Aggregates that are built of parts; slices of one element; a row of structs of one's own, one more.
  QRaw: The reference of layer 7: a reader in memory; Raw, Num, End.
  QStr: The reference of layer 7: a reader's Str and Hash.
  QLay: The reference of layer 7: a text's bytes; acts.
  Wr: codec's Writer in memory: bytes.Clone; what is laid one behind the other.
  Wr2: codec's Writer: Num, Str, Hash, Pad, Bytes.
  Rd: codec's Reader in memory.
  QLay2: The reference of layer 7: Lay.
  WL: A Writer and a Reader of a law's own; alive.
  Lays: The acts of layer 7's laws: how they come in, how one is taken out; lay.
  Read: Two readers side by side, the program's and the reference's; read.
-/
import Derived.Test.YtfgdddejpdjllaaDoorCtr0
import Derived.Lib.ConvBytes
import Derived.Laws.AppendOwn
import Derived.Maps.AppendAt
import Derived.Great.BuildSlice
import Derived.BigRegion
import Derived.Test.YtfgdddejpdjllaaDoorLow
import Derived.Lib.AppendStr
import Derived.Stop.BytesEq
namespace Go.Proofs.YtfgdddejpdjllaaDoor
set_option maxRecDepth 4000
open Go.RowKit

/-- A text's bytes. -/
def btxt (s : ByteArray) : List Int := s.data.toList.map fun b => (b.toNat : Int)
theorem btxt_length (s : ByteArray) : (btxt s).length = s.size := by rw [btxt, List.length_map]; rfl
theorem btxt_byt (s : ByteArray) : Byt (btxt s) := by
  intro z hz
  simp only [btxt, List.mem_map] at hz
  obtain ⟨b, _, rfl⟩ := hz
  have := b.toNat_lt
  omega
theorem bbytes_below (w : World) (s : ByteArray) : Below w.heap.size w (Lib.bytesWorld w 5 s) := by
  have h : ∀ (W : World) (a : Addr) (n : Nat), (W.freeze a n).os = W.os ∧ (W.freeze a n).tape = W.tape ∧ (W.freeze a n).output = W.output := by
    intro W a n
    unfold World.freeze
    split <;> exact ⟨rfl, rfl, rfl⟩
  exact ⟨(h _ _ _).1, (h _ _ _).2.1, (h _ _ _).2.2, by rw [Lib.bytesWorld_size]; omega, fun k hk => Lib.bytesWorld_at_old w _ s k hk⟩
theorem bbytes_bs (w : World) (s : ByteArray) : BS (Lib.bytesWorld w 5 s) (.slice (some ⟨w.heap.size, 0, none⟩) s.size (grownCap w s.size 0 5)) (btxt s) := by
  refine ⟨some ⟨w.heap.size, 0, none⟩, grownCap w s.size 0 5, by rw [btxt_length], btxt_byt s, nofun, .inr ⟨w.heap.size, 0, rfl, fun i hi => ?_⟩⟩
  rw [btxt_length] at hi
  rw [Nat.zero_add, Lib.bytesWorld_cell w 5 s i hi]
  have h2 : i < s.data.toList.length := hi
  simp only [btxt, List.getD_eq_getElem?_getD, List.getElem?_map, List.getElem?_eq_getElem h2, Option.map_some, Option.getD_some]
theorem bconv_txt (s : ByteArray) (W : World) : (convert 9 22 (.string s)).run Tryd.prog W = .ok (.slice (some ⟨W.heap.size, 0, none⟩) s.size (grownCap W s.size 0 5)) (Lib.bytesWorld W 5 s) :=
  Lib.run_convert_string_bytes W _ _ _ s Tryd.underlying9 Tryd.underlying22 Tryd.underlying5

theorem zeroCells_u87 (n : Nat) : Builtin.zeroCells (Value.int .u8 0).cells n = (List.replicate n (Value.int .u8 0)).toArray := by
  have hs : (Value.int IntKind.u8 0).cells = #[Value.int .u8 0] := rfl
  rw [hs]
  apply Array.ext
  · simp [Builtin.zeroCells]
  · intro i h1 h2
    simp [Builtin.zeroCells, Nat.mod_one]
theorem run_asInt7 (m : Int) (w : World) : (asInt (.int .i64 m)).run Tryd.prog w = .ok m w := by rfl
set_option maxHeartbeats 800000 in
theorem run_append_zeros7 (w : World) (base n m : Nat) (v : Value) (xs : List Value) (ty : TypeId) (hown : w.ownsRow base 5 1 v n xs) (hn : n + m ≤ 1000000) (hbase : base ≤ w.heap.size) :
    ∃ v' w', (Builtin.append_ #[22, 3] ty #[v, .int .i64 (m : Int)]).run Tryd.prog w = .ok v' w' ∧ w'.ownsRow base 5 1 v' (n + m) (xs ++ List.replicate m (.int .u8 0)) ∧ w.grownBy w' v.ownBlock ∧ (v'.ownBlock = v.ownBlock ∨ v'.ownBlock = some w.heap.size) := by
  obtain ⟨i0, hi, hz0, hz1, hz2⟩ := info_parts info_u8
  have hw : IntKind.i64.wrap (m : Int) = (m : Int) := IntWalk.i64_in _ (by omega)
  have hneg : ¬ ((m : Int) < 0) := by omega
  have hbig : ¬ ((281474976710656 : Int) < (m : Int)) := by omega
  have hlen : xs.length = n := by have := hown.1; omega
  have hlen2 : (xs ++ List.replicate m (Value.int .u8 0)).length = (n + m) * 1 := by simp [hlen]
  by_cases hm : m = 0
  · subst hm
    have hw0 : IntKind.i64.wrap 0 = 0 := by decide
    refine ⟨v, w, ?_, by simpa using hown, ⟨rfl, rfl, rfl, Nat.le_refl _, fun _ _ _ => rfl⟩, .inl rfl⟩
    rcases hown.2 with ⟨rfl, rfl⟩ | ⟨g, cap, cur, rfl, hbg, hg, hnc, hcm, hcs, htake⟩
    · simp [Builtin.append_, run_underlying Tryd.underlying22, run_underlying Tryd.underlying3, sizeOf, typeInfo, hi, hz2, run_asInt7, hw0]
    · simp [Builtin.append_, run_underlying Tryd.underlying22, run_underlying Tryd.underlying3, sizeOf, typeInfo, hi, hz2, run_asInt7, hw0, hnc, storeCells]
  have hm1 : ¬ m = 0 := hm
  have hml : ¬ ((m : Int) ≤ 0) := by omega
  have grown : ∀ (old : Nat), old < n + m → ∀ (row : Option Nat),
      (w.drew.alloc (.cells (xs.toArray ++ (List.replicate m (Value.int .u8 0)).toArray ++ Builtin.zeroCells (Value.int .u8 0).cells (grownCap w (n + m) old 5 - (n + m))) 5)).ownsRow base 5 1
        (.slice (some ⟨w.heap.size, 0, none⟩) (n + m) (grownCap w (n + m) old 5)) (n + m) (xs ++ List.replicate m (Value.int .u8 0)) ∧
      w.grownBy (w.drew.alloc (.cells (xs.toArray ++ (List.replicate m (Value.int .u8 0)).toArray ++ Builtin.zeroCells (Value.int .u8 0).cells (grownCap w (n + m) old 5 - (n + m))) 5)) row := by
    intro old ho row
    have hge := grownCap_ge w (n + m) old 5
    have hcm : grownCap w (n + m) old 5 ≤ maxLen := grownCap_le_maxLen w (n + m) old 5 (by unfold maxLen; omega)
    refine ⟨⟨hlen2, .inr ⟨w.heap.size, _, _, rfl, hbase, heap_alloc_new w.drew _, hge, hcm, ?_, ?_⟩⟩, ⟨rfl, rfl, rfl, by simp, fun k hk _ => heap_alloc_old w.drew _ hk⟩⟩
    · rw [zeroCells_u87]; simp [hlen]; omega
    · simp only [Array.toList_append, List.append_assoc]
      rw [← List.append_assoc, ← hlen2]
      exact List.take_left
  have hi63 : ¬ (9223372036854775807 < (n : Int) + max (m : Int) 0) := by omega
  have hi63' : ¬ (9223372036854775807 < (n : Int) + (m : Int)) := by omega
  rcases hown.2 with ⟨rfl, rfl⟩ | ⟨g, cap, cur, rfl, hbg, hg, hnc, hcm, hcs, htake⟩
  · have hx : xs = [] := List.eq_nil_of_length_eq_zero hlen
    subst hx
    have hgr := grown 0 (by omega) none
    have h63 : ¬ (9223372036854775807 < (m : Int)) := by omega
    have h48 : ¬ (281474976710656 < Builtin.nextslicecap m 0) := by rw [nextslicecap_zero (by omega)]; omega
    refine ⟨_, _, ?_, hgr.1, hgr.2, .inr rfl⟩
    simp [Builtin.append_, run_underlying Tryd.underlying22, run_underlying Tryd.underlying3, sizeOf, typeInfo, zeroValue, hi, hz0, hz1, hz2, run_asInt7, hw, hneg, hbig, hm, h63, h48, Question.forced, newRow, grownCap, run_firstCells_none, zeroCells_u87]
  · by_cases hroom : n + m ≤ cap
    · have hst := run_storeCells_at Tryd.prog g n 5 (List.replicate m (Value.int .u8 0)) 0 cur w hg (by simp; omega) (by intro u hu; obtain ⟨_, rfl⟩ := List.mem_replicate.1 hu; rfl)
      rw [Nat.add_zero] at hst
      refine ⟨.slice (some ⟨g, 0, none⟩) (n + m) cap, _, ?_, ⟨hlen2, .inr ⟨g, cap, _, rfl, hbg, setRow_heap w g cur (cur.toList.take n ++ List.replicate m (Value.int .u8 0) ++ cur.toList.drop (n + (List.replicate m (Value.int .u8 0)).length)).toArray _ _ hg, hroom, hcm, ?_, ?_⟩⟩, ⟨rfl, rfl, rfl, by simp, fun k _ hk => setRow_other w g k _ (fun e => hk (by simp [Value.ownBlock, e]))⟩, .inl rfl⟩
      · simp [Builtin.append_, run_underlying Tryd.underlying22, run_underlying Tryd.underlying3, sizeOf, typeInfo, zeroValue, hi, hz0, hz1, hz2, run_asInt7, hw, hneg, hbig, hm, hroom, Addr.add_lit, zeroCells_u87, hst]
      · simp; omega
      · have e : (cur.toList.take n ++ List.replicate m (Value.int .u8 0)).length = n + m := by simp; omega
        rw [← htake]
        simp only [Nat.mul_one]
        rw [← e]
        exact List.take_left
    · have holds : ∀ j u, xs[j]? = some u → w.cell? ((⟨g, 0, none⟩ : Addr).add j) = some u := hown.cells (g := g) rfl
      have hgr := grown cap (by omega) (some g)
      have h48 : ¬ (281474976710656 < Builtin.nextslicecap (n + m) cap) := by have := growslice_fits (need := n + m) (old := cap) (bytes := 1) (by omega) (by omega); omega
      have hfo := run_firstCells_some (P := Tryd.prog) w.drew 1 n ⟨g, 0, none⟩ n cap xs (by omega) (by simpa using holds)
      refine ⟨_, _, ?_, hgr.1, hgr.2, .inr rfl⟩
      simp [Builtin.append_, run_underlying Tryd.underlying22, run_underlying Tryd.underlying3, sizeOf, typeInfo, zeroValue, hi, hz0, hz1, hz2, run_asInt7, hw, hneg, hbig, hm, hroom, hi63', h48, Question.forced, newRow, grownCap, hfo, zeroCells_u87]
/-- 'append(v, x...)', v the call's own, x any slice of bytes, as an equation. -/
theorem run_append_BS7 (w : World) (base n : Nat) (v vx : Value) (xs : List Value) (l : List Int) (hown : w.ownsRow base 5 1 v n xs) (hB : BS w vx l) (h63 : n + l.length ≤ 140737488355328) (hbase : base ≤ w.heap.size) :
    ∃ v' w', (Builtin.append_ #[22, 22] 22 #[v, vx]).run Tryd.prog w = .ok v' w' ∧ w'.ownsRow base 5 1 v' (n + l.length) (xs ++ l.map (Value.int .u8)) ∧ w.grownBy w' v.ownBlock := by
  obtain ⟨i0, hi, hz0, hz1, hz2⟩ := info_parts info_u8
  obtain ⟨ad, cap, rfl, hb, hn, hc⟩ := hB
  cases ad with
  | none =>
    obtain rfl := hn rfl
    have hl : l = [] := by
      rcases hc with h | ⟨b, off, h, _⟩
      · exact h
      · cases h
    subst hl
    exact ⟨v, w, run_append_owned_none (P := Tryd.prog) (w := w) base _ _ _ i0 1 Tryd.underlying22 hi v n xs hown, by simpa using hown, ⟨rfl, rfl, rfl, Nat.le_refl _, fun _ _ _ => rfl⟩⟩
  | some ad =>
    obtain ⟨v', w', h1, h2, h3, _⟩ := run_append_own (P := Tryd.prog) w base 22 22 5 i0 _ 1 1 Tryd.underlying22 hi hz0 hz1 hz2 rfl (by decide) v n xs hown ad l.length cap (l.map (Value.int .u8)) (by simp) (by
      intro j u hj
      have hjl : j < l.length := by
        have := (List.getElem?_eq_some_iff.1 hj).1
        simpa using this
      rcases hc with hc | ⟨b, off, he, hc⟩
      · subst hc; simp at hjl
      · obtain rfl := Option.some.inj he
        have e2 : (⟨b, off, none⟩ : Addr).add j = ⟨b, off + j, none⟩ := by unfold Addr.add; split <;> simp_all
        rw [e2, hc j hjl]
        simp [hjl] at hj
        simp [hjl, hj]) (by
      intro u hu
      simp only [List.mem_map] at hu
      obtain ⟨z, _, rfl⟩ := hu
      rfl) (by unfold maxLen; omega) (by omega) hbase
    exact ⟨v', w', h1, h2, h3⟩
theorem wp_append_run7 {P : Program} {w : World} {o : Oper} {a : Act} {K : Act → World → Prop} {Q : Exit → Act → World → Prop} (s x : Operand) (dT sT : TypeId)
    (ho : o.op = .call { callee := .builtin .append, args := #[s, x], argTypes := #[dT, sT] }) (v vx v' : Value) (w' : World) (hs : a.eval s = v) (hx : a.eval x = vx)
    (hr : (Builtin.append_ #[dT, sT] o.type #[v, vx]).run P w = .ok v' w') (h : K (a.put o.dst v') w') : o.wp P a w K Q := by
  unfold Oper.wp execOp
  simp only [ho, resolve, invoke, builtin, Sem.run_bind, Sem.run_pure, Result.andThen_ok, List.map_toArray, List.map_cons, List.map_nil, hs, hx, hr]
  exact h
theorem drew_eq_alloc7 (w : World) (o : Obj) : World.alloc w.drew o = (World.alloc w o).drew := rfl
theorem btxt_str (l : List Int) (h : Byt l) : btxt (strOfNums l) = l := by
  unfold btxt
  rw [strOfNums_data, List.map_map]
  conv => rhs; rw [← List.map_id l]
  apply List.map_congr_left
  intro z hz
  have := h z hz
  simp
  omega
end Go.Proofs.YtfgdddejpdjllaaDoor
namespace Go.Proofs.YtfgdddejpdjllaaDoor
set_option maxRecDepth 4000
open Go.RowKit

/-- Of what was there the blocks of l alone may have changed. -/
structure Touch (l : List Nat) (w w' : World) : Prop where
  os : w'.os = w.os
  tape : w'.tape = w.tape
  output : w'.output = w.output
  size : w.heap.size ≤ w'.heap.size
  block : ∀ k, k < w.heap.size → k ∉ l → w'.heap[k]? = w.heap[k]?
theorem Touch.refl (l : List Nat) (w : World) : Touch l w w := ⟨rfl, rfl, rfl, Nat.le_refl _, fun _ _ _ => rfl⟩
theorem Touch.trans {l : List Nat} {a b c : World} (h : Touch l a b) (q : Touch l b c) : Touch l a c :=
  ⟨q.os.trans h.os, q.tape.trans h.tape, q.output.trans h.output, Nat.le_trans h.size q.size, fun k hk hn => (q.block k (Nat.lt_of_lt_of_le hk h.size) hn).trans (h.block k hk hn)⟩
theorem Touch.more {l m : List Nat} {a b : World} (h : Touch l a b) (hm : ∀ k ∈ l, k ∈ m) : Touch m a b := ⟨h.os, h.tape, h.output, h.size, fun k hk hn => h.block k hk (fun e => hn (hm k e))⟩
theorem Touch.of_below {l : List Nat} {a b : World} (h : Below a.heap.size a b) : Touch l a b := ⟨h.os, h.tape, h.output, h.size, fun k hk _ => h.block k hk⟩
theorem Touch.of_only {l : List Nat} {g : Nat} {a b : World} (h : Only g a b) (hg : g ∈ l) : Touch l a b :=
  ⟨(h.bel 0 (Nat.zero_le _)).os, (h.bel 0 (Nat.zero_le _)).tape, (h.bel 0 (Nat.zero_le _)).output, Nat.le_of_eq h.size.symm, fun k _ hn => h.rest k (fun e => hn (e ▸ hg))⟩
theorem Touch.below {l : List Nat} {a b : World} {B : Nat} (h : Touch l a b) (hB : B ≤ a.heap.size) (hl : ∀ k ∈ l, B ≤ k) : Below B a b :=
  ⟨h.os, h.tape, h.output, h.size, fun k hk => h.block k (by omega) (fun e => by have := hl k e; omega)⟩
theorem Touch.arr {l : List Nat} {a b : World} {g t : Nat} {L : List (BitVec 8)} (h : Touch l a b) (q : ArrY a g t L) (hg : g ∉ l) : ArrY b g t L := (h.block g (zlt q) hg).trans q
theorem own_touch {l : List Nat} {B n k : Nat} {e : TypeId} {v : Value} {xs : List Value} {w w' : World} (h : w.ownsRow B e k v n xs) (q : Touch l w w') (hne : ∀ g, v.ownBlock = some g → g ∉ l) : w'.ownsRow B e k v n xs := by
  refine ⟨h.1, ?_⟩
  rcases h.2 with hn | ⟨g, cap, cur, rfl, hb, hgg, rest⟩
  · exact .inl hn
  · exact .inr ⟨g, cap, cur, rfl, hb, (q.block g (Array.getElem?_eq_some_iff.1 hgg).1 (hne g rfl)).trans hgg, rest⟩
theorem Touch.grown {w w' : World} {row : Option Nat} (h : w.grownBy w' row) : Touch row.toList w w' :=
  ⟨h.os, h.tape, h.output, h.size, fun k hk hn => h.block k hk (fun e => hn (by rw [← e]; simp))⟩
theorem Touch.bs {l : List Nat} {a b : World} {v : Value} {xs : List Int} (h : Touch l a b) (q : BS a v xs) (hg : ∀ g, v.ownBlock = some g → g ∉ l) : BS b v xs := by
  obtain ⟨ad, cap, rfl, hy, hn, hc⟩ := q
  refine ⟨ad, cap, rfl, hy, hn, ?_⟩
  rcases hc with h0 | ⟨g, off, rfl, hc⟩
  · exact .inl h0
  · refine .inr ⟨g, off, rfl, fun i hi => ?_⟩
    have c0 := hc i hi
    have e : b.heap[g]? = a.heap[g]? := h.block g (block_lt_of_cell c0) (hg g rfl)
    rw [← c0]
    simp [World.cell?, e]
/-- 'append(v, x...)', v the call's own, x any slice of bytes, with the block behind it. -/
theorem run_append_BS_at (w : World) (base n : Nat) (v vx : Value) (xs : List Value) (l : List Int) (hown : w.ownsRow base 5 1 v n xs) (hB : BS w vx l) (h63 : n + l.length ≤ 140737488351232) (hbase : base ≤ w.heap.size) :
    ∃ v' w', (Builtin.append_ #[22, 22] 22 #[v, vx]).run Tryd.prog w = .ok v' w' ∧ w'.ownsRow base 5 1 v' (n + l.length) (xs ++ l.map (Value.int .u8)) ∧ w.grownBy w' v.ownBlock ∧ (v'.ownBlock = v.ownBlock ∨ v'.ownBlock = some w.heap.size) := by
  obtain ⟨i0, hi, hz0, hz1, hz2⟩ := info_parts info_u8
  obtain ⟨ad, cap, rfl, hb, hn, hc⟩ := hB
  cases ad with
  | none =>
    obtain rfl := hn rfl
    have hl : l = [] := by
      rcases hc with h | ⟨b, off, h, _⟩
      · exact h
      · cases h
    subst hl
    exact ⟨v, w, run_append_owned_none (P := Tryd.prog) (w := w) base _ _ _ i0 1 Tryd.underlying22 hi v n xs hown, by simpa using hown, ⟨rfl, rfl, rfl, Nat.le_refl _, fun _ _ _ => rfl⟩, .inl rfl⟩
  | some ad =>
    obtain ⟨v', w', h1, h2, h3, _, h5⟩ := run_append_own_at (P := Tryd.prog) w base 22 22 5 i0 _ 1 1 Tryd.underlying22 hi hz0 hz1 hz2 rfl (by decide) v n xs hown ad l.length cap (l.map (Value.int .u8)) (by simp) (by
      intro j u hj
      have hjl : j < l.length := by
        have := (List.getElem?_eq_some_iff.1 hj).1
        simpa using this
      rcases hc with hc | ⟨b, off, he, hc⟩
      · subst hc; simp at hjl
      · obtain rfl := Option.some.inj he
        have e2 : (⟨b, off, none⟩ : Addr).add j = ⟨b, off + j, none⟩ := by unfold Addr.add; split <;> simp_all
        rw [e2, hc j hjl]
        simp [hjl] at hj
        simp [hjl, hj]) (by
      intro u hu
      simp only [List.mem_map] at hu
      obtain ⟨z, _, rfl⟩ := hu
      rfl) (by unfold maxLen; omega) (by omega) hbase
    exact ⟨v', w', h1, h2, h3, h5⟩
/-- An append whose equation is there. -/
theorem wpList_append_run {P : Program} {ops : Array Oper} {rest : List Oper} {o : Oper} {a : Act} {w : World} {Q : Exit → Act → World → Prop} (hgd : o.guard = none) (s x : Operand) (dT sT : TypeId)
    (ho : o.op = .call { callee := .builtin .append, args := #[s, x], argTypes := #[dT, sT] }) (v vx v' : Value) (w' : World) (hs : a.eval s = v) (hx : a.eval x = vx)
    (hr : (Builtin.append_ #[dT, sT] o.type #[v, vx]).run P w = .ok v' w') (h : wpList P ops Q rest (a.put o.dst v') w') : wpList P ops Q (o :: rest) a w :=
  wpList_plain hgd fun _ hK => wp_append_run7 s x dT sT ho v vx v' w' hs hx hr (hK _ _ h)
/-- What a row of one's own reads as. -/
theorem own_bs {w : World} {base n : Nat} {v : Value} {l : List Int} (h : w.ownsRow base 5 1 v n (l.map (Value.int .u8))) (hl : l.length = n) (hb : Byt l) :
    ∃ a cap, v = .slice a n cap ∧ n ≤ cap ∧ BS w (.slice a n cap) l := by
  have hbs := BS.of_own h hl hb
  rcases h.2 with ⟨rfl, rfl⟩ | ⟨g, cap, cur, rfl, _, _, h1, h2, _⟩
  · exact ⟨none, 0, rfl, Nat.le_refl _, hbs⟩
  · exact ⟨_, cap, rfl, h1, hbs⟩
end Go.Proofs.YtfgdddejpdjllaaDoor
namespace Go.Proofs.YtfgdddejpdjllaaDoor
set_option maxRecDepth 4000
open Go.RowKit

theorem fold_at (off : Nat) : ∀ (xs : List Value) (s : Nat) (C : Array Value) (i : Nat),
    ((xs.zipIdx s).foldl (fun cs (p : Value × Nat) => cs.setIfInBounds (off + p.2) p.1) C)[i]? = if i < C.size ∧ off + s ≤ i ∧ i < off + s + xs.length then xs[i - (off + s)]? else C[i]?
  | [], s, C, i => by simp; omega
  | x :: xs, s, C, i => by
    rw [List.zipIdx_cons, List.foldl_cons, fold_at off xs (s + 1) _ i]
    simp only [Array.size_setIfInBounds, List.length_cons, Array.getElem?_setIfInBounds]
    by_cases h1 : i < C.size
    · by_cases h2 : i = off + s
      · subst h2
        simp [h1]; omega
      · by_cases h3 : off + s ≤ i ∧ i < off + s + (xs.length + 1)
        · rw [if_pos (by omega), if_pos (by omega), show i - (off + s) = i - (off + (s + 1)) + 1 by omega, List.getElem?_cons_succ]
        · rw [if_neg (by omega), if_neg (by omega), if_neg (by omega)]
    · simp only [h1, false_and, if_false]
      split
      · rename_i e
        rw [if_neg (by omega), Array.getElem?_eq_none (by omega)]
      · rfl
theorem fold_all (v C : Array Value) (off : Nat) (h : off + v.size ≤ C.size) (D : Array Value) (hD : ∀ i, D[i]? = if off ≤ i ∧ i < off + v.size then v[i - off]? else C[i]?) :
    v.zipIdx.foldl (fun cs (p : Value × Nat) => cs.setIfInBounds (off + p.2) p.1) C = D := by
  apply Array.ext_getElem?
  intro i
  have e : v.zipIdx.foldl (fun cs (p : Value × Nat) => cs.setIfInBounds (off + p.2) p.1) C = (v.toList.zipIdx 0).foldl (fun cs (p : Value × Nat) => cs.setIfInBounds (off + p.2) p.1) C := by
    rw [← Array.foldl_toList]; simp
  rw [e, fold_at, hD]
  simp only [Nat.add_zero, Array.length_toList, Array.getElem?_toList]
  by_cases h1 : off ≤ i ∧ i < off + v.size
  · rw [if_pos (by omega), if_pos h1]
  · rw [if_neg (by omega), if_neg h1]
theorem fill_cons (place : Nat → Option (Nat × Nat)) (C D v : Array Value) (x : Value) (i off size : Nat) (rest : List (Nat × Value)) (hx : x.cells = v) (hp : place i = some (off, size)) (hs : v.size = size) (h : off + v.size ≤ C.size) (hD : ∀ i, D[i]? = if off ≤ i ∧ i < off + v.size then v[i - off]? else C[i]?) :
    Instr.fill place C ((i, x) :: rest) = Instr.fill place D rest := by
  subst hx
  rw [Instr.fill, hp]
  dsimp only
  rw [if_neg (by simp [hs]; omega)]
  rw [fold_all _ C off h D hD]
/-- A row of as many cells, laid whole. -/
theorem fill_one (C v : Array Value) (size : Nat) (hv : v.size = size) (hc : C.size = size) : Instr.fill (fun i => some (i * size, size)) C [(0, .agg v)] = some v := by
  rw [fill_cons _ C v v (.agg v) 0 (0 * size) size [] rfl rfl hv (by omega) (fun i => by
    by_cases h : i < v.size
    · rw [if_pos (by omega)]; simp
    · rw [if_neg (by omega), Array.getElem?_eq_none (by omega), Array.getElem?_eq_none (by omega)])]
  rfl
theorem wp_append_at {P : Program} {o : Oper} {a : Act} {w : World} {K : Act → World → Prop} {Q : Exit → Act → World → Prop} (s x : Operand) (t : TypeId) (ho : o.op = .call { callee := .builtin .append, args := #[s, x], argTypes := #[t, t] }) (sv xv : Value) (hs : a.eval s = sv) (hx : a.eval x = xv)
    (v' : Value) (w' : World) (hr : (Builtin.append_ #[t, t] o.type #[sv, xv]).run P w = .ok v' w') (h : K (a.put o.dst v') w') : o.wp P a w K Q := by
  unfold Oper.wp execOp
  simp only [ho, resolve, invoke, builtin, Sem.run_bind, Sem.run_pure, Result.andThen_ok, List.map_toArray, List.map_cons, List.map_nil, hs, hx, hr]
  exact h
theorem wp_lit_at {P : Program} {o : Oper} {a : Act} {w : World} {K : Act → World → Prop} {Q : Exit → Act → World → Prop} (t : TypeId) (len : Nat) (parts : Array (Nat × Operand)) (ho : o.op = .buildSlice t len parts) (vs : Array (Nat × Value)) (hv : (parts.map fun (i, x) => (i, a.eval x)) = vs)
    (v : Value) (w' : World) (hr : (Instr.buildSlice t len vs).run P w = .ok v w') (h : K (a.put o.dst v) w') : o.wp P a w K Q := by
  subst hv
  unfold Oper.wp execOp
  simp only [ho, Sem.run_bind, hr, Result.andThen_ok]
  exact h
theorem yieldsIf_build {P : Program} {ops : Array Oper} {S : World → Prop} {op : Oper} {a : Act} (hw : Region.wanted op (yielded ops a.tmps) = true) (t : TypeId) (parts : Array (Nat × Operand)) (ho : op.op = .build t parts) (vs : Array (Nat × Value)) (v : Value) (hv : (parts.map fun (i, x) => (i, a.eval x)) = vs)
    (hr : ∀ W, (Instr.build t vs).run P W = .ok v W) : YieldsIf P ops S op v a := by
  subst hv
  exact .inl ⟨hw, fun w hw' => by
    unfold execOp
    simp only [ho, Sem.run_bind, Sem.run_pure, Result.andThen_ok, hr]⟩
theorem wpList_lit_run {P : Program} {ops : Array Oper} {rest : List Oper} {o : Oper} {a : Act} {w : World} {Q : Exit → Act → World → Prop} (hgd : o.guard = none) (t : TypeId) (len : Nat) (parts : Array (Nat × Operand)) (ho : o.op = .buildSlice t len parts) (vs : Array (Nat × Value)) (hv : (parts.map fun (i, x) => (i, a.eval x)) = vs)
    (v : Value) (w' : World) (hr : (Instr.buildSlice t len vs).run P w = .ok v w') (h : wpList P ops Q rest (a.put o.dst v) w') : wpList P ops Q (o :: rest) a w :=
  wpList_plain hgd fun _ hK => wp_lit_at t len parts ho vs hv v w' hr (hK _ _ h)
theorem lit_one {P : Program} {T E size bytes : Nat} {Z : Array Value} (ht : P.underlying T = some (.slice E)) (hinfo : (P.info? E).map (fun i => (i.zero, i.size, i.bytes)) = some (some (.agg Z), size, bytes)) (h0 : 1 ≤ size) (hs : size ≤ 100000) (cs : Array Value) (hc : cs.size = size) (W : World) :
    (Instr.buildSlice T 1 #[(0, .agg cs)]).run P W = .ok (.slice (some ⟨W.heap.size, 0, none⟩) 1 1) (W.alloc (.cells cs E)) := by
  obtain ⟨i, hi, hzz⟩ := Option.map_eq_some_iff.1 hinfo
  simp only [Prod.mk.injEq] at hzz
  obtain ⟨hz, hs', hb⟩ := hzz
  refine run_buildSlice W T E 1 _ cs i _ ht hi hz (by rw [hs']; omega) (by rw [hs']; omega) ?_
  rw [hs']
  exact fill_one _ _ size hc (by simp)
theorem append_one {P : Program} {T E size bytes B n : Nat} {Z : Array Value} {w : World} {v : Value} {xs : List Value} (ht : P.underlying T = some (.slice E)) (hinfo : (P.info? E).map (fun i => (i.zero, i.size, i.bytes)) = some (some (.agg Z), size, bytes)) (hZ : Z.size = size) (h0 : 1 ≤ size)
    (hown : w.ownsRow B E size v n xs) (y : Nat) (cs : List Value) (hy : w.heap[y]? = some (.cells cs.toArray E (0, 0))) (hcs : cs.length = size) (h1 : ∀ u ∈ cs, u.oneCell' = true) (hn : n ≤ 1000000) (hb : bytes ≤ 1000000) (hB : B ≤ w.heap.size) :
    ∃ a c w', (Builtin.append_ #[T, T] T #[v, .slice (some ⟨y, 0, none⟩) 1 1]).run P w = .ok (.slice a (n + 1) c) w' ∧ w'.ownsRow B E size (.slice a (n + 1) c) (n + 1) (xs ++ cs) ∧ w.grownBy w' v.ownBlock ∧ ((Value.slice a (n + 1) c).ownBlock = v.ownBlock ∨ (Value.slice a (n + 1) c).ownBlock = some w.heap.size) := by
  obtain ⟨i, hi, hzz⟩ := Option.map_eq_some_iff.1 hinfo
  simp only [Prod.mk.injEq] at hzz
  obtain ⟨hz, hs, hby⟩ := hzz
  have hmul : (n + 1) * bytes ≤ 1000001 * 1000000 := Nat.mul_le_mul (by omega) hb
  obtain ⟨v', W', hr, ho, hg, _, hnb⟩ := run_append_own_at (P := P) w B T T E i _ size bytes ht hi hz hs hby hZ (by omega)
    v n xs hown ⟨y, 0, none⟩ 1 1 cs (by rw [hcs]; omega) (fun j u hu => by
      rw [Addr.add_mid, cell_of_row _ _ _ _ _ _ hy]; simpa using hu) h1 (by unfold maxLen; omega) (by omega) hB
  obtain ⟨a', c', rfl⟩ : ∃ a c, v' = .slice a (n + 1) c := by
    rcases ho.2 with ⟨h5, h6⟩ | ⟨g', c, cur, h5, _⟩
    · omega
    · exact ⟨_, _, h5⟩
  exact ⟨a', c', W', hr, ho, hg, hnb⟩
end Go.Proofs.YtfgdddejpdjllaaDoor
namespace Go.Proofs.YtfgdddejpdjllaaDoor
set_option maxRecDepth 4000
open Go.RowKit

/-- A reader, in memory: one slice that reads as l. -/
structure RR (w : World) (t : Nat) (R : Nat) (ab : Option Addr) (lb cb : Nat) (l : List Int) : Prop where
  cell : w.heap[R]? = some (.cells #[.slice ab lb cb] t (0, 0))
  bytes : BS w (.slice ab lb cb) l
  len : l.length = lb
  cap : lb ≤ cb
  big : lb ≤ 140737488351232
theorem RR.at {w : World} {t R lb cb : Nat} {ab : Option Addr} {l : List Int} (h : RR w t R ab lb cb l) : w.cell? ⟨R, 0, none⟩ = some (.slice ab lb cb) := cell_of_row _ _ _ _ _ _ h.cell
theorem BS.only {w w' : World} {R t lb cb : Nat} {a : Option Addr} {v : Value} {l : List Int} (h : BS w v l) (hR : w.heap[R]? = some (.cells #[.slice a lb cb] t (0, 0))) (q : Only R w w') : BS w' v l := by
  obtain ⟨a', cap', hv, hy, hn, hc⟩ := h
  refine ⟨a', cap', hv, hy, hn, ?_⟩
  rcases hc with h0 | ⟨b, off, ha, hc⟩
  · exact .inl h0
  · by_cases hl : l = []
    · exact .inl hl
    · refine .inr ⟨b, off, ha, fun i hi => ?_⟩
      have hne : b ≠ R := by
        rintro rfl
        have q0 := hc i hi
        rw [cell_of_row _ _ _ _ _ _ hR] at q0
        cases ho : off + i with
        | zero => rw [ho] at q0; simp at q0
        | succ k => rw [ho] at q0; simp at q0
      have e : w'.cell? ⟨b, off + i, none⟩ = w.cell? ⟨b, off + i, none⟩ := by simp [World.cell?, q.rest b hne]
      rw [e]
      exact hc i hi
theorem BS.old {w W : World} {R t lb cb : Nat} {a : Option Addr} {v : Value} {l : List Int} (h : BS w v l) (hR : w.heap[R]? = some (.cells #[.slice a lb cb] t (0, 0))) (q : ∀ k, k < w.heap.size → k ≠ R → W.heap[k]? = w.heap[k]?) : BS W v l := by
  obtain ⟨a', cap', hv, hy, hn, hc⟩ := h
  refine ⟨a', cap', hv, hy, hn, ?_⟩
  rcases hc with h0 | ⟨b, off, ha, hc⟩
  · exact .inl h0
  · refine .inr ⟨b, off, ha, fun i hi => ?_⟩
    have q0 := hc i hi
    have hlt := block_lt_of_cell q0
    have hne : b ≠ R := by
      rintro rfl
      rw [cell_of_row _ _ _ _ _ _ hR] at q0
      cases ho : off + i with
      | zero => rw [ho] at q0; simp at q0
      | succ k => rw [ho] at q0; simp at q0
    have e : W.cell? ⟨b, off + i, none⟩ = w.cell? ⟨b, off + i, none⟩ := by simp [World.cell?, q b hlt hne]
    rw [e]
    exact q0
theorem RR.below {w w' : World} {t R lb cb : Nat} {ab : Option Addr} {l : List Int} (h : RR w t R ab lb cb l) (b : Below w.heap.size w w') : RR w' t R ab lb cb l :=
  ⟨(b.block R (Array.getElem?_eq_some_iff.1 h.cell).1).trans h.cell, h.bytes.kept b, h.len, h.cap, h.big⟩
/-- What Raw answers, and what is left. -/
def rawA (n : Int) (l : List Int) : List Int × Int × List Int := if n < 0 then ([], 2, l) else if (l.length : Int) < n then ([], 3, l) else (l.take n.toNat, 0, l.drop n.toNat)
theorem bs_nil (w : World) : BS w (.slice none 0 0) [] := ⟨none, 0, rfl, by intro z hz; simp at hz, fun _ => rfl, .inl rfl⟩
/-- What Num answers, and what is left. -/
def numA (n : Int) (l : List Int) : Int × Int × List Int := if n < 0 ∨ 8 < n then (0, 2, l) else (num (rawA n l).1, (rawA n l).2.1, (rawA n l).2.2)
theorem rawA_short (n : Int) (l : List Int) (h : n ≤ 8) : (rawA n l).1.length ≤ 8 := by
  unfold rawA
  split
  · simp
  · split
    · simp
    · simp only [List.length_take]; omega
/-- Whether all is noughts. -/
def zeroAll (l : List Int) : Bool := l.all (· == 0)
end Go.Proofs.YtfgdddejpdjllaaDoor
namespace Go.Proofs.YtfgdddejpdjllaaDoor
set_option maxRecDepth 4000
open Go.RowKit
/-- What Str answers, and what is left. -/
def strA (l : List Int) : ByteArray × Int × List Int := if l = [] ∨ (l.length : Int) < 1 + l.getD 0 0 then (⟨#[]⟩, 3, l) else (strOfNums ((l.drop 1).take (l.getD 0 0).toNat), 0, l.drop (1 + (l.getD 0 0).toNat))
theorem heap_drewN (w : World) (k : Nat) : (w.drewN k).heap = w.heap := by
  induction k generalizing w with
  | zero => rfl
  | succ k ih => exact ih _
theorem only_drewN (R : Nat) (w : World) (k : Nat) : Only R w (w.drewN k) := ⟨by rw [heap_drewN], fun j _ => by rw [heap_drewN], fun B _ => ybelow_drewN (Below.refl B w) k⟩
theorem RR.same {w w' : World} {t R lb cb : Nat} {ab : Option Addr} {l : List Int} (h : RR w t R ab lb cb l) (b : Below w.heap.size w w') : RR w' t R ab lb cb l := h.below b
/-- What Hash answers, and what is left. -/
def hashA (l : List Int) : List Int × Int × List Int := if l.length < 32 then (List.replicate 32 0, 3, l) else (l.take 32, 0, l.drop 32)
theorem rawA_hash (l : List Int) : rawA 32 l = if l.length < 32 then ([], 3, l) else (l.take 32, 0, l.drop 32) := by
  unfold rawA
  rw [if_neg (by omega)]
  by_cases h : l.length < 32
  · rw [if_pos (by omega), if_pos h]
  · rw [if_neg (by omega), if_neg h]; rfl
def i8s (l : List Int) : Array Value := (l.map (Value.int .u8)).toArray
theorem zero_hash7 (W : World) : (zeroValue 26).run Tryd.prog W = .ok (.agg (i8s (List.replicate 32 0))) W := by kernel_rfl
theorem slice_hash7 (g : Nat) (W : World) : (Instr.sliceAt 26 (.pointer (some ⟨g, 0, none⟩)) none none none).run Tryd.prog W = .ok (.slice (some ⟨g, 0, none⟩) 32 32) W := by
  obtain ⟨i0, hi0, _⟩ := Option.map_eq_some_iff.1 yone
  simp [Instr.sliceAt, run_underlying Tryd.underlying26, Instr.sureAddr, Instr.sliceBounds, sizeOf, typeInfo, hi0, Addr.add]
/-- Of what was there block R alone may have changed. -/
structure Chg (R : Nat) (w w' : World) : Prop where
  os : w'.os = w.os
  tape : w'.tape = w.tape
  output : w'.output = w.output
  size : w.heap.size ≤ w'.heap.size
  block : ∀ k, k < w.heap.size → k ≠ R → w'.heap[k]? = w.heap[k]?
theorem Chg.of_only {R : Nat} {w w' : World} (h : Only R w w') : Chg R w w' := ⟨(h.bel 0 (Nat.zero_le _)).os, (h.bel 0 (Nat.zero_le _)).tape, (h.bel 0 (Nat.zero_le _)).output, Nat.le_of_eq h.size.symm, fun k _ hk => h.rest k hk⟩
theorem Chg.of_below {R : Nat} {w w' : World} (h : Below w.heap.size w w') : Chg R w w' := ⟨h.os, h.tape, h.output, h.size, fun k hk _ => h.block k hk⟩
theorem Chg.trans {R : Nat} {a b c : World} (h : Chg R a b) (q : Chg R b c) : Chg R a c := ⟨q.os.trans h.os, q.tape.trans h.tape, q.output.trans h.output, Nat.le_trans h.size q.size, fun k hk hne => (q.block k (Nat.lt_of_lt_of_le hk h.size) hne).trans (h.block k hk hne)⟩
theorem Chg.below {R B : Nat} {w w' : World} (h : Chg R w w') (hR : B ≤ R) (hB : B ≤ w.heap.size) : Below B w w' := ⟨h.os, h.tape, h.output, h.size, fun k hk => h.block k (by omega) (by omega)⟩
theorem i8s_one (l : List Int) : (i8s l).all (·.oneCell') = true := by
  apply all_oneCell_toArray
  intro v hv
  obtain ⟨b, _, rfl⟩ := List.mem_map.1 hv
  rfl
theorem i8s_size (l : List Int) : (i8s l).size = l.length := by simp [i8s]
theorem size_hash7 (l : List Int) (h : l.length = 32) : (Tryd.prog.info? 26).map (·.size) = some (i8s l).size := by rw [show (Tryd.prog.info? 26).map (·.size) = some 32 by kernel_rfl, i8s_size, h]
theorem bs_cells {w : World} {a : Option Addr} {n cap : Nat} {l : List Int} (h : BS w (.slice a n cap) l) (hl : 0 < l.length) : ∃ b off, a = some ⟨b, off, none⟩ ∧ n = l.length ∧ ∀ j v, (l.map (Value.int .u8))[j]? = some v → w.cell? ⟨b, off + j, none⟩ = some v := by
  obtain ⟨a', cap', hv, hy, hn, hc⟩ := h
  injection hv with e1 e2 e3
  rcases hc with h0 | ⟨b, off, ha, hc⟩
  · subst h0; simp at hl
  · refine ⟨b, off, e1.trans ha, e2, fun j v hv => ?_⟩
    have hj : j < l.length := by
      have := (List.getElem?_eq_some_iff.1 hv).1
      simpa using this
    rw [hc j hj, ← hv, List.getElem?_map, List.getElem?_eq_getElem hj]
    simp [List.getD, hj]
end Go.Proofs.YtfgdddejpdjllaaDoor
namespace Go.Proofs.YtfgdddejpdjllaaDoor
set_option maxRecDepth 4000
open Go.RowKit
theorem strCells_b (s : ByteArray) : Lib.strCells s = (btxt s).map (Value.int .u8) := by
  unfold Lib.strCells btxt
  rw [List.map_map]
  rfl
/-- An act: what is laid, or read. -/
structure LayV where
  kd : Int
  sz : Int
  n : Nat
  s : ByteArray
  h : List Int
  ab : Option Addr
  lb : Nat
  cb : Nat
  bl : List Int
def layRow (q : LayV) : List Value := [.int .i64 q.kd, .int .i64 q.sz, .int .u64 (q.n : Int), .string q.s] ++ (q.h.map (Value.int .u8) ++ [.slice q.ab q.lb q.cb])
theorem lay_at {W : World} {T t : Nat} {fr : Nat × Nat} {q : LayV} (h : W.heap[T]? = some (.cells (layRow q).toArray t fr)) (hh : q.h.length = 32) :
    W.cell? ⟨T, 0, none⟩ = some (.int .i64 q.kd) ∧ W.cell? ⟨T, 1, none⟩ = some (.int .i64 q.sz) ∧ W.cell? ⟨T, 2, none⟩ = some (.int .u64 (q.n : Int)) ∧ W.cell? ⟨T, 3, none⟩ = some (.string q.s) ∧ W.cell? ⟨T, 36, none⟩ = some (.slice q.ab q.lb q.cb) ∧ ∀ j v, (q.h.map (Value.int .u8))[j]? = some v → W.cell? ⟨T, 4 + j, none⟩ = some v := by
  refine ⟨cell_of_row _ _ _ _ _ _ h, cell_of_row _ _ _ _ _ _ h, cell_of_row _ _ _ _ _ _ h, cell_of_row _ _ _ _ _ _ h, ?_, fun j v hv => ?_⟩
  · rw [cell_of_row _ _ _ _ _ _ h]
    simp [layRow, hh]
  · rw [cell_of_row _ _ _ _ _ _ h, List.getElem?_toArray, layRow]
    have hj : j < 32 := by
      have := (List.getElem?_eq_some_iff.1 hv).1
      simpa [hh] using this
    rw [List.getElem?_append_right (by simp), List.getElem?_append_left (by simp [hh]; omega)]
    simpa using hv
end Go.Proofs.YtfgdddejpdjllaaDoor
namespace Go.Proofs.YtfgdddejpdjllaaDoor
set_option maxRecDepth 4000
open Go.RowKit

theorem beq_nil (a : Option Addr) (n c : Nat) (W : World) : (binOp .eql 22 (.slice a n c) (.slice none 0 0)).run Tryd.prog W = .ok (.bool a.isNone) W := Lib.run_eql_slice_nil W _ _ a n c 0 0 Tryd.underlying22
theorem own_type {w : World} {B n : Nat} {e : TypeId} {k : Nat} {v : Value} {xs : List Value} (h : w.ownsRow B e k v n xs) {g : Nat} (hg : v.ownBlock = some g) : ∃ cur, w.heap[g]? = some (.cells cur e (0, 0)) := by
  rcases h.2 with ⟨rfl, _⟩ | ⟨g', cap, cur, rfl, _, hgg, _⟩
  · cases hg
  · obtain rfl : g' = g := by simpa [Value.ownBlock] using hg
    exact ⟨cur, hgg⟩
theorem own_ne {w : World} {B n P t : Nat} {e : TypeId} {k : Nat} {v : Value} {xs : List Value} {cs : Array Value} {fr : Nat × Nat} (h : w.ownsRow B e k v n xs) (hP : w.heap[P]? = some (.cells cs t fr)) (ht : t ≠ e) : v.ownBlock ≠ some P := by
  intro hg
  obtain ⟨cur, hc⟩ := own_type h hg
  rw [hP] at hc
  simp only [Option.some.injEq, Obj.cells.injEq] at hc
  exact ht hc.2.1
end Go.Proofs.YtfgdddejpdjllaaDoor
namespace Go.Proofs.YtfgdddejpdjllaaDoor
set_option maxRecDepth 4000
open Go.RowKit
/-- What Num lays, and answers. -/
def numW (x n : Int) : List Int × Int := if n < 0 ∨ 8 < n ∨ 2 ^ (8 * n.toNat) ≤ x then ([], 2) else (putI x n.toNat, 0)
/-- What Str lays, and answers. -/
def strW (s : ByteArray) : List Int × Int := if 255 < s.size then ([], 2) else ((s.size : Int) :: btxt s, 0)
theorem putI_one (m : Nat) (h : m ≤ 255) : putI (m : Int) 1 = [(m : Int)] := by
  simp [putI]
  omega
theorem numW_one (m : Nat) (h : m ≤ 255) : numW (m : Int) 1 = ([(m : Int)], 0) := by
  unfold numW
  rw [if_neg (by simp; omega)]
  rw [show (1 : Int).toNat = 1 from rfl, putI_one m h]
theorem bs_i8s {w : World} {g t : Nat} {q : List Int} (h : w.heap[g]? = some (.cells (i8s q) t (0, 0))) (hb : Byt q) (n : Nat) (hn : q.length = n) : BS w (.slice (some ⟨g, 0, none⟩) n n) q := by
  refine ⟨some ⟨g, 0, none⟩, n, by rw [hn], hb, nofun, .inr ⟨g, 0, rfl, fun i hi => ?_⟩⟩
  rw [cell_of_row _ _ _ _ _ _ h]
  simp [i8s, hi]
/-- What Pad lays, and answers. -/
def padW (n : Nat) (sz : Int) : List Int × Int := if 65536 < sz ∨ sz < n then ([], 2) else (List.replicate (sz.toNat - n) 0, 0)
theorem byt_zeros (n : Nat) : Byt (List.replicate n 0) := by
  intro z hz
  obtain ⟨_, rfl⟩ := List.mem_replicate.1 hz
  omega
end Go.Proofs.YtfgdddejpdjllaaDoor
namespace Go.Proofs.YtfgdddejpdjllaaDoor
set_option maxRecDepth 4000
open Go.RowKit
theorem numA_one (l : List Int) : numA 1 l = if l = [] then (0, 3, l) else (l.getD 0 0, 0, l.drop 1) := by
  unfold numA
  rw [if_neg (by omega)]
  unfold rawA
  rw [if_neg (by omega)]
  cases l with
  | nil => rfl
  | cons a t => rw [if_neg (by simp; omega), if_neg (by simp)]; simp [num]
end Go.Proofs.YtfgdddejpdjllaaDoor
namespace Go.Proofs.YtfgdddejpdjllaaDoor
set_option maxRecDepth 4000
open Go.RowKit
/-- What an act lays behind n bytes, and the answer. -/
def layM (n : Nat) (q : LayV) : List Int × Int :=
  if q.kd = 1 then strW q.s else if q.kd = 2 then (q.h, 0) else if q.kd = 3 then (q.bl, 0) else if q.kd = 4 then padW n q.sz else numW (q.n : Int) q.sz
structure LayV.Ok (w : World) (q : LayV) : Prop where
  hash : q.h.length = 32
  hbyt : Byt q.h
  bs : BS w (.slice q.ab q.lb q.cb) q.bl
  len : q.bl.length = q.lb
  cap : q.lb ≤ q.cb
  num : q.n < 18446744073709551616
  big : q.lb ≤ 140737488351232
  str : q.s.size ≤ 140737488351232
  sz0 : -9223372036854775808 ≤ q.sz
  sz1 : q.sz ≤ 9223372036854775807
theorem LayV.Ok.below {w w' : World} {q : LayV} (h : q.Ok w) (b : Below w.heap.size w w') : q.Ok w' :=
  ⟨h.hash, h.hbyt, h.bs.kept b, h.len, h.cap, h.num, h.big, h.str, h.sz0, h.sz1⟩
/-- A row of one's own before and behind a step. -/
structure OStep (w w' : World) (B : Nat) (v v' : Value) (l : List Int) : Prop where
  own : w'.ownsRow B 5 1 v' l.length (l.map (Value.int .u8))
  touch : Touch v.ownBlock.toList w w'
  new : v'.ownBlock = v.ownBlock ∨ ∃ g, v'.ownBlock = some g ∧ w.heap.size ≤ g
theorem ostep_refl {w w' : World} {B : Nat} {v : Value} {l : List Int} (h : w.ownsRow B 5 1 v l.length (l.map (Value.int .u8))) (b : Below w.heap.size w w') : OStep w w' B v v l :=
  ⟨own_touch h (Touch.of_below (l := []) b) (by simp), Touch.of_below b, .inl rfl⟩
theorem append_ostep (w0 w : World) (B : Nat) (v vx : Value) (l x : List Int) (h : w0.ownsRow B 5 1 v l.length (l.map (Value.int .u8))) (hb0 : Below w0.heap.size w0 w) (hB : BS w vx x) (h63 : l.length + x.length ≤ 140737488351232) (hbase : B ≤ w0.heap.size) :
    ∃ a c w', (Builtin.append_ #[22, 22] 22 #[v, vx]).run Tryd.prog w = .ok (.slice a (l.length + x.length) c) w' ∧ OStep w0 w' B v (.slice a (l.length + x.length) c) (l ++ x) := by
  have h' := own_touch h (Touch.of_below (l := []) hb0) (by simp)
  obtain ⟨v', w', h1, h2, h3, h4⟩ := run_append_BS_at w B l.length v vx _ x h' hB h63 (Nat.le_trans hbase hb0.size)
  obtain ⟨a1, cp1, rfl⟩ : ∃ a1 cp1, v' = .slice a1 (l.length + x.length) cp1 := by
    rcases h2.2 with ⟨h5, h6⟩ | ⟨g', c, cur, h5, _⟩
    · exact ⟨_, _, by rw [h5, h6]⟩
    · exact ⟨_, _, h5⟩
  refine ⟨a1, cp1, w', h1, ?_, (Touch.of_below hb0).trans (Touch.grown h3), ?_⟩
  · rw [List.length_append, List.map_append]; exact h2
  · rcases h4 with h4 | h4
    · exact .inl h4
    · exact .inr ⟨_, h4, hb0.size⟩
theorem zeros_ostep (w0 w : World) (B : Nat) (v : Value) (l : List Int) (m : Nat) (h : w0.ownsRow B 5 1 v l.length (l.map (Value.int .u8))) (hb0 : Below w0.heap.size w0 w) (h63 : l.length + m ≤ 1000000) (hbase : B ≤ w0.heap.size) :
    ∃ a c w', (Builtin.append_ #[22, 3] 22 #[v, .int .i64 (m : Int)]).run Tryd.prog w = .ok (.slice a (l.length + m) c) w' ∧ OStep w0 w' B v (.slice a (l.length + m) c) (l ++ List.replicate m 0) := by
  have h' := own_touch h (Touch.of_below (l := []) hb0) (by simp)
  obtain ⟨v', w', h1, h2, h3, h4⟩ := run_append_zeros7 w B l.length m v _ 22 h' h63 (Nat.le_trans hbase hb0.size)
  obtain ⟨a1, cp1, rfl⟩ : ∃ a1 cp1, v' = .slice a1 (l.length + m) cp1 := by
    rcases h2.2 with ⟨h5, h6⟩ | ⟨g', c, cur, h5, _⟩
    · exact ⟨_, _, by rw [h5, h6]⟩
    · exact ⟨_, _, h5⟩
  refine ⟨a1, cp1, w', h1, ?_, (Touch.of_below hb0).trans (Touch.grown h3), ?_⟩
  · rw [List.length_append, List.map_append, List.length_replicate, List.map_replicate]; exact h2
  · rcases h4 with h4 | h4
    · exact .inl h4
    · exact .inr ⟨_, h4, hb0.size⟩
theorem slice_hash_mid (g o : Nat) (W : World) : (Instr.sliceAt 26 (.pointer (some ⟨g, o, none⟩)) none none none).run Tryd.prog W = .ok (.slice (some ⟨g, o, none⟩) 32 32) W := by
  obtain ⟨i0, hi0, _⟩ := Option.map_eq_some_iff.1 yone
  simp [Instr.sliceAt, run_underlying Tryd.underlying26, Instr.sureAddr, Instr.sliceBounds, sizeOf, typeInfo, hi0, Addr.add]
/-- The reference's Put, as one function. -/
theorem rput_any7 (x n : Int) (w : World) (h0 : 0 ≤ x) (h1 : x < 18446744073709551616) :
    Calls Tryd.prog 64 #[.int .u64 x, .int .i64 n] w fun e w' => ∃ a m c, e = .returned (.tuple #[.slice a m c, .int .i64 (numW x n).2]) ∧ BS w' (.slice a m c) (numW x n).1 ∧ Below w.heap.size w w' := by
  by_cases hr : n < 0 ∨ 8 < n
  · rw [show numW x n = ([], 2) by unfold numW; rw [if_pos (by omega)]]
    refine (rput_range x n w hr).mono ?_
    rintro e w1 ⟨rfl, rfl⟩
    exact ⟨_, _, _, rfl, bs_nil _, Below.refl _ _⟩
  · obtain ⟨m, rfl⟩ : ∃ m : Nat, n = (m : Int) := ⟨n.toNat, by omega⟩
    refine (rput_loop x m w (by omega) h0 h1).mono ?_
    have hp : (0 : Int) < 256 ^ m := Int.pow_pos (by decide)
    rintro e w1 ⟨hb, ⟨hz, rfl, ho⟩ | ⟨hz, rfl⟩⟩
    · have hlt : x < 256 ^ m := by
        have := Int.lt_mul_ediv_self_add (x := x) hp
        rw [hz] at this; omega
      rw [show numW x (m : Int) = (putI x m, 0) by unfold numW; rw [if_neg (by rw [Int.toNat_natCast, pow_bytes]; omega)]; rfl]
      exact ⟨_, _, _, rfl, BS.of_own ho (putI_length x m) (putI_byt x m), hb⟩
    · have hge : 256 ^ m ≤ x := Int.le_of_not_gt fun hlt => hz (Int.ediv_eq_zero_of_lt h0 hlt)
      rw [show numW x (m : Int) = ([], 2) by unfold numW; rw [if_pos (.inr (.inr (by rw [Int.toNat_natCast, pow_bytes]; exact hge)))]]
      exact ⟨_, _, _, rfl, bs_nil _, hb⟩
theorem numW_len (x n : Int) : (numW x n).1.length ≤ 8 := by
  unfold numW
  split
  · simp
  · rw [putI_length]; omega
end Go.Proofs.YtfgdddejpdjllaaDoor
namespace Go.Proofs.YtfgdddejpdjllaaDoor
set_option maxRecDepth 4000
open Go.RowKit
end Go.Proofs.YtfgdddejpdjllaaDoor
namespace Go.Proofs.YtfgdddejpdjllaaDoor
set_option maxRecDepth 4000
open Go.ChangeShapes Go.WideShapes Go.ChangeAt Go.RowKit
def RLayV : World → LayV → List Value → Prop := fun W q cs => cs = layRow q ∧ q.Ok W ∧ -9223372036854775808 ≤ q.kd ∧ q.kd ≤ 9223372036854775807
/-- The acts of a law. -/
abbrev Lays (w : World) (x : List LayV) (a : Option Addr) (n c : Nat) : Prop := SlR RLayV 37 w x a n c
def zeroLay : LayV := ⟨0, 0, 0, ⟨#[]⟩, List.replicate 32 0, none, 0, 0, []⟩
theorem layRow_length (q : LayV) (h : q.h.length = 32) : (layRow q).length = 37 := by simp [layRow, h]
theorem lay_one (q : LayV) : (layRow q).toArray.all (·.oneCell') = true := by
  apply all_oneCell_toArray
  intro v hv
  simp only [layRow, List.mem_append, List.mem_cons, List.mem_map, List.not_mem_nil, or_false] at hv
  rcases hv with (rfl | rfl | rfl | rfl) | ⟨z, _, rfl⟩ | rfl <;> rfl
theorem range_below {w w' : World} {b o : Nat} {cs : List Value} (h : w.rangeAt b o cs) (q : Below w.heap.size w w') : w'.rangeAt b o cs := by
  intro j v hv
  have h0 := h j v hv
  rw [q.cell (block_lt_of_cell h0)]
  exact h0
/-- One of them, at any world that comes behind. -/
theorem lays_at {w w' : World} {x : List LayV} {a : Option Addr} {n c i : Nat} (h : Lays w x a n c) (hb : Below w.heap.size w w') (hi : i < n) :
    ∃ b off q, a = some ⟨b, off, none⟩ ∧ x[i]? = some q ∧ q.Ok w' ∧ (-9223372036854775808 ≤ q.kd ∧ q.kd ≤ 9223372036854775807) ∧ w'.rangeAt b (off + i * 37) (layRow q) := by
  obtain ⟨b, off, cs, h1, ⟨rfl, h3, h4⟩, _, h5⟩ := h.here i (by rw [h.len]; exact hi)
  exact ⟨b, off, _, h1, List.getElem?_eq_getElem _, h3.below hb, h4, range_below h5 hb⟩
theorem lay_hash_range {W : World} {T t : Nat} {fr : Nat × Nat} {q : LayV} (h : W.heap[T]? = some (.cells (layRow q).toArray t fr)) (hh : q.h.length = 32) : W.rangeAt T 4 (q.h.map (Value.int .u8)) := (lay_at h hh).2.2.2.2.2
theorem layM_len (n : Nat) (q : LayV) (w : World) (hq : q.Ok w) (h1 : q.lb ≤ 9000) : (layM n q).1.length ≤ 66000 := by
  unfold layM
  split
  · unfold strW; split
    · simp
    · simp [btxt_length]; omega
  · split
    · dsimp only; rw [hq.hash]; omega
    · split
      · dsimp only; rw [hq.len]; omega
      · split
        · unfold padW; split
          · simp
          · simp; omega
        · have := numW_len (q.n : Int) q.sz; omega
end Go.Proofs.YtfgdddejpdjllaaDoor
namespace Go.Proofs.YtfgdddejpdjllaaDoor
set_option maxRecDepth 4000
open Go.RowKit
theorem rr_chg {w w' : World} {t t' R R' lb cb lb' cb' : Nat} {ab ab' : Option Addr} {l l' : List Int} (h : RR w t R ab lb cb l) (h' : RR w t' R' ab' lb' cb' l') (q : Chg R' w w') (hne : R ≠ R') : RR w' t R ab lb cb l :=
  ⟨(q.block R (Array.getElem?_eq_some_iff.1 h.cell).1 hne).trans h.cell, h.bytes.old h'.cell q.block, h.len, h.cap, h.big⟩
section
variable {w0 w : World} {R1 R2 : Nat} {l1 l2 : List Int}
end
theorem eq8_hash (x : List Int) (hx : x.length = 32) (hy : Byt x) (w : World) : (Op.equalIn 10000 26 (.agg (i8s x)) (.agg (i8s x))).run Tryd.prog w = .ok true w := by
  obtain ⟨i0, hi, hs⟩ := Option.map_eq_some_iff.1 yone
  have e : i8s x = ((x.map fun n => UInt8.ofNat n.toNat).map Extern.Stop.cell).toArray := by
    unfold i8s
    rw [List.map_map]
    congr 1
    apply List.map_congr_left
    intro z hz
    have := hy z hz
    simp only [Function.comp, Extern.Stop.cell]
    congr 1
    simp
    omega
  rw [e, run_equalIn_bytes w 9998 26 5 32 Tryd.underlying26 Tryd.underlying5 (fun w => by simp [sizeOf, typeInfo, hi, hs]) _ _ (by simpa using hx) (by simpa using hx)]
  simp
/-- What an act leaves to be read. -/
def readL (q : LayV) (l : List Int) : List Int :=
  if q.kd = 1 then (strA l).2.2 else if q.kd = 2 then (hashA l).2.2 else if q.kd = 3 then (rawA q.sz l).2.2 else if q.kd = 4 then l else (numA q.sz l).2.2
theorem hashA_ok (l : List Int) (h : Byt l) : (hashA l).1.length = 32 ∧ Byt (hashA l).1 := by
  unfold hashA
  split
  · exact ⟨by simp, byt_zeros 32⟩
  · exact ⟨by simp; omega, byt_take _ h 32⟩
end Go.Proofs.YtfgdddejpdjllaaDoor
