/-
  Txt: Texts as bytes; what is appended to a row of the law's or the reference's own. (As in Mac and Zeros, under names of its own: a seat without those packages.)
  Tch: Worlds in which some blocks may have changed, and new ones may have been made; appends into a row of one's own, with the block that it has then.
  Fill: Aggregates that are built of parts; slices of one element; a row of structs of one's own, one more.
  QRaw: The reference of layer 7: a reader in memory; Raw, Num, End.
  QStr: The reference of layer 7: a reader's Str and Hash.
  QLay: The reference of layer 7: a text's bytes; acts.
  Wr: codec's Writer in memory: bytes.Clone; what is laid one behind the other.
  Wr2: codec's Writer: Num, Str, Hash, Pad, Bytes.
  Rd: codec's Reader in memory.
  QLay2: The reference of layer 7: Lay.
  WL: A Writer and a Reader of a law's own; alive.
  Lays: The acts of layer 7's laws: how they come in, how one is taken out; lay.
  Read: Two readers side by side, the program's and the reference's; read.
-/
import Derived.Test.YtkafabcklohlmaaCtr0
import Derived.Lib.ConvBytes
import Derived.Laws.AppendOwn
import Derived.Maps.AppendAt
import Derived.Great.BuildSlice
import Derived.BigRegion
import Derived.Test.YtkafabcklohlmaaLow
import Derived.Lib.AppendStr
import Derived.Stop.BytesEq
namespace Go.Proofs.Ytkafabcklohlmaa
set_option maxRecDepth 4000
open Go.RowKit

/-- A text's bytes. -/
def btxt (s : ByteArray) : List Int := s.data.toList.map fun b => (b.toNat : Int)
theorem btxt_length (s : ByteArray) : (btxt s).length = s.size := by rw [btxt, List.length_map]; rfl
theorem btxt_byt (s : ByteArray) : Byt (btxt s) := by
  intro z hz
  simp only [btxt, List.mem_map] at hz
  obtain ⟨b, _, rfl⟩ := hz
  have := b.toNat_lt
  omega
theorem bbytes_below (w : World) (s : ByteArray) : Below w.heap.size w (Lib.bytesWorld w 5 s) := by
  have h : ∀ (W : World) (a : Addr) (n : Nat), (W.freeze a n).os = W.os ∧ (W.freeze a n).tape = W.tape ∧ (W.freeze a n).output = W.output := by
    intro W a n
    unfold World.freeze
    split <;> exact ⟨rfl, rfl, rfl⟩
  exact ⟨(h _ _ _).1, (h _ _ _).2.1, (h _ _ _).2.2, by rw [Lib.bytesWorld_size]; omega, fun k hk => Lib.bytesWorld_at_old w _ s k hk⟩
theorem bbytes_bs (w : World) (s : ByteArray) : BS (Lib.bytesWorld w 5 s) (.slice (some ⟨w.heap.size, 0, none⟩) s.size (grownCap w s.size 0 5)) (btxt s) := by
  refine ⟨some ⟨w.heap.size, 0, none⟩, grownCap w s.size 0 5, by rw [btxt_length], btxt_byt s, nofun, .inr ⟨w.heap.size, 0, rfl, fun i hi => ?_⟩⟩
  rw [btxt_length] at hi
  rw [Nat.zero_add, Lib.bytesWorld_cell w 5 s i hi]
  have h2 : i < s.data.toList.length := hi
  simp only [btxt, List.getD_eq_getElem?_getD, List.getElem?_map, List.getElem?_eq_getElem h2, Option.map_some, Option.getD_some]
theorem bconv_txt (s : ByteArray) (W : World) : (convert 9 64 (.string s)).run Try.prog W = .ok (.slice (some ⟨W.heap.size, 0, none⟩) s.size (grownCap W s.size 0 5)) (Lib.bytesWorld W 5 s) :=
  Lib.run_convert_string_bytes W _ _ _ s Try.underlying9 Try.underlying64 Try.underlying5

theorem zeroCells_u87 (n : Nat) : Builtin.zeroCells (Value.int .u8 0).cells n = (List.replicate n (Value.int .u8 0)).toArray := by
  have hs : (Value.int IntKind.u8 0).cells = #[Value.int .u8 0] := rfl
  rw [hs]
  apply Array.ext
  · simp [Builtin.zeroCells]
  · intro i h1 h2
    simp [Builtin.zeroCells, Nat.mod_one]
theorem run_asInt7 (m : Int) (w : World) : (asInt (.int .i64 m)).run Try.prog w = .ok m w := by rfl
set_option maxHeartbeats 800000 in
theorem run_append_zeros7 (w : World) (base n m : Nat) (v : Value) (xs : List Value) (ty : TypeId) (hown : w.ownsRow base 5 1 v n xs) (hn : n + m ≤ 1000000) (hbase : base ≤ w.heap.size) :
    ∃ v' w', (Builtin.append_ #[64, 3] ty #[v, .int .i64 (m : Int)]).run Try.prog w = .ok v' w' ∧ w'.ownsRow base 5 1 v' (n + m) (xs ++ List.replicate m (.int .u8 0)) ∧ w.grownBy w' v.ownBlock ∧ (v'.ownBlock = v.ownBlock ∨ v'.ownBlock = some w.heap.size) := by
  obtain ⟨i0, hi, hz0, hz1, hz2⟩ := info_parts info_u8
  have hw : IntKind.i64.wrap (m : Int) = (m : Int) := IntWalk.i64_in _ (by omega)
  have hneg : ¬ ((m : Int) < 0) := by omega
  have hbig : ¬ ((281474976710656 : Int) < (m : Int)) := by omega
  have hlen : xs.length = n := by have := hown.1; omega
  have hlen2 : (xs ++ List.replicate m (Value.int .u8 0)).length = (n + m) * 1 := by simp [hlen]
  by_cases hm : m = 0
  · subst hm
    have hw0 : IntKind.i64.wrap 0 = 0 := by decide
    refine ⟨v, w, ?_, by simpa using hown, ⟨rfl, rfl, rfl, Nat.le_refl _, fun _ _ _ => rfl⟩, .inl rfl⟩
    rcases hown.2 with ⟨rfl, rfl⟩ | ⟨g, cap, cur, rfl, hbg, hg, hnc, hcm, hcs, htake⟩
    · simp [Builtin.append_, run_underlying Try.underlying64, run_underlying Try.underlying3, sizeOf, typeInfo, hi, hz2, run_asInt7, hw0]
    · simp [Builtin.append_, run_underlying Try.underlying64, run_underlying Try.underlying3, sizeOf, typeInfo, hi, hz2, run_asInt7, hw0, hnc, storeCells]
  have hm1 : ¬ m = 0 := hm
  have hml : ¬ ((m : Int) ≤ 0) := by omega
  have grown : ∀ (old : Nat), old < n + m → ∀ (row : Option Nat),
      (w.drew.alloc (.cells (xs.toArray ++ (List.replicate m (Value.int .u8 0)).toArray ++ Builtin.zeroCells (Value.int .u8 0).cells (grownCap w (n + m) old 5 - (n + m))) 5)).ownsRow base 5 1
        (.slice (some ⟨w.heap.size, 0, none⟩) (n + m) (grownCap w (n + m) old 5)) (n + m) (xs ++ List.replicate m (Value.int .u8 0)) ∧
      w.grownBy (w.drew.alloc (.cells (xs.toArray ++ (List.replicate m (Value.int .u8 0)).toArray ++ Builtin.zeroCells (Value.int .u8 0).cells (grownCap w (n + m) old 5 - (n + m))) 5)) row := by
    intro old ho row
    have hge := grownCap_ge w (n + m) old 5
    have hcm : grownCap w (n + m) old 5 ≤ maxLen := grownCap_le_maxLen w (n + m) old 5 (by unfold maxLen; omega)
    refine ⟨⟨hlen2, .inr ⟨w.heap.size, _, _, rfl, hbase, heap_alloc_new w.drew _, hge, hcm, ?_, ?_⟩⟩, ⟨rfl, rfl, rfl, by simp, fun k hk _ => heap_alloc_old w.drew _ hk⟩⟩
    · rw [zeroCells_u87]; simp [hlen]; omega
    · simp only [Array.toList_append, List.append_assoc]
      rw [← List.append_assoc, ← hlen2]
      exact List.take_left
  have hi63 : ¬ (9223372036854775807 < (n : Int) + max (m : Int) 0) := by omega
  have hi63' : ¬ (9223372036854775807 < (n : Int) + (m : Int)) := by omega
  rcases hown.2 with ⟨rfl, rfl⟩ | ⟨g, cap, cur, rfl, hbg, hg, hnc, hcm, hcs, htake⟩
  · have hx : xs = [] := List.eq_nil_of_length_eq_zero hlen
    subst hx
    have hgr := grown 0 (by omega) none
    have h63 : ¬ (9223372036854775807 < (m : Int)) := by omega
    have h48 : ¬ (281474976710656 < Builtin.nextslicecap m 0) := by rw [nextslicecap_zero (by omega)]; omega
    refine ⟨_, _, ?_, hgr.1, hgr.2, .inr rfl⟩
    simp [Builtin.append_, run_underlying Try.underlying64, run_underlying Try.underlying3, sizeOf, typeInfo, zeroValue, hi, hz0, hz1, hz2, run_asInt7, hw, hneg, hbig, hm, h63, h48, Question.forced, newRow, grownCap, run_firstCells_none, zeroCells_u87]
  · by_cases hroom : n + m ≤ cap
    · have hst := run_storeCells_at Try.prog g n 5 (List.replicate m (Value.int .u8 0)) 0 cur w hg (by simp; omega) (by intro u hu; obtain ⟨_, rfl⟩ := List.mem_replicate.1 hu; rfl)
      rw [Nat.add_zero] at hst
      refine ⟨.slice (some ⟨g, 0, none⟩) (n + m) cap, _, ?_, ⟨hlen2, .inr ⟨g, cap, _, rfl, hbg, setRow_heap w g cur (cur.toList.take n ++ List.replicate m (Value.int .u8 0) ++ cur.toList.drop (n + (List.replicate m (Value.int .u8 0)).length)).toArray _ _ hg, hroom, hcm, ?_, ?_⟩⟩, ⟨rfl, rfl, rfl, by simp, fun k _ hk => setRow_other w g k _ (fun e => hk (by simp [Value.ownBlock, e]))⟩, .inl rfl⟩
      · simp [Builtin.append_, run_underlying Try.underlying64, run_underlying Try.underlying3, sizeOf, typeInfo, zeroValue, hi, hz0, hz1, hz2, run_asInt7, hw, hneg, hbig, hm, hroom, Addr.add_lit, zeroCells_u87, hst]
      · simp; omega
      · have e : (cur.toList.take n ++ List.replicate m (Value.int .u8 0)).length = n + m := by simp; omega
        rw [← htake]
        simp only [Nat.mul_one]
        rw [← e]
        exact List.take_left
    · have holds : ∀ j u, xs[j]? = some u → w.cell? ((⟨g, 0, none⟩ : Addr).add j) = some u := hown.cells (g := g) rfl
      have hgr := grown cap (by omega) (some g)
      have h48 : ¬ (281474976710656 < Builtin.nextslicecap (n + m) cap) := by have := growslice_fits (need := n + m) (old := cap) (bytes := 1) (by omega) (by omega); omega
      have hfo := run_firstCells_some (P := Try.prog) w.drew 1 n ⟨g, 0, none⟩ n cap xs (by omega) (by simpa using holds)
      refine ⟨_, _, ?_, hgr.1, hgr.2, .inr rfl⟩
      simp [Builtin.append_, run_underlying Try.underlying64, run_underlying Try.underlying3, sizeOf, typeInfo, zeroValue, hi, hz0, hz1, hz2, run_asInt7, hw, hneg, hbig, hm, hroom, hi63', h48, Question.forced, newRow, grownCap, hfo, zeroCells_u87]
/-- 'append(v, x...)', v the call's own, x any slice of bytes, as an equation. -/
theorem run_append_BS7 (w : World) (base n : Nat) (v vx : Value) (xs : List Value) (l : List Int) (hown : w.ownsRow base 5 1 v n xs) (hB : BS w vx l) (h63 : n + l.length ≤ 140737488355328) (hbase : base ≤ w.heap.size) :
    ∃ v' w', (Builtin.append_ #[64, 64] 64 #[v, vx]).run Try.prog w = .ok v' w' ∧ w'.ownsRow base 5 1 v' (n + l.length) (xs ++ l.map (Value.int .u8)) ∧ w.grownBy w' v.ownBlock := by
  obtain ⟨i0, hi, hz0, hz1, hz2⟩ := info_parts info_u8
  obtain ⟨ad, cap, rfl, hb, hn, hc⟩ := hB
  cases ad with
  | none =>
    obtain rfl := hn rfl
    have hl : l = [] := by
      rcases hc with h | ⟨b, off, h, _⟩
      · exact h
      · cases h
    subst hl
    exact ⟨v, w, run_append_owned_none (P := Try.prog) (w := w) base _ _ _ i0 1 Try.underlying64 hi v n xs hown, by simpa using hown, ⟨rfl, rfl, rfl, Nat.le_refl _, fun _ _ _ => rfl⟩⟩
  | some ad =>
    obtain ⟨v', w', h1, h2, h3, _⟩ := run_append_own (P := Try.prog) w base 64 64 5 i0 _ 1 1 Try.underlying64 hi hz0 hz1 hz2 rfl (by decide) v n xs hown ad l.length cap (l.map (Value.int .u8)) (by simp) (by
      intro j u hj
      have hjl : j < l.length := by
        have := (List.getElem?_eq_some_iff.1 hj).1
        simpa using this
      rcases hc with hc | ⟨b, off, he, hc⟩
      · subst hc; simp at hjl
      · obtain rfl := Option.some.inj he
        have e2 : (⟨b, off, none⟩ : Addr).add j = ⟨b, off + j, none⟩ := by unfold Addr.add; split <;> simp_all
        rw [e2, hc j hjl]
        simp [hjl] at hj
        simp [hjl, hj]) (by
      intro u hu
      simp only [List.mem_map] at hu
      obtain ⟨z, _, rfl⟩ := hu
      rfl) (by unfold maxLen; omega) (by omega) hbase
    exact ⟨v', w', h1, h2, h3⟩
theorem wp_append_run7 {P : Program} {w : World} {o : Oper} {a : Act} {K : Act → World → Prop} {Q : Exit → Act → World → Prop} (s x : Operand) (dT sT : TypeId)
    (ho : o.op = .call { callee := .builtin .append, args := #[s, x], argTypes := #[dT, sT] }) (v vx v' : Value) (w' : World) (hs : a.eval s = v) (hx : a.eval x = vx)
    (hr : (Builtin.append_ #[dT, sT] o.type #[v, vx]).run P w = .ok v' w') (h : K (a.put o.dst v') w') : o.wp P a w K Q := by
  unfold Oper.wp execOp
  simp only [ho, resolve, invoke, builtin, Sem.run_bind, Sem.run_pure, Result.andThen_ok, List.map_toArray, List.map_cons, List.map_nil, hs, hx, hr]
  exact h
theorem drew_eq_alloc7 (w : World) (o : Obj) : World.alloc w.drew o = (World.alloc w o).drew := rfl
theorem btxt_str (l : List Int) (h : Byt l) : btxt (strOfNums l) = l := by
  unfold btxt
  rw [strOfNums_data, List.map_map]
  conv => rhs; rw [← List.map_id l]
  apply List.map_congr_left
  intro z hz
  have := h z hz
  simp
  omega
end Go.Proofs.Ytkafabcklohlmaa
namespace Go.Proofs.Ytkafabcklohlmaa
set_option maxRecDepth 4000
open Go.RowKit

/-- Of what was there the blocks of l alone may have changed. -/
structure Touch (l : List Nat) (w w' : World) : Prop where
  os : w'.os = w.os
  tape : w'.tape = w.tape
  output : w'.output = w.output
  size : w.heap.size ≤ w'.heap.size
  block : ∀ k, k < w.heap.size → k ∉ l → w'.heap[k]? = w.heap[k]?
theorem Touch.refl (l : List Nat) (w : World) : Touch l w w := ⟨rfl, rfl, rfl, Nat.le_refl _, fun _ _ _ => rfl⟩
theorem Touch.trans {l : List Nat} {a b c : World} (h : Touch l a b) (q : Touch l b c) : Touch l a c :=
  ⟨q.os.trans h.os, q.tape.trans h.tape, q.output.trans h.output, Nat.le_trans h.size q.size, fun k hk hn => (q.block k (Nat.lt_of_lt_of_le hk h.size) hn).trans (h.block k hk hn)⟩
theorem Touch.more {l m : List Nat} {a b : World} (h : Touch l a b) (hm : ∀ k ∈ l, k ∈ m) : Touch m a b := ⟨h.os, h.tape, h.output, h.size, fun k hk hn => h.block k hk (fun e => hn (hm k e))⟩
theorem Touch.of_below {l : List Nat} {a b : World} (h : Below a.heap.size a b) : Touch l a b := ⟨h.os, h.tape, h.output, h.size, fun k hk _ => h.block k hk⟩
theorem Touch.of_only {l : List Nat} {g : Nat} {a b : World} (h : Only g a b) (hg : g ∈ l) : Touch l a b :=
  ⟨(h.bel 0 (Nat.zero_le _)).os, (h.bel 0 (Nat.zero_le _)).tape, (h.bel 0 (Nat.zero_le _)).output, Nat.le_of_eq h.size.symm, fun k _ hn => h.rest k (fun e => hn (e ▸ hg))⟩
theorem Touch.below {l : List Nat} {a b : World} {B : Nat} (h : Touch l a b) (hB : B ≤ a.heap.size) (hl : ∀ k ∈ l, B ≤ k) : Below B a b :=
  ⟨h.os, h.tape, h.output, h.size, fun k hk => h.block k (by omega) (fun e => by have := hl k e; omega)⟩
theorem Touch.arr {l : List Nat} {a b : World} {g t : Nat} {L : List (BitVec 8)} (h : Touch l a b) (q : ArrY a g t L) (hg : g ∉ l) : ArrY b g t L := (h.block g (zlt q) hg).trans q
theorem own_touch {l : List Nat} {B n k : Nat} {e : TypeId} {v : Value} {xs : List Value} {w w' : World} (h : w.ownsRow B e k v n xs) (q : Touch l w w') (hne : ∀ g, v.ownBlock = some g → g ∉ l) : w'.ownsRow B e k v n xs := by
  refine ⟨h.1, ?_⟩
  rcases h.2 with hn | ⟨g, cap, cur, rfl, hb, hgg, rest⟩
  · exact .inl hn
  · exact .inr ⟨g, cap, cur, rfl, hb, (q.block g (Array.getElem?_eq_some_iff.1 hgg).1 (hne g rfl)).trans hgg, rest⟩
theorem Touch.grown {w w' : World} {row : Option Nat} (h : w.grownBy w' row) : Touch row.toList w w' :=
  ⟨h.os, h.tape, h.output, h.size, fun k hk hn => h.block k hk (fun e => hn (by rw [← e]; simp))⟩
theorem Touch.bs {l : List Nat} {a b : World} {v : Value} {xs : List Int} (h : Touch l a b) (q : BS a v xs) (hg : ∀ g, v.ownBlock = some g → g ∉ l) : BS b v xs := by
  obtain ⟨ad, cap, rfl, hy, hn, hc⟩ := q
  refine ⟨ad, cap, rfl, hy, hn, ?_⟩
  rcases hc with h0 | ⟨g, off, rfl, hc⟩
  · exact .inl h0
  · refine .inr ⟨g, off, rfl, fun i hi => ?_⟩
    have c0 := hc i hi
    have e : b.heap[g]? = a.heap[g]? := h.block g (block_lt_of_cell c0) (hg g rfl)
    rw [← c0]
    simp [World.cell?, e]
/-- 'append(v, x...)', v the call's own, x any slice of bytes, with the block behind it. -/
theorem run_append_BS_at (w : World) (base n : Nat) (v vx : Value) (xs : List Value) (l : List Int) (hown : w.ownsRow base 5 1 v n xs) (hB : BS w vx l) (h63 : n + l.length ≤ 140737488351232) (hbase : base ≤ w.heap.size) :
    ∃ v' w', (Builtin.append_ #[64, 64] 64 #[v, vx]).run Try.prog w = .ok v' w' ∧ w'.ownsRow base 5 1 v' (n + l.length) (xs ++ l.map (Value.int .u8)) ∧ w.grownBy w' v.ownBlock ∧ (v'.ownBlock = v.ownBlock ∨ v'.ownBlock = some w.heap.size) := by
  obtain ⟨i0, hi, hz0, hz1, hz2⟩ := info_parts info_u8
  obtain ⟨ad, cap, rfl, hb, hn, hc⟩ := hB
  cases ad with
  | none =>
    obtain rfl := hn rfl
    have hl : l = [] := by
      rcases hc with h | ⟨b, off, h, _⟩
      · exact h
      · cases h
    subst hl
    exact ⟨v, w, run_append_owned_none (P := Try.prog) (w := w) base _ _ _ i0 1 Try.underlying64 hi v n xs hown, by simpa using hown, ⟨rfl, rfl, rfl, Nat.le_refl _, fun _ _ _ => rfl⟩, .inl rfl⟩
  | some ad =>
    obtain ⟨v', w', h1, h2, h3, _, h5⟩ := run_append_own_at (P := Try.prog) w base 64 64 5 i0 _ 1 1 Try.underlying64 hi hz0 hz1 hz2 rfl (by decide) v n xs hown ad l.length cap (l.map (Value.int .u8)) (by simp) (by
      intro j u hj
      have hjl : j < l.length := by
        have := (List.getElem?_eq_some_iff.1 hj).1
        simpa using this
      rcases hc with hc | ⟨b, off, he, hc⟩
      · subst hc; simp at hjl
      · obtain rfl := Option.some.inj he
        have e2 : (⟨b, off, none⟩ : Addr).add j = ⟨b, off + j, none⟩ := by unfold Addr.add; split <;> simp_all
        rw [e2, hc j hjl]
        simp [hjl] at hj
        simp [hjl, hj]) (by
      intro u hu
      simp only [List.mem_map] at hu
      obtain ⟨z, _, rfl⟩ := hu
      rfl) (by unfold maxLen; omega) (by omega) hbase
    exact ⟨v', w', h1, h2, h3, h5⟩
/-- An append whose equation is there. -/
theorem wpList_append_run {P : Program} {ops : Array Oper} {rest : List Oper} {o : Oper} {a : Act} {w : World} {Q : Exit → Act → World → Prop} (hgd : o.guard = none) (s x : Operand) (dT sT : TypeId)
    (ho : o.op = .call { callee := .builtin .append, args := #[s, x], argTypes := #[dT, sT] }) (v vx v' : Value) (w' : World) (hs : a.eval s = v) (hx : a.eval x = vx)
    (hr : (Builtin.append_ #[dT, sT] o.type #[v, vx]).run P w = .ok v' w') (h : wpList P ops Q rest (a.put o.dst v') w') : wpList P ops Q (o :: rest) a w :=
  wpList_plain hgd fun _ hK => wp_append_run7 s x dT sT ho v vx v' w' hs hx hr (hK _ _ h)
/-- What a row of one's own reads as. -/
theorem own_bs {w : World} {base n : Nat} {v : Value} {l : List Int} (h : w.ownsRow base 5 1 v n (l.map (Value.int .u8))) (hl : l.length = n) (hb : Byt l) :
    ∃ a cap, v = .slice a n cap ∧ n ≤ cap ∧ BS w (.slice a n cap) l := by
  have hbs := BS.of_own h hl hb
  rcases h.2 with ⟨rfl, rfl⟩ | ⟨g, cap, cur, rfl, _, _, h1, h2, _⟩
  · exact ⟨none, 0, rfl, Nat.le_refl _, hbs⟩
  · exact ⟨_, cap, rfl, h1, hbs⟩
end Go.Proofs.Ytkafabcklohlmaa
namespace Go.Proofs.Ytkafabcklohlmaa
set_option maxRecDepth 4000
open Go.RowKit

theorem fold_at (off : Nat) : ∀ (xs : List Value) (s : Nat) (C : Array Value) (i : Nat),
    ((xs.zipIdx s).foldl (fun cs (p : Value × Nat) => cs.setIfInBounds (off + p.2) p.1) C)[i]? = if i < C.size ∧ off + s ≤ i ∧ i < off + s + xs.length then xs[i - (off + s)]? else C[i]?
  | [], s, C, i => by simp; omega
  | x :: xs, s, C, i => by
    rw [List.zipIdx_cons, List.foldl_cons, fold_at off xs (s + 1) _ i]
    simp only [Array.size_setIfInBounds, List.length_cons, Array.getElem?_setIfInBounds]
    by_cases h1 : i < C.size
    · by_cases h2 : i = off + s
      · subst h2
        simp [h1]; omega
      · by_cases h3 : off + s ≤ i ∧ i < off + s + (xs.length + 1)
        · rw [if_pos (by omega), if_pos (by omega), show i - (off + s) = i - (off + (s + 1)) + 1 by omega, List.getElem?_cons_succ]
        · rw [if_neg (by omega), if_neg (by omega), if_neg (by omega)]
    · simp only [h1, false_and, if_false]
      split
      · rename_i e
        rw [if_neg (by omega), Array.getElem?_eq_none (by omega)]
      · rfl
theorem fold_all (v C : Array Value) (off : Nat) (h : off + v.size ≤ C.size) (D : Array Value) (hD : ∀ i, D[i]? = if off ≤ i ∧ i < off + v.size then v[i - off]? else C[i]?) :
    v.zipIdx.foldl (fun cs (p : Value × Nat) => cs.setIfInBounds (off + p.2) p.1) C = D := by
  apply Array.ext_getElem?
  intro i
  have e : v.zipIdx.foldl (fun cs (p : Value × Nat) => cs.setIfInBounds (off + p.2) p.1) C = (v.toList.zipIdx 0).foldl (fun cs (p : Value × Nat) => cs.setIfInBounds (off + p.2) p.1) C := by
    rw [← Array.foldl_toList]; simp
  rw [e, fold_at, hD]
  simp only [Nat.add_zero, Array.length_toList, Array.getElem?_toList]
  by_cases h1 : off ≤ i ∧ i < off + v.size
  · rw [if_pos (by omega), if_pos h1]
  · rw [if_neg (by omega), if_neg h1]
theorem fill_cons (place : Nat → Option (Nat × Nat)) (C D v : Array Value) (x : Value) (i off size : Nat) (rest : List (Nat × Value)) (hx : x.cells = v) (hp : place i = some (off, size)) (hs : v.size = size) (h : off + v.size ≤ C.size) (hD : ∀ i, D[i]? = if off ≤ i ∧ i < off + v.size then v[i - off]? else C[i]?) :
    Instr.fill place C ((i, x) :: rest) = Instr.fill place D rest := by
  subst hx
  rw [Instr.fill, hp]
  dsimp only
  rw [if_neg (by simp [hs]; omega)]
  rw [fold_all _ C off h D hD]
/-- A row of as many cells, laid whole. -/
theorem fill_one (C v : Array Value) (size : Nat) (hv : v.size = size) (hc : C.size = size) : Instr.fill (fun i => some (i * size, size)) C [(0, .agg v)] = some v := by
  rw [fill_cons _ C v v (.agg v) 0 (0 * size) size [] rfl rfl hv (by omega) (fun i => by
    by_cases h : i < v.size
    · rw [if_pos (by omega)]; simp
    · rw [if_neg (by omega), Array.getElem?_eq_none (by omega), Array.getElem?_eq_none (by omega)])]
  rfl
theorem wp_append_at {P : Program} {o : Oper} {a : Act} {w : World} {K : Act → World → Prop} {Q : Exit → Act → World → Prop} (s x : Operand) (t : TypeId) (ho : o.op = .call { callee := .builtin .append, args := #[s, x], argTypes := #[t, t] }) (sv xv : Value) (hs : a.eval s = sv) (hx : a.eval x = xv)
    (v' : Value) (w' : World) (hr : (Builtin.append_ #[t, t] o.type #[sv, xv]).run P w = .ok v' w') (h : K (a.put o.dst v') w') : o.wp P a w K Q := by
  unfold Oper.wp execOp
  simp only [ho, resolve, invoke, builtin, Sem.run_bind, Sem.run_pure, Result.andThen_ok, List.map_toArray, List.map_cons, List.map_nil, hs, hx, hr]
  exact h
theorem wp_lit_at {P : Program} {o : Oper} {a : Act} {w : World} {K : Act → World → Prop} {Q : Exit → Act → World → Prop} (t : TypeId) (len : Nat) (parts : Array (Nat × Operand)) (ho : o.op = .buildSlice t len parts) (vs : Array (Nat × Value)) (hv : (parts.map fun (i, x) => (i, a.eval x)) = vs)
    (v : Value) (w' : World) (hr : (Instr.buildSlice t len vs).run P w = .ok v w') (h : K (a.put o.dst v) w') : o.wp P a w K Q := by
  subst hv
  unfold Oper.wp execOp
  simp only [ho, Sem.run_bind, hr, Result.andThen_ok]
  exact h
theorem yieldsIf_build {P : Program} {ops : Array Oper} {S : World → Prop} {op : Oper} {a : Act} (hw : Region.wanted op (yielded ops a.tmps) = true) (t : TypeId) (parts : Array (Nat × Operand)) (ho : op.op = .build t parts) (vs : Array (Nat × Value)) (v : Value) (hv : (parts.map fun (i, x) => (i, a.eval x)) = vs)
    (hr : ∀ W, (Instr.build t vs).run P W = .ok v W) : YieldsIf P ops S op v a := by
  subst hv
  exact .inl ⟨hw, fun w hw' => by
    unfold execOp
    simp only [ho, Sem.run_bind, Sem.run_pure, Result.andThen_ok, hr]⟩
theorem wpList_lit_run {P : Program} {ops : Array Oper} {rest : List Oper} {o : Oper} {a : Act} {w : World} {Q : Exit → Act → World → Prop} (hgd : o.guard = none) (t : TypeId) (len : Nat) (parts : Array (Nat × Operand)) (ho : o.op = .buildSlice t len parts) (vs : Array (Nat × Value)) (hv : (parts.map fun (i, x) => (i, a.eval x)) = vs)
    (v : Value) (w' : World) (hr : (Instr.buildSlice t len vs).run P w = .ok v w') (h : wpList P ops Q rest (a.put o.dst v) w') : wpList P ops Q (o :: rest) a w :=
  wpList_plain hgd fun _ hK => wp_lit_at t len parts ho vs hv v w' hr (hK _ _ h)
theorem lit_one {P : Program} {T E size bytes : Nat} {Z : Array Value} (ht : P.underlying T = some (.slice E)) (hinfo : (P.info? E).map (fun i => (i.zero, i.size, i.bytes)) = some (some (.agg Z), size, bytes)) (h0 : 1 ≤ size) (hs : size ≤ 100000) (cs : Array Value) (hc : cs.size = size) (W : World) :
    (Instr.buildSlice T 1 #[(0, .agg cs)]).run P W = .ok (.slice (some ⟨W.heap.size, 0, none⟩) 1 1) (W.alloc (.cells cs E)) := by
  obtain ⟨i, hi, hzz⟩ := Option.map_eq_some_iff.1 hinfo
  simp only [Prod.mk.injEq] at hzz
  obtain ⟨hz, hs', hb⟩ := hzz
  refine run_buildSlice W T E 1 _ cs i _ ht hi hz (by rw [hs']; omega) (by rw [hs']; omega) ?_
  rw [hs']
  exact fill_one _ _ size hc (by simp)
theorem append_one {P : Program} {T E size bytes B n : Nat} {Z : Array Value} {w : World} {v : Value} {xs : List Value} (ht : P.underlying T = some (.slice E)) (hinfo : (P.info? E).map (fun i => (i.zero, i.size, i.bytes)) = some (some (.agg Z), size, bytes)) (hZ : Z.size = size) (h0 : 1 ≤ size)
    (hown : w.ownsRow B E size v n xs) (y : Nat) (cs : List Value) (hy : w.heap[y]? = some (.cells cs.toArray E (0, 0))) (hcs : cs.length = size) (h1 : ∀ u ∈ cs, u.oneCell' = true) (hn : n ≤ 1000000) (hb : bytes ≤ 1000000) (hB : B ≤ w.heap.size) :
    ∃ a c w', (Builtin.append_ #[T, T] T #[v, .slice (some ⟨y, 0, none⟩) 1 1]).run P w = .ok (.slice a (n + 1) c) w' ∧ w'.ownsRow B E size (.slice a (n + 1) c) (n + 1) (xs ++ cs) ∧ w.grownBy w' v.ownBlock ∧ ((Value.slice a (n + 1) c).ownBlock = v.ownBlock ∨ (Value.slice a (n + 1) c).ownBlock = some w.heap.size) := by
  obtain ⟨i, hi, hzz⟩ := Option.map_eq_some_iff.1 hinfo
  simp only [Prod.mk.injEq] at hzz
  obtain ⟨hz, hs, hby⟩ := hzz
  have hmul : (n + 1) * bytes ≤ 1000001 * 1000000 := Nat.mul_le_mul (by omega) hb
  obtain ⟨v', W', hr, ho, hg, _, hnb⟩ := run_append_own_at (P := P) w B T T E i _ size bytes ht hi hz hs hby hZ (by omega)
    v n xs hown ⟨y, 0, none⟩ 1 1 cs (by rw [hcs]; omega) (fun j u hu => by
      rw [Addr.add_mid, cell_of_row _ _ _ _ _ _ hy]; simpa using hu) h1 (by unfold maxLen; omega) (by omega) hB
  obtain ⟨a', c', rfl⟩ : ∃ a c, v' = .slice a (n + 1) c := by
    rcases ho.2 with ⟨h5, h6⟩ | ⟨g', c, cur, h5, _⟩
    · omega
    · exact ⟨_, _, h5⟩
  exact ⟨a', c', W', hr, ho, hg, hnb⟩
end Go.Proofs.Ytkafabcklohlmaa
namespace Go.Proofs.Ytkafabcklohlmaa
set_option maxRecDepth 4000
open Go.RowKit

/-- A reader, in memory: one slice that reads as l. -/
structure RR (w : World) (t : Nat) (R : Nat) (ab : Option Addr) (lb cb : Nat) (l : List Int) : Prop where
  cell : w.heap[R]? = some (.cells #[.slice ab lb cb] t (0, 0))
  bytes : BS w (.slice ab lb cb) l
  len : l.length = lb
  cap : lb ≤ cb
  big : lb ≤ 140737488351232
theorem RR.at {w : World} {t R lb cb : Nat} {ab : Option Addr} {l : List Int} (h : RR w t R ab lb cb l) : w.cell? ⟨R, 0, none⟩ = some (.slice ab lb cb) := cell_of_row _ _ _ _ _ _ h.cell
theorem BS.only {w w' : World} {R t lb cb : Nat} {a : Option Addr} {v : Value} {l : List Int} (h : BS w v l) (hR : w.heap[R]? = some (.cells #[.slice a lb cb] t (0, 0))) (q : Only R w w') : BS w' v l := by
  obtain ⟨a', cap', hv, hy, hn, hc⟩ := h
  refine ⟨a', cap', hv, hy, hn, ?_⟩
  rcases hc with h0 | ⟨b, off, ha, hc⟩
  · exact .inl h0
  · by_cases hl : l = []
    · exact .inl hl
    · refine .inr ⟨b, off, ha, fun i hi => ?_⟩
      have hne : b ≠ R := by
        rintro rfl
        have q0 := hc i hi
        rw [cell_of_row _ _ _ _ _ _ hR] at q0
        cases ho : off + i with
        | zero => rw [ho] at q0; simp at q0
        | succ k => rw [ho] at q0; simp at q0
      have e : w'.cell? ⟨b, off + i, none⟩ = w.cell? ⟨b, off + i, none⟩ := by simp [World.cell?, q.rest b hne]
      rw [e]
      exact hc i hi
theorem BS.old {w W : World} {R t lb cb : Nat} {a : Option Addr} {v : Value} {l : List Int} (h : BS w v l) (hR : w.heap[R]? = some (.cells #[.slice a lb cb] t (0, 0))) (q : ∀ k, k < w.heap.size → k ≠ R → W.heap[k]? = w.heap[k]?) : BS W v l := by
  obtain ⟨a', cap', hv, hy, hn, hc⟩ := h
  refine ⟨a', cap', hv, hy, hn, ?_⟩
  rcases hc with h0 | ⟨b, off, ha, hc⟩
  · exact .inl h0
  · refine .inr ⟨b, off, ha, fun i hi => ?_⟩
    have q0 := hc i hi
    have hlt := block_lt_of_cell q0
    have hne : b ≠ R := by
      rintro rfl
      rw [cell_of_row _ _ _ _ _ _ hR] at q0
      cases ho : off + i with
      | zero => rw [ho] at q0; simp at q0
      | succ k => rw [ho] at q0; simp at q0
    have e : W.cell? ⟨b, off + i, none⟩ = w.cell? ⟨b, off + i, none⟩ := by simp [World.cell?, q b hlt hne]
    rw [e]
    exact q0
theorem RR.below {w w' : World} {t R lb cb : Nat} {ab : Option Addr} {l : List Int} (h : RR w t R ab lb cb l) (b : Below w.heap.size w w') : RR w' t R ab lb cb l :=
  ⟨(b.block R (Array.getElem?_eq_some_iff.1 h.cell).1).trans h.cell, h.bytes.kept b, h.len, h.cap, h.big⟩
/-- What Raw answers, and what is left. -/
def rawA (n : Int) (l : List Int) : List Int × Int × List Int := if n < 0 then ([], 2, l) else if (l.length : Int) < n then ([], 3, l) else (l.take n.toNat, 0, l.drop n.toNat)
theorem bs_nil (w : World) : BS w (.slice none 0 0) [] := ⟨none, 0, rfl, by intro z hz; simp at hz, fun _ => rfl, .inl rfl⟩
set_option maxHeartbeats 1600000 in
theorem rraw_old (R lb cb : Nat) (ab : Option Addr) (l : List Int) (n : Int) (w0 w : World) (h0' : RR w0 79 R ab lb cb l) (hb : Below w0.heap.size w0 w) (hn : n ≤ 9223372036854775807) :
    Calls Try.prog 72 #[.pointer (some ⟨R, 0, none⟩), .int .i64 n] w fun e w' => (∃ v, e = .returned (.tuple #[v, .int .i64 (rawA n l).2.1]) ∧ BS w' v (rawA n l).1) ∧ (∃ ab' lb' cb', ∀ W : World, (∀ k, k < w0.heap.size → k ≠ R → W.heap[k]? = w0.heap[k]?) → W.heap[R]? = w'.heap[R]? → RR W 79 R ab' lb' cb' (rawA n l).2.2) ∧ Only R w w' := by
  have h := h0'.below hb
  have H := Lib.hid h
  have H0 := Lib.hid h0'
  have c0 := h.at
  have hl := h.len
  have hbig := h.big
  have hcap := h.cap
  by_cases h0 : n < 0
  · rw [show rawA n l = ([], 2, l) by unfold rawA; rw [if_pos h0]]
    clear h h0' hb hl hbig hcap
    go_enter Try.func72, Try.ntmps72
    go_wp2_with fail
    go_ret2
    exact ⟨⟨_, rfl, bs_nil _⟩, ⟨_, _, _, fun W q1 q2 => ⟨q2.trans H.out.cell, H0.out.bytes.old H0.out.cell q1, H.out.len, H.out.cap, H.out.big⟩⟩, Only.refl _ _⟩
  · obtain ⟨m, rfl⟩ : ∃ m : Nat, n = (m : Int) := ⟨n.toNat, by omega⟩
    have m0 : (0 : Int) ≤ (m : Int) := by omega
    have lI : (lb : Int) ≤ 140737488351232 := by omega
    by_cases h1 : lb < m
    · rw [show rawA (m : Int) l = ([], 3, l) by unfold rawA; rw [if_neg (by omega), if_pos (by omega)]]
      have h1b : decide (lb < m) = true := by simp [h1]
      have h1c : (lb : Int) < (m : Int) := by omega
      clear h h0' hb hl hbig hcap h0 h1
      go_enter Try.func72, Try.ntmps72
      go_wp2_with fail
      go_ret2
      exact ⟨⟨_, rfl, bs_nil _⟩, ⟨_, _, _, fun W q1 q2 => ⟨q2.trans H.out.cell, H0.out.bytes.old H0.out.cell q1, H.out.len, H.out.cap, H.out.big⟩⟩, Only.refl _ _⟩
    · rw [show rawA (m : Int) l = (l.take m, 0, l.drop m) by unfold rawA; rw [if_neg (by omega), if_neg (by omega)]; rfl]
      have h1b : decide (lb < m) = false := by simp; omega
      obtain ⟨a1, _, _, e1, B1⟩ := slice_cut w0 ab lb cb 0 m l h0'.bytes hl (Nat.zero_le _) (by omega) hcap
      obtain ⟨a2, _, e2, _, B2⟩ := slice_cut w0 ab lb cb m lb l h0'.bytes hl (by omega) (Nat.le_refl _) hcap
      have e1 := e1 rfl
      have e2 := e2 rfl
      simp only [Nat.sub_zero] at e1 B1
      have f0 := frozen_of_row w R 0 _ _ h.cell
      have hO : Only R w (w.setCell ⟨R, 0, none⟩ (.slice a2 (lb - m) (cb - m))) := (Only.refl _ _).setCell _ _
      have HO := Lib.hid hO
      have HB1 := Lib.hid (show BS (w.setCell ⟨R, 0, none⟩ (.slice a2 (lb - m) (cb - m))) (.slice a1 m cb) (l.take m) from by have q := (B1.kept hb).only h.cell hO; simpa using q)
      have HRR := Lib.hid (show ∀ W : World, (∀ k, k < w0.heap.size → k ≠ R → W.heap[k]? = w0.heap[k]?) → W.heap[R]? = (w.setCell ⟨R, 0, none⟩ (.slice a2 (lb - m) (cb - m))).heap[R]? → RR W 79 R a2 (lb - m) (cb - m) (l.drop m) from fun W q1 q2 =>
        ⟨q2.trans (heap_setCell_same _ _ _ _ _ _ h.cell), by have q := B2.old H0.out.cell q1; rw [List.take_of_length_le (by rw [List.length_drop]; omega)] at q; exact q, by rw [List.length_drop]; omega, by omega, by omega⟩)
      clear h h0' hb hl hbig hcap h0 h1 B1 B2 hO
      go_enter Try.func72, Try.ntmps72
      go_wp2_with fail
      go_ret2
      exact ⟨⟨_, rfl, HB1.out⟩, ⟨_, _, _, HRR.out⟩, HO.out⟩
theorem rraw_any (R lb cb : Nat) (ab : Option Addr) (l : List Int) (n : Int) (w : World) (h : RR w 79 R ab lb cb l) (hn : n ≤ 9223372036854775807) :
    Calls Try.prog 72 #[.pointer (some ⟨R, 0, none⟩), .int .i64 n] w fun e w' => (∃ v, e = .returned (.tuple #[v, .int .i64 (rawA n l).2.1]) ∧ BS w' v (rawA n l).1) ∧ (∃ ab' lb' cb', RR w' 79 R ab' lb' cb' (rawA n l).2.2) ∧ Only R w w' := by
  refine (rraw_old R lb cb ab l n w w h (Below.refl _ _) hn).mono ?_
  rintro e w' ⟨hv, ⟨a, b, c, hr⟩, hO⟩
  exact ⟨hv, ⟨a, b, c, hr w' (fun k _ hk => hO.rest k hk) rfl⟩, hO⟩
/-- What Num answers, and what is left. -/
def numA (n : Int) (l : List Int) : Int × Int × List Int := if n < 0 ∨ 8 < n then (0, 2, l) else (num (rawA n l).1, (rawA n l).2.1, (rawA n l).2.2)
theorem rawA_short (n : Int) (l : List Int) (h : n ≤ 8) : (rawA n l).1.length ≤ 8 := by
  unfold rawA
  split
  · simp
  · split
    · simp
    · simp only [List.length_take]; omega
set_option maxHeartbeats 1600000 in
theorem rnum7_any (R lb cb : Nat) (ab : Option Addr) (l : List Int) (n : Int) (w : World) (h : RR w 79 R ab lb cb l) (hn : n ≤ 9223372036854775807) :
    Calls Try.prog 46 #[.pointer (some ⟨R, 0, none⟩), .int .i64 n] w fun e w' => e = .returned (.tuple #[.int .u64 (numA n l).1, .int .i64 (numA n l).2.1]) ∧ (∃ ab' lb' cb', RR w' 79 R ab' lb' cb' (numA n l).2.2) ∧ Only R w w' := by
  have H := Lib.hid h
  have HR := Lib.hid (rraw_any R lb cb ab l n w h hn)
  by_cases h0 : n < 0
  · rw [show numA n l = (0, 2, l) by unfold numA; rw [if_pos (.inl h0)]]
    clear h HR
    go_enter Try.func46, Try.ntmps46
    go_wp2_with fail
    go_ret2
    exact ⟨rfl, ⟨_, _, _, H.out⟩, Only.refl _ _⟩
  · by_cases h1 : 8 < n
    · rw [show numA n l = (0, 2, l) by unfold numA; rw [if_pos (.inr h1)]]
      have h00 : (0 : Int) ≤ n := by omega
      clear h HR h0
      go_enter Try.func46, Try.ntmps46
      go_wp2_with fail
      go_ret2
      exact ⟨rfl, ⟨_, _, _, H.out⟩, Only.refl _ _⟩
    · rw [show numA n l = (num (rawA n l).1, (rawA n l).2.1, (rawA n l).2.2) by unfold numA; rw [if_neg (by omega)]]
      have hs := rawA_short n l (by omega)
      have h00 : (0 : Int) ≤ n := by omega
      have h11 : n ≤ 8 := by omega
      have HS := Lib.hid hs
      generalize rawA n l = Q at *
      obtain ⟨q1, q2, q3⟩ := Q
      clear h h0 h1 hs
      go_enter Try.func46, Try.ntmps46
      go_wp2_with fail
      refine HR.out.mono ?_
      rintro e w1 ⟨⟨v, rfl, hv⟩, hr, hO⟩
      have HN := Lib.hid (rnum_any w1 v q1 hv HS.out)
      have HRR := Lib.hid hr
      have HO := Lib.hid hO
      clear hv hr hO HR
      go_wp2_with fail
      refine HN.out.mono ?_
      rintro e w2 ⟨rfl, rfl⟩
      go_wp2_with fail
      go_ret2
      exact ⟨rfl, HRR.out, HO.out⟩
/-- Whether all is noughts. -/
def zeroAll (l : List Int) : Bool := l.all (· == 0)
end Go.Proofs.Ytkafabcklohlmaa
namespace Go.Proofs.Ytkafabcklohlmaa
set_option maxRecDepth 4000
open Go.RowKit

/-- What Str answers, and what is left. -/
def strA (l : List Int) : ByteArray × Int × List Int := if l = [] ∨ (l.length : Int) < 1 + l.getD 0 0 then (⟨#[]⟩, 3, l) else (strOfNums ((l.drop 1).take (l.getD 0 0).toNat), 0, l.drop (1 + (l.getD 0 0).toNat))
theorem heap_drewN (w : World) (k : Nat) : (w.drewN k).heap = w.heap := by
  induction k generalizing w with
  | zero => rfl
  | succ k ih => exact ih _
theorem only_drewN (R : Nat) (w : World) (k : Nat) : Only R w (w.drewN k) := ⟨by rw [heap_drewN], fun j _ => by rw [heap_drewN], fun B _ => ybelow_drewN (Below.refl B w) k⟩
theorem RR.same {w w' : World} {t R lb cb : Nat} {ab : Option Addr} {l : List Int} (h : RR w t R ab lb cb l) (b : Below w.heap.size w w') : RR w' t R ab lb cb l := h.below b
set_option maxRecDepth 100000 in
set_option maxHeartbeats 3200000 in
theorem rstr_any (R lb cb : Nat) (ab : Option Addr) (l : List Int) (w : World) (h : RR w 79 R ab lb cb l) :
    Calls Try.prog 47 #[.pointer (some ⟨R, 0, none⟩)] w fun e w' => e = .returned (.tuple #[.string (strA l).1, .int .i64 (strA l).2.1]) ∧ (∃ ab' lb' cb', RR w' 79 R ab' lb' cb' (strA l).2.2) ∧ Only R w w' := by
  have H := Lib.hid h
  have c0 := h.at
  have hl := h.len
  have hbig := h.big
  have hcap := h.cap
  have lI : (lb : Int) ≤ 140737488351232 := by omega
  by_cases h0 : lb = 0
  · have hnil : l = [] := List.eq_nil_of_length_eq_zero (by omega)
    rw [show strA l = (⟨#[]⟩, 3, l) by unfold strA; rw [if_pos (.inl hnil)]]
    subst h0
    clear h hl hbig hcap hnil lI
    go_enter Try.func47, Try.ntmps47
    go_wp2_with fail
    go_quiet (fail)
    go_wp2_with fail
    go_ret2
    exact ⟨rfl, ⟨_, _, _, H.out.below (ybelow_drewN (Below.refl _ w) _)⟩, only_drewN R w _⟩
  · obtain ⟨b, off, rfl, hc⟩ : ∃ b off, ab = some ⟨b, off, none⟩ ∧ w.cell? ⟨b, off, none⟩ = some (.int .u8 (l.getD 0 0)) := by
      obtain ⟨a', cap', hv, _, _, hcc⟩ := h.bytes
      injection hv with e1 e2 e3
      rcases hcc with h1 | ⟨b, off, ha, hcc⟩
      · rw [h1] at hl; simp at hl; omega
      · exact ⟨b, off, e1.trans ha, hcc 0 (by omega)⟩
    have hy : 0 ≤ l.getD 0 0 ∧ l.getD 0 0 ≤ 255 := by
      have hne : l ≠ [] := fun e => h0 (by rw [← hl, e]; rfl)
      have e : l.getD 0 0 = l[0]'(by omega) := by simp [List.getD, show 0 < l.length by omega]
      rw [e]
      exact h.bytes.byt _ (List.getElem_mem _)
    obtain ⟨m, hm⟩ : ∃ m : Nat, l.getD 0 0 = (m : Int) := ⟨(l.getD 0 0).toNat, by omega⟩
    rw [hm] at hc hy
    have mI : (m : Int) ≤ 255 := hy.2
    have m0 : (0 : Int) ≤ (m : Int) := by omega
    have lb0 : ((lb : Int) == 0) = false := by simp; omega
    have lb1 : 0 < lb := by omega
    have hne : l ≠ [] := fun e => h0 (by rw [← hl, e]; rfl)
    by_cases hsh : lb < 1 + m
    · rw [show strA l = (⟨#[]⟩, 3, l) by unfold strA; rw [if_pos (.inr (by rw [hm]; omega))]]
      have hshb : decide ((lb : Int) < 1 + (m : Int)) = true := by simp; omega
      have hshc : (lb : Int) < 1 + (m : Int) := by omega
      clear h hl hbig hcap hm hy hne h0 hsh
      go_enter Try.func47, Try.ntmps47
      go_wp2_with fail
      go_quiet (fail)
      go_wp2_with fail
      go_ret2
      exact ⟨rfl, ⟨_, _, _, H.out.below (ybelow_drewN (Below.refl _ w) _)⟩, only_drewN R w _⟩
    · rw [show strA l = (strOfNums ((l.drop 1).take m), 0, l.drop (1 + m)) by unfold strA; rw [if_neg (by rw [hm]; intro q; rcases q with q | q; exact hne q; omega), hm]; rfl]
      have hshb : decide ((lb : Int) < 1 + (m : Int)) = false := by simp; omega
      obtain ⟨a1, e1, _, _, B1⟩ := slice_cut w (some ⟨b, off, none⟩) lb cb 1 (1 + m) l h.bytes hl (by omega) (by omega) hcap
      obtain ⟨a2, _, e2, _, B2⟩ := slice_cut w (some ⟨b, off, none⟩) lb cb (1 + m) lb l h.bytes hl (by omega) (Nat.le_refl _) hcap
      have e2 := e2 rfl
      rw [show 1 + m - 1 = m by omega] at e1 B1
      rw [show ((1 + m : Nat) : Int) = 1 + (m : Int) by omega] at e1 e2
      rw [show ((1 : Nat) : Int) = 1 from rfl] at e1
      have HB1 := Lib.hid B1
      have HB2 := Lib.hid B2
      have HLD := Lib.hid (show (l.drop (1 + m)).take (lb - (1 + m)) = l.drop (1 + m) ∧ (l.drop (1 + m)).length = lb - (1 + m) from ⟨List.take_of_length_le (by rw [List.length_drop]; omega), by rw [List.length_drop]; omega⟩)
      have HCP := Lib.hid (show lb - (1 + m) ≤ cb - (1 + m) ∧ lb - (1 + m) ≤ 140737488351232 by omega)
      clear h hl hbig hcap hm hy hne h0 hsh B1 B2
      go_enter Try.func47, Try.ntmps47
      go_wp2_with fail
      go_quiet (fail)
      generalize hW2 : w.drewN _ = W2
      have HO2 := Lib.hid (show Only R w W2 by rw [← hW2]; exact only_drewN R w _)
      have hb2 : Below w.heap.size w W2 := by rw [← hW2]; exact ybelow_drewN (Below.refl _ w) _
      have hR2 := H.out.below hb2
      have c2 := hR2.at
      have d2 : W2.cell? ⟨b, off, none⟩ = some (.int .u8 (m : Int)) := by rw [← hW2]; exact hc
      have f2 := frozen_of_row W2 R 0 _ _ hR2.cell
      have hcv := conv_BS (HB1.out.kept hb2)
      have hO := (Only.refl R W2).setCell 0 (.slice a2 (lb - (1 + m)) (cb - (1 + m)))
      have HO3 := Lib.hid (show Only R w (W2.setCell ⟨R, 0, none⟩ (.slice a2 (lb - (1 + m)) (cb - (1 + m)))) from HO2.out.setCell 0 _)
      have HRR := Lib.hid (show RR (W2.setCell ⟨R, 0, none⟩ (.slice a2 (lb - (1 + m)) (cb - (1 + m)))) 79 R a2 (lb - (1 + m)) (cb - (1 + m)) (l.drop (1 + m)) from
        ⟨heap_setCell_same _ _ _ _ _ _ hR2.cell, by have q := (HB2.out.kept hb2).only hR2.cell hO; rw [HLD.out.1] at q; exact q, HLD.out.2, HCP.out.1, HCP.out.2⟩)
      clear hW2 hb2 hR2 hO c0 hc
      go_wp2_with fail
      go_ret2
      exact ⟨by rw [List.drop_one]; rfl, ⟨_, _, _, HRR.out⟩, HO3.out⟩
/-- What Hash answers, and what is left. -/
def hashA (l : List Int) : List Int × Int × List Int := if l.length < 32 then (List.replicate 32 0, 3, l) else (l.take 32, 0, l.drop 32)
theorem rawA_hash (l : List Int) : rawA 32 l = if l.length < 32 then ([], 3, l) else (l.take 32, 0, l.drop 32) := by
  unfold rawA
  rw [if_neg (by omega)]
  by_cases h : l.length < 32
  · rw [if_pos (by omega), if_pos h]
  · rw [if_neg (by omega), if_neg h]; rfl
def i8s (l : List Int) : Array Value := (l.map (Value.int .u8)).toArray
theorem zero_hash7 (W : World) : (zeroValue 34).run Try.prog W = .ok (.agg (i8s (List.replicate 32 0))) W := by kernel_rfl
theorem slice_hash7 (g : Nat) (W : World) : (Instr.sliceAt 34 (.pointer (some ⟨g, 0, none⟩)) none none none).run Try.prog W = .ok (.slice (some ⟨g, 0, none⟩) 32 32) W := by
  obtain ⟨i0, hi0, _⟩ := Option.map_eq_some_iff.1 yone
  simp [Instr.sliceAt, run_underlying Try.underlying34, Instr.sureAddr, Instr.sliceBounds, sizeOf, typeInfo, hi0, Addr.add]
/-- Of what was there block R alone may have changed. -/
structure Chg (R : Nat) (w w' : World) : Prop where
  os : w'.os = w.os
  tape : w'.tape = w.tape
  output : w'.output = w.output
  size : w.heap.size ≤ w'.heap.size
  block : ∀ k, k < w.heap.size → k ≠ R → w'.heap[k]? = w.heap[k]?
theorem Chg.of_only {R : Nat} {w w' : World} (h : Only R w w') : Chg R w w' := ⟨(h.bel 0 (Nat.zero_le _)).os, (h.bel 0 (Nat.zero_le _)).tape, (h.bel 0 (Nat.zero_le _)).output, Nat.le_of_eq h.size.symm, fun k _ hk => h.rest k hk⟩
theorem Chg.of_below {R : Nat} {w w' : World} (h : Below w.heap.size w w') : Chg R w w' := ⟨h.os, h.tape, h.output, h.size, fun k hk _ => h.block k hk⟩
theorem Chg.trans {R : Nat} {a b c : World} (h : Chg R a b) (q : Chg R b c) : Chg R a c := ⟨q.os.trans h.os, q.tape.trans h.tape, q.output.trans h.output, Nat.le_trans h.size q.size, fun k hk hne => (q.block k (Nat.lt_of_lt_of_le hk h.size) hne).trans (h.block k hk hne)⟩
theorem Chg.below {R B : Nat} {w w' : World} (h : Chg R w w') (hR : B ≤ R) (hB : B ≤ w.heap.size) : Below B w w' := ⟨h.os, h.tape, h.output, h.size, fun k hk => h.block k (by omega) (by omega)⟩
theorem i8s_one (l : List Int) : (i8s l).all (·.oneCell') = true := by
  apply all_oneCell_toArray
  intro v hv
  obtain ⟨b, _, rfl⟩ := List.mem_map.1 hv
  rfl
theorem i8s_size (l : List Int) : (i8s l).size = l.length := by simp [i8s]
theorem size_hash7 (l : List Int) (h : l.length = 32) : (Try.prog.info? 34).map (·.size) = some (i8s l).size := by rw [show (Try.prog.info? 34).map (·.size) = some 32 by kernel_rfl, i8s_size, h]
theorem bs_cells {w : World} {a : Option Addr} {n cap : Nat} {l : List Int} (h : BS w (.slice a n cap) l) (hl : 0 < l.length) : ∃ b off, a = some ⟨b, off, none⟩ ∧ n = l.length ∧ ∀ j v, (l.map (Value.int .u8))[j]? = some v → w.cell? ⟨b, off + j, none⟩ = some v := by
  obtain ⟨a', cap', hv, hy, hn, hc⟩ := h
  injection hv with e1 e2 e3
  rcases hc with h0 | ⟨b, off, ha, hc⟩
  · subst h0; simp at hl
  · refine ⟨b, off, e1.trans ha, e2, fun j v hv => ?_⟩
    have hj : j < l.length := by
      have := (List.getElem?_eq_some_iff.1 hv).1
      simpa using this
    rw [hc j hj, ← hv, List.getElem?_map, List.getElem?_eq_getElem hj]
    simp [List.getD, hj]
set_option maxRecDepth 100000 in
set_option maxHeartbeats 3200000 in
theorem rhash_short (R lb cb : Nat) (ab : Option Addr) (l : List Int) (w : World) (h : RR w 79 R ab lb cb l) (hsh : l.length < 32) :
    Calls Try.prog 74 #[.pointer (some ⟨R, 0, none⟩)] w fun e w' => e = .returned (.tuple #[.agg (i8s (List.replicate 32 0)), .int .i64 3]) ∧ (∃ ab' lb' cb', RR w' 79 R ab' lb' cb' (l)) ∧ Chg R w w' := by
  have hz := zero_hash7
  obtain ⟨Z, hZ⟩ : ∃ Z, i8s (List.replicate 32 0) = Z := ⟨_, rfl⟩
  have HZ := Lib.hid hZ
  rw [hZ] at hz
  have hA1 := (Below.refl w.heap.size w).alloc (Nat.le_refl _) (.cells Z 34)
  have hA2 := hA1.alloc hA1.size (.cells Z 34)
  have hs1 : (w.alloc (.cells Z 34)).heap.size = w.heap.size + 1 := by simp
  have hs2 : ((w.alloc (.cells Z 34)).alloc (.cells Z 34)).heap.size = w.heap.size + 2 := by simp
  have e2 : ((w.alloc (.cells Z 34)).alloc (.cells Z 34)).heap[w.heap.size + 1]? = some (.cells Z 34 (0, 0)) := by
    have q := heap_alloc_new (w.alloc (.cells Z 34)) (.cells Z 34)
    rwa [hs1] at q
  have e1 : ((w.alloc (.cells Z 34)).alloc (.cells Z 34)).heap[w.heap.size]? = some (.cells Z 34 (0, 0)) :=
    (((Below.refl _ (w.alloc (.cells Z 34))).alloc (Nat.le_refl _) _).block w.heap.size (by omega)).trans (heap_alloc_new w _)
  have HW := Lib.hid h
  have HA2 := Lib.hid hA2
  have HRl := Lib.hid (show R < w.heap.size from (Array.getElem?_eq_some_iff.1 h.cell).1)
  clear h hA1 hA2 hs1 hZ
  go_enter Try.func74, Try.ntmps74
  go_upto_region 2 with fail
  generalize (w.alloc (.cells Z 34)).alloc (.cells Z 34) = w2 at *
  have HR := Lib.hid (rraw_old R lb cb ab l 32 w w2 HW.out HA2.out (by omega))
  have HE1 := Lib.hid e1
  have HE2 := Lib.hid e2
  rw [rawA_hash] at HR
  have HSZ := Lib.hid hs2
  clear e1 e2 hs2 hz
  rw [if_pos hsh] at HR
  clear hsh
  go_wp2_with fail
  refine HR.out.mono ?_
  rintro e w3 ⟨⟨v, rfl, hv⟩, hr, hO⟩
  obtain ⟨av, cv, rfl⟩ : ∃ a c, v = .slice a 0 c := by
    obtain ⟨a', cap', h1, _⟩ := hv
    exact ⟨a', cap', h1⟩
  have HRR := Lib.hid hr
  have HO := Lib.hid hO
  have H31 := Lib.hid (show w3.heap[w.heap.size]? = some (.cells Z 34 (0, 0)) from (hO.rest _ (by have := HRl.out; omega)).trans HE1.out)
  have H32 := Lib.hid (show w3.heap[w.heap.size + 1]? = some (.cells Z 34 (0, 0)) from (hO.rest _ (by have := HRl.out; omega)).trans HE2.out)
  have hsl := slice_hash7 (w.heap.size + 1)
  have hcp : ∀ W : World, (Builtin.copy_ #[64, 64] 3 #[.slice (some ⟨w.heap.size + 1, 0, none⟩) 32 32, .slice av 0 cv]).run Try.prog W = .ok (.int .i64 0) W := fun W => run_copy_none W 64 64 3 5 _ _ 32 32 0 cv Try.underlying64 yone rfl
  clear hv hr hO HR HE1 HE2
  have SQ := Lib.hid (show (Try.prog.info? 34).map (·.size) = some Z.size by rw [← HZ.out]; exact size_hash7 _ (by simp))
  have WO := Lib.hid (show Z.all (·.oneCell') = true by rw [← HZ.out]; exact i8s_one _)
  have HP3 := Lib.hid (show w3.heap.size = w.heap.size + 2 by rw [HO.out.size]; exact HSZ.out)
  go_wp2_with (first
    | (with_reducible refine wpList_load_row (o := ⟨some 15, _, _, _, _, _⟩) rfl 34 _ rfl (w.heap.size + 1) rfl 34 Z (0, 0) _ H32.out Try.underlying34 rfl SQ.out ?_)
    | (with_reducible refine wpList_store_row (o := ⟨none, .store _ (.tmp 2) _, _, _, _, _⟩) rfl 34 _ _ rfl w.heap.size Z rfl rfl 34 Z H31.out SQ.out rfl WO.out ?_))
  have hC5 : Below w.heap.size w3 (w3.setRow w.heap.size Z) := ybelow_row (Below.refl _ _) (Nat.le_refl _) _
  refine bodyPost_ret (v := .tuple #[.agg Z, .int .i64 3]) (results_cell_two Try.results74 _ _ w.heap.size 34 Z (0, 0) _ rfl (setRow_heap _ w.heap.size _ Z _ _ H31.out) Try.underlying34 rfl SQ.out _ (by simp)) rfl ⟨by rw [HZ.out], ?_, ?_⟩
  · obtain ⟨x, y, z, hr⟩ := HRR.out
    refine ⟨x, y, z, hr _ (fun k hk hne => ?_) ?_⟩
    · exact (hC5.block k hk).trans ((HO.out.rest k hne).trans (HA2.out.block k hk))
    · exact hC5.block R HRl.out
  · have hb0 := HO.out.bel 0 (Nat.zero_le _)
    exact ⟨hC5.os.trans (hb0.os.trans HA2.out.os), hC5.tape.trans (hb0.tape.trans HA2.out.tape), hC5.output.trans (hb0.output.trans HA2.out.output), Nat.le_trans HA2.out.size (Nat.le_trans (Nat.le_of_eq HO.out.size.symm) hC5.size),
      fun k hk hne => (hC5.block k hk).trans ((HO.out.rest k hne).trans (HA2.out.block k hk))⟩
set_option maxRecDepth 100000 in
set_option maxHeartbeats 3200000 in
theorem rhash_ok (R lb cb : Nat) (ab : Option Addr) (l : List Int) (w : World) (h : RR w 79 R ab lb cb l) (hsh : 32 ≤ l.length) :
    Calls Try.prog 74 #[.pointer (some ⟨R, 0, none⟩)] w fun e w' => e = .returned (.tuple #[.agg (i8s (l.take 32)), .int .i64 0]) ∧ (∃ ab' lb' cb', RR w' 79 R ab' lb' cb' (l.drop 32)) ∧ Chg R w w' := by
  have HQL := Lib.hid (show (l.take 32).length = 32 by rw [List.length_take]; omega)
  have HLL := Lib.hid hsh
  obtain ⟨Q, hQ⟩ : ∃ Q, l.take 32 = Q := ⟨_, rfl⟩
  rw [hQ] at HQL ⊢
  have HQQ := Lib.hid hQ
  clear hQ hsh
  have hz := zero_hash7
  obtain ⟨Z, hZ⟩ : ∃ Z, i8s (List.replicate 32 0) = Z := ⟨_, rfl⟩
  have HZ := Lib.hid hZ
  rw [hZ] at hz
  have hA1 := (Below.refl w.heap.size w).alloc (Nat.le_refl _) (.cells Z 34)
  have hA2 := hA1.alloc hA1.size (.cells Z 34)
  have hs1 : (w.alloc (.cells Z 34)).heap.size = w.heap.size + 1 := by simp
  have hs2 : ((w.alloc (.cells Z 34)).alloc (.cells Z 34)).heap.size = w.heap.size + 2 := by simp
  have e2 : ((w.alloc (.cells Z 34)).alloc (.cells Z 34)).heap[w.heap.size + 1]? = some (.cells Z 34 (0, 0)) := by
    have q := heap_alloc_new (w.alloc (.cells Z 34)) (.cells Z 34)
    rwa [hs1] at q
  have e1 : ((w.alloc (.cells Z 34)).alloc (.cells Z 34)).heap[w.heap.size]? = some (.cells Z 34 (0, 0)) :=
    (((Below.refl _ (w.alloc (.cells Z 34))).alloc (Nat.le_refl _) _).block w.heap.size (by omega)).trans (heap_alloc_new w _)
  have HW := Lib.hid h
  have HA2 := Lib.hid hA2
  have HRl := Lib.hid (show R < w.heap.size from (Array.getElem?_eq_some_iff.1 h.cell).1)
  clear h hA1 hA2 hs1 hZ
  go_enter Try.func74, Try.ntmps74
  go_upto_region 2 with fail
  generalize (w.alloc (.cells Z 34)).alloc (.cells Z 34) = w2 at *
  have HR := Lib.hid (rraw_old R lb cb ab l 32 w w2 HW.out HA2.out (by omega))
  have HE1 := Lib.hid e1
  have HE2 := Lib.hid e2
  rw [rawA_hash, if_neg (by have := HLL.out; omega), HQQ.out] at HR
  have HSZ := Lib.hid hs2
  clear e1 e2 hs2 hz
  go_wp2_with fail
  refine HR.out.mono ?_
  rintro e w3 ⟨⟨v, rfl, hv⟩, hr, hO⟩
  obtain ⟨av, cv, rfl⟩ : ∃ a c, v = .slice a 32 c := by
    obtain ⟨a', cap', h1, _⟩ := hv
    exact ⟨a', cap', by rw [h1, HQL.out]⟩
  obtain ⟨b, off, rfl, hnn, hsrc⟩ := bs_cells hv (by rw [HQL.out]; decide)
  have h31 : w3.heap[w.heap.size]? = some (.cells Z 34 (0, 0)) := (hO.rest _ (by have := HRl.out; omega)).trans HE1.out
  have h32 : w3.heap[w.heap.size + 1]? = some (.cells Z.toList.toArray 34 (0, 0)) := by
    rw [Array.toArray_toList]
    exact (hO.rest _ (by have := HRl.out; omega)).trans HE2.out
  have HZS := Lib.hid (show Z.size = 32 by rw [← HZ.out, i8s_size]; simp)
  have hsl := slice_hash7 (w.heap.size + 1)
  have HCP := Lib.hid (show (Q.map (Value.int .u8)).length = Nat.min 32 32 ∧ 0 + (Q.map (Value.int .u8)).length ≤ Z.toList.length ∧ ∀ v ∈ Q.map (Value.int .u8), v.oneCell' = true from
    ⟨by rw [List.length_map, HQL.out]; rfl, by rw [List.length_map, HQL.out, Array.length_toList, HZS.out]; decide, fun v hv => by obtain ⟨x, _, rfl⟩ := List.mem_map.1 hv; rfl⟩)
  have HSRC := Lib.hid (show ∀ j v, (Q.map (Value.int .u8))[j]? = some v → w3.cell? ((⟨b, off, none⟩ : Addr).add j) = some v from fun j v hv => by rw [Addr.add_mid]; exact hsrc j v hv)
  have H32 := Lib.hid h32
  have HEQ := Lib.hid (show (List.take 0 Z.toList ++ (Q.map (Value.int .u8) ++ List.drop (0 + (Q.map (Value.int .u8)).length) Z.toList)).toArray = i8s Q by
    rw [List.drop_eq_nil_of_le (by rw [List.length_map, HQL.out, Array.length_toList, HZS.out]; decide)]; simp [i8s])
  have HRR := Lib.hid hr
  have HO := Lib.hid hO
  have H31 := Lib.hid h31
  have HP3 := Lib.hid (show w3.heap.size = w.heap.size + 2 by rw [hO.size]; exact HSZ.out)
  clear h31 h32 hsrc hv hr hO HR HE1 HE2 hnn
  go_upto_region 4 with (first
    | (refine wpList_copy_y (o := ⟨some 14, _, _, _, _, _⟩) rfl (.tmp 12) (.tmp 13) 64 64 (by rfl) 5 Try.underlying64 yone (w.heap.size + 1) 0 32 32 ⟨b, off, none⟩ 32 cv (by rfl) (by rfl) Z.toList 34 H32.out (Q.map (Value.int .u8)) HCP.out.1 HSRC.out HCP.out.2.1 HCP.out.2.2 ?_))
  rw [HEQ.out]
  generalize hW4 : World.setRow w3 _ _ = w4
  have SQ := Lib.hid (size_hash7 Q HQL.out)
  have EZ := Lib.hid (show Z.size = (i8s Q).size by rw [HZS.out, i8s_size, HQL.out])
  have H42 := Lib.hid (show w4.heap[w.heap.size + 1]? = some (.cells (i8s Q) 34 (0, 0)) by rw [← hW4]; exact setRow_heap _ _ _ _ _ _ H32.out)
  have H41 := Lib.hid (show w4.heap[w.heap.size]? = some (.cells Z 34 (0, 0)) by rw [← hW4]; exact (setRow_other _ _ _ _ (by omega)).trans H31.out)
  have HC4 := Lib.hid (show Below w.heap.size w3 w4 by rw [← hW4]; exact ybelow_row (Below.refl _ _) (by omega) _)
  clear hW4 H31 H32 HSRC HCP HEQ hsl
  go_wp2_with (first
    | (with_reducible refine wpList_load_row (o := ⟨some 15, _, _, _, _, _⟩) rfl 34 _ rfl (w.heap.size + 1) rfl 34 (i8s Q) (0, 0) _ H42.out Try.underlying34 rfl SQ.out ?_)
    | (with_reducible refine wpList_store_row (o := ⟨none, .store _ (.tmp 2) _, _, _, _, _⟩) rfl 34 _ _ rfl w.heap.size (i8s Q) rfl rfl 34 Z H41.out SQ.out EZ.out (i8s_one _) ?_))
  have hC5 : Below w.heap.size w3 (w4.setRow w.heap.size (i8s Q)) := ybelow_row HC4.out (Nat.le_refl _) _
  refine bodyPost_ret (v := .tuple #[.agg (i8s Q), .int .i64 0]) (results_cell_two Try.results74 _ _ w.heap.size 34 (i8s Q) (0, 0) _ rfl (setRow_heap _ w.heap.size _ (i8s Q) _ _ H41.out) Try.underlying34 rfl SQ.out _ (by simp)) rfl ⟨rfl, ?_, ?_⟩
  · obtain ⟨x, y, z, hr⟩ := HRR.out
    refine ⟨x, y, z, hr _ (fun k hk hne => ?_) ?_⟩
    · exact (hC5.block k hk).trans ((HO.out.rest k hne).trans (HA2.out.block k hk))
    · exact hC5.block R HRl.out
  · have hb0 := HO.out.bel 0 (Nat.zero_le _)
    exact ⟨hC5.os.trans (hb0.os.trans HA2.out.os), hC5.tape.trans (hb0.tape.trans HA2.out.tape), hC5.output.trans (hb0.output.trans HA2.out.output), Nat.le_trans HA2.out.size (Nat.le_trans (Nat.le_of_eq HO.out.size.symm) hC5.size),
      fun k hk hne => (hC5.block k hk).trans ((HO.out.rest k hne).trans (HA2.out.block k hk))⟩
theorem rhash_any (R lb cb : Nat) (ab : Option Addr) (l : List Int) (w : World) (h : RR w 79 R ab lb cb l) :
    Calls Try.prog 74 #[.pointer (some ⟨R, 0, none⟩)] w fun e w' => e = .returned (.tuple #[.agg (i8s (hashA l).1), .int .i64 (hashA l).2.1]) ∧ (∃ ab' lb' cb', RR w' 79 R ab' lb' cb' (hashA l).2.2) ∧ Chg R w w' := by
  by_cases hs : l.length < 32
  · rw [show hashA l = (List.replicate 32 0, 3, l) by unfold hashA; rw [if_pos hs]]
    exact rhash_short R lb cb ab l w h hs
  · rw [show hashA l = (l.take 32, 0, l.drop 32) by unfold hashA; rw [if_neg hs]]
    exact rhash_ok R lb cb ab l w h (by omega)
end Go.Proofs.Ytkafabcklohlmaa
namespace Go.Proofs.Ytkafabcklohlmaa
set_option maxRecDepth 4000
open Go.RowKit

theorem strCells_b (s : ByteArray) : Lib.strCells s = (btxt s).map (Value.int .u8) := by
  unfold Lib.strCells btxt
  rw [List.map_map]
  rfl
set_option maxHeartbeats 1600000 in
theorem rstr7_any (s : ByteArray) (w : World) (hs : s.size ≤ 255) :
    Calls Try.prog 43 #[.string s] w fun e w' => ∃ a c, e = .returned (.slice a (1 + s.size) c) ∧ w'.ownsRow w.heap.size 5 1 (.slice a (1 + s.size) c) (1 + s.size) ((((s.size : Int) :: btxt s)).map (Value.int .u8)) ∧ Below w.heap.size w w' := by
  obtain ⟨i0, hi, hz0, hz1, hz2⟩ := info_parts info_u8
  have HI := Lib.hid (And.intro hi (And.intro hz0 (And.intro hz1 hz2)))
  have sI : (s.size : Int) ≤ 255 := by omega
  have HS := Lib.hid hs
  have HBUF := Lib.hid (World.ownsRow_lit (base := w.heap.size) (e := 5) (size := 1) w #[.int .u8 (s.size : Int)] 1 (Nat.le_refl _) (by unfold maxLen; omega) rfl)
  have HB1 := Lib.hid ((Below.refl w.heap.size w).alloc (Nat.le_refl _) (.cells #[.int .u8 (s.size : Int)] 5))
  clear hi hz0 hz1 hz2 hs
  go_enter Try.func43, Try.ntmps43
  go_wp2_with (first
    | (at_builtin; (refine Lib.wpList_append_own_string (o := ⟨some 8, _, _, _, _, _⟩) _ rfl _ _ 64 9 rfl w.heap.size 5 i0 Try.underlying64 Try.underlying9 HI.out.1 HI.out.2.1 HI.out.2.2.1 HI.out.2.2.2 (.slice (some ⟨w.heap.size, 0, none⟩) 1 1) 1 _ rfl HBUF.out s rfl (by unfold maxLen; have := HS.out; omega) (by have := HS.out; omega) (by have := HB1.out.size; omega) ?_); intro v6 w6 ho6 hg6 _))
  have hb6 := HB1.out.grown hg6 (by have := HB1.out.size; omega) (by intro k hk; simp [Value.ownBlock] at hk; omega)
  obtain ⟨a6, c6, rfl⟩ : ∃ a c, v6 = .slice a (1 + s.size) c := by
    rcases ho6.2 with ⟨h5, h6⟩ | ⟨g', c, cur, h5, _⟩
    · omega
    · exact ⟨_, _, h5⟩
  rw [strCells_b] at ho6
  have HO := Lib.hid ho6
  have HB := Lib.hid hb6
  clear ho6 hb6 hg6
  go_wp2_with fail
  go_ret
  exact ⟨a6, c6, rfl, HO.out, HB.out⟩
/-- An act: what is laid, or read. -/
structure LayV where
  kd : Int
  sz : Int
  n : Nat
  s : ByteArray
  h : List Int
  ab : Option Addr
  lb : Nat
  cb : Nat
  bl : List Int
def layRow (q : LayV) : List Value := [.int .i64 q.kd, .int .i64 q.sz, .int .u64 (q.n : Int), .string q.s] ++ (q.h.map (Value.int .u8) ++ [.slice q.ab q.lb q.cb])
theorem lay_at {W : World} {T t : Nat} {fr : Nat × Nat} {q : LayV} (h : W.heap[T]? = some (.cells (layRow q).toArray t fr)) (hh : q.h.length = 32) :
    W.cell? ⟨T, 0, none⟩ = some (.int .i64 q.kd) ∧ W.cell? ⟨T, 1, none⟩ = some (.int .i64 q.sz) ∧ W.cell? ⟨T, 2, none⟩ = some (.int .u64 (q.n : Int)) ∧ W.cell? ⟨T, 3, none⟩ = some (.string q.s) ∧ W.cell? ⟨T, 36, none⟩ = some (.slice q.ab q.lb q.cb) ∧ ∀ j v, (q.h.map (Value.int .u8))[j]? = some v → W.cell? ⟨T, 4 + j, none⟩ = some v := by
  refine ⟨cell_of_row _ _ _ _ _ _ h, cell_of_row _ _ _ _ _ _ h, cell_of_row _ _ _ _ _ _ h, cell_of_row _ _ _ _ _ _ h, ?_, fun j v hv => ?_⟩
  · rw [cell_of_row _ _ _ _ _ _ h]
    simp [layRow, hh]
  · rw [cell_of_row _ _ _ _ _ _ h, List.getElem?_toArray, layRow]
    have hj : j < 32 := by
      have := (List.getElem?_eq_some_iff.1 hv).1
      simpa [hh] using this
    rw [List.getElem?_append_right (by simp), List.getElem?_append_left (by simp [hh]; omega)]
    simpa using hv
end Go.Proofs.Ytkafabcklohlmaa
namespace Go.Proofs.Ytkafabcklohlmaa
set_option maxRecDepth 4000
open Go.RowKit

theorem beq_nil (a : Option Addr) (n c : Nat) (W : World) : (binOp .eql 64 (.slice a n c) (.slice none 0 0)).run Try.prog W = .ok (.bool a.isNone) W := Lib.run_eql_slice_nil W _ _ a n c 0 0 Try.underlying64
set_option maxRecDepth 100000 in
set_option maxHeartbeats 1600000 in
theorem clone_any (v : Value) (l : List Int) (w : World) (h : BS w v l) (h63 : l.length ≤ 140737488351232) :
    Calls Try.prog 66 #[v] w fun e w' => ∃ v', e = .returned v' ∧ w'.ownsRow w.heap.size 5 1 v' l.length (l.map (Value.int .u8)) ∧ Below w.heap.size w w' := by
  have h0 := h
  obtain ⟨ad, cap, rfl, hy, hn, hc⟩ := h
  cases ad with
  | none =>
    obtain rfl := hn rfl
    obtain rfl : l = [] := by
      rcases hc with h | ⟨b, off, h, _⟩
      · exact h
      · cases h
    clear h0 hc
    have hq := beq_nil none 0 0
    go_enter Try.func66, Try.ntmps66
    go_wp2_with fail
    go_ret
    exact ⟨_, rfl, World.ownsRow_nil _ _ _ _, Below.refl _ _⟩
  | some ad =>
    have hb1 := (Below.refl w.heap.size w).alloc (Nat.le_refl _) (.cells #[] 5)
    have ho := World.ownsRow_lit (base := w.heap.size) (e := 5) (size := 1) w #[] 0 (Nat.le_refl _) (by unfold maxLen; omega) rfl
    have HO := Lib.hid ho
    have HB1 := Lib.hid hb1
    have HX := Lib.hid (h0.kept hb1)
    have HL := Lib.hid h63
    clear h0 hc ho hb1 h63
    have hq := beq_nil (some ad) l.length cap
    go_enter Try.func66, Try.ntmps66
    go_wp2_with (first
      | (at_builtin; (refine wpList_append_BS (o := ⟨some 7, _, _, _, _, _⟩) rfl _ _ rfl w.heap.size (.slice (some ⟨w.heap.size, 0, none⟩) 0 0) 0 [] rfl HO.out _ l rfl HX.out (by have := HL.out; omega) HB1.out.size ?_); intro v6 w6 ho6 hg6))
    have HB := Lib.hid (HB1.out.grown hg6 HB1.out.size (by intro k hk; simp [Value.ownBlock] at hk; omega))
    have H1 := Lib.hid ho6
    clear ho6 hg6
    go_wp2_with fail
    go_ret
    exact ⟨_, rfl, by simpa using H1.out, HB.out⟩
/-- A Writer in memory: its row holds l. -/
structure WO (w : World) (P B : Nat) (v : Value) (l : List Int) : Prop where
  cell : w.heap[P]? = some (.cells #[v] 66 (0, 0))
  own : w.ownsRow B 5 1 v l.length (l.map (Value.int .u8))
  byt : Byt l
theorem own_type {w : World} {B n : Nat} {e : TypeId} {k : Nat} {v : Value} {xs : List Value} (h : w.ownsRow B e k v n xs) {g : Nat} (hg : v.ownBlock = some g) : ∃ cur, w.heap[g]? = some (.cells cur e (0, 0)) := by
  rcases h.2 with ⟨rfl, _⟩ | ⟨g', cap, cur, rfl, _, hgg, _⟩
  · cases hg
  · obtain rfl : g' = g := by simpa [Value.ownBlock] using hg
    exact ⟨cur, hgg⟩
theorem own_ne {w : World} {B n P t : Nat} {e : TypeId} {k : Nat} {v : Value} {xs : List Value} {cs : Array Value} {fr : Nat × Nat} (h : w.ownsRow B e k v n xs) (hP : w.heap[P]? = some (.cells cs t fr)) (ht : t ≠ e) : v.ownBlock ≠ some P := by
  intro hg
  obtain ⟨cur, hc⟩ := own_type h hg
  rw [hP] at hc
  simp only [Option.some.injEq, Obj.cells.injEq] at hc
  exact ht hc.2.1
theorem WO.ne {w : World} {P B : Nat} {v : Value} {l : List Int} (h : WO w P B v l) : v.ownBlock ≠ some P := own_ne h.own h.cell (by decide)
theorem WO.lt {w : World} {P B : Nat} {v : Value} {l : List Int} (h : WO w P B v l) : P < w.heap.size := (Array.getElem?_eq_some_iff.1 h.cell).1
theorem WO.touch {w w' : World} {P B : Nat} {v : Value} {l : List Int} {m : List Nat} (h : WO w P B v l) (t : Touch m w w') (hP : P ∉ m) (hv : ∀ g, v.ownBlock = some g → g ∉ m) : WO w' P B v l :=
  ⟨(t.block P h.lt hP).trans h.cell, own_touch h.own t hv, h.byt⟩
theorem WO.below {w w' : World} {P B : Nat} {v : Value} {l : List Int} (h : WO w P B v l) (b : Below w.heap.size w w') : WO w' P B v l :=
  h.touch (m := []) (Touch.of_below b) (by simp) (by simp)
/-- A step of a Writer: it holds l behind it, and of what was there its own blocks alone have changed. -/
def WStep (w w' : World) (P B : Nat) (v : Value) (l : List Int) : Prop :=
  ∃ v', WO w' P B v' l ∧ Touch (P :: v.ownBlock.toList) w w' ∧ (v'.ownBlock = v.ownBlock ∨ ∃ g, v'.ownBlock = some g ∧ w.heap.size ≤ g)
theorem WStep.refl {w : World} {P B : Nat} {v : Value} {l : List Int} (h : WO w P B v l) : WStep w w P B v l := ⟨v, h, Touch.refl _ _, .inl rfl⟩
theorem WStep.of_below {w w1 w' : World} {P B : Nat} {v : Value} {l : List Int} (b : Below w.heap.size w w1) (s : WStep w1 w' P B v l) : WStep w w' P B v l := by
  obtain ⟨v', h, t, n⟩ := s
  refine ⟨v', h, (Touch.of_below b).trans t, ?_⟩
  rcases n with n | ⟨g, n, hg⟩
  · exact .inl n
  · exact .inr ⟨g, n, Nat.le_trans b.size hg⟩
theorem wstep_trans {w w1 w2 : World} {P B : Nat} {v v1 : Value} {l : List Int} (t : Touch (P :: v.ownBlock.toList) w w1) (n : v1.ownBlock = v.ownBlock ∨ ∃ g, v1.ownBlock = some g ∧ w.heap.size ≤ g) (s : WStep w1 w2 P B v1 l) : WStep w w2 P B v l := by
  obtain ⟨v', h, t2, n2⟩ := s
  have t3 : Touch (P :: v.ownBlock.toList) w w2 := by
    refine ⟨t2.os.trans t.os, t2.tape.trans t.tape, t2.output.trans t.output, Nat.le_trans t.size t2.size, fun k hk hne => ?_⟩
    refine (t2.block k (Nat.lt_of_lt_of_le hk t.size) ?_).trans (t.block k hk hne)
    intro hm
    rcases n with n | ⟨g, n, hg⟩
    · rw [n] at hm; exact hne hm
    · rw [n] at hm
      simp only [Option.toList_some, List.mem_cons, List.not_mem_nil, or_false] at hm hne
      rcases hm with rfl | rfl
      · exact hne (.inl rfl)
      · omega
  refine ⟨v', h, t3, ?_⟩
  rcases n2 with n2 | ⟨g, n2, hg⟩
  · rw [n2]
    exact n
  · exact .inr ⟨g, n2, Nat.le_trans t.size hg⟩
theorem WStep.grow {w w1 w2 : World} {P B : Nat} {v : Value} {l l' : List Int} (s : WStep w w1 P B v l) (q : ∀ v1, WO w1 P B v1 l → WStep w1 w2 P B v1 l') : WStep w w2 P B v l' := by
  obtain ⟨v1, h, t, n⟩ := s
  exact wstep_trans t n (q v1 h)
set_option maxRecDepth 100000 in
set_option maxHeartbeats 1600000 in
theorem wraw_any (P B : Nat) (v vx : Value) (l x : List Int) (w : World) (h : WO w P B v l) (hx : BS w vx x) (h63 : l.length + x.length ≤ 140737488351232) (hB : B ≤ w.heap.size) :
    Calls Try.prog 64 #[.pointer (some ⟨P, 0, none⟩), vx] w fun e w' => e = .returned (.int .i64 0) ∧ WStep w w' P B v (l ++ x) := by
  obtain ⟨av, cv, rfl, _, _⟩ := own_bs h.own rfl h.byt
  obtain ⟨ax, cx, rfl, _⟩ := id hx
  obtain ⟨v', w1, hr, h1, h2, h3⟩ := run_append_BS_at w B l.length _ _ _ x h.own hx h63 hB
  obtain ⟨a1, cp1, rfl⟩ : ∃ a1 cp1, v' = .slice a1 (l.length + x.length) cp1 := by
    rcases h1.2 with ⟨h5, h6⟩ | ⟨g', c, cur, h5, _⟩
    · exact ⟨_, _, by rw [h5, h6]⟩
    · exact ⟨_, _, h5⟩
  have hc1 : w1.heap[P]? = some (.cells #[.slice av l.length cv] 66 (0, 0)) := (h2.block P h.lt (fun e => h.ne e.symm)).trans h.cell
  have hne : (Value.slice a1 (l.length + x.length) cp1).ownBlock ≠ some P := own_ne h1 hc1 (by decide)
  have hO := (Only.refl P w1).setCell 0 (.slice a1 (l.length + x.length) cp1)
  have HS := Lib.hid (show WStep w (w1.setCell ⟨P, 0, none⟩ (.slice a1 (l.length + x.length) cp1)) P B (.slice av l.length cv) (l ++ x) from ⟨_, ⟨heap_setCell_same _ _ _ _ _ _ hc1, by
      have q := own_touch (l := [P]) h1 (Touch.of_only hO (by simp)) (fun g hg e => by
        simp only [List.mem_cons, List.not_mem_nil, or_false] at e
        exact hne (e ▸ hg))
      rw [List.length_append, List.map_append]; exact q, fun z hz => by
        rcases List.mem_append.1 hz with hz | hz
        · exact h.byt z hz
        · exact hx.byt z hz⟩,
      ((Touch.grown h2).more (fun k hk => List.mem_cons_of_mem _ hk)).trans (Touch.of_only hO (List.mem_cons_self ..)), by
        rcases h3 with h3 | h3
        · exact .inl h3
        · exact .inr ⟨_, h3, Nat.le_refl _⟩⟩)
  have c0 := cell_of_row _ P 0 _ _ _ h.cell
  have c1 := cell_of_row _ P 0 _ _ _ hc1
  have f1 := frozen_of_row w1 P 0 _ _ hc1
  simp at c0 c1
  clear h hx h63 hB h1 h2 h3 hc1 hne hO
  go_enter Try.func64, Try.ntmps64
  have HR := Lib.hid hr
  clear hr
  go_wp2_with (first
    | (at_builtin; refine wpList_append_run (o := ⟨some 13, _, _, _, _, _⟩) rfl _ _ _ _ rfl _ _ _ _ rfl rfl HR.out ?_))
  go_ret
  exact ⟨rfl, HS.out⟩
end Go.Proofs.Ytkafabcklohlmaa
namespace Go.Proofs.Ytkafabcklohlmaa
set_option maxRecDepth 4000
open Go.RowKit

/-- What Num lays, and answers. -/
def numW (x n : Int) : List Int × Int := if n < 0 ∨ 8 < n ∨ 2 ^ (8 * n.toNat) ≤ x then ([], 2) else (putI x n.toNat, 0)
set_option maxRecDepth 100000 in
set_option maxHeartbeats 1600000 in
theorem wnum_any (P B : Nat) (v : Value) (l : List Int) (x n : Int) (w : World) (h : WO w P B v l) (h0 : 0 ≤ x) (h63 : l.length ≤ 140737488300000) (hB : B ≤ w.heap.size) :
    Calls Try.prog 38 #[.pointer (some ⟨P, 0, none⟩), .int .u64 x, .int .i64 n] w fun e w' => e = .returned (.int .i64 (numW x n).2) ∧ WStep w w' P B v (l ++ (numW x n).1) := by
  by_cases hc : n < 0 ∨ 8 < n ∨ 2 ^ (8 * n.toNat) ≤ x
  · rw [show numW x n = ([], 2) by unfold numW; rw [if_pos hc]]
    have HP := Lib.hid (put_bad x n w hc)
    have HS := Lib.hid (show WStep w w P B v (l ++ []) by rw [List.append_nil]; exact WStep.refl h)
    clear h hc h0 h63 hB
    go_enter Try.func38, Try.ntmps38
    go_wp2_with fail
    refine HP.out.mono ?_
    rintro e w1 ⟨rfl, rfl⟩
    go_wp2_with fail
    go_ret
    exact ⟨rfl, HS.out⟩
  · rw [show numW x n = (putI x n.toNat, 0) by unfold numW; rw [if_neg hc]]
    obtain ⟨m, rfl⟩ : ∃ m : Nat, n = (m : Int) := ⟨n.toNat, by omega⟩
    have hm : m ≤ 8 := by omega
    have HP := Lib.hid (put_ok x m w hm h0 (by simp at hc; omega))
    have HM := Lib.hid hm
    have H := Lib.hid h
    have HL := Lib.hid h63
    have HBB := Lib.hid hB
    dsimp only
    rw [Int.toNat_natCast]
    clear h hc h0 h63 hB hm
    go_enter Try.func38, Try.ntmps38
    go_wp2_with fail
    refine HP.out.mono ?_
    rintro e w1 ⟨rfl, ho, hb⟩
    have HR := Lib.hid (wraw_any P B v _ l _ w1 (H.out.below hb) (BS.of_own ho (putI_length x m) (putI_byt x m)) (by rw [putI_length]; have := HM.out; have := HL.out; omega) (Nat.le_trans HBB.out hb.size))
    have HB := Lib.hid hb
    clear ho hb HP
    go_wp2_with fail
    refine HR.out.mono ?_
    rintro e w2 ⟨rfl, hs⟩
    have HS := Lib.hid (hs.of_below HB.out)
    clear hs HR
    go_wp2_with fail
    go_ret
    exact ⟨rfl, HS.out⟩
/-- What Str lays, and answers. -/
def strW (s : ByteArray) : List Int × Int := if 255 < s.size then ([], 2) else ((s.size : Int) :: btxt s, 0)
theorem putI_one (m : Nat) (h : m ≤ 255) : putI (m : Int) 1 = [(m : Int)] := by
  simp [putI]
  omega
theorem numW_one (m : Nat) (h : m ≤ 255) : numW (m : Int) 1 = ([(m : Int)], 0) := by
  unfold numW
  rw [if_neg (by simp; omega)]
  rw [show (1 : Int).toNat = 1 from rfl, putI_one m h]
set_option maxRecDepth 100000 in
set_option maxHeartbeats 1600000 in
theorem wstr_any (P B : Nat) (v : Value) (l : List Int) (s : ByteArray) (w : World) (h : WO w P B v l) (hs : s.size ≤ 140737488351232) (h63 : l.length ≤ 140737488200000) (hB : B ≤ w.heap.size) :
    Calls Try.prog 40 #[.pointer (some ⟨P, 0, none⟩), .string s] w fun e w' => e = .returned (.int .i64 (strW s).2) ∧ WStep w w' P B v (l ++ (strW s).1) := by
  have sI : (s.size : Int) ≤ 140737488351232 := by omega
  by_cases hc : 255 < s.size
  · rw [show strW s = ([], 2) by unfold strW; rw [if_pos hc]]
    have HS := Lib.hid (show WStep w w P B v (l ++ []) by rw [List.append_nil]; exact WStep.refl h)
    have hcI : (255 : Int) < (s.size : Int) := by omega
    clear h hc h63 hB hs
    go_enter Try.func40, Try.ntmps40
    go_wp2_with fail
    go_ret
    exact ⟨rfl, HS.out⟩
  · rw [show strW s = ((s.size : Int) :: btxt s, 0) by unfold strW; rw [if_neg hc]]
    have hcI : (s.size : Int) ≤ 255 := by omega
    have HN := Lib.hid (wnum_any P B v l (s.size : Int) 1 w h (by omega) (by omega) hB)
    rw [numW_one _ (by omega)] at HN
    have HL := Lib.hid h63
    have HBB := Lib.hid hB
    have HC := Lib.hid hc
    have hcv := bconv_txt s
    clear h hc h63 hB hs
    go_enter Try.func40, Try.ntmps40
    go_wp2_with fail
    refine HN.out.mono ?_
    rintro e w1 ⟨rfl, v1, h1, t1, n1⟩
    have hb := bbytes_below w1 s
    have HR := Lib.hid (wraw_any P B v1 _ _ (btxt s) _ (h1.below hb) (bbytes_bs w1 s) (by rw [btxt_length, List.length_append]; have := HC.out; have := HL.out; simp; omega) (by have := hb.size; have := t1.size; have := HBB.out; omega))
    have HB := Lib.hid hb
    have HT := Lib.hid (And.intro t1 n1)
    clear h1 t1 n1 hb HN
    go_wp2_with fail
    refine HR.out.mono ?_
    rintro e w2 ⟨rfl, hs⟩
    have HS := Lib.hid (wstep_trans HT.out.1 HT.out.2 (hs.of_below HB.out))
    rw [List.append_assoc] at HS
    clear hs HR
    go_wp2_with fail
    go_ret
    exact ⟨rfl, HS.out⟩
theorem bs_i8s {w : World} {g t : Nat} {q : List Int} (h : w.heap[g]? = some (.cells (i8s q) t (0, 0))) (hb : Byt q) (n : Nat) (hn : q.length = n) : BS w (.slice (some ⟨g, 0, none⟩) n n) q := by
  refine ⟨some ⟨g, 0, none⟩, n, by rw [hn], hb, nofun, .inr ⟨g, 0, rfl, fun i hi => ?_⟩⟩
  rw [cell_of_row _ _ _ _ _ _ h]
  simp [i8s, hi]
set_option maxRecDepth 100000 in
set_option maxHeartbeats 1600000 in
theorem whash_any (P B : Nat) (v : Value) (l q : List Int) (w : World) (h : WO w P B v l) (hq : q.length = 32) (hy : Byt q) (h63 : l.length ≤ 140737488200000) (hB : B ≤ w.heap.size) :
    Calls Try.prog 65 #[.pointer (some ⟨P, 0, none⟩), .agg (i8s q)] w fun e w' => e = .returned (.int .i64 0) ∧ WStep w w' P B v (l ++ q) := by
  have hb := (Below.refl w.heap.size w).alloc (Nat.le_refl _) (.cells (i8s q) 34)
  have hA := heap_alloc_new w (.cells (i8s q) 34)
  have HR := Lib.hid (wraw_any P B v _ l q _ (h.below hb) (bs_i8s hA hy 32 hq) (by omega) (by have := hb.size; omega))
  have HB := Lib.hid hb
  have hsl := slice_hash7 w.heap.size
  clear h hq hy h63 hB hb hA
  generalize i8s q = Z at *
  go_enter Try.func65, Try.ntmps65
  go_wp2_with fail
  refine HR.out.mono ?_
  rintro e w2 ⟨rfl, hs⟩
  have HS := Lib.hid (hs.of_below HB.out)
  clear hs HR
  go_wp2_with fail
  go_ret
  exact ⟨rfl, HS.out⟩
/-- What Pad lays, and answers. -/
def padW (n : Nat) (sz : Int) : List Int × Int := if 65536 < sz ∨ sz < n then ([], 2) else (List.replicate (sz.toNat - n) 0, 0)
theorem byt_zeros (n : Nat) : Byt (List.replicate n 0) := by
  intro z hz
  obtain ⟨_, rfl⟩ := List.mem_replicate.1 hz
  omega
set_option maxRecDepth 100000 in
set_option maxHeartbeats 1600000 in
theorem wbytes_any (P B : Nat) (v : Value) (l : List Int) (w : World) (h : WO w P B v l) (h63 : l.length ≤ 140737488351232) :
    Calls Try.prog 42 #[.pointer (some ⟨P, 0, none⟩)] w fun e w' => ∃ v', e = .returned v' ∧ w'.ownsRow w.heap.size 5 1 v' l.length (l.map (Value.int .u8)) ∧ Below w.heap.size w w' := by
  obtain ⟨av, cv, rfl, _, hbs⟩ := own_bs h.own rfl h.byt
  have c0 := cell_of_row _ P 0 _ _ _ h.cell
  simp at c0
  have HC := Lib.hid (clone_any _ l w hbs h63)
  clear h h63 hbs
  go_enter Try.func42, Try.ntmps42
  go_wp2_with fail
  refine HC.out.mono ?_
  rintro e w1 ⟨v', rfl, ho, hb⟩
  have HO := Lib.hid (And.intro ho hb)
  clear ho hb HC
  go_wp2_with fail
  go_ret
  exact ⟨_, rfl, HO.out.1, HO.out.2⟩
end Go.Proofs.Ytkafabcklohlmaa
namespace Go.Proofs.Ytkafabcklohlmaa
set_option maxRecDepth 4000
open Go.RowKit

set_option maxHeartbeats 1600000 in
theorem pnext_old (R lb cb : Nat) (ab : Option Addr) (l : List Int) (n : Int) (w0 w : World) (h0' : RR w0 114 R ab lb cb l) (hb : Below w0.heap.size w0 w) (hn : n ≤ 9223372036854775807) :
    Calls Try.prog 79 #[.pointer (some ⟨R, 0, none⟩), .int .i64 n] w fun e w' => (∃ v, e = .returned (.tuple #[v, .int .i64 (rawA n l).2.1]) ∧ BS w' v (rawA n l).1) ∧ (∃ ab' lb' cb', ∀ W : World, (∀ k, k < w0.heap.size → k ≠ R → W.heap[k]? = w0.heap[k]?) → W.heap[R]? = w'.heap[R]? → RR W 114 R ab' lb' cb' (rawA n l).2.2) ∧ Only R w w' := by
  have h := h0'.below hb
  have H := Lib.hid h
  have H0 := Lib.hid h0'
  have c0 := h.at
  have hl := h.len
  have hbig := h.big
  have hcap := h.cap
  by_cases h0 : n < 0
  · rw [show rawA n l = ([], 2, l) by unfold rawA; rw [if_pos h0]]
    clear h h0' hb hl hbig hcap
    go_enter Try.func79, Try.ntmps79
    go_wp2_with fail
    go_ret2
    exact ⟨⟨_, rfl, bs_nil _⟩, ⟨_, _, _, fun W q1 q2 => ⟨q2.trans H.out.cell, H0.out.bytes.old H0.out.cell q1, H.out.len, H.out.cap, H.out.big⟩⟩, Only.refl _ _⟩
  · obtain ⟨m, rfl⟩ : ∃ m : Nat, n = (m : Int) := ⟨n.toNat, by omega⟩
    have m0 : (0 : Int) ≤ (m : Int) := by omega
    have lI : (lb : Int) ≤ 140737488351232 := by omega
    by_cases h1 : lb < m
    · rw [show rawA (m : Int) l = ([], 3, l) by unfold rawA; rw [if_neg (by omega), if_pos (by omega)]]
      have h1b : decide (lb < m) = true := by simp [h1]
      have h1c : (lb : Int) < (m : Int) := by omega
      clear h h0' hb hl hbig hcap h0 h1
      go_enter Try.func79, Try.ntmps79
      go_wp2_with fail
      go_ret2
      exact ⟨⟨_, rfl, bs_nil _⟩, ⟨_, _, _, fun W q1 q2 => ⟨q2.trans H.out.cell, H0.out.bytes.old H0.out.cell q1, H.out.len, H.out.cap, H.out.big⟩⟩, Only.refl _ _⟩
    · rw [show rawA (m : Int) l = (l.take m, 0, l.drop m) by unfold rawA; rw [if_neg (by omega), if_neg (by omega)]; rfl]
      have h1b : decide (lb < m) = false := by simp; omega
      obtain ⟨a1, _, _, e1, B1⟩ := slice_cut w0 ab lb cb 0 m l h0'.bytes hl (Nat.zero_le _) (by omega) hcap
      obtain ⟨a2, _, e2, _, B2⟩ := slice_cut w0 ab lb cb m lb l h0'.bytes hl (by omega) (Nat.le_refl _) hcap
      have e1 := e1 rfl
      have e2 := e2 rfl
      simp only [Nat.sub_zero] at e1 B1
      have f0 := frozen_of_row w R 0 _ _ h.cell
      have hO : Only R w (w.setCell ⟨R, 0, none⟩ (.slice a2 (lb - m) (cb - m))) := (Only.refl _ _).setCell _ _
      have HO := Lib.hid hO
      have HB1 := Lib.hid (show BS (w.setCell ⟨R, 0, none⟩ (.slice a2 (lb - m) (cb - m))) (.slice a1 m cb) (l.take m) from by have q := (B1.kept hb).only h.cell hO; simpa using q)
      have HRR := Lib.hid (show ∀ W : World, (∀ k, k < w0.heap.size → k ≠ R → W.heap[k]? = w0.heap[k]?) → W.heap[R]? = (w.setCell ⟨R, 0, none⟩ (.slice a2 (lb - m) (cb - m))).heap[R]? → RR W 114 R a2 (lb - m) (cb - m) (l.drop m) from fun W q1 q2 =>
        ⟨q2.trans (heap_setCell_same _ _ _ _ _ _ h.cell), by have q := B2.old H0.out.cell q1; rw [List.take_of_length_le (by rw [List.length_drop]; omega)] at q; exact q, by rw [List.length_drop]; omega, by omega, by omega⟩)
      clear h h0' hb hl hbig hcap h0 h1 B1 B2 hO
      go_enter Try.func79, Try.ntmps79
      go_wp2_with fail
      go_ret2
      exact ⟨⟨_, rfl, HB1.out⟩, ⟨_, _, _, HRR.out⟩, HO.out⟩
theorem pnext_any (R lb cb : Nat) (ab : Option Addr) (l : List Int) (n : Int) (w : World) (h : RR w 114 R ab lb cb l) (hn : n ≤ 9223372036854775807) :
    Calls Try.prog 79 #[.pointer (some ⟨R, 0, none⟩), .int .i64 n] w fun e w' => (∃ v, e = .returned (.tuple #[v, .int .i64 (rawA n l).2.1]) ∧ BS w' v (rawA n l).1) ∧ (∃ ab' lb' cb', RR w' 114 R ab' lb' cb' (rawA n l).2.2) ∧ Only R w w' := by
  refine (pnext_old R lb cb ab l n w w h (Below.refl _ _) hn).mono ?_
  rintro e w' ⟨hv, ⟨a, b, c, hr⟩, hO⟩
  exact ⟨hv, ⟨a, b, c, hr w' (fun k _ hk => hO.rest k hk) rfl⟩, hO⟩
set_option maxRecDepth 100000 in
set_option maxHeartbeats 3200000 in
theorem phash_short (R lb cb : Nat) (ab : Option Addr) (l : List Int) (w : World) (h : RR w 114 R ab lb cb l) (hsh : l.length < 32) :
    Calls Try.prog 82 #[.pointer (some ⟨R, 0, none⟩)] w fun e w' => e = .returned (.tuple #[.agg (i8s (List.replicate 32 0)), .int .i64 3]) ∧ (∃ ab' lb' cb', RR w' 114 R ab' lb' cb' (l)) ∧ Chg R w w' := by
  have hz := zero_hash7
  obtain ⟨Z, hZ⟩ : ∃ Z, i8s (List.replicate 32 0) = Z := ⟨_, rfl⟩
  have HZ := Lib.hid hZ
  rw [hZ] at hz
  have hA1 := (Below.refl w.heap.size w).alloc (Nat.le_refl _) (.cells Z 34)
  have hA2 := hA1.alloc hA1.size (.cells Z 34)
  have hs1 : (w.alloc (.cells Z 34)).heap.size = w.heap.size + 1 := by simp
  have hs2 : ((w.alloc (.cells Z 34)).alloc (.cells Z 34)).heap.size = w.heap.size + 2 := by simp
  have e2 : ((w.alloc (.cells Z 34)).alloc (.cells Z 34)).heap[w.heap.size + 1]? = some (.cells Z 34 (0, 0)) := by
    have q := heap_alloc_new (w.alloc (.cells Z 34)) (.cells Z 34)
    rwa [hs1] at q
  have e1 : ((w.alloc (.cells Z 34)).alloc (.cells Z 34)).heap[w.heap.size]? = some (.cells Z 34 (0, 0)) :=
    (((Below.refl _ (w.alloc (.cells Z 34))).alloc (Nat.le_refl _) _).block w.heap.size (by omega)).trans (heap_alloc_new w _)
  have HW := Lib.hid h
  have HA2 := Lib.hid hA2
  have HRl := Lib.hid (show R < w.heap.size from (Array.getElem?_eq_some_iff.1 h.cell).1)
  clear h hA1 hA2 hs1 hZ
  go_enter Try.func82, Try.ntmps82
  go_upto_region 2 with fail
  generalize (w.alloc (.cells Z 34)).alloc (.cells Z 34) = w2 at *
  have HR := Lib.hid (pnext_old R lb cb ab l 32 w w2 HW.out HA2.out (by omega))
  have HE1 := Lib.hid e1
  have HE2 := Lib.hid e2
  rw [rawA_hash] at HR
  have HSZ := Lib.hid hs2
  clear e1 e2 hs2 hz
  rw [if_pos hsh] at HR
  clear hsh
  go_wp2_with fail
  refine HR.out.mono ?_
  rintro e w3 ⟨⟨v, rfl, hv⟩, hr, hO⟩
  obtain ⟨av, cv, rfl⟩ : ∃ a c, v = .slice a 0 c := by
    obtain ⟨a', cap', h1, _⟩ := hv
    exact ⟨a', cap', h1⟩
  have HRR := Lib.hid hr
  have HO := Lib.hid hO
  have H31 := Lib.hid (show w3.heap[w.heap.size]? = some (.cells Z 34 (0, 0)) from (hO.rest _ (by have := HRl.out; omega)).trans HE1.out)
  have H32 := Lib.hid (show w3.heap[w.heap.size + 1]? = some (.cells Z 34 (0, 0)) from (hO.rest _ (by have := HRl.out; omega)).trans HE2.out)
  have hsl := slice_hash7 (w.heap.size + 1)
  have hcp : ∀ W : World, (Builtin.copy_ #[64, 64] 3 #[.slice (some ⟨w.heap.size + 1, 0, none⟩) 32 32, .slice av 0 cv]).run Try.prog W = .ok (.int .i64 0) W := fun W => run_copy_none W 64 64 3 5 _ _ 32 32 0 cv Try.underlying64 yone rfl
  clear hv hr hO HR HE1 HE2
  have SQ := Lib.hid (show (Try.prog.info? 34).map (·.size) = some Z.size by rw [← HZ.out]; exact size_hash7 _ (by simp))
  have WO := Lib.hid (show Z.all (·.oneCell') = true by rw [← HZ.out]; exact i8s_one _)
  have HP3 := Lib.hid (show w3.heap.size = w.heap.size + 2 by rw [HO.out.size]; exact HSZ.out)
  go_wp2_with (first
    | (with_reducible refine wpList_load_row (o := ⟨some 15, _, _, _, _, _⟩) rfl 34 _ rfl (w.heap.size + 1) rfl 34 Z (0, 0) _ H32.out Try.underlying34 rfl SQ.out ?_)
    | (with_reducible refine wpList_store_row (o := ⟨none, .store _ (.tmp 2) _, _, _, _, _⟩) rfl 34 _ _ rfl w.heap.size Z rfl rfl 34 Z H31.out SQ.out rfl WO.out ?_))
  have hC5 : Below w.heap.size w3 (w3.setRow w.heap.size Z) := ybelow_row (Below.refl _ _) (Nat.le_refl _) _
  refine bodyPost_ret (v := .tuple #[.agg Z, .int .i64 3]) (results_cell_two Try.results82 _ _ w.heap.size 34 Z (0, 0) _ rfl (setRow_heap _ w.heap.size _ Z _ _ H31.out) Try.underlying34 rfl SQ.out _ (by simp)) rfl ⟨by rw [HZ.out], ?_, ?_⟩
  · obtain ⟨x, y, z, hr⟩ := HRR.out
    refine ⟨x, y, z, hr _ (fun k hk hne => ?_) ?_⟩
    · exact (hC5.block k hk).trans ((HO.out.rest k hne).trans (HA2.out.block k hk))
    · exact hC5.block R HRl.out
  · have hb0 := HO.out.bel 0 (Nat.zero_le _)
    exact ⟨hC5.os.trans (hb0.os.trans HA2.out.os), hC5.tape.trans (hb0.tape.trans HA2.out.tape), hC5.output.trans (hb0.output.trans HA2.out.output), Nat.le_trans HA2.out.size (Nat.le_trans (Nat.le_of_eq HO.out.size.symm) hC5.size),
      fun k hk hne => (hC5.block k hk).trans ((HO.out.rest k hne).trans (HA2.out.block k hk))⟩
set_option maxRecDepth 100000 in
set_option maxHeartbeats 3200000 in
theorem phash_ok (R lb cb : Nat) (ab : Option Addr) (l : List Int) (w : World) (h : RR w 114 R ab lb cb l) (hsh : 32 ≤ l.length) :
    Calls Try.prog 82 #[.pointer (some ⟨R, 0, none⟩)] w fun e w' => e = .returned (.tuple #[.agg (i8s (l.take 32)), .int .i64 0]) ∧ (∃ ab' lb' cb', RR w' 114 R ab' lb' cb' (l.drop 32)) ∧ Chg R w w' := by
  have HQL := Lib.hid (show (l.take 32).length = 32 by rw [List.length_take]; omega)
  have HLL := Lib.hid hsh
  obtain ⟨Q, hQ⟩ : ∃ Q, l.take 32 = Q := ⟨_, rfl⟩
  rw [hQ] at HQL ⊢
  have HQQ := Lib.hid hQ
  clear hQ hsh
  have hz := zero_hash7
  obtain ⟨Z, hZ⟩ : ∃ Z, i8s (List.replicate 32 0) = Z := ⟨_, rfl⟩
  have HZ := Lib.hid hZ
  rw [hZ] at hz
  have hA1 := (Below.refl w.heap.size w).alloc (Nat.le_refl _) (.cells Z 34)
  have hA2 := hA1.alloc hA1.size (.cells Z 34)
  have hs1 : (w.alloc (.cells Z 34)).heap.size = w.heap.size + 1 := by simp
  have hs2 : ((w.alloc (.cells Z 34)).alloc (.cells Z 34)).heap.size = w.heap.size + 2 := by simp
  have e2 : ((w.alloc (.cells Z 34)).alloc (.cells Z 34)).heap[w.heap.size + 1]? = some (.cells Z 34 (0, 0)) := by
    have q := heap_alloc_new (w.alloc (.cells Z 34)) (.cells Z 34)
    rwa [hs1] at q
  have e1 : ((w.alloc (.cells Z 34)).alloc (.cells Z 34)).heap[w.heap.size]? = some (.cells Z 34 (0, 0)) :=
    (((Below.refl _ (w.alloc (.cells Z 34))).alloc (Nat.le_refl _) _).block w.heap.size (by omega)).trans (heap_alloc_new w _)
  have HW := Lib.hid h
  have HA2 := Lib.hid hA2
  have HRl := Lib.hid (show R < w.heap.size from (Array.getElem?_eq_some_iff.1 h.cell).1)
  clear h hA1 hA2 hs1 hZ
  go_enter Try.func82, Try.ntmps82
  go_upto_region 2 with fail
  generalize (w.alloc (.cells Z 34)).alloc (.cells Z 34) = w2 at *
  have HR := Lib.hid (pnext_old R lb cb ab l 32 w w2 HW.out HA2.out (by omega))
  have HE1 := Lib.hid e1
  have HE2 := Lib.hid e2
  rw [rawA_hash, if_neg (by have := HLL.out; omega), HQQ.out] at HR
  have HSZ := Lib.hid hs2
  clear e1 e2 hs2 hz
  go_wp2_with fail
  refine HR.out.mono ?_
  rintro e w3 ⟨⟨v, rfl, hv⟩, hr, hO⟩
  obtain ⟨av, cv, rfl⟩ : ∃ a c, v = .slice a 32 c := by
    obtain ⟨a', cap', h1, _⟩ := hv
    exact ⟨a', cap', by rw [h1, HQL.out]⟩
  obtain ⟨b, off, rfl, hnn, hsrc⟩ := bs_cells hv (by rw [HQL.out]; decide)
  have h31 : w3.heap[w.heap.size]? = some (.cells Z 34 (0, 0)) := (hO.rest _ (by have := HRl.out; omega)).trans HE1.out
  have h32 : w3.heap[w.heap.size + 1]? = some (.cells Z.toList.toArray 34 (0, 0)) := by
    rw [Array.toArray_toList]
    exact (hO.rest _ (by have := HRl.out; omega)).trans HE2.out
  have HZS := Lib.hid (show Z.size = 32 by rw [← HZ.out, i8s_size]; simp)
  have hsl := slice_hash7 (w.heap.size + 1)
  have HCP := Lib.hid (show (Q.map (Value.int .u8)).length = Nat.min 32 32 ∧ 0 + (Q.map (Value.int .u8)).length ≤ Z.toList.length ∧ ∀ v ∈ Q.map (Value.int .u8), v.oneCell' = true from
    ⟨by rw [List.length_map, HQL.out]; rfl, by rw [List.length_map, HQL.out, Array.length_toList, HZS.out]; decide, fun v hv => by obtain ⟨x, _, rfl⟩ := List.mem_map.1 hv; rfl⟩)
  have HSRC := Lib.hid (show ∀ j v, (Q.map (Value.int .u8))[j]? = some v → w3.cell? ((⟨b, off, none⟩ : Addr).add j) = some v from fun j v hv => by rw [Addr.add_mid]; exact hsrc j v hv)
  have H32 := Lib.hid h32
  have HEQ := Lib.hid (show (List.take 0 Z.toList ++ (Q.map (Value.int .u8) ++ List.drop (0 + (Q.map (Value.int .u8)).length) Z.toList)).toArray = i8s Q by
    rw [List.drop_eq_nil_of_le (by rw [List.length_map, HQL.out, Array.length_toList, HZS.out]; decide)]; simp [i8s])
  have HRR := Lib.hid hr
  have HO := Lib.hid hO
  have H31 := Lib.hid h31
  have HP3 := Lib.hid (show w3.heap.size = w.heap.size + 2 by rw [hO.size]; exact HSZ.out)
  clear h31 h32 hsrc hv hr hO HR HE1 HE2 hnn
  go_upto_region 4 with (first
    | (refine wpList_copy_y (o := ⟨some 14, _, _, _, _, _⟩) rfl (.tmp 12) (.tmp 13) 64 64 (by rfl) 5 Try.underlying64 yone (w.heap.size + 1) 0 32 32 ⟨b, off, none⟩ 32 cv (by rfl) (by rfl) Z.toList 34 H32.out (Q.map (Value.int .u8)) HCP.out.1 HSRC.out HCP.out.2.1 HCP.out.2.2 ?_))
  rw [HEQ.out]
  generalize hW4 : World.setRow w3 _ _ = w4
  have SQ := Lib.hid (size_hash7 Q HQL.out)
  have EZ := Lib.hid (show Z.size = (i8s Q).size by rw [HZS.out, i8s_size, HQL.out])
  have H42 := Lib.hid (show w4.heap[w.heap.size + 1]? = some (.cells (i8s Q) 34 (0, 0)) by rw [← hW4]; exact setRow_heap _ _ _ _ _ _ H32.out)
  have H41 := Lib.hid (show w4.heap[w.heap.size]? = some (.cells Z 34 (0, 0)) by rw [← hW4]; exact (setRow_other _ _ _ _ (by omega)).trans H31.out)
  have HC4 := Lib.hid (show Below w.heap.size w3 w4 by rw [← hW4]; exact ybelow_row (Below.refl _ _) (by omega) _)
  clear hW4 H31 H32 HSRC HCP HEQ hsl
  go_wp2_with (first
    | (with_reducible refine wpList_load_row (o := ⟨some 15, _, _, _, _, _⟩) rfl 34 _ rfl (w.heap.size + 1) rfl 34 (i8s Q) (0, 0) _ H42.out Try.underlying34 rfl SQ.out ?_)
    | (with_reducible refine wpList_store_row (o := ⟨none, .store _ (.tmp 2) _, _, _, _, _⟩) rfl 34 _ _ rfl w.heap.size (i8s Q) rfl rfl 34 Z H41.out SQ.out EZ.out (i8s_one _) ?_))
  have hC5 : Below w.heap.size w3 (w4.setRow w.heap.size (i8s Q)) := ybelow_row HC4.out (Nat.le_refl _) _
  refine bodyPost_ret (v := .tuple #[.agg (i8s Q), .int .i64 0]) (results_cell_two Try.results82 _ _ w.heap.size 34 (i8s Q) (0, 0) _ rfl (setRow_heap _ w.heap.size _ (i8s Q) _ _ H41.out) Try.underlying34 rfl SQ.out _ (by simp)) rfl ⟨rfl, ?_, ?_⟩
  · obtain ⟨x, y, z, hr⟩ := HRR.out
    refine ⟨x, y, z, hr _ (fun k hk hne => ?_) ?_⟩
    · exact (hC5.block k hk).trans ((HO.out.rest k hne).trans (HA2.out.block k hk))
    · exact hC5.block R HRl.out
  · have hb0 := HO.out.bel 0 (Nat.zero_le _)
    exact ⟨hC5.os.trans (hb0.os.trans HA2.out.os), hC5.tape.trans (hb0.tape.trans HA2.out.tape), hC5.output.trans (hb0.output.trans HA2.out.output), Nat.le_trans HA2.out.size (Nat.le_trans (Nat.le_of_eq HO.out.size.symm) hC5.size),
      fun k hk hne => (hC5.block k hk).trans ((HO.out.rest k hne).trans (HA2.out.block k hk))⟩
theorem phash_any (R lb cb : Nat) (ab : Option Addr) (l : List Int) (w : World) (h : RR w 114 R ab lb cb l) :
    Calls Try.prog 82 #[.pointer (some ⟨R, 0, none⟩)] w fun e w' => e = .returned (.tuple #[.agg (i8s (hashA l).1), .int .i64 (hashA l).2.1]) ∧ (∃ ab' lb' cb', RR w' 114 R ab' lb' cb' (hashA l).2.2) ∧ Chg R w w' := by
  by_cases hs : l.length < 32
  · rw [show hashA l = (List.replicate 32 0, 3, l) by unfold hashA; rw [if_pos hs]]
    exact phash_short R lb cb ab l w h hs
  · rw [show hashA l = (l.take 32, 0, l.drop 32) by unfold hashA; rw [if_neg hs]]
    exact phash_ok R lb cb ab l w h (by omega)
set_option maxRecDepth 100000 in
set_option maxHeartbeats 1600000 in
theorem pleft_any (R lb cb : Nat) (ab : Option Addr) (l : List Int) (w : World) (h : RR w 114 R ab lb cb l) :
    Calls Try.prog 81 #[.pointer (some ⟨R, 0, none⟩)] w fun e w' => e = .returned (.int .i64 (l.length : Int)) ∧ w' = w := by
  have c0 := h.at
  have HL := Lib.hid h.len
  have lI : (lb : Int) ≤ 140737488351232 := by have := h.big; omega
  clear h
  go_enter Try.func81, Try.ntmps81
  go_wp2_with fail
  go_ret
  exact ⟨by rw [HL.out]; rfl, rfl⟩
set_option maxRecDepth 100000 in
set_option maxHeartbeats 1600000 in
theorem pread7_any (v : Value) (l : List Int) (w : World) (h : BS w v l) (h63 : l.length ≤ 140737488351232) :
    Calls Try.prog 68 #[v] w fun e w' => ∃ R ab cb, e = .returned (.pointer (some ⟨R, 0, none⟩)) ∧ RR w' 114 R ab l.length cb l ∧ w.heap.size ≤ R ∧ Below w.heap.size w w' ∧ (∀ g, (Value.slice ab l.length cb).ownBlock = some g → w.heap.size ≤ g) := by
  have HY := Lib.hid h.byt
  have HC := Lib.hid (clone_any _ l w h h63)
  have H63 := Lib.hid h63
  clear h h63
  go_enter Try.func68, Try.ntmps68
  go_wp2_with fail
  refine HC.out.mono ?_
  rintro e w1 ⟨v1, rfl, ho, hb⟩
  obtain ⟨a1, c1, rfl, hcap, hbs⟩ := own_bs ho rfl HY.out
  have HB := Lib.hid hb
  have HGB := Lib.hid (fun g hg => (ho.lt g hg).1)
  have hb2 := (Below.refl w1.heap.size w1).alloc (Nat.le_refl _) (.cells #[.slice a1 l.length c1] 114)
  have HR := Lib.hid (show RR (w1.alloc (.cells #[.slice a1 l.length c1] 114)) 114 w1.heap.size a1 l.length c1 l from ⟨heap_alloc_new w1 _, hbs.kept hb2, rfl, hcap, H63.out⟩)
  have HB2 := Lib.hid (hb.trans (hb2.mono hb.size))
  clear ho hb hb2 hbs hcap HC
  go_wp2_with fail
  go_ret
  exact ⟨_, _, _, rfl, HR.out, HB.out.size, HB2.out, HGB.out⟩
set_option maxRecDepth 100000 in
set_option maxHeartbeats 1600000 in
theorem pnum7_any (R lb cb : Nat) (ab : Option Addr) (l : List Int) (n : Int) (w : World) (h : RR w 114 R ab lb cb l) (hn : n ≤ 9223372036854775807) :
    Calls Try.prog 69 #[.pointer (some ⟨R, 0, none⟩), .int .i64 n] w fun e w' => e = .returned (.tuple #[.int .u64 (numA n l).1, .int .i64 (numA n l).2.1]) ∧ (∃ ab' lb' cb', RR w' 114 R ab' lb' cb' (numA n l).2.2) ∧ Only R w w' := by
  have H := Lib.hid h
  by_cases h1 : 8 < n
  · rw [show numA n l = (0, 2, l) by unfold numA; rw [if_pos (.inr h1)]]
    clear h
    go_enter Try.func69, Try.ntmps69
    go_wp2_with fail
    go_ret2
    exact ⟨rfl, ⟨_, _, _, H.out⟩, Only.refl _ _⟩
  · have HR := Lib.hid (pnext_any R lb cb ab l n w h hn)
    have hs := rawA_short n l (by omega)
    have h11 : n ≤ 8 := by omega
    have hE : ∃ er, (rawA n l).2.1 = er ∧ (er ≠ 0 → (rawA n l).2.1 = er ∧ numA n l = (0, er, (rawA n l).2.2)) ∧ (er = 0 → numA n l = (num (rawA n l).1, 0, (rawA n l).2.2)) := by
      refine ⟨_, rfl, fun hne => ⟨rfl, ?_⟩, fun he => ?_⟩
      · by_cases h0 : n < 0
        · unfold numA rawA; rw [if_pos (.inl h0), if_pos h0]
        · unfold numA
          rw [if_neg (by omega)]
          unfold rawA at hne ⊢
          rw [if_neg h0] at hne ⊢
          split
          · rfl
          · rename_i hc; rw [if_neg hc] at hne; exact absurd rfl hne
      · by_cases h0 : n < 0
        · unfold rawA at he; rw [if_pos h0] at he; simp at he
        · unfold numA
          rw [if_neg (by omega), he]
    obtain ⟨er, her, hA, hB⟩ := hE
    have HS := Lib.hid hs
    generalize rawA n l = Q at *
    obtain ⟨q1, q2, q3⟩ := Q
    dsimp only at her
    subst her
    by_cases h0 : q2 = 0
    · subst h0
      rw [hB rfl]
      clear h h1 hs hA hB
      go_enter Try.func69, Try.ntmps69
      go_wp2_with fail
      refine HR.out.mono ?_
      rintro e w1 ⟨⟨v, rfl, hv⟩, hr, hO⟩
      have HN := Lib.hid (get_ok w1 v q1 hv HS.out)
      have HRR := Lib.hid hr
      have HO := Lib.hid hO
      clear hv hr hO HR
      go_wp2_with fail
      refine HN.out.mono ?_
      rintro e w2 ⟨rfl, rfl⟩
      go_wp2_with fail
      go_ret2
      exact ⟨rfl, HRR.out, HO.out⟩
    · rw [(hA h0).2]
      have hnb : (q2 != 0) = true := by simp [h0]
      clear h h1 hs hA hB
      go_enter Try.func69, Try.ntmps69
      go_wp2_with fail
      refine HR.out.mono ?_
      rintro e w1 ⟨⟨v, rfl, hv⟩, hr, hO⟩
      have HRR := Lib.hid hr
      have HO := Lib.hid hO
      clear hv hr hO HR
      go_wp2_with fail
      go_ret2
      exact ⟨rfl, HRR.out, HO.out⟩
theorem zero_reader (W : World) : (zeroValue 114).run Try.prog W = .ok (.agg #[.slice none 0 0]) W := by kernel_rfl
theorem size_reader (v : Value) : (Try.prog.info? 114).map (·.size) = some (#[v] : Array Value).size := by rw [show (Try.prog.info? 114).map (·.size) = some 1 by kernel_rfl]; rfl
theorem numA_one (l : List Int) : numA 1 l = if l = [] then (0, 3, l) else (l.getD 0 0, 0, l.drop 1) := by
  unfold numA
  rw [if_neg (by omega)]
  unfold rawA
  rw [if_neg (by omega)]
  cases l with
  | nil => rfl
  | cons a t => rw [if_neg (by simp; omega), if_neg (by simp)]; simp [num]
set_option maxRecDepth 100000 in
set_option maxHeartbeats 3200000 in
theorem pstr_any (R lb cb : Nat) (ab : Option Addr) (l : List Int) (w : World) (h : RR w 114 R ab lb cb l) :
    Calls Try.prog 70 #[.pointer (some ⟨R, 0, none⟩)] w fun e w' => e = .returned (.tuple #[.string (strA l).1, .int .i64 (strA l).2.1]) ∧ (∃ ab' lb' cb', RR w' 114 R ab' lb' cb' (strA l).2.2) ∧ Chg R w w' := by
  have H := Lib.hid h
  have c0 := h.at
  have hz := zero_reader
  have hA : RR (w.alloc (.cells #[.slice ab lb cb] 114)) 114 w.heap.size ab lb cb l :=
    ⟨heap_alloc_new w _, h.bytes.kept ((Below.refl w.heap.size w).alloc (Nat.le_refl _) _), h.len, h.cap, h.big⟩
  have HN := Lib.hid (pnum7_any w.heap.size lb cb ab l 1 _ hA (by omega))
  rw [numA_one] at HN
  have HB1 := Lib.hid ((Below.refl w.heap.size w).alloc (Nat.le_refl _) (.cells #[.slice ab lb cb] 114))
  have HY := Lib.hid h.bytes.byt
  have HR := Lib.hid (Array.getElem?_eq_some_iff.1 h.cell).1
  cases l with
  | nil =>
    rw [show strA [] = (⟨#[]⟩, 3, []) from rfl]
    rw [if_pos rfl] at HN
    clear h hA
    go_enter Try.func70, Try.ntmps70
    go_wp2_with fail
    refine HN.out.mono ?_
    rintro e w2 ⟨rfl, _, hO⟩
    have HB2 := Lib.hid (HB1.out.trans (hO.bel _ (Nat.le_refl _)))
    clear hO HN
    go_wp2_with fail
    go_ret2
    exact ⟨rfl, ⟨_, _, _, H.out.below HB2.out⟩, Chg.of_below HB2.out⟩
  | cons c t =>
    have hcb := h.bytes.byt c (by simp)
    obtain ⟨m, rfl⟩ : ∃ m : Nat, c = (m : Int) := ⟨c.toNat, by omega⟩
    have mI : (m : Int) ≤ 255 := hcb.2
    have m0 : (0 : Int) ≤ (m : Int) := hcb.1
    have HT := Lib.hid (show rawA (m : Int) t = if t.length < m then ([], 3, t) else (t.take m, 0, t.drop m) by
      unfold rawA; rw [if_neg (by omega)]
      by_cases hq : t.length < m
      · rw [if_pos (by omega), if_pos hq]
      · rw [if_neg (by omega), if_neg hq]; rfl)
    have HS := Lib.hid (show strA ((m : Int) :: t) = if t.length < m then (⟨#[]⟩, 3, (m : Int) :: t) else (strOfNums (t.take m), 0, t.drop m) by
      unfold strA
      by_cases hq : t.length < m
      · rw [if_pos (.inr (by simp; omega)), if_pos hq]
      · rw [if_neg (by simp; omega), if_neg hq]
        simp [Nat.add_comm 1 m])
    rw [if_neg (by simp)] at HN
    simp only [List.getD_cons_zero, List.drop_succ_cons, List.drop_zero] at HN
    clear h hA hcb
    by_cases hq : t.length < m
    · rw [HS.out, if_pos hq]
      rw [if_pos hq] at HT
      clear hq
      go_enter Try.func70, Try.ntmps70
      go_wp2_with fail
      refine HN.out.mono ?_
      rintro e w2 ⟨rfl, ⟨a2, l2, c2, hR2⟩, hO2⟩
      have HX := Lib.hid (pnext_any w.heap.size l2 c2 a2 t (m : Int) w2 hR2 (by omega))
      rw [HT.out] at HX
      have HB2 := Lib.hid (HB1.out.trans (hO2.bel _ (Nat.le_refl _)))
      clear hR2 hO2 HN HT HS
      go_wp2_with fail
      refine HX.out.mono ?_
      rintro e w3 ⟨⟨v, rfl, hv⟩, _, hO⟩
      have HB3 := Lib.hid (HB2.out.trans (hO.bel _ (Nat.le_refl _)))
      clear hv hO HX
      go_wp2_with fail
      go_ret2
      exact ⟨rfl, ⟨_, _, _, H.out.below HB3.out⟩, Chg.of_below HB3.out⟩
    · rw [HS.out, if_neg hq]
      rw [if_neg hq] at HT
      have HLT := Lib.hid (show (t.take m).length = m by rw [List.length_take]; omega)
      clear hq
      go_enter Try.func70, Try.ntmps70
      go_wp2_with fail
      refine HN.out.mono ?_
      rintro e w2 ⟨rfl, ⟨a2, l2, c2, hR2⟩, hO2⟩
      have HX := Lib.hid (pnext_any w.heap.size l2 c2 a2 t (m : Int) w2 hR2 (by omega))
      rw [HT.out] at HX
      have HB2 := Lib.hid (HB1.out.trans (hO2.bel _ (Nat.le_refl _)))
      clear hR2 hO2 HN HT HS
      go_wp2_with fail
      refine HX.out.mono ?_
      rintro e w3 ⟨⟨v, rfl, hv⟩, ⟨a3, l3, c3, hR3⟩, hO⟩
      have hb3 := HB2.out.trans (hO.bel _ (Nat.le_refl _))
      have d3 := hR3.at
      have hH3 := H.out.below hb3
      have e3 := hH3.at
      have f3 := frozen_of_row w3 R 0 _ _ hH3.cell
      have hO4 := (Only.refl R w3).setCell 0 (.slice a3 l3 c3)
      have hvv : BS (w3.setCell ⟨R, 0, none⟩ (.slice a3 l3 c3)) v (t.take m) := hv.only hH3.cell hO4
      obtain ⟨av, cv, rfl⟩ : ∃ av cv, v = .slice av m cv := by
        obtain ⟨av, cv, hve, _⟩ := id hvv
        rw [HLT.out] at hve
        exact ⟨av, cv, hve⟩
      have hcw := conv_BS hvv
      have HRR := Lib.hid (show RR (w3.setCell ⟨R, 0, none⟩ (.slice a3 l3 c3)) 114 R a3 l3 c3 (t.drop m) from
        ⟨heap_setCell_same _ _ _ _ _ _ hH3.cell, hR3.bytes.only hH3.cell hO4, hR3.len, hR3.cap, hR3.big⟩)
      have HC := Lib.hid ((Chg.of_below (R := R) hb3).trans (Chg.of_only hO4))
      clear hR3 hv hb3 hH3 hO4 hvv hO HX
      go_wp2_with fail
      go_ret2
      exact ⟨rfl, ⟨_, _, _, HRR.out⟩, HC.out⟩
end Go.Proofs.Ytkafabcklohlmaa
namespace Go.Proofs.Ytkafabcklohlmaa
set_option maxRecDepth 4000
open Go.RowKit

/-- What an act lays behind n bytes, and the answer. -/
def layM (n : Nat) (q : LayV) : List Int × Int :=
  if q.kd = 1 then strW q.s else if q.kd = 2 then (q.h, 0) else if q.kd = 3 then (q.bl, 0) else if q.kd = 4 then padW n q.sz else numW (q.n : Int) q.sz
structure LayV.Ok (w : World) (q : LayV) : Prop where
  hash : q.h.length = 32
  hbyt : Byt q.h
  bs : BS w (.slice q.ab q.lb q.cb) q.bl
  len : q.bl.length = q.lb
  cap : q.lb ≤ q.cb
  num : q.n < 18446744073709551616
  big : q.lb ≤ 140737488351232
  str : q.s.size ≤ 140737488351232
  sz0 : -9223372036854775808 ≤ q.sz
  sz1 : q.sz ≤ 9223372036854775807
theorem LayV.Ok.below {w w' : World} {q : LayV} (h : q.Ok w) (b : Below w.heap.size w w') : q.Ok w' :=
  ⟨h.hash, h.hbyt, h.bs.kept b, h.len, h.cap, h.num, h.big, h.str, h.sz0, h.sz1⟩
/-- A row of one's own before and behind a step. -/
structure OStep (w w' : World) (B : Nat) (v v' : Value) (l : List Int) : Prop where
  own : w'.ownsRow B 5 1 v' l.length (l.map (Value.int .u8))
  touch : Touch v.ownBlock.toList w w'
  new : v'.ownBlock = v.ownBlock ∨ ∃ g, v'.ownBlock = some g ∧ w.heap.size ≤ g
theorem ostep_refl {w w' : World} {B : Nat} {v : Value} {l : List Int} (h : w.ownsRow B 5 1 v l.length (l.map (Value.int .u8))) (b : Below w.heap.size w w') : OStep w w' B v v l :=
  ⟨own_touch h (Touch.of_below (l := []) b) (by simp), Touch.of_below b, .inl rfl⟩
theorem append_ostep (w0 w : World) (B : Nat) (v vx : Value) (l x : List Int) (h : w0.ownsRow B 5 1 v l.length (l.map (Value.int .u8))) (hb0 : Below w0.heap.size w0 w) (hB : BS w vx x) (h63 : l.length + x.length ≤ 140737488351232) (hbase : B ≤ w0.heap.size) :
    ∃ a c w', (Builtin.append_ #[64, 64] 64 #[v, vx]).run Try.prog w = .ok (.slice a (l.length + x.length) c) w' ∧ OStep w0 w' B v (.slice a (l.length + x.length) c) (l ++ x) := by
  have h' := own_touch h (Touch.of_below (l := []) hb0) (by simp)
  obtain ⟨v', w', h1, h2, h3, h4⟩ := run_append_BS_at w B l.length v vx _ x h' hB h63 (Nat.le_trans hbase hb0.size)
  obtain ⟨a1, cp1, rfl⟩ : ∃ a1 cp1, v' = .slice a1 (l.length + x.length) cp1 := by
    rcases h2.2 with ⟨h5, h6⟩ | ⟨g', c, cur, h5, _⟩
    · exact ⟨_, _, by rw [h5, h6]⟩
    · exact ⟨_, _, h5⟩
  refine ⟨a1, cp1, w', h1, ?_, (Touch.of_below hb0).trans (Touch.grown h3), ?_⟩
  · rw [List.length_append, List.map_append]; exact h2
  · rcases h4 with h4 | h4
    · exact .inl h4
    · exact .inr ⟨_, h4, hb0.size⟩
theorem zeros_ostep (w0 w : World) (B : Nat) (v : Value) (l : List Int) (m : Nat) (h : w0.ownsRow B 5 1 v l.length (l.map (Value.int .u8))) (hb0 : Below w0.heap.size w0 w) (h63 : l.length + m ≤ 1000000) (hbase : B ≤ w0.heap.size) :
    ∃ a c w', (Builtin.append_ #[64, 3] 64 #[v, .int .i64 (m : Int)]).run Try.prog w = .ok (.slice a (l.length + m) c) w' ∧ OStep w0 w' B v (.slice a (l.length + m) c) (l ++ List.replicate m 0) := by
  have h' := own_touch h (Touch.of_below (l := []) hb0) (by simp)
  obtain ⟨v', w', h1, h2, h3, h4⟩ := run_append_zeros7 w B l.length m v _ 64 h' h63 (Nat.le_trans hbase hb0.size)
  obtain ⟨a1, cp1, rfl⟩ : ∃ a1 cp1, v' = .slice a1 (l.length + m) cp1 := by
    rcases h2.2 with ⟨h5, h6⟩ | ⟨g', c, cur, h5, _⟩
    · exact ⟨_, _, by rw [h5, h6]⟩
    · exact ⟨_, _, h5⟩
  refine ⟨a1, cp1, w', h1, ?_, (Touch.of_below hb0).trans (Touch.grown h3), ?_⟩
  · rw [List.length_append, List.map_append, List.length_replicate, List.map_replicate]; exact h2
  · rcases h4 with h4 | h4
    · exact .inl h4
    · exact .inr ⟨_, h4, hb0.size⟩
theorem slice_hash_mid (g o : Nat) (W : World) : (Instr.sliceAt 34 (.pointer (some ⟨g, o, none⟩)) none none none).run Try.prog W = .ok (.slice (some ⟨g, o, none⟩) 32 32) W := by
  obtain ⟨i0, hi0, _⟩ := Option.map_eq_some_iff.1 yone
  simp [Instr.sliceAt, run_underlying Try.underlying34, Instr.sureAddr, Instr.sliceBounds, sizeOf, typeInfo, hi0, Addr.add]
/-- The reference's Put, as one function. -/
theorem rput_any7 (x n : Int) (w : World) (h0 : 0 ≤ x) (h1 : x < 18446744073709551616) :
    Calls Try.prog 78 #[.int .u64 x, .int .i64 n] w fun e w' => ∃ a m c, e = .returned (.tuple #[.slice a m c, .int .i64 (numW x n).2]) ∧ BS w' (.slice a m c) (numW x n).1 ∧ Below w.heap.size w w' := by
  by_cases hr : n < 0 ∨ 8 < n
  · rw [show numW x n = ([], 2) by unfold numW; rw [if_pos (by omega)]]
    refine (rput_range x n w hr).mono ?_
    rintro e w1 ⟨rfl, rfl⟩
    exact ⟨_, _, _, rfl, bs_nil _, Below.refl _ _⟩
  · obtain ⟨m, rfl⟩ : ∃ m : Nat, n = (m : Int) := ⟨n.toNat, by omega⟩
    refine (rput_loop x m w (by omega) h0 h1).mono ?_
    have hp : (0 : Int) < 256 ^ m := Int.pow_pos (by decide)
    rintro e w1 ⟨hb, ⟨hz, rfl, ho⟩ | ⟨hz, rfl⟩⟩
    · have hlt : x < 256 ^ m := by
        have := Int.lt_mul_ediv_self_add (x := x) hp
        rw [hz] at this; omega
      rw [show numW x (m : Int) = (putI x m, 0) by unfold numW; rw [if_neg (by rw [Int.toNat_natCast, pow_bytes]; omega)]; rfl]
      exact ⟨_, _, _, rfl, BS.of_own ho (putI_length x m) (putI_byt x m), hb⟩
    · have hge : 256 ^ m ≤ x := Int.le_of_not_gt fun hlt => hz (Int.ediv_eq_zero_of_lt h0 hlt)
      rw [show numW x (m : Int) = ([], 2) by unfold numW; rw [if_pos (.inr (.inr (by rw [Int.toNat_natCast, pow_bytes]; exact hge)))]]
      exact ⟨_, _, _, rfl, bs_nil _, hb⟩
theorem numW_len (x n : Int) : (numW x n).1.length ≤ 8 := by
  unfold numW
  split
  · simp
  · rw [putI_length]; omega
end Go.Proofs.Ytkafabcklohlmaa
namespace Go.Proofs.Ytkafabcklohlmaa
set_option maxRecDepth 4000
open Go.RowKit

/-- A Writer of a law's own: its blocks are new since w0. -/
def WL (w0 w : World) (P : Nat) (l : List Int) : Prop := ∃ v, WO w P w0.heap.size v l ∧ w0.heap.size ≤ P ∧ Below w0.heap.size w0 w
theorem WL.bel {w0 w : World} {P : Nat} {l : List Int} (h : WL w0 w P l) : Below w0.heap.size w0 w := by obtain ⟨_, _, _, h⟩ := h; exact h
theorem WL.byt {w0 w : World} {P : Nat} {l : List Int} (h : WL w0 w P l) : Byt l := by obtain ⟨_, h, _⟩ := h; exact h.byt
theorem WL.below {w0 w w' : World} {P : Nat} {l : List Int} (h : WL w0 w P l) (b : Below w.heap.size w w') : WL w0 w' P l := by
  obtain ⟨v, h, hP, hb⟩ := h
  exact ⟨v, h.below b, hP, hb.trans (b.mono hb.size)⟩
theorem wl_step {w0 w w' : World} {P : Nat} {v : Value} {l l' : List Int} (h : WO w P w0.heap.size v l) (hP : w0.heap.size ≤ P) (hb : Below w0.heap.size w0 w) (s : WStep w w' P w0.heap.size v l') : WL w0 w' P l' := by
  obtain ⟨v', h', t, n⟩ := s
  refine ⟨v', h', hP, hb.trans (t.below hb.size (fun k hk => ?_))⟩
  simp only [List.mem_cons, Option.mem_toList] at hk
  rcases hk with rfl | hk
  · exact hP
  · exact (h.own.lt k hk).1
theorem wl_new {w0 w1 : World} (hb : Below w0.heap.size w0 w1) : WL w0 (w1.alloc (.cells #[.slice none 0 0] 66)) w1.heap.size [] :=
  ⟨.slice none 0 0, ⟨heap_alloc_new w1 _, World.ownsRow_nil _ _ _ _, by intro z hz; simp at hz⟩, hb.size, hb.alloc hb.size _⟩
theorem wl_raw (w0 w : World) (P : Nat) (l x : List Int) (vx : Value) (h : WL w0 w P l) (hx : BS w vx x) (h63 : l.length + x.length ≤ 140737488351232) :
    Calls Try.prog 64 #[.pointer (some ⟨P, 0, none⟩), vx] w fun e w' => e = .returned (.int .i64 0) ∧ WL w0 w' P (l ++ x) := by
  obtain ⟨v, h, hP, hb⟩ := h
  exact (wraw_any P _ v vx l x w h hx h63 hb.size).mono fun e w' ⟨he, hs⟩ => ⟨he, wl_step h hP hb hs⟩
theorem wl_num (w0 w : World) (P : Nat) (l : List Int) (x n : Int) (h : WL w0 w P l) (h0 : 0 ≤ x) (h63 : l.length ≤ 140737488200000) :
    Calls Try.prog 38 #[.pointer (some ⟨P, 0, none⟩), .int .u64 x, .int .i64 n] w fun e w' => e = .returned (.int .i64 (numW x n).2) ∧ WL w0 w' P (l ++ (numW x n).1) := by
  obtain ⟨v, h, hP, hb⟩ := h
  exact (wnum_any P _ v l x n w h h0 (by omega) hb.size).mono fun e w' ⟨he, hs⟩ => ⟨he, wl_step h hP hb hs⟩
theorem wl_str (w0 w : World) (P : Nat) (l : List Int) (s : ByteArray) (h : WL w0 w P l) (hs : s.size ≤ 140737488351232) (h63 : l.length ≤ 140737488200000) :
    Calls Try.prog 40 #[.pointer (some ⟨P, 0, none⟩), .string s] w fun e w' => e = .returned (.int .i64 (strW s).2) ∧ WL w0 w' P (l ++ (strW s).1) := by
  obtain ⟨v, h, hP, hb⟩ := h
  exact (wstr_any P _ v l s w h hs h63 hb.size).mono fun e w' ⟨he, hs⟩ => ⟨he, wl_step h hP hb hs⟩
theorem wl_hash (w0 w : World) (P : Nat) (l q : List Int) (h : WL w0 w P l) (hq : q.length = 32) (hy : Byt q) (h63 : l.length ≤ 140737488200000) :
    Calls Try.prog 65 #[.pointer (some ⟨P, 0, none⟩), .agg (i8s q)] w fun e w' => e = .returned (.int .i64 0) ∧ WL w0 w' P (l ++ q) := by
  obtain ⟨v, h, hP, hb⟩ := h
  exact (whash_any P _ v l q w h hq hy h63 hb.size).mono fun e w' ⟨he, hs⟩ => ⟨he, wl_step h hP hb hs⟩
theorem wl_bytes (w0 w : World) (P : Nat) (l : List Int) (h : WL w0 w P l) (h63 : l.length ≤ 140737488351232) :
    Calls Try.prog 42 #[.pointer (some ⟨P, 0, none⟩)] w fun e w' => ∃ a c, e = .returned (.slice a l.length c) ∧ l.length ≤ c ∧ BS w' (.slice a l.length c) l ∧ WL w0 w' P l ∧ Below w.heap.size w w' := by
  have h' := h
  obtain ⟨v, h, hP, hb⟩ := h
  refine (wbytes_any P _ v l w h h63).mono fun e w' ⟨v', he, ho, hb'⟩ => ?_
  obtain ⟨a, c, rfl, hc, hbs⟩ := own_bs ho rfl h.byt
  exact ⟨a, c, he, hc, hbs, h'.below hb', hb'⟩
/-- A Reader of a law's own. -/
def RL (w0 w : World) (R : Nat) (l : List Int) : Prop := ∃ ab lb cb, RR w 114 R ab lb cb l ∧ w0.heap.size ≤ R ∧ Below w0.heap.size w0 w
theorem RL.bel {w0 w : World} {R : Nat} {l : List Int} (h : RL w0 w R l) : Below w0.heap.size w0 w := by obtain ⟨_, _, _, _, _, h⟩ := h; exact h
theorem RL.big {w0 w : World} {R : Nat} {l : List Int} (h : RL w0 w R l) : l.length ≤ 140737488351232 := by obtain ⟨_, _, _, h, _⟩ := h; rw [h.len]; exact h.big
theorem RL.byt {w0 w : World} {R : Nat} {l : List Int} (h : RL w0 w R l) : Byt l := by obtain ⟨_, _, _, h, _⟩ := h; exact h.bytes.byt
theorem RL.below {w0 w w' : World} {R : Nat} {l : List Int} (h : RL w0 w R l) (b : Below w.heap.size w w') : RL w0 w' R l := by
  obtain ⟨a, x, c, h, hR, hb⟩ := h
  exact ⟨a, x, c, h.below b, hR, hb.trans (b.mono hb.size)⟩
theorem rl_read (w0 w : World) (v : Value) (l : List Int) (hb : Below w0.heap.size w0 w) (h : BS w v l) (h63 : l.length ≤ 140737488351232) :
    Calls Try.prog 68 #[v] w fun e w' => ∃ R, e = .returned (.pointer (some ⟨R, 0, none⟩)) ∧ RL w0 w' R l ∧ Below w.heap.size w w' := by
  refine (pread7_any v l w h h63).mono fun e w' ⟨R, ab, cb, he, hr, hR, hb', _⟩ => ?_
  exact ⟨R, he, ⟨_, _, _, hr, Nat.le_trans hb.size hR, hb.trans (hb'.mono hb.size)⟩, hb'⟩
theorem rl_num (w0 w : World) (R : Nat) (l : List Int) (n : Int) (h : RL w0 w R l) (hn : n ≤ 9223372036854775807) :
    Calls Try.prog 69 #[.pointer (some ⟨R, 0, none⟩), .int .i64 n] w fun e w' => e = .returned (.tuple #[.int .u64 (numA n l).1, .int .i64 (numA n l).2.1]) ∧ RL w0 w' R (numA n l).2.2 := by
  obtain ⟨a, x, c, h, hR, hb⟩ := h
  refine (pnum7_any R x c a l n w h hn).mono fun e w' ⟨he, ⟨a', x', c', hr⟩, hO⟩ => ⟨he, a', x', c', hr, hR, hb.trans (hO.bel _ hR)⟩
theorem rl_str (w0 w : World) (R : Nat) (l : List Int) (h : RL w0 w R l) :
    Calls Try.prog 70 #[.pointer (some ⟨R, 0, none⟩)] w fun e w' => e = .returned (.tuple #[.string (strA l).1, .int .i64 (strA l).2.1]) ∧ RL w0 w' R (strA l).2.2 := by
  obtain ⟨a, x, c, h, hR, hb⟩ := h
  refine (pstr_any R x c a l w h).mono fun e w' ⟨he, ⟨a', x', c', hr⟩, hO⟩ => ⟨he, a', x', c', hr, hR, hb.trans (hO.below hR hb.size)⟩
theorem rl_hash (w0 w : World) (R : Nat) (l : List Int) (h : RL w0 w R l) :
    Calls Try.prog 82 #[.pointer (some ⟨R, 0, none⟩)] w fun e w' => e = .returned (.tuple #[.agg (i8s (hashA l).1), .int .i64 (hashA l).2.1]) ∧ RL w0 w' R (hashA l).2.2 := by
  obtain ⟨a, x, c, h, hR, hb⟩ := h
  refine (phash_any R x c a l w h).mono fun e w' ⟨he, ⟨a', x', c', hr⟩, hO⟩ => ⟨he, a', x', c', hr, hR, hb.trans (hO.below hR hb.size)⟩
theorem rl_left (w0 w : World) (R : Nat) (l : List Int) (h : RL w0 w R l) :
    Calls Try.prog 81 #[.pointer (some ⟨R, 0, none⟩)] w fun e w' => e = .returned (.int .i64 (l.length : Int)) ∧ w' = w := by
  obtain ⟨a, x, c, h, hR, hb⟩ := h
  exact pleft_any R x c a l w h
theorem pnum_nil (n : Int) (w : World) :
    Calls Try.prog 69 #[.pointer none, .int .i64 n] w fun e w' => e = .returned (.tuple #[.int .u64 0, .int .i64 1]) ∧ w' = w := by
  go_enter Try.func69, Try.ntmps69
  go_wp2_with fail
  go_ret2
  exact ⟨rfl, rfl⟩
theorem zero_writer (W : World) : (zeroValue 66).run Try.prog W = .ok (.agg #[.slice none 0 0]) W := by kernel_rfl
end Go.Proofs.Ytkafabcklohlmaa
namespace Go.Proofs.Ytkafabcklohlmaa
set_option maxRecDepth 4000
open Go.ChangeShapes Go.WideShapes Go.ChangeAt Go.RowKit

def RLayV : World → LayV → List Value → Prop := fun W q cs => cs = layRow q ∧ q.Ok W ∧ -9223372036854775808 ≤ q.kd ∧ q.kd ≤ 9223372036854775807
/-- The acts of a law. -/
abbrev Lays (w : World) (x : List LayV) (a : Option Addr) (n c : Nat) : Prop := SlR RLayV 37 w x a n c
def zeroLay : LayV := ⟨0, 0, 0, ⟨#[]⟩, List.replicate 32 0, none, 0, 0, []⟩
theorem layRow_length (q : LayV) (h : q.h.length = 32) : (layRow q).length = 37 := by simp [layRow, h]
theorem lay_one (q : LayV) : (layRow q).toArray.all (·.oneCell') = true := by
  apply all_oneCell_toArray
  intro v hv
  simp only [layRow, List.mem_append, List.mem_cons, List.mem_map, List.not_mem_nil, or_false] at hv
  rcases hv with (rfl | rfl | rfl | rfl) | ⟨z, _, rfl⟩ | rfl <;> rfl
theorem range_below {w w' : World} {b o : Nat} {cs : List Value} (h : w.rangeAt b o cs) (q : Below w.heap.size w w') : w'.rangeAt b o cs := by
  intro j v hv
  have h0 := h j v hv
  rw [q.cell (block_lt_of_cell h0)]
  exact h0
/-- One of them, at any world that comes behind. -/
theorem lays_at {w w' : World} {x : List LayV} {a : Option Addr} {n c i : Nat} (h : Lays w x a n c) (hb : Below w.heap.size w w') (hi : i < n) :
    ∃ b off q, a = some ⟨b, off, none⟩ ∧ x[i]? = some q ∧ q.Ok w' ∧ (-9223372036854775808 ≤ q.kd ∧ q.kd ≤ 9223372036854775807) ∧ w'.rangeAt b (off + i * 37) (layRow q) := by
  obtain ⟨b, off, cs, h1, ⟨rfl, h3, h4⟩, _, h5⟩ := h.here i (by rw [h.len]; exact hi)
  exact ⟨b, off, _, h1, List.getElem?_eq_getElem _, h3.below hb, h4, range_below h5 hb⟩
theorem lay_hash_range {W : World} {T t : Nat} {fr : Nat × Nat} {q : LayV} (h : W.heap[T]? = some (.cells (layRow q).toArray t fr)) (hh : q.h.length = 32) : W.rangeAt T 4 (q.h.map (Value.int .u8)) := (lay_at h hh).2.2.2.2.2
theorem layM_len (n : Nat) (q : LayV) (w : World) (hq : q.Ok w) (h1 : q.lb ≤ 9000) : (layM n q).1.length ≤ 66000 := by
  unfold layM
  split
  · unfold strW; split
    · simp
    · simp [btxt_length]; omega
  · split
    · dsimp only; rw [hq.hash]; omega
    · split
      · dsimp only; rw [hq.len]; omega
      · split
        · unfold padW; split
          · simp
          · simp; omega
        · have := numW_len (q.n : Int) q.sz; omega
/-- A Writer of a law's, and a row of the law's beside it. -/
structure WW (w0 w : World) (P : Nat) (v1 v4 : Value) (l1 l4 : List Int) : Prop where
  wo : WO w P w0.heap.size v1 l1
  own : w.ownsRow w0.heap.size 5 1 v4 l4.length (l4.map (Value.int .u8))
  apart : ∀ g, v4.ownBlock = some g → v1.ownBlock ≠ some g
  new : w0.heap.size ≤ P
  bel : Below w0.heap.size w0 w
theorem WW.below {w0 w w' : World} {P : Nat} {v1 v4 : Value} {l1 l4 : List Int} (h : WW w0 w P v1 v4 l1 l4) (b : Below w.heap.size w w') : WW w0 w' P v1 v4 l1 l4 :=
  ⟨h.wo.below b, own_touch h.own (Touch.of_below (l := []) b) (by simp), h.apart, h.new, h.bel.trans (b.mono h.bel.size)⟩
theorem ww_row {w0 w w' : World} {P : Nat} {v1 v4 v4' : Value} {l1 l4 l : List Int} (h : WW w0 w P v1 v4 l1 l4) (s : OStep w w' w0.heap.size v4 v4' l) : WW w0 w' P v1 v4' l1 l := by
  have hP : v4.ownBlock ≠ some P := own_ne h.own h.wo.cell (by decide)
  refine ⟨h.wo.touch s.touch (fun hm => hP (Option.mem_toList.1 hm)) (fun g hg hm => h.apart g (Option.mem_toList.1 hm) hg), s.own, fun g hg => ?_, h.new, h.bel.trans (s.touch.below h.bel.size (fun k hk => (h.own.lt k (Option.mem_toList.1 hk)).1))⟩
  rcases s.new with n | ⟨g', n, hg'⟩
  · exact h.apart g (n ▸ hg)
  · intro e
    have h1 := (h.wo.own.lt g e).2
    rw [n] at hg
    have := Option.some.inj hg
    omega
theorem ww_wr {w0 w w' : World} {P : Nat} {v1 v4 : Value} {l1 l4 l : List Int} (h : WW w0 w P v1 v4 l1 l4) (s : WStep w w' P w0.heap.size v1 l) : ∃ v1', WW w0 w' P v1' v4 l l4 := by
  obtain ⟨v1', h1, t, n⟩ := s
  have hP : v4.ownBlock ≠ some P := own_ne h.own h.wo.cell (by decide)
  refine ⟨v1', h1, own_touch h.own t (fun g hg hm => ?_), fun g hg e => ?_, h.new, h.bel.trans (t.below h.bel.size (fun k hk => ?_))⟩
  · simp only [List.mem_cons, Option.mem_toList] at hm
    rcases hm with rfl | hm
    · exact hP hg
    · exact h.apart g hg hm
  · rcases n with n | ⟨g', n, hg'⟩
    · exact h.apart g hg (n ▸ e)
    · have h2 := (h.own.lt g hg).2
      rw [n] at e
      have := Option.some.inj e
      omega
  · simp only [List.mem_cons, Option.mem_toList] at hk
    rcases hk with rfl | hk
    · exact h.new
    · exact (h.wo.own.lt k hk).1
end Go.Proofs.Ytkafabcklohlmaa
namespace Go.Proofs.Ytkafabcklohlmaa
set_option maxRecDepth 4000
open Go.RowKit

structure RP (w0 w : World) (R1 R2 : Nat) (l1 l2 : List Int) : Prop where
  r1 : ∃ a x c, RR w 114 R1 a x c l1
  r2 : ∃ a x c, RR w 79 R2 a x c l2
  ne : R1 ≠ R2
  n1 : w0.heap.size ≤ R1
  n2 : w0.heap.size ≤ R2
  bel : Below w0.heap.size w0 w
theorem rr_chg {w w' : World} {t t' R R' lb cb lb' cb' : Nat} {ab ab' : Option Addr} {l l' : List Int} (h : RR w t R ab lb cb l) (h' : RR w t' R' ab' lb' cb' l') (q : Chg R' w w') (hne : R ≠ R') : RR w' t R ab lb cb l :=
  ⟨(q.block R (Array.getElem?_eq_some_iff.1 h.cell).1 hne).trans h.cell, h.bytes.old h'.cell q.block, h.len, h.cap, h.big⟩
theorem RP.below {w0 w w' : World} {R1 R2 : Nat} {l1 l2 : List Int} (h : RP w0 w R1 R2 l1 l2) (b : Below w.heap.size w w') : RP w0 w' R1 R2 l1 l2 := by
  obtain ⟨a, x, c, h1⟩ := h.r1
  obtain ⟨a2, x2, c2, h2⟩ := h.r2
  exact ⟨⟨a, x, c, h1.below b⟩, ⟨a2, x2, c2, h2.below b⟩, h.ne, h.n1, h.n2, h.bel.trans (b.mono h.bel.size)⟩
theorem rp_first {w0 w w' : World} {R1 R2 : Nat} {l1 l2 l : List Int} (h : RP w0 w R1 R2 l1 l2) (r : ∃ a x c, RR w' 114 R1 a x c l) (q : Chg R1 w w') : RP w0 w' R1 R2 l l2 := by
  obtain ⟨a, x, c, h1⟩ := h.r1
  obtain ⟨a2, x2, c2, h2⟩ := h.r2
  exact ⟨r, ⟨a2, x2, c2, rr_chg h2 h1 q h.ne.symm⟩, h.ne, h.n1, h.n2, h.bel.trans (q.below h.n1 h.bel.size)⟩
theorem rp_second {w0 w w' : World} {R1 R2 : Nat} {l1 l2 l : List Int} (h : RP w0 w R1 R2 l1 l2) (r : ∃ a x c, RR w' 79 R2 a x c l) (q : Chg R2 w w') : RP w0 w' R1 R2 l1 l := by
  obtain ⟨a, x, c, h1⟩ := h.r1
  obtain ⟨a2, x2, c2, h2⟩ := h.r2
  exact ⟨⟨a, x, c, rr_chg h1 h2 q h.ne⟩, r, h.ne, h.n1, h.n2, h.bel.trans (q.below h.n2 h.bel.size)⟩
theorem RP.big {w0 w : World} {R1 R2 : Nat} {l1 l2 : List Int} (h : RP w0 w R1 R2 l1 l2) : l1.length ≤ 140737488351232 := by
  obtain ⟨a, x, c, h1⟩ := h.r1
  rw [h1.len]; exact h1.big
theorem RP.byt {w0 w : World} {R1 R2 : Nat} {l1 l2 : List Int} (h : RP w0 w R1 R2 l1 l2) : Byt l1 := by
  obtain ⟨a, x, c, h1⟩ := h.r1
  exact h1.bytes.byt
section
variable {w0 w : World} {R1 R2 : Nat} {l1 l2 : List Int}
theorem rp_str1 (h : RP w0 w R1 R2 l1 l2) :
    Calls Try.prog 70 #[.pointer (some ⟨R1, 0, none⟩)] w fun e w' => e = .returned (.tuple #[.string (strA l1).1, .int .i64 (strA l1).2.1]) ∧ RP w0 w' R1 R2 (strA l1).2.2 l2 := by
  obtain ⟨a, x, c, h1⟩ := h.r1
  exact (pstr_any R1 x c a l1 w h1).mono fun e w' ⟨he, hr, hc⟩ => ⟨he, rp_first h hr hc⟩
theorem rp_str2 (h : RP w0 w R1 R2 l1 l2) :
    Calls Try.prog 47 #[.pointer (some ⟨R2, 0, none⟩)] w fun e w' => e = .returned (.tuple #[.string (strA l2).1, .int .i64 (strA l2).2.1]) ∧ RP w0 w' R1 R2 l1 (strA l2).2.2 := by
  obtain ⟨a, x, c, h1⟩ := h.r2
  exact (rstr_any R2 x c a l2 w h1).mono fun e w' ⟨he, hr, hc⟩ => ⟨he, rp_second h hr (Chg.of_only hc)⟩
theorem rp_hash1 (h : RP w0 w R1 R2 l1 l2) :
    Calls Try.prog 82 #[.pointer (some ⟨R1, 0, none⟩)] w fun e w' => e = .returned (.tuple #[.agg (i8s (hashA l1).1), .int .i64 (hashA l1).2.1]) ∧ RP w0 w' R1 R2 (hashA l1).2.2 l2 := by
  obtain ⟨a, x, c, h1⟩ := h.r1
  exact (phash_any R1 x c a l1 w h1).mono fun e w' ⟨he, hr, hc⟩ => ⟨he, rp_first h hr hc⟩
theorem rp_hash2 (h : RP w0 w R1 R2 l1 l2) :
    Calls Try.prog 74 #[.pointer (some ⟨R2, 0, none⟩)] w fun e w' => e = .returned (.tuple #[.agg (i8s (hashA l2).1), .int .i64 (hashA l2).2.1]) ∧ RP w0 w' R1 R2 l1 (hashA l2).2.2 ∧ Chg R2 w w' := by
  obtain ⟨a, x, c, h1⟩ := h.r2
  exact (rhash_any R2 x c a l2 w h1).mono fun e w' ⟨he, hr, hc⟩ => ⟨he, rp_second h hr hc, hc⟩
theorem rp_raw2 (n : Int) (hn : n ≤ 9223372036854775807) (h : RP w0 w R1 R2 l1 l2) :
    Calls Try.prog 72 #[.pointer (some ⟨R2, 0, none⟩), .int .i64 n] w fun e w' => (∃ v, e = .returned (.tuple #[v, .int .i64 (rawA n l2).2.1]) ∧ BS w' v (rawA n l2).1) ∧ RP w0 w' R1 R2 l1 (rawA n l2).2.2 ∧ (∀ vx x, BS w vx x → BS w' vx x) := by
  obtain ⟨a, x, c, h1⟩ := h.r2
  exact (rraw_any R2 x c a l2 n w h1 hn).mono fun e w' ⟨he, hr, hc⟩ => ⟨he, rp_second h hr (Chg.of_only hc), fun vx x hx => hx.only h1.cell hc⟩
theorem rp_num1 (n : Int) (hn : n ≤ 9223372036854775807) (h : RP w0 w R1 R2 l1 l2) :
    Calls Try.prog 69 #[.pointer (some ⟨R1, 0, none⟩), .int .i64 n] w fun e w' => e = .returned (.tuple #[.int .u64 (numA n l1).1, .int .i64 (numA n l1).2.1]) ∧ RP w0 w' R1 R2 (numA n l1).2.2 l2 ∧ Chg R1 w w' := by
  obtain ⟨a, x, c, h1⟩ := h.r1
  exact (pnum7_any R1 x c a l1 n w h1 hn).mono fun e w' ⟨he, hr, hc⟩ => ⟨he, rp_first h hr (Chg.of_only hc), Chg.of_only hc⟩
theorem rp_num2 (n : Int) (hn : n ≤ 9223372036854775807) (h : RP w0 w R1 R2 l1 l2) :
    Calls Try.prog 46 #[.pointer (some ⟨R2, 0, none⟩), .int .i64 n] w fun e w' => e = .returned (.tuple #[.int .u64 (numA n l2).1, .int .i64 (numA n l2).2.1]) ∧ RP w0 w' R1 R2 l1 (numA n l2).2.2 := by
  obtain ⟨a, x, c, h1⟩ := h.r2
  exact (rnum7_any R2 x c a l2 n w h1 hn).mono fun e w' ⟨he, hr, hc⟩ => ⟨he, rp_second h hr (Chg.of_only hc)⟩
theorem rp_left1 (h : RP w0 w R1 R2 l1 l2) :
    Calls Try.prog 81 #[.pointer (some ⟨R1, 0, none⟩)] w fun e w' => e = .returned (.int .i64 (l1.length : Int)) ∧ w' = w := by
  obtain ⟨a, x, c, h1⟩ := h.r1
  exact pleft_any R1 x c a l1 w h1
end
theorem eq8_hash (x : List Int) (hx : x.length = 32) (hy : Byt x) (w : World) : (Op.equalIn 10000 34 (.agg (i8s x)) (.agg (i8s x))).run Try.prog w = .ok true w := by
  obtain ⟨i0, hi, hs⟩ := Option.map_eq_some_iff.1 yone
  have e : i8s x = ((x.map fun n => UInt8.ofNat n.toNat).map Extern.Stop.cell).toArray := by
    unfold i8s
    rw [List.map_map]
    congr 1
    apply List.map_congr_left
    intro z hz
    have := hy z hz
    simp only [Function.comp, Extern.Stop.cell]
    congr 1
    simp
    omega
  rw [e, run_equalIn_bytes w 9998 34 5 32 Try.underlying34 Try.underlying5 (fun w => by simp [sizeOf, typeInfo, hi, hs]) _ _ (by simpa using hx) (by simpa using hx)]
  simp
/-- What an act leaves to be read. -/
def readL (q : LayV) (l : List Int) : List Int :=
  if q.kd = 1 then (strA l).2.2 else if q.kd = 2 then (hashA l).2.2 else if q.kd = 3 then (rawA q.sz l).2.2 else if q.kd = 4 then l else (numA q.sz l).2.2
theorem hashA_ok (l : List Int) (h : Byt l) : (hashA l).1.length = 32 ∧ Byt (hashA l).1 := by
  unfold hashA
  split
  · exact ⟨by simp, byt_zeros 32⟩
  · exact ⟨by simp; omega, byt_take _ h 32⟩
end Go.Proofs.Ytkafabcklohlmaa
