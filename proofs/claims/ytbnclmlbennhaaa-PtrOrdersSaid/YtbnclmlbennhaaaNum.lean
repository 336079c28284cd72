/-
  num's Get, Put, Narrow, Top and Turn, and the reference's Top and Same, each by a contract of its own.
-/
import Derived.Test.YtbnclmlbennhaaaRows
import Derived.WalkKit
import Derived.WalkSpells
import Derived.WalkLawsBesides
import Derived.Lib.Hide
import Derived.Laws.BytesArg
import Derived.Laws.AppendOwnNone
import Derived.Test.YtbnclmlbennhaaaMath
namespace Go.Proofs.Ytbnclmlbennhaaa
set_option maxRecDepth 4000
open Go.RowKit

/-- A slice of bytes that reads as l. -/
def BS (w : World) (v : Value) (l : List Int) : Prop :=
  ∃ a cap, v = .slice a l.length cap ∧ Byt l ∧ (a = none → cap = 0) ∧ (l = [] ∨ ∃ b off, a = some ⟨b, off, none⟩ ∧ ∀ i, i < l.length → w.cell? ⟨b, off + i, none⟩ = some (.int .u8 (l.getD i 0)))


theorem BS.byt {w : World} {v : Value} {l : List Int} (h : BS w v l) : Byt l := by obtain ⟨_, _, _, hy, _⟩ := h; exact hy
theorem BS.kept {w w' : World} {v : Value} {l : List Int} (h : BS w v l) (hb : Below w.heap.size w w') : BS w' v l := by
  obtain ⟨a, cap, hv, hy, hn, h⟩ := h
  refine ⟨a, cap, hv, hy, hn, ?_⟩
  rcases h with h | ⟨b, off, ha, hc⟩
  · exact .inl h
  · refine .inr ⟨b, off, ha, fun i hi => ?_⟩
    have hlt := block_lt_of_cell (hc i hi)
    rw [hb.cell hlt]; exact hc i hi
theorem BS.drew {w : World} {v : Value} {l : List Int} (h : BS w v l) : BS w.drew v l := h
theorem BS.of_owns {w : World} {base g n : Nat} {l : List Int} (h : w.ownsRow base 5 1 (.slice (some ⟨g, 0, none⟩) n n) n (l.map (Value.int .u8))) (hl : l.length = n) (hb : Byt l) :
    BS w (.slice (some ⟨g, 0, none⟩) n n) l := by
  refine ⟨some ⟨g, 0, none⟩, n, by rw [hl], hb, nofun, .inr ⟨g, 0, rfl, fun i hi => ?_⟩⟩
  rw [Nat.zero_add, h.cellAt i (by omega)]
  simp [hi]
theorem BS.lit (w : World) (l : List Int) (hb : Byt l) : BS (w.alloc (.cells (l.map (Value.int .u8)).toArray 5)) (.slice (some ⟨w.heap.size, 0, none⟩) l.length l.length) l := by
  refine ⟨_, _, rfl, hb, nofun, .inr ⟨_, 0, rfl, fun i hi => ?_⟩⟩
  rw [cell_of_row _ _ _ _ _ _ (heap_alloc_new w _)]
  simp [hi]
/-- A slice of bytes that came in, as the shell of a law tells it. -/
theorem BS.of_row {w : World} {a : Option Addr} {len cap : Nat} {zs : List Int} (h : (a = none ∧ len = 0 ∧ cap = 0 ∧ zs = []) ∨
    ∃ x, a = some x ∧ len ≤ cap ∧ cap ≤ maxLen ∧ zs.length = cap ∧ (∀ i, i < zs.length → w.cell? (x.add i) = some (.int .u8 (zs.getD i 0))) ∧ ∀ n ∈ zs, (Lit.int .u8 n).wf = true) :
    ∃ l, l.length = len ∧ BS w (.slice a len cap) l ∧ len ≤ 9223372036854775807 := by
  rcases h with ⟨rfl, rfl, rfl, rfl⟩ | ⟨x, rfl, hl, hm, hz, hcell, hwz⟩
  · exact ⟨[], rfl, ⟨_, 0, rfl, by intro z hz; simp at hz, fun _ => rfl, .inl rfl⟩, by omega⟩
  · unfold maxLen at hm
    have hlen : (zs.take len).length = len := by rw [List.length_take, Nat.min_eq_left (by omega)]
    refine ⟨zs.take len, hlen, ⟨some x, cap, by rw [hlen], ?_, nofun, ?_⟩, by omega⟩
    · intro z hz
      have := hwz z (List.mem_of_mem_take hz)
      simp [Lit.wf, IntKind.min, IntKind.max, IntKind.signed, IntKind.bits] at this
      omega
    · by_cases h0 : len = 0
      · left; subst h0; rfl
      · right
        obtain ⟨b, off, spot⟩ := x
        have hspot : spot = none := by simpa [Addr.add] using World.cell?_spot (hcell 0 (by omega))
        subst hspot
        refine ⟨b, off, rfl, fun i hi => ?_⟩
        rw [hlen] at hi
        have hc := hcell i (by omega)
        have e : (zs.take len).getD i 0 = zs.getD i 0 := by simp [List.getD, hi]
        have e2 : (⟨b, off, none⟩ : Addr).add i = ⟨b, off + i, none⟩ := by unfold Addr.add; split <;> simp_all
        rw [e, ← e2]
        exact hc
theorem BS.of_own {w : World} {base n : Nat} {v : Value} {l : List Int} (h : w.ownsRow base 5 1 v n (l.map (Value.int .u8))) (hl : l.length = n) (hb : Byt l) : BS w v l := by
  rcases h.2 with ⟨rfl, h0⟩ | ⟨g, cap, cur, rfl, _, hg, hc, _, hs, ht⟩
  · have : l = [] := List.eq_nil_of_length_eq_zero (by omega)
    subst this
    exact ⟨none, 0, rfl, hb, fun _ => rfl, .inl rfl⟩
  · refine ⟨some ⟨g, 0, none⟩, cap, by rw [hl], hb, nofun, .inr ⟨g, 0, rfl, fun i hi => ?_⟩⟩
    rw [Nat.zero_add, h.cellAt i (by omega)]
    simp [hi]
theorem info_u8 : (Try.prog.info? 5).map (fun i => (i.zero, i.size, i.bytes)) = some (some (.int .u8 0), 1, 1) := by kernel_rfl
/-- 'append(v, x...)', v the call's own, x any slice of bytes. -/
theorem wpList_append_BS {ops : Array Oper} {rest : List Oper} {o : Oper} {a : Act} {w : World} {Q : Exit → Act → World → Prop} (hgd : o.guard = none) (s x : Operand)
    (ho : o.op = .call { callee := .builtin .append, args := #[s, x], argTypes := #[28, 28] })
    (base : Nat) (v : Value) (n : Nat) (xs : List Value) (hs : a.eval s = v) (hown : w.ownsRow base 5 1 v n xs)
    (vx : Value) (l : List Int) (hx : a.eval x = vx) (hB : BS w vx l) (h63 : n + l.length ≤ 140737488355328) (hbase : base ≤ w.heap.size)
    (h : ∀ v' w', w'.ownsRow base 5 1 v' (n + l.length) (xs ++ l.map (Value.int .u8)) → w.grownBy w' v.ownBlock → wpList Try.prog ops Q rest (a.put o.dst v') w') : wpList Try.prog ops Q (o :: rest) a w := by
  obtain ⟨i0, hi, hz0, hz1, hz2⟩ := info_parts info_u8
  obtain ⟨ad, cap, rfl, hb, hn, hc⟩ := hB
  cases ad with
  | none =>
    obtain rfl := hn rfl
    have hl : l = [] := by
      rcases hc with h | ⟨b, off, h, _⟩
      · exact h
      · cases h
    subst hl
    refine wpList_append_own_none hgd s x _ ho base 5 i0 1 Try.underlying28 hi v n xs hs hown hx ?_
    have := h v w (by simpa using hown) ⟨rfl, rfl, rfl, Nat.le_refl _, fun _ _ _ => rfl⟩
    exact this
  | some ad =>
    refine wpList_append_own w hgd s x _ ho base 5 i0 _ 1 1 Try.underlying28 hi hz0 hz1 hz2 rfl (by decide) v n xs hs hown ad l.length cap (l.map (Value.int .u8)) hx (by simp) ?_ ?_ (by unfold maxLen; omega) (by omega) hbase (fun v' w' h1 h2 _ => h v' w' h1 h2)
    · intro j u hj
      have hjl : j < l.length := by
        have := (List.getElem?_eq_some_iff.1 hj).1
        simpa using this
      rcases hc with hc | ⟨b, off, he, hc⟩
      · subst hc; simp at hjl
      · obtain rfl := Option.some.inj he
        have e2 : (⟨b, off, none⟩ : Addr).add j = ⟨b, off + j, none⟩ := by unfold Addr.add; split <;> simp_all
        rw [e2, hc j hjl]
        simp [hjl] at hj
        simp [hjl, hj]
    · intro u hu
      simp only [List.mem_map] at hu
      obtain ⟨z, _, rfl⟩ := hu
      rfl
set_option maxRecDepth 4000 in
set_option maxHeartbeats 400000 in
theorem get_long (w : World) (a : Option Addr) (n cap : Nat) (h : 8 < n) (hn : n ≤ 9223372036854775807) :
    Calls Try.prog 49 #[.slice a n cap] w fun e w' => e = .returned (.tuple #[.int .u64 0, .int .i64 2]) ∧ w' = w := by
  have h1 : (8 : Int) < (n : Int) := by omega
  go_enter Try.func49, Try.ntmps49
  go_wp2
  go_ret2
  exact ⟨rfl, rfl⟩

set_option maxRecDepth 4000 in
set_option maxHeartbeats 400000 in
theorem get_nil (w : World) (a : Option Addr) (cap : Nat) :
    Calls Try.prog 49 #[.slice a 0 cap] w fun e w' => e = .returned (.tuple #[.int .u64 0, .int .i64 0]) ∧ w' = w := by
  go_enter Try.func49, Try.ntmps49
  go_wp2
  go_loop [4, 12] (fun x i => x = .int .u64 0 ∧ i = .int .i64 0) (fun _ i => 0)
  case atStart => exact ⟨rfl, rfl⟩
  case round =>
    obtain ⟨rfl, rfl⟩ := hrel
    go_wp2
    go_ret2
    exact ⟨rfl, rfl⟩

set_option maxRecDepth 4000 in
set_option maxHeartbeats 400000 in
theorem get_some (w : World) (b off cap : Nat) (l : List Int) (h8 : l.length ≤ 8) (hb : Byt l)
    (hc : ∀ i, i < l.length → w.cell? ⟨b, off + i, none⟩ = some (.int .u8 (l.getD i 0))) :
    Calls Try.prog 49 #[.slice (some ⟨b, off, none⟩) l.length cap] w fun e w' => e = .returned (.tuple #[.int .u64 (num l), .int .i64 0]) ∧ w' = w := by
  have HS := Lib.hid (fun k (hk : k < l.length) => get_step l hb k hk h8)
  generalize hn : l.length = n at *
  have HN := Lib.hid hn
  clear hn
  go_enter Try.func49, Try.ntmps49
  go_wp2
  go_loop [4, 12] (fun x i => ∃ k : Nat, k ≤ n ∧ i = .int .i64 k ∧ x = .int .u64 (num (l.take k))) (fun _ i => n - (intOf i).toNat)
  case atStart => exact ⟨0, by omega, rfl, rfl⟩
  case round =>
    obtain ⟨k, hk, rfl, rfl⟩ := hrel
    by_cases hlt : k < n
    · have hcx := hc k hlt
      clear hc
      obtain ⟨b1, b2⟩ := num_take_le l hb k (by omega)
      obtain ⟨c1, c2⟩ := byt_at l hb k
      go_wp2
      go_round
      case rel => exact ⟨k + 1, by omega, by go_num, by rw [HS.out k hlt]⟩
      case measure => simp [intOf]; omega
    · have hkn : k = n := by omega
      subst hkn
      go_wp2
      go_ret2
      have e := HN.out
      exact ⟨by rw [List.take_of_length_le (by omega)]; rfl, rfl⟩

/-- Get, of any bytes. -/
theorem get_ok (w : World) (v : Value) (l : List Int) (h : BS w v l) (h8 : l.length ≤ 8) :
    Calls Try.prog 49 #[v] w fun e w' => e = .returned (.tuple #[.int .u64 (num l), .int .i64 0]) ∧ w' = w := by
  obtain ⟨a, cap, rfl, hb, _, rfl | ⟨b, off, rfl, hc⟩⟩ := h
  · exact get_nil w a cap
  · exact get_some w b off cap l h8 hb hc
theorem get_bad (w : World) (v : Value) (l : List Int) (h : BS w v l) (h8 : 8 < l.length) (hm : l.length ≤ 9223372036854775807) :
    Calls Try.prog 49 #[v] w fun e w' => e = .returned (.tuple #[.int .u64 0, .int .i64 2]) ∧ w' = w := by
  obtain ⟨a, cap, rfl, hb, _⟩ := h
  exact get_long w a _ cap h8 hm

set_option maxRecDepth 4000 in
set_option maxHeartbeats 400000 in
theorem put_bad (x n : Int) (w : World) (h : n < 0 ∨ 8 < n ∨ 2 ^ (8 * n.toNat) ≤ x) :
    Calls Try.prog 46 #[.int .u64 x, .int .i64 n] w fun e w' => e = .returned (.tuple #[.slice none 0 0, .int .i64 2]) ∧ w' = w := by
  by_cases h1 : n < 0
  · go_enter Try.func46, Try.ntmps46
    go_wp2
    go_ret2
    exact ⟨rfl, rfl⟩
  by_cases h2 : 8 < n
  · go_enter Try.func46, Try.ntmps46
    go_wp2
    go_ret2
    exact ⟨rfl, rfl⟩
  obtain ⟨m, rfl⟩ := Int.eq_ofNat_of_zero_le (by omega : 0 ≤ n)
  have h5 : 2 ^ (8 * m) ≤ x := by simpa using (by omega : 2 ^ (8 * (m : Int).toNat) ≤ x)
  have hp : (0 : Int) < 2 ^ (8 * m) := Int.pow_pos (by decide)
  have h6 : (x / 2 ^ (8 * m) != 0) = true := by
    have : 1 ≤ x / 2 ^ (8 * m) := (Int.le_ediv_iff_mul_le hp).2 (by omega)
    simp; omega
  clear h h5 hp
  go_enter Try.func46, Try.ntmps46
  go_wp2
  go_ret2
  exact ⟨rfl, rfl⟩

set_option maxRecDepth 4000 in
set_option maxHeartbeats 400000 in
theorem put_ok (x : Int) (n : Nat) (w : World) (h2 : n ≤ 8) (h0 : 0 ≤ x) (h3 : x < 2 ^ (8 * n)) :
    Calls Try.prog 46 #[.int .u64 x, .int .i64 n] w fun e w' => e = .returned (.tuple #[.slice (some ⟨w.heap.size, 0, none⟩) n n, .int .i64 0]) ∧
       w'.ownsRow w.heap.size 5 1 (.slice (some ⟨w.heap.size, 0, none⟩) n n) n ((putI x n).map (.int .u8)) ∧ Below w.heap.size w w' := by
  have h6 : x / 2 ^ (8 * n) = 0 := Int.ediv_eq_zero_of_lt h0 h3
  have h7 : (x / 2 ^ (8 * n) != 0) = false := by simp [h6]
  obtain ⟨i0, hi, hz0, hz1, hz2⟩ := info_parts info_u8
  go_enter Try.func46, Try.ntmps46
  go_wp2_with (at_make; refine wpList_make_full _ rfl _ _ _ rfl w.heap.size 5 i0 (.int .u8 0) 1 Try.underlying28 hi hz0 hz1 .i64 .i64 _ _ n rfl rfl (by rfl) (by rfl) ?c1 ?c2 ?c3 ?_)
  case c1 => rw [hz2]; omega
  case c2 => unfold maxLen; omega
  case c3 => omega
  intro w1 hown hgrow
  have hb := (Below.refl w.heap.size w).grown hgrow (Nat.le_refl _) (by simp)
  have hsz := hgrow.size
  clear hgrow
  generalize hB : w.heap.size = B at *
  clear hi hz0 hz1 hz2
  go_wp2
  go_loopw [25] (fun i wr => ∃ k : Nat, k ≤ n ∧ i = .int .i64 k ∧ wr.ownsRow B 5 1 (.slice (some ⟨B, 0, none⟩) n n) n ((putP x n k).map (.int .u8)) ∧ Below B w wr) (fun i _ => n - (intOf i).toNat)
  case atStart => exact ⟨0, by omega, rfl, by rw [putP_zero, ← toList_madeCells_one]; exact hown, hb⟩
  case round =>
    obtain ⟨k, hk, rfl, ho, hbe⟩ := hrel
    by_cases hlt : k < n
    · have hce : wr.cell? ⟨B, k, none⟩ = some (.int .u8 0) := (ho.cellAt k (by omega)).trans (putP_at x n k hlt)
      have hfr := ho.frozenAt k
      have hst := ho.stored k
      clear ho hown
      have HST := Lib.hid hst
      clear hst
      go_wp2
      go_roundw
      case rel => exact ⟨k + 1, by omega, by go_num, by rw [← putP_set x n k]; exact (HST.out _).1, hbe.setCell (Nat.le_refl _) _⟩
      case measure => simp [intOf]; omega
    · obtain rfl : k = n := by omega
      go_wp2
      go_ret2
      subst hB
      rw [putP_full] at ho
      exact ⟨rfl, ho, hbe⟩
theorem conv_BS {w : World} {v : Value} {l : List Int} (h : BS w v l) : (convert 28 9 v).run Try.prog w = .ok (.string (strOfNums l)) w := by
  obtain ⟨a, cap, rfl, hb, _, rfl | ⟨b, off, rfl, hc⟩⟩ := h
  · cases a with
    | none => exact run_convert_bytes_nil w 28 5 Try.underlying28 Try.underlying5 _ cap 9 Try.underlying9
    | some a =>
      rw [run_convert_bytes_string w 28 9 5 _ _ cap Try.underlying28 Try.underlying5 Try.underlying9]
      exact run_bytesToString w a 0 cap [] (by simpa using run_loadCells_list (P := Try.prog) w a [] (by simp))
  · exact run_convert_bytes_arg w 28 5 Try.underlying28 Try.underlying5 b off _ cap l rfl hc 9 Try.underlying9

theorem strOfNums_inj (l m : List Int) (hl : Byt l) (hm : Byt m) : ((strOfNums l).toList == (strOfNums m).toList) = decide (l = m) := by
  have key : ∀ (l m : List Int), Byt l → Byt m → l.map (fun n => UInt8.ofNat n.toNat) = m.map (fun n => UInt8.ofNat n.toNat) → l = m := by
    intro l
    induction l with
    | nil => intro m _ _ h; cases m with
      | nil => rfl
      | cons b m => simp at h
    | cons a l ih =>
      intro m hl hm h
      cases m with
      | nil => simp at h
      | cons b m =>
        simp only [List.map_cons, List.cons.injEq] at h
        have ha := hl a (by simp)
        have hb := hm b (by simp)
        have e := congrArg UInt8.toNat h.1
        simp only [UInt8.toNat_ofNat'] at e
        rw [ih m (fun z hz => hl z (by simp [hz])) (fun z hz => hm z (by simp [hz])) h.2, show a = b from by omega]
  rw [ByteArray.toList_eq, ByteArray.toList_eq, Bool.eq_iff_iff, beq_iff_eq, decide_eq_true_iff]
  constructor
  · intro h
    exact key l m hl hm h
  · intro h; rw [h]

set_option maxRecDepth 4000 in
set_option maxHeartbeats 400000 in
theorem same_any (w : World) (u v : Value) (l m : List Int) (h : BS w u l) (k : BS w v m) :
    Calls Try.prog 15 #[u, v] w fun e w' => e = .returned (.bool (decide (l = m))) ∧ w' = w := by
  have e1 := conv_BS h
  have e2 := conv_BS k
  go_enter Try.func15, Try.ntmps15
  go_wp2
  go_ret
  have hb1 := h.byt
  have hb2 := k.byt
  exact ⟨by rw [← strOfNums_inj l m hb1 hb2]; rfl, rfl⟩

theorem same_eq (w : World) (u v : Value) (l : List Int) (h : BS w u l) (k : BS w v l) :
    Calls Try.prog 15 #[u, v] w fun e w' => e = .returned (.bool true) ∧ w' = w := by
  refine (same_any w u v l l h k).mono ?_
  rintro e w' ⟨rfl, rfl⟩
  exact ⟨by simp, rfl⟩

def turnI (x n : Int) : Int := bits BinOp.or IntKind.u32 (x * 2 ^ (n % 32).toNat % 4294967296) (x / 2 ^ (32 - n % 32).toNat)
theorem turnI_rot (b : BitVec 32) (n : Int) : turnI (b.toNat : Int) n = ((b.rotateLeft (n % 32).toNat).toNat : Int) := by
  obtain ⟨k, hk⟩ : ∃ k : Nat, n % 32 = k := ⟨(n % 32).toNat, by omega⟩
  have hlt : k < 32 := by omega
  unfold turnI
  rw [hk, Int.toNat_natCast, show ((32 : Int) - (k : Int)).toNat = 32 - k from by omega]
  have e1 : ((b.toNat : Int) * 2 ^ k % 4294967296) = ((b <<< k).toNat : Int) := by
    rw [BitVec.toNat_shiftLeft, Nat.shiftLeft_eq]; simp
  have e2 : ((b.toNat : Int) / 2 ^ (32 - k)) = ((b >>> (32 - k)).toNat : Int) := by
    rw [BitVec.toNat_ushiftRight, Nat.shiftRight_eq_div_pow]; simp
  rw [e1, e2, bits_or_u32 _ _ (BitVec.isLt _) (BitVec.isLt _), BitVec.rotateLeft_def, Nat.mod_eq_of_lt hlt, BitVec.toNat_or]

end Go.Proofs.Ytbnclmlbennhaaa
