/-
  The reference of layer 7: Lay.
-/
import Derived.Test.YtbnclmlbennhaaaRd
import Derived.Test.YtbnclmlbennhaaaQLay
namespace Go.Proofs.Ytbnclmlbennhaaa
set_option maxRecDepth 4000
open Go.RowKit

/-- What an act lays behind n bytes, and the answer. -/
def layM (n : Nat) (q : LayV) : List Int × Int :=
  if q.kd = 1 then strW q.s else if q.kd = 2 then (q.h, 0) else if q.kd = 3 then (q.bl, 0) else if q.kd = 4 then padW n q.sz else numW (q.n : Int) q.sz
structure LayV.Ok (w : World) (q : LayV) : Prop where
  hash : q.h.length = 32
  hbyt : Byt q.h
  bs : BS w (.slice q.ab q.lb q.cb) q.bl
  len : q.bl.length = q.lb
  cap : q.lb ≤ q.cb
  num : q.n < 18446744073709551616
  big : q.lb ≤ 140737488351232
  str : q.s.size ≤ 140737488351232
  sz0 : -9223372036854775808 ≤ q.sz
  sz1 : q.sz ≤ 9223372036854775807
theorem LayV.Ok.below {w w' : World} {q : LayV} (h : q.Ok w) (b : Below w.heap.size w w') : q.Ok w' :=
  ⟨h.hash, h.hbyt, h.bs.kept b, h.len, h.cap, h.num, h.big, h.str, h.sz0, h.sz1⟩
/-- A row of one's own before and behind a step. -/
structure OStep (w w' : World) (B : Nat) (v v' : Value) (l : List Int) : Prop where
  own : w'.ownsRow B 5 1 v' l.length (l.map (Value.int .u8))
  touch : Touch v.ownBlock.toList w w'
  new : v'.ownBlock = v.ownBlock ∨ ∃ g, v'.ownBlock = some g ∧ w.heap.size ≤ g
theorem ostep_refl {w w' : World} {B : Nat} {v : Value} {l : List Int} (h : w.ownsRow B 5 1 v l.length (l.map (Value.int .u8))) (b : Below w.heap.size w w') : OStep w w' B v v l :=
  ⟨own_touch h (Touch.of_below (l := []) b) (by simp), Touch.of_below b, .inl rfl⟩
theorem append_ostep (w0 w : World) (B : Nat) (v vx : Value) (l x : List Int) (h : w0.ownsRow B 5 1 v l.length (l.map (Value.int .u8))) (hb0 : Below w0.heap.size w0 w) (hB : BS w vx x) (h63 : l.length + x.length ≤ 140737488351232) (hbase : B ≤ w0.heap.size) :
    ∃ a c w', (Builtin.append_ #[28, 28] 28 #[v, vx]).run Try.prog w = .ok (.slice a (l.length + x.length) c) w' ∧ OStep w0 w' B v (.slice a (l.length + x.length) c) (l ++ x) := by
  have h' := own_touch h (Touch.of_below (l := []) hb0) (by simp)
  obtain ⟨v', w', h1, h2, h3, h4⟩ := run_append_BS_at w B l.length v vx _ x h' hB h63 (Nat.le_trans hbase hb0.size)
  obtain ⟨a1, cp1, rfl⟩ : ∃ a1 cp1, v' = .slice a1 (l.length + x.length) cp1 := by
    rcases h2.2 with ⟨h5, h6⟩ | ⟨g', c, cur, h5, _⟩
    · exact ⟨_, _, by rw [h5, h6]⟩
    · exact ⟨_, _, h5⟩
  refine ⟨a1, cp1, w', h1, ?_, (Touch.of_below hb0).trans (Touch.grown h3), ?_⟩
  · rw [List.length_append, List.map_append]; exact h2
  · rcases h4 with h4 | h4
    · exact .inl h4
    · exact .inr ⟨_, h4, hb0.size⟩
theorem zeros_ostep (w0 w : World) (B : Nat) (v : Value) (l : List Int) (m : Nat) (h : w0.ownsRow B 5 1 v l.length (l.map (Value.int .u8))) (hb0 : Below w0.heap.size w0 w) (h63 : l.length + m ≤ 1000000) (hbase : B ≤ w0.heap.size) :
    ∃ a c w', (Builtin.append_ #[28, 3] 28 #[v, .int .i64 (m : Int)]).run Try.prog w = .ok (.slice a (l.length + m) c) w' ∧ OStep w0 w' B v (.slice a (l.length + m) c) (l ++ List.replicate m 0) := by
  have h' := own_touch h (Touch.of_below (l := []) hb0) (by simp)
  obtain ⟨v', w', h1, h2, h3, h4⟩ := run_append_zeros7 w B l.length m v _ 28 h' h63 (Nat.le_trans hbase hb0.size)
  obtain ⟨a1, cp1, rfl⟩ : ∃ a1 cp1, v' = .slice a1 (l.length + m) cp1 := by
    rcases h2.2 with ⟨h5, h6⟩ | ⟨g', c, cur, h5, _⟩
    · exact ⟨_, _, by rw [h5, h6]⟩
    · exact ⟨_, _, h5⟩
  refine ⟨a1, cp1, w', h1, ?_, (Touch.of_below hb0).trans (Touch.grown h3), ?_⟩
  · rw [List.length_append, List.map_append, List.length_replicate, List.map_replicate]; exact h2
  · rcases h4 with h4 | h4
    · exact .inl h4
    · exact .inr ⟨_, h4, hb0.size⟩
theorem slice_hash_mid (g o : Nat) (W : World) : (Instr.sliceAt 25 (.pointer (some ⟨g, o, none⟩)) none none none).run Try.prog W = .ok (.slice (some ⟨g, o, none⟩) 32 32) W := by
  obtain ⟨i0, hi0, _⟩ := Option.map_eq_some_iff.1 yone
  simp [Instr.sliceAt, run_underlying Try.underlying25, Instr.sureAddr, Instr.sliceBounds, sizeOf, typeInfo, hi0, Addr.add]
/-- The reference's Put, as one function. -/
theorem rput_any7 (x n : Int) (w : World) (h0 : 0 ≤ x) (h1 : x < 18446744073709551616) :
    Calls Try.prog 52 #[.int .u64 x, .int .i64 n] w fun e w' => ∃ a m c, e = .returned (.tuple #[.slice a m c, .int .i64 (numW x n).2]) ∧ BS w' (.slice a m c) (numW x n).1 ∧ Below w.heap.size w w' := by
  by_cases hr : n < 0 ∨ 8 < n
  · rw [show numW x n = ([], 2) by unfold numW; rw [if_pos (by omega)]]
    refine (rput_range x n w hr).mono ?_
    rintro e w1 ⟨rfl, rfl⟩
    exact ⟨_, _, _, rfl, bs_nil _, Below.refl _ _⟩
  · obtain ⟨m, rfl⟩ : ∃ m : Nat, n = (m : Int) := ⟨n.toNat, by omega⟩
    refine (rput_loop x m w (by omega) h0 h1).mono ?_
    have hp : (0 : Int) < 256 ^ m := Int.pow_pos (by decide)
    rintro e w1 ⟨hb, ⟨hz, rfl, ho⟩ | ⟨hz, rfl⟩⟩
    · have hlt : x < 256 ^ m := by
        have := Int.lt_mul_ediv_self_add (x := x) hp
        rw [hz] at this; omega
      rw [show numW x (m : Int) = (putI x m, 0) by unfold numW; rw [if_neg (by rw [Int.toNat_natCast, pow_bytes]; omega)]; rfl]
      exact ⟨_, _, _, rfl, BS.of_own ho (putI_length x m) (putI_byt x m), hb⟩
    · have hge : 256 ^ m ≤ x := Int.le_of_not_gt fun hlt => hz (Int.ediv_eq_zero_of_lt h0 hlt)
      rw [show numW x (m : Int) = ([], 2) by unfold numW; rw [if_pos (.inr (.inr (by rw [Int.toNat_natCast, pow_bytes]; exact hge)))]]
      exact ⟨_, _, _, rfl, bs_nil _, hb⟩
theorem numW_len (x n : Int) : (numW x n).1.length ≤ 8 := by
  unfold numW
  split
  · simp
  · rw [putI_length]; omega
end Go.Proofs.Ytbnclmlbennhaaa
