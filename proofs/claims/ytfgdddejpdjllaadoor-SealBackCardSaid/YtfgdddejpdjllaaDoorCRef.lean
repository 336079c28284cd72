/-
  The reference of layer 5: its bytes of a number, its nonce.
-/
import Derived.Test.YtfgdddejpdjllaaDoorCClo
import Derived.Test.YtfgdddejpdjllaaDoorRSeal
import Derived.Test.YtfgdddejpdjllaaDoorLow
namespace Go.Proofs.YtfgdddejpdjllaaDoor
set_option maxRecDepth 4000
open Go.RowKit

theorem run_append_Y (w : World) (base n : Nat) (v vx : Value) (xs : List Value) (l : List Int) (hown : w.ownsRow base 5 1 v n xs) (hB : BS w vx l) (h63 : n + l.length ≤ 140737488355328) (hbase : base ≤ w.heap.size) :
    ∃ v' w', (Builtin.append_ #[22, 22] 22 #[v, vx]).run Tryd.prog w = .ok v' w' ∧ w'.ownsRow base 5 1 v' (n + l.length) (xs ++ l.map (Value.int .u8)) ∧ w.grownBy w' v.ownBlock := by
  obtain ⟨i0, hi, hz0, hz1, hz2⟩ := info_parts info_u8
  obtain ⟨ad, cap, rfl, hb, hn, hc⟩ := hB
  cases ad with
  | none =>
    obtain rfl := hn rfl
    have hl : l = [] := by
      rcases hc with h | ⟨b, off, h, _⟩
      · exact h
      · cases h
    subst hl
    exact ⟨v, w, run_append_owned_none (P := Tryd.prog) (w := w) base _ _ _ i0 1 Tryd.underlying22 hi v n xs hown, by simpa using hown, ⟨rfl, rfl, rfl, Nat.le_refl _, fun _ _ _ => rfl⟩⟩
  | some ad =>
    obtain ⟨v', w', h1, h2, h3, _⟩ := run_append_own (P := Tryd.prog) w base 22 22 5 i0 _ 1 1 Tryd.underlying22 hi hz0 hz1 hz2 rfl (by decide) v n xs hown ad l.length cap (l.map (Value.int .u8)) (by simp) (by
      intro j u hj
      have hjl : j < l.length := by
        have := (List.getElem?_eq_some_iff.1 hj).1
        simpa using this
      rcases hc with hc | ⟨b, off, he, hc⟩
      · subst hc; simp at hjl
      · obtain rfl := Option.some.inj he
        have e2 : (⟨b, off, none⟩ : Addr).add j = ⟨b, off + j, none⟩ := by unfold Addr.add; split <;> simp_all
        rw [e2, hc j hjl]
        simp [hjl] at hj
        simp [hjl, hj]) (by
      intro u hu
      simp only [List.mem_map] at hu
      obtain ⟨z, _, rfl⟩ := hu
      rfl) (by unfold maxLen; omega) (by omega) hbase
    exact ⟨v', w', h1, h2, h3⟩
theorem wp_append_Y {P : Program} {w : World} {o : Oper} {a : Act} {K : Act → World → Prop} {Q : Exit → Act → World → Prop} (s x : Operand) (dT sT : TypeId)
    (ho : o.op = .call { callee := .builtin .append, args := #[s, x], argTypes := #[dT, sT] }) (v vx v' : Value) (w' : World) (hs : a.eval s = v) (hx : a.eval x = vx)
    (hr : (Builtin.append_ #[dT, sT] o.type #[v, vx]).run P w = .ok v' w') (h : K (a.put o.dst v') w') : o.wp P a w K Q := by
  unfold Oper.wp execOp
  simp only [ho, resolve, invoke, builtin, Sem.run_bind, Sem.run_pure, Result.andThen_ok, List.map_toArray, List.map_cons, List.map_nil, hs, hx, hr]
  exact h
theorem own_full {w : World} {base g n : Nat} {l : List (BitVec 8)} (h : w.ownsRow base 5 1 (.slice (some ⟨g, 0, none⟩) n n) n ((l.map yv).map (Value.int .u8))) : ArrY w g 5 l := by
  rcases h.2 with ⟨h, _⟩ | ⟨g', cap, cur, he, _, hg, _, _, hsz, ht⟩
  · cases h
  · injection he with e1 e2 e3
    subst e3
    injection e1 with e1
    injection e1 with e1
    subst e1
    unfold ArrY
    rw [hg]
    congr 2
    apply Array.ext'
    rw [List.take_of_length_le (by rw [Array.length_toList, hsz]; omega)] at ht
    rw [ht]
    simp [yvs]
theorem own_of_arr5 {w : World} {base g n : Nat} {l : List (BitVec 8)} (h : ArrY w g 5 l) (hb : base ≤ g) (hl : l.length = n) (hn : n ≤ maxLen) : w.ownsRow base 5 1 (.slice (some ⟨g, 0, none⟩) n n) n ((l.map yv).map (Value.int .u8)) := by
  refine ⟨by simp [hl], .inr ⟨g, n, yvs l, rfl, hb, h, Nat.le_refl _, hn, by rw [yvs_size, hl]; omega, ?_⟩⟩
  rw [List.take_of_length_le (by rw [Array.length_toList, yvs_size, hl]; omega)]
  simp [yvs]
theorem pow_256 (n : Nat) : (256 : Int) ^ n = 2 ^ (8 * n) := by rw [Int.pow_mul]; rfl
set_option maxHeartbeats 800000 in
theorem rbytes_any5 (x n : Nat) (w : World) (hn : n ≤ 8) (hx : x < 2 ^ (8 * n)) :
    Calls Tryd.prog 49 #[.int .u64 (x : Int), .int .i64 (n : Int)] w fun e w' => e = .returned (.slice (some ⟨w.heap.size, 0, none⟩) n n) ∧ ArrY w' w.heap.size 5 (beY n x) ∧ Below w.heap.size w w' := by
  have h64 : x < 18446744073709551616 := Nat.lt_of_lt_of_le hx (Nat.le_trans (Nat.pow_le_pow_right (by omega) (show 8 * n ≤ 64 by omega)) (by decide))
  have hz : (x : Int) / 256 ^ n = 0 := by
    rw [pow_256]
    exact Int.ediv_eq_zero_of_lt (by omega) (by exact_mod_cast hx)
  have HP := Lib.hid (fun w => rput_loop (x : Int) n w hn (by omega) (by omega))
  rw [hz, ← beY_put] at HP
  clear hz hx h64 hn
  go_enter Tryd.func49, Tryd.ntmps49
  go_wp2_with fail
  refine (HP.out _).mono ?_
  rintro e w1 ⟨hb, ⟨_, rfl, ho⟩ | ⟨h, _⟩⟩
  · have HA := Lib.hid (own_full ho)
    have HB := Lib.hid hb
    clear ho hb
    go_wp2_with fail
    go_ret
    exact ⟨rfl, HA.out, HB.out⟩
  · exact absurd rfl h
end Go.Proofs.YtfgdddejpdjllaaDoor
