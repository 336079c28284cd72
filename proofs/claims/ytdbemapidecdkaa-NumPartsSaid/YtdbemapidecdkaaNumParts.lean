/-
  'NumParts' returns true at every input, and each argument reads behind the call as it read before. Conditions: none.
-/
import Derived.Test.YtdbemapidecdkaaRows
import Derived.WalkKit
import Derived.ProofKit
import Derived.OpenShut
import Derived.ShutString
import Derived.ChangeOld
import Derived.Below
import Derived.SizedLaws
import Derived.Test.YtdbemapidecdkaaAlive
namespace Go.Proofs.Ytdbemapidecdkaa.numParts
open Go.ChangeShapes Go.WideShapes Go.ChangeAt Go.RowKit
open Go.ChangeMaps (open_string shut_string)
set_option linter.unusedVariables false

theorem own : ownKnob Try.prog.godebug = none := by kernel_rfl
theorem laidOut : laidOutB Try.prog = true := by kernel_rfl

def IsRow (k : IntKind) (w : World) (a : Option Addr) (len cap : Nat) (zs : List Int) : Prop :=
  (a = none ∧ len = 0 ∧ cap = 0 ∧ zs = []) ∨
  ∃ x, a = some x ∧ len ≤ cap ∧ cap ≤ maxLen ∧ zs.length = cap ∧ (∀ i, i < zs.length → w.cell? (x.add i) = some (.int k (zs.getD i 0))) ∧ ∀ n ∈ zs, (Lit.int k n).wf = true

theorem walk (a0 : Option Addr) (len0 cap0 : Nat) (z0 : List Int) (a1 : Option Addr) (len1 cap1 : Nat) (z1 : List Int) (w : World) (w0 : IsRow .u8 w a0 len0 cap0 z0) (rc0 : len0 ≤ 140737488351232) (w1 : IsRow .u8 w a1 len1 cap1 z1) (rc1 : len1 ≤ 140737488351232) :
    Calls Try.prog 9 #[.slice a0 len0 cap0, .slice a1 len1 cap1] w fun e w' => e = .returned (.bool true) ∧ Below w.heap.size w w' := by
  obtain ⟨l, hlen, hl, hm⟩ := BS.of_row w0
  obtain ⟨m, hlen2, hl2, hm2⟩ := BS.of_row w1
  clear w0 w1
  go_enter Try.func9, Try.ntmps9
  go_wp2_with fail
  refine (alive_any _).mono ?_
  rintro e w1 ⟨rfl, hb1⟩
  have L1 := Lib.hid (hl.kept hb1)
  have M1 := Lib.hid (hl2.kept hb1)
  clear hl hl2
  by_cases h8 : 8 < len0 + len1
  · have h8i : (8 : Int) < (len0 : Int) + (len1 : Int) := by omega
    go_wp2_with fail
    go_ret
    exact ⟨rfl, hb1⟩
  have h8i : (len0 : Int) + (len1 : Int) ≤ 8 := by omega
  have HL := Lib.hid hlen
  have HM := Lib.hid hlen2
  clear hlen hlen2
  go_wp2_with fail
  refine (get_ok _ _ _ L1.out (by rw [HL.out]; omega)).mono ?_
  rintro e w2 ⟨rfl, rfl⟩
  go_wp2_with fail
  refine (get_ok _ _ _ M1.out (by rw [HM.out]; omega)).mono ?_
  rintro e w3 ⟨rfl, rfl⟩
  have hbuf := World.ownsRow_lit (base := w3.heap.size) (e := 5) (size := 1) w3 #[] 0 (Nat.le_refl _) (by unfold maxLen; omega) rfl
  have hb2 : Below w3.heap.size w3 (w3.alloc (.cells #[] 5)) := (Below.refl _ _).alloc (Nat.le_refl _) _
  have A1 := Lib.hid (L1.out.kept hb2)
  have A2 := Lib.hid (M1.out.kept hb2)
  have HB := Lib.hid hbuf
  clear hbuf
  have hl8 : l.length ≤ 8 := by rw [HL.out]; omega
  have hm8 : m.length ≤ 8 := by rw [HM.out]; omega
  have hsum : l.length + m.length ≤ 8 := by rw [HL.out, HM.out]; omega
  go_wp2_with (first
    | (at_builtin; with_reducible refine wpList_append_BS (o := ⟨some 32, _, _, _, _, _⟩) rfl _ _ rfl w3.heap.size (.slice (some ⟨w3.heap.size, 0, none⟩) 0 0) 0 [] rfl HB.out (.slice a0 len0 cap0) l rfl A1.out (by omega) (by simp) ?_; intro v4 w4 ho4 hg4; have hb4 := hb2.grown hg4 (by simp) (by intro k hk; simp [Value.ownBlock] at hk; omega); have A4 := Lib.hid (M1.out.kept hb4); have HO4 := Lib.hid ho4; clear ho4 hg4)
    | (at_builtin; with_reducible refine wpList_append_BS (o := ⟨some 34, _, _, _, _, _⟩) rfl _ _ rfl w3.heap.size v4 (0 + l.length) ([] ++ l.map (Value.int .u8)) rfl HO4.out (.slice a1 len1 cap1) m rfl A4.out (by omega) hb4.size ?_; intro v5 w5 ho5 hg5; have hb5 := hb4.grown hg5 hb4.size (fun k hk => (HO4.out.lt k hk).1); have HO5 := Lib.hid ho5; clear ho5 hg5))
  have e5 : [] ++ l.map (Value.int .u8) ++ m.map (Value.int .u8) = (l ++ m).map (Value.int .u8) := by simp
  have h5 := HO5.out
  rw [e5] at h5
  have B5 := Lib.hid (BS.of_own h5 (by simp) (by intro z hz; rcases List.mem_append.1 hz with h | h; exact L1.out.byt z h; exact M1.out.byt z h))
  clear h5 e5
  have hor := parts_or l m L1.out.byt M1.out.byt hsum
  rw [HM.out] at hor
  have hmb := num_bound m M1.out.byt
  have htop := topI_lt (num m) (8 * len1) hmb.1 (by rw [pow_bytes, ← HM.out]; exact hmb.2)
  have hm64 : num m < 18446744073709551616 := by
    have e := pow256_le8 m.length hm8
    omega
  have HT := Lib.hid (fun w => top_any (num m) w hmb.1 hm64)
  clear hmb hm64
  have htop2 : topI (num m) < 8 * (len1 : Int) + 1 := by omega
  refine (get_ok _ _ _ B5.out (by simp; omega)).mono ?_
  rintro e w6 ⟨rfl, rfl⟩
  go_wp2_with fail
  refine (HT.out _).mono ?_
  rintro e w7 ⟨rfl, rfl⟩
  go_wp2_with fail
  go_ret
  exact ⟨by simp, hb1.trans (hb5.mono hb1.size)⟩

set_option maxRecDepth 100000 in
theorem lifted (os : Os) (started : os.Started) (H : Type) (enc : TypeId × Value → H) :
    ReturnsInHanded {} Try.checked os 9 .any (Rows.numPartsSpec.pre6 enc Try.prog Try.f9 Rows.numPartsRow.domain false) (Rows.numPartsSpec.post enc Try.prog Try.f9 false true false false) := by
  refine returnsInHanded_of_change_sized (C := Try.checked) own started (by kernel_rfl) Try.func9
    (ChangeSpec.witness6 (enc := enc) (C := Try.checked) false ⟨#[], #[.slice none 0 0, .slice none 0 0], []⟩ 8 (by kernel_rfl) (by kernel_rfl) (by kernel_rfl) (by kernel_rfl)) ?_
  intro W base args ds gs before hval0 hW hcnd hsz0 _
  have hval : ∀ (j : Nat) t v, Try.f9.params[j]? = some t → args[j]? = some v → Value.okWide Try.prog W .any base t v := hval0
  have hsz : (DataW.weightsEach Try.prog (Try.f9.params.toList ++ Rows.numPartsSpec.plain.varTypes Try.prog) (ds ++ gs)).all (· ≤ reachBytes) = true := hsz0
  clear hsz0
  have hW' := hW
  obtain ⟨p, q, hA0, hV, rfl, hfz, hnd⟩ := hW
  have hA : DataW.TrodAll enc Try.prog W 0 (fun _ => true) true Try.f9.params.toList args.toList ds p := hA0
  rw [Try.params9] at hA hval hsz
  obtain ⟨v0, vs0, d0, ds0, p0, q0, hargs, rfl, rfl, h0, r0⟩ := trodAll_cons hA
  obtain ⟨v1, vs1, d1, ds1, p1, q1, rfl, rfl, rfl, h1, r1⟩ := trodAll_cons r0
  obtain ⟨rfl, rfl, rfl⟩ := trodAll_nil r1
  obtain rfl : args = #[v0, v1] := by cases args; simp_all
  obtain ⟨rfl, rfl⟩ := trodVars_none hV
  obtain ⟨a0, len0, cap0, rfl⟩ := okWide_slice Try.underlying23 (hval 0 23 v0 rfl rfl)
  have k0 := h0
  have lt0 : ∀ x ∈ p0, x.block < W.heap.size := by obtain ⟨m, hm⟩ := k0; exact DataW.trod_lt m _ _ _ hm
  obtain ⟨z0, w0, rc0⟩ : ∃ zs, IsRow .u8 W a0 len0 cap0 zs ∧ len0 ≤ 140737488351232 := by
    obtain ⟨fuel, hf⟩ := h0
    rcases open_ints Try.underlying23 Try.underlying5 (by kernel_rfl) hf with ⟨hcs, _⟩ | ⟨x, l, c, zs, hcs, _, hl, hm, hz, hx, hcell, hwz⟩
    · simp [Value.cells] at hcs
      obtain ⟨rfl, rfl, rfl⟩ := hcs
      exact ⟨[], .inl ⟨rfl, rfl, rfl, rfl⟩, by omega⟩
    · simp [Value.cells] at hcs
      obtain ⟨rfl, rfl, rfl⟩ := hcs
      have hd := (Prod.mk.inj hx).1
      have hr := sized_slice hsz (j := 0) (t := 23) (e := 5) rfl (by rw [hd]; rfl) Try.underlying23
      have hby : 1 ≤ Try.prog.bytesOf 5 := of_decide_eq_true (by kernel_rfl)
      have hr2 := Nat.le_trans (Nat.mul_le_mul_left _ hby) hr
      simp only [lits, List.length_map, List.length_take, List.length_drop, reachBytes, Nat.mul_one] at hr2
      have hz' : zs.length = cap0 := by simpa using hz
      exact ⟨zs, .inr ⟨_, rfl, hl, hm, by simpa using hz, hcell, hwz⟩, by omega⟩
  obtain ⟨a1, len1, cap1, rfl⟩ := okWide_slice Try.underlying23 (hval 1 23 v1 rfl rfl)
  have k1 := h1
  have lt1 : ∀ x ∈ p1, x.block < W.heap.size := by obtain ⟨m, hm⟩ := k1; exact DataW.trod_lt m _ _ _ hm
  obtain ⟨z1, w1, rc1⟩ : ∃ zs, IsRow .u8 W a1 len1 cap1 zs ∧ len1 ≤ 140737488351232 := by
    obtain ⟨fuel, hf⟩ := h1
    rcases open_ints Try.underlying23 Try.underlying5 (by kernel_rfl) hf with ⟨hcs, _⟩ | ⟨x, l, c, zs, hcs, _, hl, hm, hz, hx, hcell, hwz⟩
    · simp [Value.cells] at hcs
      obtain ⟨rfl, rfl, rfl⟩ := hcs
      exact ⟨[], .inl ⟨rfl, rfl, rfl, rfl⟩, by omega⟩
    · simp [Value.cells] at hcs
      obtain ⟨rfl, rfl, rfl⟩ := hcs
      have hd := (Prod.mk.inj hx).1
      have hr := sized_slice hsz (j := 1) (t := 23) (e := 5) rfl (by rw [hd]; rfl) Try.underlying23
      have hby : 1 ≤ Try.prog.bytesOf 5 := of_decide_eq_true (by kernel_rfl)
      have hr2 := Nat.le_trans (Nat.mul_le_mul_left _ hby) hr
      simp only [lits, List.length_map, List.length_take, List.length_drop, reachBytes, Nat.mul_one] at hr2
      have hz' : zs.length = cap1 := by simpa using hz
      exact ⟨zs, .inr ⟨_, rfl, hl, hm, by simpa using hz, hcell, hwz⟩, by omega⟩
  clear hA0 hval0
  refine (walk a0 len0 cap0 z0 a1 len1 cap1 z1 W w0 rc0 w1 rc1).mono fun e W' ⟨he, bel⟩ => ?_
  subst he
  exact ⟨_, rfl, _, _, _, [], _, [], hW', trodAll_mk1 (shut_bool Try.underlying4 _), (trodAll_cons_mk (Below.trod laidOut (by kernel_rfl) (of_decide_eq_true (by kernel_rfl)) k0 bel lt0) (trodAll_cons_mk (Below.trod laidOut (by kernel_rfl) (of_decide_eq_true (by kernel_rfl)) k1 bel lt1) trodAll_mk0)), rfl, bel.frame _, fun h => by cases h⟩

theorem over : Rows.numPartsRow.holds Try.pinned (OpenSpec.ofChange Rows.numPartsSpec) :=
  OpenClaim.holds_of_wide 9 Try.f9 rfl rfl rfl rfl rfl rfl rfl ⟨rfl, rfl, rfl, rfl, rfl⟩ rfl rfl rfl rfl rfl (by kernel_rfl) Try.func9 (by kernel_rfl)
    (of_decide_eq_true (by kernel_rfl)) (by unfold Func.isWrapper; first | (rw [if_pos (by decide +kernel)]; kernel_rfl) | (rw [if_neg (by decide +kernel)]; exact ⟨rfl, rfl⟩))
    (fun os started H enc _ => lifted os started H enc)

theorem proved : Rows.NumPartsSaid := over
#print axioms proved
end Go.Proofs.Ytdbemapidecdkaa.numParts
