/-
  Ubers: the reference's Check, bytes, Put.
-/
import Derived.Test.YtocdjaenhllemaaDoorUs
import Derived.Test.YtocdjaenhllemaaDoorRMac
import Derived.Test.YtocdjaenhllemaaDoorRb
import Derived.ArgAppend
namespace Go.Proofs.YtocdjaenhllemaaDoor
set_option maxRecDepth 4000
open Go.ChangeShapes Go.WideShapes Go.ChangeAt Go.RowKit

theorem wpList_load_mid_guarded {P : Program} {ops : Array Oper} {rest : List Oper} {op : Oper} {a : Act} {w : World} {Q : Exit → Act → World → Prop} (hw : Region.wanted op (yielded ops a.tmps) = true) (ty : TypeId) (x : Operand) (ho : op.op = .load ty x)
    (b o : Nat) (hx : a.eval x = .pointer (some ⟨b, o, none⟩)) (cs : List Value) (d : TypeDesc) (hc : w.rangeAt b o cs)
    (hu : P.underlying ty = some d) (hd : d.isRow = true) (hi : (P.info? ty).map (·.size) = some cs.length)
    (h : wpList P ops Q rest (a.put op.dst (.agg cs.toArray)) w) : wpList P ops Q (op :: rest) a w :=
  wpList_step fun _ hK => by rw [if_pos hw]; exact wp_load_mid ty x ho b o hx cs d hc hu hd hi (hK _ _ h)
set_option maxRecDepth 100000 in
set_option maxHeartbeats 1600000 in
theorem rucheck_any (u : UbV) (w : World) :
    Calls Tryd.prog 14 #[.agg (ubRow u).toArray] w fun e w' => e = .returned (.int .i64 (checkU u)) ∧ Below w.heap.size w w' := by
  have hb := (Below.refl w.heap.size w).alloc (Nat.le_refl _) (.cells (ubRow u).toArray 30)
  have hA := heap_alloc_new w (.cells (ubRow u).toArray 30)
  obtain ⟨c0, c1, c2⟩ := ub_at hA
  have HR := Lib.hid c2
  have HB := Lib.hid hb
  have SP := Lib.hid (size_ptr u.q)
  have HP := Lib.hid (fun (W : World) => rcheck_any u.q u.sz (by have := u.z0; omega) W)
  have HT := Lib.hid u.t0
  have hz := u.z0
  have hw : IntKind.i64.wrap u.sz = u.sz := IntWalk.i64_in _ (by omega)
  have HE := Lib.hid (show checkU u = if (decide (u.tx ≠ 0) && decide (16 ≤ u.sz) && decide (u.sz ≤ 4096) && mayB u.q u.sz) then 0 else 4 from rfl)
  have HC := Lib.hid (show checkE u.q u.sz = if mayB u.q u.sz then 0 else 4 from rfl)
  clear c2 hb hA
  generalize checkU u = cu at *
  generalize checkE u.q u.sz = ce at *
  generalize mayB u.q u.sz = mb at *
  generalize (ptrRow u.q) = PR at *
  generalize (ubRow u).toArray = AR at *
  generalize u.tx = tx at *
  generalize u.sz = sz at *
  by_cases h1 : tx = 0
  · subst h1
    go_enter Tryd.func14, Tryd.ntmps14
    go_wp2_with fail
    go_ret
    exact ⟨by rw [HE.out]; simp, HB.out⟩
  have h1' : (tx == 0) = false := by simp [h1]
  by_cases h2 : sz < 16
  · go_enter Tryd.func14, Tryd.ntmps14
    go_wp2_with fail
    go_ret
    exact ⟨by rw [HE.out, show decide ((16 : Int) ≤ sz) = false by simp; omega]; simp, HB.out⟩
  by_cases h3 : 4096 < sz
  · go_enter Tryd.func14, Tryd.ntmps14
    go_wp2_with fail
    go_ret
    exact ⟨by rw [HE.out, show decide (sz ≤ (4096 : Int)) = false by simp; omega]; simp, HB.out⟩
  have HX := Lib.hid (show (decide (tx ≠ 0) && decide (16 ≤ sz) && decide (sz ≤ 4096) && mb) = mb by
    rw [decide_eq_true h1, decide_eq_true (show 16 ≤ sz by omega), decide_eq_true (show sz ≤ 4096 by omega)]; simp)
  have h2' : decide (sz < 16) = false := by simp; omega
  have h3' : decide (4096 < sz) = false := by simp; omega
  clear h2 h3
  cases mb with
  | false =>
    rw [show ce = 4 from HC.out] at HP
    clear HC
    go_enter Tryd.func14, Tryd.ntmps14
    go_wp2_with (first
      | (with_reducible refine wpList_load_mid_guarded (op := ⟨some 18, _, _, _, _, _⟩) (by kernel_rfl) 28 _ rfl w.heap.size 2 rfl PR _ HR.out Tryd.underlying28 rfl SP.out ?_))
    refine (HP.out _).mono ?_
    rintro e w2 ⟨rfl, h2⟩
    have HB2 := Lib.hid (HB.out.trans (h2.mono HB.out.size))
    clear h2
    go_wp2_with fail
    go_ret
    refine ⟨?_, HB2.out⟩
    rw [HE.out, HX.out]
    rfl
  | true =>
    rw [show ce = 0 from HC.out] at HP
    clear HC
    go_enter Tryd.func14, Tryd.ntmps14
    go_wp2_with (first
      | (with_reducible refine wpList_load_mid_guarded (op := ⟨some 18, _, _, _, _, _⟩) (by kernel_rfl) 28 _ rfl w.heap.size 2 rfl PR _ HR.out Tryd.underlying28 rfl SP.out ?_))
    refine (HP.out _).mono ?_
    rintro e w2 ⟨rfl, h2⟩
    have HB2 := Lib.hid (HB.out.trans (h2.mono HB.out.size))
    clear h2
    go_wp2_with fail
    go_ret
    refine ⟨?_, HB2.out⟩
    rw [HE.out, HX.out]
    rfl
/-! ### the bytes ahead of the code -/
/-- append onto a slice that is full: a row of one's own. -/
theorem append_full (w : World) (a : Option Addr) (l m : List Int) (vm : Value) (hl : BS w (.slice a l.length l.length) l) (ha : a ≠ none) (hm : BS w vm m) (h0 : 0 < m.length) (h63 : l.length + m.length ≤ 100000) :
    ∃ a' c' w', (Builtin.append_ #[22, 22] 22 #[.slice a l.length l.length, vm]).run Tryd.prog w = .ok (.slice a' (l.length + m.length) c') w' ∧ w'.ownsRow w.heap.size 5 1 (.slice a' (l.length + m.length) c') (l.length + m.length) ((l ++ m).map (Value.int .u8)) ∧ Below w.heap.size w w' := by
  obtain ⟨i0, hi, hz0, hz1, hz2⟩ := info_parts info_u8
  obtain ⟨am, cm, rfl, _, _, hcm⟩ := hm
  obtain ⟨a1, c1, e1, _, _, hcl⟩ := hl
  injection e1 with e2 e3 e4
  subst e2 e4
  rcases hcm with hcm | ⟨bm, om, rfl, hcm⟩
  · rw [hcm] at h0; simp at h0
  obtain ⟨b, ha⟩ : ∃ b, a = some b := Option.ne_none_iff_exists'.1 ha
  subst ha
  have hold : ∀ j u, (l.map (Value.int .u8))[j]? = some u → w.cell? (b.add j) = some u := by
    intro j u hj
    have hjl : j < l.length := by
      have := (List.getElem?_eq_some_iff.1 hj).1
      simpa using this
    rcases hcl with hcl | ⟨bl, ol, he, hcl⟩
    · subst hcl; simp at hjl
    · obtain rfl := Option.some.inj he
      rw [show (⟨bl, ol, none⟩ : Addr).add j = ⟨bl, ol + j, none⟩ by unfold Addr.add; split <;> simp_all, hcl j hjl]
      simp [hjl] at hj
      simp [hjl, hj]
  have hnew : ∀ j u, (m.map (Value.int .u8))[j]? = some u → w.cell? ((⟨bm, om, none⟩ : Addr).add j) = some u := by
    intro j u hj
    have hjl : j < m.length := by
      have := (List.getElem?_eq_some_iff.1 hj).1
      simpa using this
    rw [show (⟨bm, om, none⟩ : Addr).add j = ⟨bm, om + j, none⟩ by unfold Addr.add; split <;> simp_all, hcm j hjl]
    simp [hjl] at hj
    simp [hjl, hj]
  obtain ⟨v', w', hr, ho, hg⟩ := run_append_arg_grows (P := Tryd.prog) w 22 22 5 i0 (.int .u8 0) 1 1 Tryd.underlying22 hi hz0 hz1 hz2 rfl (by decide) b l.length l.length (l.map (Value.int .u8)) (by simp) hold ⟨bm, om, none⟩ m.length cm (m.map (Value.int .u8)) (by simp) hnew (by omega) (by unfold maxLen; omega) (by omega)
  obtain ⟨a1, cp1, rfl⟩ : ∃ a1 cp1, v' = .slice a1 (l.length + m.length) cp1 := by
    rcases ho.2 with ⟨h5, h6⟩ | ⟨g', c, cur, h5, _⟩
    · exact ⟨_, _, by rw [h5, h6]⟩
    · exact ⟨_, _, h5⟩
  exact ⟨a1, cp1, w', hr, by rw [List.map_append]; exact ho, ⟨hg.os, hg.tape, hg.output, hg.size, fun j hj => hg.block j hj nofun⟩⟩
theorem rbytes_u64 (x : Int) (W : World) (h0 : 0 ≤ x) (h1 : x ≤ 18446744073709551615) :
    Calls Tryd.prog 39 #[.int .u64 x, .int .i64 8] W fun e w' => e = .returned (.slice (some ⟨W.heap.size, 0, none⟩) 8 8) ∧ BS w' (.slice (some ⟨W.heap.size, 0, none⟩) 8 8) (putI x 8) ∧ Below W.heap.size W w' :=
  (rbytes8_any x 8 W (by decide) h0 (by omega) (Int.ediv_eq_zero_of_lt h0 (by omega))).mono fun _ _ ⟨h, ho, hb⟩ => ⟨h, BS.of_owns ho (putI_length _ _) (putI_byt _ _), hb⟩
theorem rbytes_u32 (x : Int) (W : World) (h0 : 0 ≤ x) (h1 : x ≤ 4294967295) :
    Calls Tryd.prog 39 #[.int .u64 x, .int .i64 4] W fun e w' => e = .returned (.slice (some ⟨W.heap.size, 0, none⟩) 4 4) ∧ BS w' (.slice (some ⟨W.heap.size, 0, none⟩) 4 4) (putI x 4) ∧ Below W.heap.size W w' :=
  (rbytes8_any x 4 W (by decide) h0 (by omega) (Int.ediv_eq_zero_of_lt h0 (by omega))).mono fun _ _ ⟨h, ho, hb⟩ => ⟨h, BS.of_owns ho (putI_length _ _) (putI_byt _ _), hb⟩
set_option maxRecDepth 100000 in
set_option maxHeartbeats 3200000 in
theorem ruplain_any (u : UbV) (w : World) :
    Calls Tryd.prog 25 #[.agg (ubRow u).toArray] w fun e w' => OwnB w w' e (plainB u) := by
  have hb1 := (Below.refl w.heap.size w).alloc (Nat.le_refl _) (.cells (ubRow u).toArray 30)
  have hA := heap_alloc_new w (.cells (ubRow u).toArray 30)
  have hT : w.heap.size < (w.alloc (.cells (ubRow u).toArray 30)).heap.size := by simp
  have HE := Lib.hid (And.intro (show plainB u = ((((headB ++ putI u.tx 8) ++ putI u.sz 4) ++ ptrB u.q) ++ List.replicate 420 0) by simp [plainB, List.append_assoc]) (plainB_byt u))
  have H8 := Lib.hid (fun W => rbytes_u64 u.tx W u.t0.1 u.t0.2)
  have H4 := Lib.hid (fun W => rbytes_u32 u.sz W u.z0.1 u.z0.2)
  have HQ := Lib.hid (fun W => rptrb_any u.q W)
  have hz0 := u.z0
  have hw : IntKind.u64.wrap u.sz = u.sz := IntWalk.u64_in _ (by omega)
  have SP := Lib.hid (size_ptr u.q)
  have HL := Lib.hid (And.intro (putI_length u.tx 8) (And.intro (putI_length u.sz 4) (ptrB_length u.q)))
  have HY := Lib.hid (And.intro (putI_byt u.tx 8) (And.intro (putI_byt u.sz 4) (ptrB_byt u.q)))
  have HPL := Lib.hid (show (plainB u).length = 480 from plainB_length u)
  generalize hw1 : w.alloc (.cells (ubRow u).toArray 30) = w1 at *
  have HX := Lib.hid (fun (W : World) (hb : Below w1.heap.size w1 W) => ub_at ((hb.block w.heap.size hT).trans hA))
  have HB1 := Lib.hid hb1
  clear hz0 hb1 hA hT
  generalize plainB u = PB at *
  generalize (ubRow u).toArray = AR at *
  generalize ptrB u.q = QB at *
  generalize (ptrRow u.q) = PR at *
  generalize putI u.tx 8 = TB at *
  generalize putI u.sz 4 = ZB at *
  generalize u.tx = tx at *
  generalize u.sz = sz at *
  go_enter Tryd.func25, Tryd.ntmps25
  go_upto_region 1 with fail
  try rw [hw1]
  clear hw1
  have hcv := conv_const w1 #[.int .u8 66, .int .u8 78, .int .u8 89, .int .u8 78] 4 4
  have hbl := (Below.refl w1.heap.size w1).alloc (Nat.le_refl _) (.cells #[.int .u8 66, .int .u8 78, .int .u8 89, .int .u8 78] 5 (4, 5))
  have hbh := bs_head w1
  obtain ⟨c0, _, _⟩ := HX.out _ hbl
  go_wp2_with fail
  clear hcv c0
  generalize w1.alloc (.cells #[.int .u8 66, .int .u8 78, .int .u8 89, .int .u8 78] 5 (4, 5)) = w2 at *
  obtain ⟨h2, hh2⟩ : ∃ h2, (some ⟨w1.heap.size, 0, none⟩ : Option Addr) = h2 := ⟨_, rfl⟩
  have HN2 := Lib.hid (show h2 ≠ none by rw [← hh2]; simp)
  rw [hh2] at hbh ⊢
  clear hh2
  refine (H8.out w2).mono ?_
  rintro e w3 ⟨rfl, hs3, hb3⟩
  obtain ⟨a4, c4, w4, hr4, ho4, hb4⟩ := append_full w3 h2 headB TB _ (hbh.kept hb3) HN2.out hs3 (by rw [HL.out.1]; decide) (by rw [HL.out.1]; decide)
  have hlh : headB.length = 4 := rfl
  rw [hlh, HL.out.1] at hr4 ho4
  have hb14 := (hbl.trans (hb3.mono hbl.size)).trans (hb4.mono (Nat.le_trans hbl.size hb3.size))
  have HB4 := Lib.hid hb14
  have HO4 := Lib.hid (own_low10 ho4 (Nat.le_trans hbl.size hb3.size))
  have HR4 := Lib.hid hr4
  obtain ⟨_, c1, _⟩ := HX.out _ hb14
  clear hs3 hb3 hbh hbl hr4 ho4 hb4 hb14 hlh HN2 H8
  go_wp2_with (first
    | (at_builtin; refine wpList_append_run (o := ⟨some 9, _, _, _, _, _⟩) rfl _ _ _ _ rfl _ _ _ _ rfl rfl HR4.out ?_))
  refine (H4.out w4).mono ?_
  rintro e w5 ⟨rfl, hs5, hb5⟩
  have hl4 : (headB ++ TB).length = 12 := by rw [List.length_append, HL.out.1]; rfl
  obtain ⟨a6, c6, w6, hr6, hO6⟩ := append_ostep w4 w5 w1.heap.size (.slice a4 (4 + 8) c4) _ (headB ++ TB) ZB (by rw [hl4]; exact HO4.out) hb5 hs5 (by rw [hl4, HL.out.2.1]; decide) HB4.out.size
  rw [hl4, HL.out.2.1] at hr6 hO6
  have hb16 : Below w1.heap.size w1 w6 := HB4.out.trans (hO6.touch.below HB4.out.size (fun g hg => (HO4.out.lt g (by simpa using hg)).1))
  have HB6 := Lib.hid hb16
  have HO6 := Lib.hid (show w6.ownsRow w1.heap.size 5 1 (.slice a6 (12 + 4) c6) 16 (((headB ++ TB) ++ ZB).map (Value.int .u8)) by
    have := hO6.own
    rwa [List.length_append, hl4, HL.out.2.1] at this)
  have HR6 := Lib.hid hr6
  have HR := Lib.hid (HX.out _ hb16).2.2
  clear hs5 hb5 hl4 hr6 hO6 hb16 HR4 HO4 HB4 H4 c1 hw
  go_wp2_with (first
    | (at_builtin; refine wpList_append_run (o := ⟨some 15, _, _, _, _, _⟩) rfl _ _ _ _ rfl _ _ _ _ rfl rfl HR6.out ?_)
    | (with_reducible refine wpList_load_mid (op := ⟨some 18, _, _, _, _, _⟩) rfl 28 _ rfl w.heap.size 2 rfl PR _ HR.out Tryd.underlying28 rfl SP.out ?_))
  refine (HQ.out w6).mono ?_
  rintro e w7 ⟨a7, c7, rfl, hc7, hs7, hb7⟩
  have hl6 : ((headB ++ TB) ++ ZB).length = 16 := by rw [List.length_append, List.length_append, HL.out.1, HL.out.2.1]; rfl
  obtain ⟨a8, c8, w8, hr8, hO8⟩ := append_ostep w6 w7 w1.heap.size (.slice a6 (12 + 4) c6) _ ((headB ++ TB) ++ ZB) QB (by rw [hl6]; exact HO6.out) hb7 hs7 (by rw [hl6, HL.out.2.2]; decide) HB6.out.size
  rw [hl6, HL.out.2.2] at hr8 hO8
  have hb18 : Below w1.heap.size w1 w8 := HB6.out.trans (hO8.touch.below HB6.out.size (fun g hg => (HO6.out.lt g (by simpa using hg)).1))
  have hl8 : (((headB ++ TB) ++ ZB) ++ QB).length = 60 := by rw [List.length_append, hl6, HL.out.2.2]
  obtain ⟨a9, c9, w9, hr9, hO9⟩ := zeros_ostep w8 w8 w1.heap.size (.slice a8 (16 + 44) c8) (((headB ++ TB) ++ ZB) ++ QB) 420 hO8.own (Below.refl _ _) (by rw [hl8]; decide) hb18.size
  have ho8 := hO8.own
  rw [hl8] at hr9 hO9
  have hb19 : Below w1.heap.size w1 w9 := hb18.trans (hO9.touch.below hb18.size (fun g hg => (ho8.lt g (by simpa using hg)).1))
  rw [← HE.out.1] at hO9
  obtain ⟨a9', c9', e9, hc9, hbs9⟩ := own_bs hO9.own rfl HE.out.2
  have ho9 := hO9.own
  rw [HPL.out] at e9 hc9 hbs9 ho9
  injection e9 with e10 e11 e12
  subst e10 e12
  have HZ := Lib.hid (show ∃ a' c', Ending.returned (.slice a9 480 c9) = .returned (.slice a' PB.length c') ∧ PB.length ≤ c' ∧ BS w9 (.slice a' PB.length c') PB ∧ w9.ownsRow w.heap.size 5 1 (.slice a' PB.length c') PB.length (PB.map (Value.int .u8)) ∧ Below w.heap.size w w9 from
    ⟨a9, c9, by rw [HPL.out], by rw [HPL.out]; exact hc9, by rw [HPL.out]; exact hbs9, by rw [HPL.out]; exact own_low10 ho9 HB1.out.size, HB1.out.trans (hb19.mono HB1.out.size)⟩)
  have HR8 := Lib.hid hr8
  have HR9 := Lib.hid hr9
  clear hc7 hs7 hb7 hl6 hl8 hr8 hr9 hO8 hO9 hb18 hb19 ho8 ho9 hc9 hbs9 e11 HR6 HO6 HB6 HQ HR
  go_wp2_with (first
    | (at_builtin; refine wpList_append_run (o := ⟨some 20, _, _, _, _, _⟩) rfl _ _ _ _ rfl _ _ _ _ rfl rfl HR8.out ?_)
    | (at_builtin; refine wpList_append_run (o := ⟨some 25, _, _, _, _, _⟩) rfl _ _ _ _ rfl _ _ _ _ rfl rfl HR9.out ?_))
  go_ret
  exact HZ.out
set_option maxRecDepth 100000 in
set_option maxHeartbeats 1600000 in
theorem ruput_ok (k : List Int) (v : Value) (u : UbV) (w : World) (hv : BS w v k) (hr : Room v) (hn : k.length ≤ 900000) (hm : mayU u = true) :
    Calls Tryd.prog 11 #[v, .agg (ubRow u).toArray] w fun e w' => ∃ a c, e = .returned (.tuple #[.slice a 512 c, .int .i64 0]) ∧ 512 ≤ c ∧ c ≤ 9223372036854775807 ∧ BS w' (.slice a 512 c) (putU k u) ∧ Below w.heap.size w w' := by
  have hb1 := (Below.refl w.heap.size w).alloc (Nat.le_refl _) (.cells (ubRow u).toArray 30)
  have hA := heap_alloc_new w (.cells (ubRow u).toArray 30)
  have hT : w.heap.size < (w.alloc (.cells (ubRow u).toArray 30)).heap.size := by simp
  have HCK := Lib.hid (fun W => rucheck_any u W)
  rw [show checkU u = 0 by unfold checkU; rw [if_pos hm]] at HCK
  have HLY := Lib.hid (fun W => ruplain_any u W)
  have HMC := Lib.hid (fun (W : World) (hb : Below w.heap.size w W) (x : Value) (hx : BS W x (plainB u)) (_hrx : Room x) => rmac_any k (plainB u) v x W (hv.kept hb) hr hx hn (by rw [plainB_length]; decide))
  have HPL := Lib.hid (And.intro (plainB_length u) (plainB_byt u))
  have HML := Lib.hid (And.intro (macS_length k (plainB u)) (macS_byt k (plainB u)))
  have HE := Lib.hid (And.intro (show putU k u = plainB u ++ macS k (plainB u) from rfl) (putU_byt k u))
  have SE := Lib.hid (size_ubA u)
  have hsl := slice_hash7
  have HB1 := Lib.hid hb1
  have HA1 := Lib.hid hA
  have HT := Lib.hid hT
  clear hb1 hA hT hv hr hn hm
  unfold OwnB at HLY
  rw [HPL.out.1] at HLY
  generalize putU k u = PU at *
  generalize macS k (plainB u) = MC at *
  generalize plainB u = PB at *
  generalize (ubRow u).toArray = AR at *
  generalize hw1 : w.alloc (.cells AR 30) = w1 at *
  go_enter Tryd.func11, Tryd.ntmps11
  go_upto_region 1 with fail
  try rw [hw1]
  clear hw1
  go_wp2_with (first
    | (with_reducible refine wpList_load_row (o := ⟨some 9, _, _, _, _, _⟩) rfl 30 _ rfl w.heap.size rfl 30 AR (0, 0) _ HA1.out Tryd.underlying30 rfl SE.out ?_))
  refine (HCK.out w1).mono ?_
  rintro e w2 ⟨rfl, hb2⟩
  have HA2 := Lib.hid ((hb2.block w.heap.size HT.out).trans HA1.out)
  have HB2 := Lib.hid (HB1.out.trans (hb2.mono (Nat.le_of_lt HT.out)))
  clear hb2 HA1 HB1 HT HCK
  go_wp2_with (first
    | (with_reducible refine wpList_load_row (o := ⟨some 14, _, _, _, _, _⟩) rfl 30 _ rfl w.heap.size rfl 30 AR (0, 0) _ HA2.out Tryd.underlying30 rfl SE.out ?_))
  refine (HLY.out w2).mono ?_
  rintro e w3 ⟨a3, c3, rfl, hc3, hbs3, ho3, hb3⟩
  have HB3 := Lib.hid (HB2.out.trans (hb3.mono HB2.out.size))
  have HO3 := Lib.hid (own_low10 ho3 HB2.out.size)
  have HM4 := Lib.hid (HMC.out w3 HB3.out _ hbs3 (room_of_own ho3))
  clear hbs3 ho3 hb3 HMC HB2 HA2 HLY hc3
  go_wp2_with fail
  refine HM4.out.mono ?_
  rintro e w4 ⟨rfl, hb4⟩
  have HB4 := Lib.hid (HB3.out.trans (hb4.mono HB3.out.size))
  have HO4 := Lib.hid (own_touch HO3.out (Touch.of_below (l := []) hb4) (by simp))
  have SH := Lib.hid (size_h32 MC HML.out.1)
  have SM := Lib.hid (show (u8s (List.replicate 32 0)).size = (u8s MC).size by rw [u8s_size, u8s_size, HML.out.1]; rfl)
  clear hb4 HM4 HO3 HB3
  go_upto_region 6 with (first
    | (with_reducible refine wpList_store_row (o := ⟨none, .store _ (.tmp 8) _, _, _, _, _⟩) rfl 26 _ _ rfl w4.heap.size (u8s MC) rfl rfl 26 _ (heap_alloc_new w4 _) SH.out ?c1 (u8s_one _) ?_))
  case c1 => exact SM.out
  generalize hW5 : World.setRow _ w4.heap.size _ = W5
  obtain ⟨r5, z5, b5⟩ := fresh_row w4 (u8s (List.replicate 32 0)) (u8s MC) 26 W5 hW5.symm
  clear hW5 z5
  have hbs5 := BS.of_arr2 (show ArrB W5 w4.heap.size 26 MC from r5) HML.out.2
  rw [HML.out.1] at hbs5
  obtain ⟨a6, c6, w6, hr6, hO6⟩ := append_ostep W5 W5 w.heap.size (.slice a3 480 c3) _ PB MC (by rw [HPL.out.1]; exact own_touch HO4.out (Touch.of_below (l := []) b5) (by simp)) (Below.refl _ _) hbs5 (by rw [HPL.out.1, HML.out.1]; decide) (Nat.le_trans HB4.out.size b5.size)
  rw [HPL.out.1, HML.out.1] at hr6 hO6
  obtain ⟨a6', c6', e6, hc6, hbs6⟩ := own_bs hO6.own rfl (by rw [← HE.out.1]; exact HE.out.2)
  rw [List.length_append, HPL.out.1, HML.out.1] at e6 hc6 hbs6
  injection e6 with e7 e8 e9
  subst e7 e9
  have hrm := (room_of_own hO6.own _ _ _ rfl).2
  have HBL := Lib.hid (show Below w.heap.size w w6 from by
    refine (HB4.out.trans (b5.mono HB4.out.size)).trans (hO6.touch.below (Nat.le_trans HB4.out.size b5.size) (fun g hg => ?_))
    exact (HO4.out.lt g (by simpa using hg)).1)
  have HR6 := Lib.hid hr6
  have HF6 := Lib.hid (And.intro hc6 (And.intro hrm hbs6))
  clear r5 b5 hbs5 hr6 hO6 hc6 hbs6 e8 hrm
  go_wp2_with (first
    | (at_builtin; refine wpList_append_run (o := ⟨some 21, _, _, _, _, _⟩) rfl _ _ _ _ rfl _ _ _ _ rfl rfl HR6.out ?_))
  go_ret2
  exact ⟨_, _, rfl, HF6.out.1, HF6.out.2.1, by rw [HE.out.1]; exact HF6.out.2.2, HBL.out⟩
set_option maxRecDepth 100000 in
set_option maxHeartbeats 1600000 in
theorem ruput_bad (v : Value) (u : UbV) (w : World) (hm : mayU u = false) :
    Calls Tryd.prog 11 #[v, .agg (ubRow u).toArray] w fun e w' => e = .returned (.tuple #[.slice none 0 0, .int .i64 4]) ∧ Below w.heap.size w w' := by
  have hb1 := (Below.refl w.heap.size w).alloc (Nat.le_refl _) (.cells (ubRow u).toArray 30)
  have hA := heap_alloc_new w (.cells (ubRow u).toArray 30)
  have HCK := Lib.hid (fun W => rucheck_any u W)
  rw [show checkU u = 4 by unfold checkU; rw [if_neg (by rw [hm]; decide)]] at HCK
  have SE := Lib.hid (size_ubA u)
  have HB1 := Lib.hid hb1
  have HA1 := Lib.hid hA
  clear hb1 hA hm
  generalize (ubRow u).toArray = AR at *
  generalize hw1 : w.alloc (.cells AR 30) = w1 at *
  go_enter Tryd.func11, Tryd.ntmps11
  go_upto_region 1 with fail
  try rw [hw1]
  clear hw1
  go_wp2_with (first
    | (with_reducible refine wpList_load_row (o := ⟨some 9, _, _, _, _, _⟩) rfl 30 _ rfl w.heap.size rfl 30 AR (0, 0) _ HA1.out Tryd.underlying30 rfl SE.out ?_))
  refine (HCK.out w1).mono ?_
  rintro e w2 ⟨rfl, hb2⟩
  have HB2 := Lib.hid (HB1.out.trans (hb2.mono HB1.out.size))
  clear hb2 HA1 HB1 HCK
  go_wp2_with fail
  go_ret2
  exact ⟨rfl, HB2.out⟩
end Go.Proofs.YtocdjaenhllemaaDoor
