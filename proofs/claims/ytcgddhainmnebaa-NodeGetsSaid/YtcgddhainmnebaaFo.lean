/-
  Whether a node may be: the library's ContainsFunc with the three closures of formed; Size, Check.
-/
import Derived.Test.YtcgddhainmnebaaNo
namespace Go.Proofs.Ytcgddhainmnebaa
set_option maxRecDepth 4000
set_option linter.unusedVariables false
open Go.ChangeShapes Go.WideShapes Go.ChangeAt Go.RowKit

/-- Two strings stand in one of three ways. -/
theorem str_three (a s : ByteArray) : (lo a s = true ∧ Op.bytesLess s.toList a.toList = false ∧ (s.toList == a.toList) = false) ∨ (lo a s = false ∧ Op.bytesLess s.toList a.toList = true ∧ (s.toList == a.toList) = false) ∨ (lo a s = false ∧ Op.bytesLess s.toList a.toList = false ∧ (s.toList == a.toList) = true) := by
  have ne : ∀ {x y : ByteArray}, lo x y = true → x ≠ y := fun h e => by rw [e, lo_irr] at h; cases h
  rcases lo_tri a s with h | h | h
  · exact .inl ⟨h, lo_asymm h, by rw [str_beq, decide_eq_false (ne h).symm]⟩
  · subst h
    exact .inr (.inr ⟨lo_irr _, lo_irr _, by rw [str_beq, decide_eq_true rfl]⟩)
  · exact .inr (.inl ⟨lo_asymm h, h, by rw [str_beq, decide_eq_false (ne h)]⟩)
theorem lo_unf (a b : ByteArray) : lo a b = Op.bytesLess a.toList b.toList := rfl
set_option maxRecDepth 100000 in
set_option maxHeartbeats 1600000 in
theorem badkey_any (B : Nat) (a s : ByteArray) (w : World) (h : w.heap[B]? = some (.cells #[.string a] 9 (0, 0))) (hs : s.size ≤ 140737488351232) :
    Calls Try.prog 68 #[.string s, .pointer (some ⟨B, 0, none⟩)] w fun e w' => e = .returned (.bool (!(lo a s && decide (s.size ≤ 32)))) ∧ w' = w.setCell ⟨B, 0, none⟩ (.string s) := by
  have c0 := cell_of_row _ B 0 _ _ _ h
  have f0 := frozen_of_row w B 0 _ _ h
  simp at c0
  have hsI : (s.size : Int) ≤ 140737488351232 := by omega
  have hd : decide ((s.size : Int) > 32) = !decide (s.size ≤ 32) := by
    by_cases e : s.size ≤ 32
    · rw [decide_eq_true e]; simp; omega
    · rw [decide_eq_false e]; simp; omega
  have fin : ∀ (x y z : Bool), Op.bytesLess s.toList a.toList = x → (s.toList == a.toList) = y → decide ((32 : Int) < (s.size : Int)) = z → (!(lo a s && decide (s.size ≤ 32))) = (x || y || z) →
      Calls Try.prog 68 #[.string s, .pointer (some ⟨B, 0, none⟩)] w fun e w' => e = .returned (.bool (!(lo a s && decide (s.size ≤ 32)))) ∧ w' = w.setCell ⟨B, 0, none⟩ (.string s) := by
    intro x y z h1 h2 h3 h4
    rw [h4]
    clear h4 h hs hd
    cases x <;> cases y <;> cases z <;>
    · go_enter Try.func68, Try.ntmps68
      go_wp2_with fail
      go_ret
      exact ⟨rfl, rfl⟩
  obtain ⟨h1, h2, h3⟩ | ⟨h1, h2, h3⟩ | ⟨h1, h2, h3⟩ := str_three a s
  · exact fin _ _ _ h2 h3 rfl (by rw [h1]; simp only [Bool.true_and, Bool.false_or]; rw [show decide ((32 : Int) < (s.size : Int)) = !decide (s.size ≤ 32) from hd])
  · exact fin _ _ _ h2 h3 rfl (by rw [h1]; simp)
  · exact fin _ _ _ h2 h3 rfl (by rw [h1]; simp)
set_option maxRecDepth 100000 in
set_option maxHeartbeats 1600000 in
theorem badval_any (s : ByteArray) (w : World) (hs : s.size ≤ 140737488351232) :
    Calls Try.prog 69 #[.string s] w fun e w' => e = .returned (.bool (!valOk s)) ∧ w' = w := by
  have hsI : (s.size : Int) ≤ 140737488351232 := by omega
  have hd : valOk s = !decide ((96 : Int) < (s.size : Int)) := by
    unfold valOk
    by_cases e : s.size ≤ 96
    · rw [decide_eq_true e]; simp; omega
    · rw [decide_eq_false e]; simp; omega
  rw [hd]
  clear hd hs
  go_enter Try.func69, Try.ntmps69
  go_wp2_with fail
  go_ret
  exact ⟨by simp, rfl⟩
set_option maxRecDepth 100000 in
set_option maxHeartbeats 1600000 in
theorem badkid_any (q : PtrV) (w : World) :
    Calls Try.prog 70 #[.agg (ptrRow q).toArray] w fun e w' => e = .returned (.bool (!kidOk q)) ∧ Below w.heap.size w w' := by
  have HB := Lib.hid ((Below.refl w.heap.size w).alloc (Nat.le_refl _) (.cells (ptrRow q).toArray 57))
  have HA := Lib.hid (heap_alloc_new w (.cells (ptrRow q).toArray 57))
  have HT := Lib.hid (show w.heap.size < (w.alloc (.cells (ptrRow q).toArray 57)).heap.size by simp)
  have SE := Lib.hid (size_ptrA q)
  have HN := Lib.hid (fun W => pnull_any q W)
  have HC := Lib.hid (fun W => pcheck_any q 4096 W)
  have hk : kidOk q = (!(q.ad == 0) && decide (checkE q 4096 = 0)) := rfl
  have hck : checkE q 4096 = 0 ∨ checkE q 4096 = 4 := by unfold checkE; split <;> simp
  rw [hk]
  clear hk
  generalize (ptrRow q).toArray = AR at *
  generalize hz : (q.ad == 0) = z at *
  generalize checkE q 4096 = ce at *
  clear hz
  go_enter Try.func70, Try.ntmps70
  go_wp2_with (first
    | (with_reducible refine wpList_load_row (o := ⟨some 3, _, _, _, _, _⟩) rfl 57 _ rfl w.heap.size rfl 57 AR (0, 0) _ HA.out Try.underlying57 rfl SE.out ?_))
  refine (HN.out _).mono ?_
  rintro e w2 ⟨rfl, hb2⟩
  have HA2 := Lib.hid ((hb2.block w.heap.size HT.out).trans HA.out)
  have HB2 := Lib.hid (HB.out.trans (hb2.mono HB.out.size))
  clear hb2 HA HB HT HN
  cases z with
  | true =>
    clear hck
    go_wp2_with fail
    go_ret
    exact ⟨rfl, HB2.out⟩
  | false =>
    go_wp2_with (first
      | (with_reducible refine wpList_load_guarded (o := ⟨some 6, _, _, _, _, _⟩) (by kernel_rfl) 57 _ rfl w.heap.size rfl 57 AR (0, 0) _ HA2.out Try.underlying57 rfl SE.out ?_))
    refine (HC.out _).mono ?_
    rintro e w3 ⟨rfl, hb3⟩
    have HB3 := Lib.hid (HB2.out.trans (hb3.mono HB2.out.size))
    clear hb3 HA2 HB2
    rcases hck with rfl | rfl
    · go_wp2_with fail
      go_ret
      exact ⟨rfl, HB3.out⟩
    · go_wp2_with fail
      go_ret
      exact ⟨rfl, HB3.out⟩
set_option maxRecDepth 100000 in
set_option maxHeartbeats 1600000 in
theorem keys_at (u : Value) (l : List ByteArray) (w0 w : World) (B : Nat) (hu : SS w0 u l) (hl : l.length ≤ 140737488351232) (hz : ∀ s ∈ l, s.size ≤ 140737488351232) (hB : w0.heap.size ≤ B) (hb : Below w0.heap.size w0 w) (hc0 : w.heap[B]? = some (.cells #[.string ⟨#[]⟩] 9 (0, 0))) :
    Calls Try.prog 93 #[u, .func (.func 68) #[] #[.pointer (some ⟨B, 0, none⟩)]] w fun e w' => ∃ r : Int, e = .returned (.int .i64 r) ∧ decide (0 ≤ r) = !(risesFrom ⟨#[]⟩ l) ∧ Below w0.heap.size w0 w' := by
  obtain ⟨a, c, rfl, hc, h1⟩ := hu
  obtain ⟨n, hn⟩ : ∃ n, l.length = n := ⟨_, rfl⟩
  have H1 := Lib.hid h1
  have HN := Lib.hid hn
  have HZ := Lib.hid hz
  have HBB := Lib.hid hB
  have HB0 := Lib.hid hb
  have HC0 := Lib.hid hc0
  rw [hn] at hl ⊢
  have lI : (n : Int) ≤ 140737488351232 := by omega
  clear h1 hn hl hz hB hb hc0
  go_enter Try.func93, Try.ntmps93
  go_wp2_with fail
  go_loopw [5, 8] (fun _ v8 wr => ∃ i : Nat, i ≤ n ∧ v8 = .int .i64 (i : Int) ∧ ∃ a, wr.heap[B]? = some (.cells #[.string a] 9 (0, 0)) ∧ risesFrom ⟨#[]⟩ l = risesFrom a (l.drop i) ∧ Below w0.heap.size w0 wr) (fun _ v _ => n - (intOf v).toNat)
  case atStart => exact ⟨0, by omega, rfl, ⟨#[]⟩, HC0.out, by rw [List.drop_zero], HB0.out⟩
  case round =>
    obtain ⟨i, hi, rfl, a, hcw, hrs, hbw⟩ := hrel
    by_cases hlt : i < n
    · obtain ⟨p, hp⟩ : ∃ p, l[i]? = some p := ⟨_, List.getElem?_eq_getElem (by have := HN.out; omega)⟩
      obtain ⟨b1, o1, rfl, g1⟩ := H1.out i p hp
      have hdr : l.drop i = p :: l.drop (i + 1) := by
        obtain ⟨hx, rfl⟩ := List.getElem?_eq_some_iff.1 hp
        exact List.drop_eq_getElem_cons hx
      have hix := index_sl b1 o1 n c i hlt
      have g1' := (hbw.cell (p := ⟨b1, o1 + i, none⟩) (block_lt_of_cell g1)).trans g1
      have HK := Lib.hid (badkey_any B a p wr hcw (HZ.out p (List.mem_of_getElem? hp)))
      have HR := Lib.hid (show risesFrom ⟨#[]⟩ l = ((lo a p && decide (p.size ≤ 32)) && risesFrom p (l.drop (i + 1))) by rw [hrs, hdr]; rfl)
      have HW := Lib.hid (show (wr.setCell ⟨B, 0, none⟩ (.string p)).heap[B]? = some (.cells #[.string p] 9 (0, 0)) from heap_setCell_same _ _ _ _ _ _ hcw)
      have HB := Lib.hid (hbw.setCell (p := ⟨B, 0, none⟩) HBB.out (.string p))
      have HLT := Lib.hid hlt
      have iI : (i : Int) < (n : Int) := by omega
      have i0 : (0 : Int) ≤ (i : Int) := by omega
      clear hi hlt hp hdr g1 hcw hrs hbw
      go_wp2_with fail
      refine HK.out.mono ?_
      rintro e w2 ⟨rfl, rfl⟩
      clear HK
      cases hg : (lo a p && decide (p.size ≤ 32)) with
      | false =>
        go_wp2_with fail
        go_ret
        exact ⟨(i : Int), rfl, by rw [HR.out, hg]; simp, HB.out⟩
      | true =>
        go_wp2_with fail
        go_roundw
        case rel => exact ⟨i + 1, by have := HLT.out; omega, by go_num, p, HW.out, by rw [HR.out, hg, Bool.true_and], HB.out⟩
        case measure => simp [intOf]; have := HLT.out; omega
    · obtain rfl : i = n := by omega
      have HE := Lib.hid (show risesFrom ⟨#[]⟩ l = true by rw [hrs, List.drop_eq_nil_of_le (by have := HN.out; omega)]; rfl)
      have HB := Lib.hid hbw
      clear hi hlt hcw hrs hbw
      go_wp2_with fail
      go_ret
      exact ⟨-1, rfl, by rw [HE.out]; decide, HB.out⟩
set_option maxRecDepth 100000 in
set_option maxHeartbeats 1600000 in
theorem keys_any (u : Value) (l : List ByteArray) (w0 w : World) (B : Nat) (hu : SS w0 u l) (hl : l.length ≤ 140737488351232) (hz : ∀ s ∈ l, s.size ≤ 140737488351232) (hB : w0.heap.size ≤ B) (hb : Below w0.heap.size w0 w) (hc0 : w.heap[B]? = some (.cells #[.string ⟨#[]⟩] 9 (0, 0))) :
    Calls Try.prog 73 #[u, .func (.func 68) #[] #[.pointer (some ⟨B, 0, none⟩)]] w fun e w' => e = .returned (.bool (!(risesFrom ⟨#[]⟩ l))) ∧ Below w0.heap.size w0 w' := by
  have HX := Lib.hid (keys_at u l w0 w B hu hl hz hB hb hc0)
  clear hu hl hz hB hb hc0
  go_enter Try.func73, Try.ntmps73
  go_wp2_with fail
  refine HX.out.mono ?_
  rintro e w1 ⟨r, rfl, hr, hb⟩
  have HB := Lib.hid hb
  clear HX hb
  cases hq : (risesFrom ⟨#[]⟩ l) with
  | true =>
    have hr0 : decide (0 ≤ r) = false := by rw [hr, hq]; rfl
    have HQ := Lib.hid hq
    clear hr hq
    go_wp2_with fail
    go_ret
    rw [HQ.out]
    exact ⟨rfl, HB.out⟩
  | false =>
    have hr0 : decide (0 ≤ r) = true := by rw [hr, hq]; rfl
    have HQ := Lib.hid hq
    clear hr hq
    go_wp2_with fail
    go_ret
    rw [HQ.out]
    exact ⟨rfl, HB.out⟩
set_option maxRecDepth 100000 in
set_option maxHeartbeats 1600000 in
theorem vals_at (u : Value) (l : List ByteArray) (w0 w : World) (hu : SS w0 u l) (hl : l.length ≤ 140737488351232) (hz : ∀ s ∈ l, s.size ≤ 140737488351232) (hb : Below w0.heap.size w0 w) :
    Calls Try.prog 93 #[u, .func (.func 69) #[] #[]] w fun e w' => ∃ r : Int, e = .returned (.int .i64 r) ∧ decide (0 ≤ r) = !(l.all valOk) ∧ Below w0.heap.size w0 w' := by
  obtain ⟨a, c, rfl, hc, h1⟩ := hu
  obtain ⟨n, hn⟩ : ∃ n, l.length = n := ⟨_, rfl⟩
  have H1 := Lib.hid h1
  have HN := Lib.hid hn
  have HZ := Lib.hid hz
  have HB0 := Lib.hid hb
  rw [hn] at hl ⊢
  have lI : (n : Int) ≤ 140737488351232 := by omega
  clear h1 hn hl hz hb
  go_enter Try.func93, Try.ntmps93
  go_wp2_with fail
  go_loopw [5, 8] (fun _ v8 wr => ∃ i : Nat, i ≤ n ∧ v8 = .int .i64 (i : Int) ∧ l.all valOk = (l.drop i).all valOk ∧ Below w0.heap.size w0 wr) (fun _ v _ => n - (intOf v).toNat)
  case atStart => exact ⟨0, by omega, rfl, by rw [List.drop_zero], HB0.out⟩
  case round =>
    obtain ⟨i, hi, rfl, hrs, hbw⟩ := hrel
    by_cases hlt : i < n
    · obtain ⟨p, hp⟩ : ∃ p, l[i]? = some p := ⟨_, List.getElem?_eq_getElem (by have := HN.out; omega)⟩
      obtain ⟨b1, o1, rfl, g1⟩ := H1.out i p hp
      have hdr : l.drop i = p :: l.drop (i + 1) := by
        obtain ⟨hx, rfl⟩ := List.getElem?_eq_some_iff.1 hp
        exact List.drop_eq_getElem_cons hx
      have hix := index_sl b1 o1 n c i hlt
      have g1' := (hbw.cell (p := ⟨b1, o1 + i, none⟩) (block_lt_of_cell g1)).trans g1
      have HK := Lib.hid (badval_any p wr (HZ.out p (List.mem_of_getElem? hp)))
      have HR := Lib.hid (show l.all valOk = (valOk p && (l.drop (i + 1)).all valOk) by rw [hrs, hdr]; rfl)
      have HB := Lib.hid hbw
      have HLT := Lib.hid hlt
      have iI : (i : Int) < (n : Int) := by omega
      have i0 : (0 : Int) ≤ (i : Int) := by omega
      clear hi hlt hp hdr g1 hrs hbw
      go_wp2_with fail
      refine HK.out.mono ?_
      rintro e w2 ⟨rfl, rfl⟩
      clear HK
      cases hg : valOk p with
      | false =>
        go_wp2_with fail
        go_ret
        exact ⟨(i : Int), rfl, by rw [HR.out, hg]; simp, HB.out⟩
      | true =>
        go_wp2_with fail
        go_roundw
        case rel => exact ⟨i + 1, by have := HLT.out; omega, by go_num, by rw [HR.out, hg, Bool.true_and], HB.out⟩
        case measure => simp [intOf]; have := HLT.out; omega
    · obtain rfl : i = n := by omega
      have HE := Lib.hid (show l.all valOk = true by rw [hrs, List.drop_eq_nil_of_le (by have := HN.out; omega)]; rfl)
      have HB := Lib.hid hbw
      clear hi hlt hrs hbw
      go_wp2_with fail
      go_ret
      exact ⟨-1, rfl, by rw [HE.out]; decide, HB.out⟩
set_option maxRecDepth 100000 in
set_option maxHeartbeats 1600000 in
theorem vals_any (u : Value) (l : List ByteArray) (w0 w : World) (hu : SS w0 u l) (hl : l.length ≤ 140737488351232) (hz : ∀ s ∈ l, s.size ≤ 140737488351232) (hb : Below w0.heap.size w0 w) :
    Calls Try.prog 73 #[u, .func (.func 69) #[] #[]] w fun e w' => e = .returned (.bool (!(l.all valOk))) ∧ Below w0.heap.size w0 w' := by
  have HX := Lib.hid (vals_at u l w0 w hu hl hz hb)
  clear hu hl hz hb
  go_enter Try.func73, Try.ntmps73
  go_wp2_with fail
  refine HX.out.mono ?_
  rintro e w1 ⟨r, rfl, hr, hb⟩
  have HB := Lib.hid hb
  clear HX hb
  cases hq : (l.all valOk) with
  | true =>
    have hr0 : decide (0 ≤ r) = false := by rw [hr, hq]; rfl
    have HQ := Lib.hid hq
    clear hr hq
    go_wp2_with fail
    go_ret
    rw [HQ.out]
    exact ⟨rfl, HB.out⟩
  | false =>
    have hr0 : decide (0 ≤ r) = true := by rw [hr, hq]; rfl
    have HQ := Lib.hid hq
    clear hr hq
    go_wp2_with fail
    go_ret
    rw [HQ.out]
    exact ⟨rfl, HB.out⟩
set_option maxRecDepth 100000 in
set_option maxHeartbeats 1600000 in
theorem kids_at (u : Value) (l : List PtrV) (w0 w : World) (hu : PS w0 u l) (hl : l.length ≤ 140737488351232) (hb : Below w0.heap.size w0 w) :
    Calls Try.prog 94 #[u, .func (.func 70) #[] #[]] w fun e w' => ∃ r : Int, e = .returned (.int .i64 r) ∧ decide (0 ≤ r) = !(l.all kidOk) ∧ Below w0.heap.size w0 w' := by
  obtain ⟨a, c, rfl, h1⟩ := hu
  obtain ⟨n, hn⟩ : ∃ n, l.length = n := ⟨_, rfl⟩
  have H1 := Lib.hid h1
  have HN := Lib.hid hn
  have HB0 := Lib.hid hb
  rw [hn] at hl ⊢
  have lI : (n : Int) ≤ 140737488351232 := by omega
  clear h1 hn hl hb
  go_enter Try.func94, Try.ntmps94
  go_wp2_with fail
  go_loopw [5, 8] (fun _ v8 wr => ∃ i : Nat, i ≤ n ∧ v8 = .int .i64 (i : Int) ∧ l.all kidOk = (l.drop i).all kidOk ∧ Below w0.heap.size w0 wr) (fun _ v _ => n - (intOf v).toNat)
  case atStart => exact ⟨0, by omega, rfl, by rw [List.drop_zero], HB0.out⟩
  case round =>
    obtain ⟨i, hi, rfl, hrs, hbw⟩ := hrel
    by_cases hlt : i < n
    · obtain ⟨p, hp⟩ : ∃ p, l[i]? = some p := ⟨_, List.getElem?_eq_getElem (by have := HN.out; omega)⟩
      obtain ⟨b1, o1, rfl, g1⟩ := H1.out i p hp
      have hdr : l.drop i = p :: l.drop (i + 1) := by
        obtain ⟨hx, rfl⟩ := List.getElem?_eq_some_iff.1 hp
        exact List.drop_eq_getElem_cons hx
      have hix := index_ptr b1 o1 n c i hlt
      have HRG := Lib.hid (range_below g1 hbw)
      have HK := Lib.hid (badkid_any p wr)
      have HR := Lib.hid (show l.all kidOk = (kidOk p && (l.drop (i + 1)).all kidOk) by rw [hrs, hdr]; rfl)
      have HBW := Lib.hid hbw
      have SWC := Lib.hid (size_ptr p)
      have HLT := Lib.hid hlt
      have iI : (i : Int) < (n : Int) := by omega
      have i0 : (0 : Int) ≤ (i : Int) := by omega
      clear hi hlt hp hdr g1 hrs hbw
      go_wp2_with (first
        | (with_reducible refine wpList_load_mid (op := ⟨some 15, _, _, _, _, _⟩) rfl 57 _ rfl b1 (o1 + i * 34) rfl (ptrRow p) _ HRG.out Try.underlying57 rfl SWC.out ?_))
      refine HK.out.mono ?_
      rintro e w2 ⟨rfl, hb2⟩
      have HB := Lib.hid (HBW.out.trans (hb2.mono HBW.out.size))
      clear HK hb2 HBW HRG SWC
      cases hg : kidOk p with
      | false =>
        go_wp2_with fail
        go_ret
        exact ⟨(i : Int), rfl, by rw [HR.out, hg]; simp, HB.out⟩
      | true =>
        go_wp2_with fail
        go_roundw
        case rel => exact ⟨i + 1, by have := HLT.out; omega, by go_num, by rw [HR.out, hg, Bool.true_and], HB.out⟩
        case measure => simp [intOf]; have := HLT.out; omega
    · obtain rfl : i = n := by omega
      have HE := Lib.hid (show l.all kidOk = true by rw [hrs, List.drop_eq_nil_of_le (by have := HN.out; omega)]; rfl)
      have HB := Lib.hid hbw
      clear hi hlt hrs hbw
      go_wp2_with fail
      go_ret
      exact ⟨-1, rfl, by rw [HE.out]; decide, HB.out⟩
set_option maxRecDepth 100000 in
set_option maxHeartbeats 1600000 in
theorem kids_any (u : Value) (l : List PtrV) (w0 w : World) (hu : PS w0 u l) (hl : l.length ≤ 140737488351232) (hb : Below w0.heap.size w0 w) :
    Calls Try.prog 74 #[u, .func (.func 70) #[] #[]] w fun e w' => e = .returned (.bool (!(l.all kidOk))) ∧ Below w0.heap.size w0 w' := by
  have HX := Lib.hid (kids_at u l w0 w hu hl hb)
  clear hu hl hb
  go_enter Try.func74, Try.ntmps74
  go_wp2_with fail
  refine HX.out.mono ?_
  rintro e w1 ⟨r, rfl, hr, hb⟩
  have HB := Lib.hid hb
  clear HX hb
  cases hq : (l.all kidOk) with
  | true =>
    have hr0 : decide (0 ≤ r) = false := by rw [hr, hq]; rfl
    have HQ := Lib.hid hq
    clear hr hq
    go_wp2_with fail
    go_ret
    rw [HQ.out]
    exact ⟨rfl, HB.out⟩
  | false =>
    have hr0 : decide (0 ≤ r) = true := by rw [hr, hq]; rfl
    have HQ := Lib.hid hq
    clear hr hq
    go_wp2_with fail
    go_ret
    rw [HQ.out]
    exact ⟨rfl, HB.out⟩
end Go.Proofs.Ytcgddhainmnebaa
