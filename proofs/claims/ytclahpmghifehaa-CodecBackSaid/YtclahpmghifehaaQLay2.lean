/-
  The reference of layer 7: Lay.
-/
import Derived.Test.YtclahpmghifehaaRd
import Derived.Test.YtclahpmghifehaaQLay
namespace Go.Proofs.Ytclahpmghifehaa
open Go.RowKit

/-- What an act lays behind n bytes, and the answer. -/
def layM (n : Nat) (q : LayV) : List Int × Int :=
  if q.kd = 1 then strW q.s else if q.kd = 2 then (q.h, 0) else if q.kd = 3 then (q.bl, 0) else if q.kd = 4 then padW n q.sz else numW (q.n : Int) q.sz
structure LayV.Ok (w : World) (q : LayV) : Prop where
  hash : q.h.length = 32
  hbyt : Byt q.h
  bs : BS w (.slice q.ab q.lb q.cb) q.bl
  len : q.bl.length = q.lb
  cap : q.lb ≤ q.cb
  num : q.n < 18446744073709551616
  big : q.lb ≤ 140737488351232
  str : q.s.size ≤ 140737488351232
  sz0 : -9223372036854775808 ≤ q.sz
  sz1 : q.sz ≤ 9223372036854775807
theorem LayV.Ok.below {w w' : World} {q : LayV} (h : q.Ok w) (b : Below w.heap.size w w') : q.Ok w' :=
  ⟨h.hash, h.hbyt, h.bs.kept b, h.len, h.cap, h.num, h.big, h.str, h.sz0, h.sz1⟩
/-- A row of one's own before and behind a step. -/
structure OStep (w w' : World) (B : Nat) (v v' : Value) (l : List Int) : Prop where
  own : w'.ownsRow B 5 1 v' l.length (l.map (Value.int .u8))
  touch : Touch v.ownBlock.toList w w'
  new : v'.ownBlock = v.ownBlock ∨ ∃ g, v'.ownBlock = some g ∧ w.heap.size ≤ g
theorem ostep_refl {w w' : World} {B : Nat} {v : Value} {l : List Int} (h : w.ownsRow B 5 1 v l.length (l.map (Value.int .u8))) (b : Below w.heap.size w w') : OStep w w' B v v l :=
  ⟨own_touch h (Touch.of_below (l := []) b) (by simp), Touch.of_below b, .inl rfl⟩
theorem append_ostep (w0 w : World) (B : Nat) (v vx : Value) (l x : List Int) (h : w0.ownsRow B 5 1 v l.length (l.map (Value.int .u8))) (hb0 : Below w0.heap.size w0 w) (hB : BS w vx x) (h63 : l.length + x.length ≤ 140737488351232) (hbase : B ≤ w0.heap.size) :
    ∃ a c w', (Builtin.append_ #[25, 25] 25 #[v, vx]).run Try.prog w = .ok (.slice a (l.length + x.length) c) w' ∧ OStep w0 w' B v (.slice a (l.length + x.length) c) (l ++ x) := by
  have h' := own_touch h (Touch.of_below (l := []) hb0) (by simp)
  obtain ⟨v', w', h1, h2, h3, h4⟩ := run_append_BS_at w B l.length v vx _ x h' hB h63 (Nat.le_trans hbase hb0.size)
  obtain ⟨a1, cp1, rfl⟩ : ∃ a1 cp1, v' = .slice a1 (l.length + x.length) cp1 := by
    rcases h2.2 with ⟨h5, h6⟩ | ⟨g', c, cur, h5, _⟩
    · exact ⟨_, _, by rw [h5, h6]⟩
    · exact ⟨_, _, h5⟩
  refine ⟨a1, cp1, w', h1, ?_, (Touch.of_below hb0).trans (Touch.grown h3), ?_⟩
  · rw [List.length_append, List.map_append]; exact h2
  · rcases h4 with h4 | h4
    · exact .inl h4
    · exact .inr ⟨_, h4, hb0.size⟩
theorem zeros_ostep (w0 w : World) (B : Nat) (v : Value) (l : List Int) (m : Nat) (h : w0.ownsRow B 5 1 v l.length (l.map (Value.int .u8))) (hb0 : Below w0.heap.size w0 w) (h63 : l.length + m ≤ 1000000) (hbase : B ≤ w0.heap.size) :
    ∃ a c w', (Builtin.append_ #[25, 3] 25 #[v, .int .i64 (m : Int)]).run Try.prog w = .ok (.slice a (l.length + m) c) w' ∧ OStep w0 w' B v (.slice a (l.length + m) c) (l ++ List.replicate m 0) := by
  have h' := own_touch h (Touch.of_below (l := []) hb0) (by simp)
  obtain ⟨v', w', h1, h2, h3, h4⟩ := run_append_zeros7 w B l.length m v _ 25 h' h63 (Nat.le_trans hbase hb0.size)
  obtain ⟨a1, cp1, rfl⟩ : ∃ a1 cp1, v' = .slice a1 (l.length + m) cp1 := by
    rcases h2.2 with ⟨h5, h6⟩ | ⟨g', c, cur, h5, _⟩
    · exact ⟨_, _, by rw [h5, h6]⟩
    · exact ⟨_, _, h5⟩
  refine ⟨a1, cp1, w', h1, ?_, (Touch.of_below hb0).trans (Touch.grown h3), ?_⟩
  · rw [List.length_append, List.map_append, List.length_replicate, List.map_replicate]; exact h2
  · rcases h4 with h4 | h4
    · exact .inl h4
    · exact .inr ⟨_, h4, hb0.size⟩
def RLay (w : World) (B : Nat) (v : Value) (l : List Int) (q : LayV) : Prop :=
  Calls Try.prog 12 #[v, .agg (layRow q).toArray] w fun e w' => ∃ a n c, e = .returned (.tuple #[.slice a n c, .int .i64 (layM l.length q).2]) ∧ OStep w w' B v (.slice a n c) (l ++ (layM l.length q).1)
set_option maxRecDepth 100000 in
set_option maxHeartbeats 3200000 in
theorem rlay_str (w : World) (B : Nat) (v : Value) (l : List Int) (q : LayV) (h : w.ownsRow B 5 1 v l.length (l.map (Value.int .u8))) (hy : Byt l) (hq : q.Ok w) (hl : l.length ≤ 140737488200000) (hB : B ≤ w.heap.size) (hk : q.kd = 1) : RLay w B v l q := by
  unfold RLay
  rw [show layM l.length q = strW q.s by unfold layM; rw [if_pos hk]]
  obtain ⟨av, cv, rfl, _, hbs⟩ := own_bs h rfl hy
  have hb0 := (Below.refl w.heap.size w).alloc (Nat.le_refl _) (.cells (layRow q).toArray 32)
  have hAt := lay_at (heap_alloc_new w (.cells (layRow q).toArray 32)) hq.hash
  obtain ⟨kd, sz, n, s, hh, ab, lb, cb, bl⟩ := q
  dsimp only at hk hAt ⊢
  subst hk
  obtain ⟨c0, c1, c2, c3, c4, _⟩ := hAt
  have sI : (s.size : Int) ≤ 140737488351232 := by have := hq.str; dsimp only at this; omega
  generalize (layRow _).toArray = AR at *
  by_cases hc : 255 < s.size
  · rw [show strW s = ([], 2) by unfold strW; rw [if_pos hc]]
    have HO := Lib.hid (show OStep w (w.alloc (.cells AR 32)) B _ _ (l ++ []) by rw [List.append_nil]; exact ostep_refl h hb0)
    have hcI : (255 : Int) < (s.size : Int) := by omega
    clear h hy hq hl hB hc hb0 hbs
    go_enter Try.func12, Try.ntmps12
    go_wp2_with fail
    go_ret2
    exact ⟨_, _, _, rfl, HO.out⟩
  · rw [show strW s = ((s.size : Int) :: btxt s, 0) by unfold strW; rw [if_neg hc]]
    have hcI : (s.size : Int) ≤ 255 := by omega
    have HS := Lib.hid (rstr7_any s (w.alloc (.cells AR 32)) (by omega))
    have HW := Lib.hid (And.intro h (And.intro hl (And.intro hB hb0)))
    have HC := Lib.hid hc
    clear h hy hq hl hB hc hb0 hbs
    go_enter Try.func12, Try.ntmps12
    go_wp2_with fail
    refine HS.out.mono ?_
    rintro e w1 ⟨a1, c1', rfl, ho1, hb1⟩
    have hb01 := HW.out.2.2.2.trans (hb1.mono HW.out.2.2.2.size)
    obtain ⟨a2, c2', w2, hr, hO⟩ := append_ostep w w1 B _ _ l ((s.size : Int) :: btxt s) HW.out.1 hb01 (BS.of_own ho1 (by simp [btxt_length]; omega) (by
      intro z hz
      rcases List.mem_cons.1 hz with rfl | hz
      · omega
      · exact btxt_byt s z hz)) (by simp only [List.length_cons, btxt_length]; have := HC.out; have := HW.out.2.1; omega) HW.out.2.2.1
    have HR := Lib.hid hr
    have HO := Lib.hid hO
    clear ho1 hb1 hb01 hr hO HS HW
    go_wp2_with (first
      | (at_builtin; refine wpList_append_run (o := ⟨some 21, _, _, _, _, _⟩) rfl _ _ _ _ rfl _ _ _ _ rfl rfl HR.out ?_))
    go_ret2
    exact ⟨_, _, _, rfl, HO.out⟩
set_option maxRecDepth 100000 in
set_option maxHeartbeats 3200000 in
theorem rlay_raw (w : World) (B : Nat) (v : Value) (l : List Int) (q : LayV) (h : w.ownsRow B 5 1 v l.length (l.map (Value.int .u8))) (hy : Byt l) (hq : q.Ok w) (hl : l.length + q.lb ≤ 140737488200000) (hB : B ≤ w.heap.size) (hk : q.kd = 3) : RLay w B v l q := by
  unfold RLay
  rw [show layM l.length q = (q.bl, 0) by unfold layM; rw [if_neg (by omega), if_neg (by omega), if_pos hk]]
  obtain ⟨av, cv, rfl, _, hbs⟩ := own_bs h rfl hy
  have hb0 := (Below.refl w.heap.size w).alloc (Nat.le_refl _) (.cells (layRow q).toArray 32)
  have hAt := lay_at (heap_alloc_new w (.cells (layRow q).toArray 32)) hq.hash
  obtain ⟨kd, sz, n, s, hh, ab, lb, cb, bl⟩ := q
  dsimp only at hk hAt hl ⊢
  subst hk
  obtain ⟨c0, c1, c2, c3, c4, _⟩ := hAt
  generalize (layRow _).toArray = AR at *
  have hln := hq.len
  dsimp only at hln
  obtain ⟨a2, c2', w2, hr, hO⟩ := append_ostep w (w.alloc (.cells AR 32)) B _ _ l bl h hb0 (hq.bs.kept hb0) (by omega) hB
  have HR := Lib.hid hr
  have HO := Lib.hid hO
  clear h hy hq hl hB hb0 hbs hr hO hln
  go_enter Try.func12, Try.ntmps12
  go_wp2_with (first
    | (at_builtin; refine wpList_append_run (o := ⟨some 33, _, _, _, _, _⟩) rfl _ _ _ _ rfl _ _ _ _ rfl rfl HR.out ?_))
  go_ret2
  exact ⟨_, _, _, rfl, HO.out⟩
theorem slice_hash_mid (g o : Nat) (W : World) : (Instr.sliceAt 30 (.pointer (some ⟨g, o, none⟩)) none none none).run Try.prog W = .ok (.slice (some ⟨g, o, none⟩) 32 32) W := by
  obtain ⟨i0, hi0, _⟩ := Option.map_eq_some_iff.1 yone
  simp [Instr.sliceAt, run_underlying Try.underlying30, Instr.sureAddr, Instr.sliceBounds, sizeOf, typeInfo, hi0, Addr.add]
set_option maxRecDepth 100000 in
set_option maxHeartbeats 3200000 in
theorem rlay_hash (w : World) (B : Nat) (v : Value) (l : List Int) (q : LayV) (h : w.ownsRow B 5 1 v l.length (l.map (Value.int .u8))) (hy : Byt l) (hq : q.Ok w) (hl : l.length ≤ 140737488200000) (hB : B ≤ w.heap.size) (hk : q.kd = 2) : RLay w B v l q := by
  unfold RLay
  rw [show layM l.length q = (q.h, 0) by unfold layM; rw [if_neg (by omega), if_pos hk]]
  obtain ⟨av, cv, rfl, _, hbs⟩ := own_bs h rfl hy
  have hb0 := (Below.refl w.heap.size w).alloc (Nat.le_refl _) (.cells (layRow q).toArray 32)
  have hAt := lay_at (heap_alloc_new w (.cells (layRow q).toArray 32)) hq.hash
  have hHL := hq.hash
  have hHB := hq.hbyt
  obtain ⟨kd, sz, n, s, hh, ab, lb, cb, bl⟩ := q
  dsimp only at hk hAt hHL hHB ⊢
  subst hk
  obtain ⟨c0, c1, c2, c3, c4, c5⟩ := hAt
  generalize (layRow _).toArray = AR at *
  have hBS : BS (w.alloc (.cells AR 32)) (.slice (some ⟨w.heap.size, 4, none⟩) 32 32) hh := by
    refine ⟨some ⟨w.heap.size, 4, none⟩, 32, by rw [hHL], hHB, nofun, .inr ⟨w.heap.size, 4, rfl, fun i hi => ?_⟩⟩
    exact c5 i _ (by rw [List.getElem?_map, List.getElem?_eq_getElem hi]; simp [List.getD, hi])
  obtain ⟨a2, c2', w2, hr, hO⟩ := append_ostep w (w.alloc (.cells AR 32)) B _ _ l hh h hb0 hBS (by omega) hB
  rw [hHL] at hr hO
  have HR := Lib.hid hr
  have HO := Lib.hid hO
  have hsl := slice_hash_mid w.heap.size 4
  clear h hy hq hl hB hb0 hbs hr hO hBS c5
  go_enter Try.func12, Try.ntmps12
  go_wp2_with (first
    | (at_builtin; refine wpList_append_run (o := ⟨some 27, _, _, _, _, _⟩) rfl _ _ _ _ rfl _ _ _ _ rfl rfl HR.out ?_))
  go_ret2
  exact ⟨_, _, _, rfl, HO.out⟩
set_option maxRecDepth 100000 in
set_option maxHeartbeats 3200000 in
theorem rlay_pad (w : World) (B : Nat) (v : Value) (l : List Int) (q : LayV) (h : w.ownsRow B 5 1 v l.length (l.map (Value.int .u8))) (hy : Byt l) (hq : q.Ok w) (hl : l.length ≤ 140737488200000) (hB : B ≤ w.heap.size) (hk : q.kd = 4) : RLay w B v l q := by
  unfold RLay
  rw [show layM l.length q = padW l.length q.sz by unfold layM; rw [if_neg (by omega), if_neg (by omega), if_neg (by omega), if_pos hk]]
  obtain ⟨av, cv, rfl, _, hbs⟩ := own_bs h rfl hy
  have hb0 := (Below.refl w.heap.size w).alloc (Nat.le_refl _) (.cells (layRow q).toArray 32)
  have hAt := lay_at (heap_alloc_new w (.cells (layRow q).toArray 32)) hq.hash
  obtain ⟨kd, sz, n, s, hh, ab, lb, cb, bl⟩ := q
  dsimp only at hk hAt ⊢
  subst hk
  obtain ⟨c0, c1, c2, c3, c4, _⟩ := hAt
  generalize (layRow _).toArray = AR at *
  have lI : (l.length : Int) ≤ 140737488200000 := by omega
  by_cases hc : 65536 < sz
  · rw [show padW l.length sz = ([], 2) by unfold padW; rw [if_pos (.inl hc)]]
    have HO := Lib.hid (show OStep w (w.alloc (.cells AR 32)) B _ _ (l ++ []) by rw [List.append_nil]; exact ostep_refl h hb0)
    clear h hy hq hl hB hb0 hbs
    go_enter Try.func12, Try.ntmps12
    go_wp2_with fail
    go_ret2
    exact ⟨_, _, _, rfl, HO.out⟩
  · by_cases hd : sz < (l.length : Int)
    · rw [show padW l.length sz = ([], 2) by unfold padW; rw [if_pos (.inr hd)]]
      have HO := Lib.hid (show OStep w (w.alloc (.cells AR 32)) B _ _ (l ++ []) by rw [List.append_nil]; exact ostep_refl h hb0)
      have hc2 : sz ≤ 65536 := by omega
      clear h hy hq hl hB hb0 hbs hc
      go_enter Try.func12, Try.ntmps12
      go_wp2_with fail
      go_ret2
      exact ⟨_, _, _, rfl, HO.out⟩
    · rw [show padW l.length sz = (List.replicate (sz.toNat - l.length) 0, 0) by unfold padW; rw [if_neg (by omega)]]
      obtain ⟨m, rfl⟩ : ∃ m : Nat, sz = ((l.length + m : Nat) : Int) := ⟨sz.toNat - l.length, by omega⟩
      rw [show ((l.length + m : Nat) : Int).toNat - l.length = m by omega]
      have hm : m ≤ 65536 := by omega
      have mI : (m : Int) ≤ 65536 := by omega
      have hc2 : (l.length : Int) + (m : Int) ≤ 65536 := by omega
      have hd2 : (l.length : Int) ≤ (l.length : Int) + (m : Int) := by omega
      rw [show ((l.length + m : Nat) : Int) = (l.length : Int) + (m : Int) by omega] at *
      have hsub : (l.length : Int) + (m : Int) - (l.length : Int) = (m : Int) := by omega
      obtain ⟨a2, c2', w2, hr, hO⟩ := zeros_ostep w (w.alloc (.cells AR 32)) B _ l m h hb0 (by omega) hB
      have HR := Lib.hid hr
      have HO := Lib.hid hO
      clear h hy hq hl hB hb0 hbs hc hd hr hO hm
      go_enter Try.func12, Try.ntmps12
      go_wp2_with (first
        | (at_builtin; refine wpList_append_run (o := ⟨some 53, _, _, _, _, _⟩) rfl _ _ _ _ rfl _ _ _ _ rfl rfl HR.out ?_))
      go_ret2
      exact ⟨_, _, _, rfl, HO.out⟩
/-- The reference's Put, as one function. -/
theorem rput_any7 (x n : Int) (w : World) (h0 : 0 ≤ x) (h1 : x < 18446744073709551616) :
    Calls Try.prog 29 #[.int .u64 x, .int .i64 n] w fun e w' => ∃ a m c, e = .returned (.tuple #[.slice a m c, .int .i64 (numW x n).2]) ∧ BS w' (.slice a m c) (numW x n).1 ∧ Below w.heap.size w w' := by
  by_cases hr : n < 0 ∨ 8 < n
  · rw [show numW x n = ([], 2) by unfold numW; rw [if_pos (by omega)]]
    refine (rput_range x n w hr).mono ?_
    rintro e w1 ⟨rfl, rfl⟩
    exact ⟨_, _, _, rfl, bs_nil _, Below.refl _ _⟩
  · obtain ⟨m, rfl⟩ : ∃ m : Nat, n = (m : Int) := ⟨n.toNat, by omega⟩
    refine (rput_loop x m w (by omega) h0 h1).mono ?_
    have hp : (0 : Int) < 256 ^ m := Int.pow_pos (by decide)
    rintro e w1 ⟨hb, ⟨hz, rfl, ho⟩ | ⟨hz, rfl⟩⟩
    · have hlt : x < 256 ^ m := by
        have := Int.lt_mul_ediv_self_add (x := x) hp
        rw [hz] at this; omega
      rw [show numW x (m : Int) = (putI x m, 0) by unfold numW; rw [if_neg (by rw [Int.toNat_natCast, pow_bytes]; omega)]; rfl]
      exact ⟨_, _, _, rfl, BS.of_own ho (putI_length x m) (putI_byt x m), hb⟩
    · have hge : 256 ^ m ≤ x := Int.le_of_not_gt fun hlt => hz (Int.ediv_eq_zero_of_lt h0 hlt)
      rw [show numW x (m : Int) = ([], 2) by unfold numW; rw [if_pos (.inr (.inr (by rw [Int.toNat_natCast, pow_bytes]; exact hge)))]]
      exact ⟨_, _, _, rfl, bs_nil _, hb⟩
theorem numW_len (x n : Int) : (numW x n).1.length ≤ 8 := by
  unfold numW
  split
  · simp
  · rw [putI_length]; omega
set_option maxRecDepth 100000 in
set_option maxHeartbeats 3200000 in
theorem rlay_num (w : World) (B : Nat) (v : Value) (l : List Int) (q : LayV) (h : w.ownsRow B 5 1 v l.length (l.map (Value.int .u8))) (hy : Byt l) (hq : q.Ok w) (hl : l.length ≤ 140737488200000) (hB : B ≤ w.heap.size) (hk1 : q.kd ≠ 1) (hk2 : q.kd ≠ 2) (hk3 : q.kd ≠ 3) (hk4 : q.kd ≠ 4) : RLay w B v l q := by
  unfold RLay
  rw [show layM l.length q = numW (q.n : Int) q.sz by unfold layM; rw [if_neg hk1, if_neg hk2, if_neg hk3, if_neg hk4]]
  obtain ⟨av, cv, rfl, _, hbs⟩ := own_bs h rfl hy
  have hb0 := (Below.refl w.heap.size w).alloc (Nat.le_refl _) (.cells (layRow q).toArray 32)
  have hAt := lay_at (heap_alloc_new w (.cells (layRow q).toArray 32)) hq.hash
  have hnum := hq.num
  obtain ⟨kd, sz, n, s, hh, ab, lb, cb, bl⟩ := q
  dsimp only at hk1 hk2 hk3 hk4 hAt hnum ⊢
  have e1 : (kd == 1) = false := by simp [hk1]
  have e2 : (kd == 2) = false := by simp [hk2]
  have e3 : (kd == 3) = false := by simp [hk3]
  have e4 : (kd == 4) = false := by simp [hk4]
  obtain ⟨c0, c1, c2, c3, c4, _⟩ := hAt
  generalize (layRow _).toArray = AR at *
  have HP := Lib.hid (rput_any7 (n : Int) sz (w.alloc (.cells AR 32)) (by omega) (by omega))
  have HL := Lib.hid (numW_len (n : Int) sz)
  have HW := Lib.hid (And.intro h (And.intro hl (And.intro hB hb0)))
  generalize numW (n : Int) sz = Q at *
  obtain ⟨q1, q2⟩ := Q
  dsimp only at HP HL ⊢
  clear h hy hq hl hB hb0 hbs hk1 hk2 hk3 hk4 hnum
  go_enter Try.func12, Try.ntmps12
  go_wp2_with fail
  refine HP.out.mono ?_
  rintro e w1 ⟨a1, m1, c1', rfl, hbs1, hb1⟩
  obtain ⟨a2, c2', w2, hr, hO⟩ := append_ostep w w1 B _ _ l q1 HW.out.1 (HW.out.2.2.2.trans (hb1.mono HW.out.2.2.2.size)) hbs1 (by have := HL.out; have := HW.out.2.1; omega) HW.out.2.2.1
  have HR := Lib.hid hr
  have HO := Lib.hid hO
  clear hbs1 hb1 hr hO HP HW
  go_wp2_with (first
    | (at_builtin; refine wpList_append_run (o := ⟨some 64, _, _, _, _, _⟩) rfl _ _ _ _ rfl _ _ _ _ rfl rfl HR.out ?_))
  go_ret2
  exact ⟨_, _, _, rfl, HO.out⟩
theorem rlay_any (w : World) (B : Nat) (v : Value) (l : List Int) (q : LayV) (h : w.ownsRow B 5 1 v l.length (l.map (Value.int .u8))) (hy : Byt l) (hq : q.Ok w) (hl : l.length + q.lb ≤ 140737488200000) (hB : B ≤ w.heap.size) : RLay w B v l q := by
  by_cases h1 : q.kd = 1
  · exact rlay_str w B v l q h hy hq (by omega) hB h1
  · by_cases h2 : q.kd = 2
    · exact rlay_hash w B v l q h hy hq (by omega) hB h2
    · by_cases h3 : q.kd = 3
      · exact rlay_raw w B v l q h hy hq hl hB h3
      · by_cases h4 : q.kd = 4
        · exact rlay_pad w B v l q h hy hq (by omega) hB h4
        · exact rlay_num w B v l q h hy hq (by omega) hB h1 h2 h3 h4
end Go.Proofs.Ytclahpmghifehaa
