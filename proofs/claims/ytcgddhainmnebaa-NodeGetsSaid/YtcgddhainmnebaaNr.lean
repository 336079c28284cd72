/-
  The program's read and Get of layer 9.
-/
import Derived.Test.YtcgddhainmnebaaTn
namespace Go.Proofs.Ytcgddhainmnebaa
set_option maxRecDepth 4000
set_option linter.unusedVariables false
open Go.ChangeShapes Go.WideShapes Go.ChangeAt Go.RowKit

theorem Chg.touch {R : Nat} {w w' : World} (h : Chg R w w') : Touch [R] w w' := ⟨h.os, h.tape, h.output, h.size, fun k hk hn => h.block k hk (by simpa using hn)⟩
theorem TN.chg {B R : Nat} {w w' : World} {G : Nat} {lf : Bool} {k v p : Value} {ks vs : List ByteArray} {ps : List PtrV} (h : TN B w G lf k v p ks vs ps) (t : Chg R w w') (hG : B ≤ G) (hR : R < B) : TN B w' G lf k v p ks vs ps :=
  h.touch t.touch hG (fun g hg => by rw [List.mem_singleton.1 hg]; exact hR)
def ZNR : Array Value := #[.bool false, .slice none 0 0, .slice none 0 0, .slice none 0 0]
/-- A node that grows, the reader, the result's cell. -/
structure TS (w0 w : World) (R G F : Nat) (t : TypeId) (lf : Bool) (k v p : Value) (ks vs : List ByteArray) (ps : List PtrV) (r : List Int) : Prop where
  tn : TN w0.heap.size w G lf k v p ks vs ps
  rt : RT w0.heap.size w t R r
  ch : Chg R w0 w
  fc : w.heap[F]? = some (.cells #[.bool false, .slice none 0 0, .slice none 0 0, .slice none 0 0] 25 (0, 0))
  hG : w0.heap.size ≤ G
  hF : w0.heap.size ≤ F
  ne : F ≠ G
theorem TS.reads {w0 w w' : World} {R G F : Nat} {t : TypeId} {lf : Bool} {k v p : Value} {ks vs : List ByteArray} {ps : List PtrV} {r r' : List Int} (h : TS w0 w R G F t lf k v p ks vs ps r) (hr : RT w0.heap.size w' t R r') (hc : Chg R w w') : TS w0 w' R G F t lf k v p ks vs ps r' :=
  ⟨h.tn.chg hc h.hG h.rt.lt, hr, h.ch.trans hc, (hc.block F (Array.getElem?_eq_some_iff.1 h.fc).1 (by have := h.rt.lt; have := h.hF; omega)).trans h.fc, h.hG, h.hF, h.ne⟩
theorem TS.grows {w0 w w' : World} {R G F : Nat} {t : TypeId} {lf : Bool} {k v p k' v' p' : Value} {ks vs ks' vs' : List ByteArray} {ps ps' : List PtrV} {r : List Int} (h : TS w0 w R G F t lf k v p ks vs ps r) (ht : TN w0.heap.size w' G lf k' v' p' ks' vs' ps') (hb : Below w0.heap.size w w') (hf : w'.heap[F]? = w.heap[F]?) : TS w0 w' R G F t lf k' v' p' ks' vs' ps' r :=
  ⟨ht, h.rt.keep (Nat.le_trans h.rt.1 hb.size) (fun k hk => hb.block k hk), chg_below h.ch (Nat.le_refl _) hb, hf.trans h.fc, h.hG, h.hF, h.ne⟩
theorem TS.size {w0 w : World} {R G F : Nat} {t : TypeId} {lf : Bool} {k v p : Value} {ks vs : List ByteArray} {ps : List PtrV} {r : List Int} (h : TS w0 w R G F t lf k v p ks vs ps r) : w0.heap.size ≤ w.heap.size := h.rt.1
theorem ts_key {w0 w : World} {R G F : Nat} {t : TypeId} {lf : Bool} {k v p : Value} {ks vs : List ByteArray} {ps : List PtrV} {r : List Int} (h : TS w0 w R G F t lf k v p ks vs ps r) (s : ByteArray) (hn : ks.length ≤ 100000) :
    ∃ a c w', (Builtin.append_ #[22, 22] 22 #[k, .slice (some ⟨w.heap.size, 0, none⟩) 1 1]).run Try.prog (w.alloc (.cells #[.string s] 9)) = .ok (.slice a (ks.length + 1) c) w' ∧
      w'.cell? ⟨G, 1, none⟩ = some k ∧ w'.frozen? ⟨G, 1, none⟩ = false ∧ TS w0 (w'.setCell ⟨G, 1, none⟩ (.slice a (ks.length + 1) c)) R G F t lf (.slice a (ks.length + 1) c) v p (ks ++ [s]) vs ps r := by
  obtain ⟨a, c, w', h1, h2, h3, h4, h5, h6⟩ := tn_key h.tn s h.size h.hG hn
  exact ⟨a, c, w', h1, h2, h3, h.grows h4 h5 (h6 F (Array.getElem?_eq_some_iff.1 h.fc).1 (own_ne h.tn.ok h.fc (by decide)) h.ne)⟩
theorem ts_val {w0 w : World} {R G F : Nat} {t : TypeId} {lf : Bool} {k v p : Value} {ks vs : List ByteArray} {ps : List PtrV} {r : List Int} (h : TS w0 w R G F t lf k v p ks vs ps r) (s : ByteArray) (hn : vs.length ≤ 100000) :
    ∃ a c w', (Builtin.append_ #[22, 22] 22 #[v, .slice (some ⟨w.heap.size, 0, none⟩) 1 1]).run Try.prog (w.alloc (.cells #[.string s] 9)) = .ok (.slice a (vs.length + 1) c) w' ∧
      w'.cell? ⟨G, 2, none⟩ = some v ∧ w'.frozen? ⟨G, 2, none⟩ = false ∧ TS w0 (w'.setCell ⟨G, 2, none⟩ (.slice a (vs.length + 1) c)) R G F t lf k (.slice a (vs.length + 1) c) p ks (vs ++ [s]) ps r := by
  obtain ⟨a, c, w', h1, h2, h3, h4, h5, h6⟩ := tn_val h.tn s h.size h.hG hn
  exact ⟨a, c, w', h1, h2, h3, h.grows h4 h5 (h6 F (Array.getElem?_eq_some_iff.1 h.fc).1 (own_ne h.tn.ov h.fc (by decide)) h.ne)⟩
theorem ts_kid {w0 w : World} {R G F : Nat} {t : TypeId} {lf : Bool} {k v p : Value} {ks vs : List ByteArray} {ps : List PtrV} {r : List Int} (h : TS w0 w R G F t lf k v p ks vs ps r) (q : PtrV) (hn : ps.length ≤ 100000) :
    ∃ a c w', (Builtin.append_ #[23, 23] 23 #[p, .slice (some ⟨w.heap.size, 0, none⟩) 1 1]).run Try.prog (w.alloc (.cells (ptrRow q).toArray 57)) = .ok (.slice a (ps.length + 1) c) w' ∧
      w'.cell? ⟨G, 3, none⟩ = some p ∧ w'.frozen? ⟨G, 3, none⟩ = false ∧ TS w0 (w'.setCell ⟨G, 3, none⟩ (.slice a (ps.length + 1) c)) R G F t lf k v (.slice a (ps.length + 1) c) ks vs (ps ++ [q]) r := by
  obtain ⟨a, c, w', h1, h2, h3, h4, h5, h6⟩ := tn_kid h.tn q h.size h.hG hn
  exact ⟨a, c, w', h1, h2, h3, h.grows h4 h5 (h6 F (Array.getElem?_eq_some_iff.1 h.fc).1 (own_ne h.tn.op h.fc (by decide)) h.ne)⟩
theorem TS.done {w0 w : World} {R G F : Nat} {t : TypeId} {lf : Bool} {k v p : Value} {ks vs : List ByteArray} {ps : List PtrV} {r : List Int} (h : TS w0 w R G F t lf k v p ks vs ps r) (row : Array Value) : NR (w.setRow F row) k v p ⟨lf, ks, vs, ps⟩ ∧ Chg R w0 (w.setRow F row) := by
  have tch : Touch [F] w (w.setRow F row) := ⟨rfl, rfl, rfl, by simp, fun j hj hn => setRow_other w F j row (by simpa using hn)⟩
  have hn : ∀ {u : Value} {e n m : Nat} {xs : List Value}, w.ownsRow w0.heap.size e m u n xs → e ≠ 25 → ∀ g, u.ownBlock = some g → g ∉ [F] := fun ho he g hg hm => by
    rw [List.mem_singleton] at hm
    subst hm
    exact own_ne ho h.fc (fun e => he e.symm) hg
  exact ⟨⟨ss_own (own_touch h.tn.ok tch (hn h.tn.ok (by decide))), ss_own (own_touch h.tn.ov tch (hn h.tn.ov (by decide))), ps_own (own_touch h.tn.op tch (hn h.tn.op (by decide)))⟩,
    chg_below h.ch (Nat.le_refl _) (ybelow_row ((Below.refl w.heap.size w).mono h.size) h.hF _)⟩
theorem TS.below {w0 w w' : World} {R G F : Nat} {t : TypeId} {lf : Bool} {k v p : Value} {ks vs : List ByteArray} {ps : List PtrV} {r : List Int} (h : TS w0 w R G F t lf k v p ks vs ps r) (b : Below w.heap.size w w') : TS w0 w' R G F t lf k v p ks vs ps r :=
  h.grows (h.tn.below b) (b.mono h.size) (b.block F (Array.getElem?_eq_some_iff.1 h.fc).1)
set_option maxRecDepth 100000 in
set_option maxHeartbeats 6400000 in
theorem nread_any (R : Nat) (l : List Int) (w0 : World) (h : RT w0.heap.size w0 112 R l) :
    Calls Try.prog 52 #[.pointer (some ⟨R, 0, none⟩)] w0 fun e w' => ∃ k v p, e = .returned (.agg #[.bool (toldN l).lf, k, v, p]) ∧ NR w' k v p (toldN l) ∧ Chg R w0 w' := by
  have hby := h.byt
  have hb1 := (Below.refl w0.heap.size w0).alloc (Nat.le_refl _) (.cells #[.bool false, .slice none 0 0, .slice none 0 0, .slice none 0 0] 25)
  have hF1 := heap_alloc_new w0 (.cells #[.bool false, .slice none 0 0, .slice none 0 0, .slice none 0 0] 25)
  have h1 := rt_below h hb1
  have HN1 := Lib.hid (pnum_t w0.heap.size R l 1 _ h1 (by omega))
  have hkb := num1_bound l hby
  have HTD := Lib.hid (show toldN l = ⟨leafA l, (rdKeys (leafA l) (cntA l) (restA (restA l))).1, (rdKeys (leafA l) (cntA l) (restA (restA l))).2.1, if leafA l then [] else (rdKids (cntA l + 1) (rdKeys (leafA l) (cntA l) (restA (restA l))).2.2).1⟩ from rfl)
  have HC := Lib.hid (cntA_le hby)
  have HCC := Lib.hid (cntA_cast hby)
  have HBY2 := Lib.hid (restA_byt (restA_byt hby))
  have HRB := Lib.hid h.lt
  rw [show (numA 1 l).2.2 = restA l from rfl] at HN1
  obtain ⟨K, hK⟩ : ∃ K, (numA 1 l).1 = K := ⟨_, rfl⟩
  rw [hK] at HN1 hkb
  have xk : IntKind.u8.wrap K = K := IntWalk.u8_in _ (by omega)
  have HLF := Lib.hid (show leafA l = (K == 1) by unfold leafA kindA; rw [hK])
  generalize hw1 : w0.alloc (.cells #[.bool false, .slice none 0 0, .slice none 0 0, .slice none 0 0] 25) = w1 at *
  have HB1 := Lib.hid hb1
  have HF1 := Lib.hid hF1
  have HS1 := Lib.hid (show w0.heap.size < w1.heap.size from (Array.getElem?_eq_some_iff.1 hF1).1)
  clear h hb1 hF1 h1 hby hkb hK
  go_enter Try.func52, Try.ntmps52
  go_upto_region 1 with fail
  try rw [hw1]
  clear hw1
  go_wp2_with fail
  refine HN1.out.mono ?_
  rintro e w2 ⟨rfl, hr2, hO2⟩
  have HN2 := Lib.hid (pnum_t w0.heap.size R (restA l) 1 w2 hr2 (by omega))
  rw [show (numA 1 (restA l)).2.2 = restA (restA l) from rfl, HCC.out] at HN2
  have HC2 := Lib.hid ((Chg.of_below HB1.out).trans (Chg.of_only hO2))
  have HF2 := Lib.hid ((hO2.rest w0.heap.size (by have := HRB.out; omega)).trans HF1.out)
  clear hr2 hO2 HN1 HB1 HF1
  go_wp2_with fail
  refine HN2.out.mono ?_
  rintro e w3 ⟨rfl, hr3, hO3⟩
  obtain ⟨lf, hlf⟩ : ∃ lf, (K == 1) = lf := ⟨_, rfl⟩
  rw [hlf] at HLF
  have hS3 : w0.heap.size < w3.heap.size := by rw [hO3.size]; exact (Array.getElem?_eq_some_iff.1 HF2.out).1
  have hb4 := (Below.refl w3.heap.size w3).alloc (Nat.le_refl _) (.cells #[.bool lf, .slice none 0 0, .slice none 0 0, .slice none 0 0] 25)
  have HT0 := Lib.hid (show TS w0 (w3.alloc (.cells #[.bool lf, .slice none 0 0, .slice none 0 0, .slice none 0 0] 25)) R w3.heap.size w0.heap.size 112 lf (.slice none 0 0) (.slice none 0 0) (.slice none 0 0) [] [] [] (restA (restA l)) from
    ⟨⟨heap_alloc_new w3 _, World.ownsRow_nil _ _ _ _, World.ownsRow_nil _ _ _ _, World.ownsRow_nil _ _ _ _, fun g hg => by cases hg⟩, rt_below hr3 hb4, (HC2.out.trans (Chg.of_only hO3)).trans (Chg.of_below hb4),
      (hb4.block _ hS3).trans ((hO3.rest w0.heap.size (by have := HRB.out; omega)).trans HF2.out), Nat.le_of_lt hS3, Nat.le_refl _, by omega⟩)
  obtain ⟨G, hG⟩ : ∃ G, w3.heap.size = G := ⟨_, rfl⟩
  obtain ⟨l2, hl2⟩ : ∃ l2, restA (restA l) = l2 := ⟨_, rfl⟩
  obtain ⟨c, hc⟩ : ∃ c, cntA l = c := ⟨_, rfl⟩
  rw [hl2] at HT0 HBY2
  rw [hc] at HC
  rw [hG] at HT0
  clear hr3 hO3 hb4 hS3 HN2 HC2 HF2 HS1
  go_upto_region 4 with fail
  try simp only [hlf, hl2, hc, hG]
  generalize World.alloc w3 _ = w4 at *
  clear hlf xk
  have HE := Lib.hid (And.intro hl2 hc)
  clear hl2 hc hG
  go_wp2_with fail
  go_loopw [8, 9, 10, 11, 29] (fun _ _ _ _ v29 wr => ∃ (i : Nat) (k v p : Value), i ≤ c ∧ v29 = .int .u64 (i : Int) ∧ TS w0 wr R G w0.heap.size 112 lf k v p (rdKeys lf i l2).1 (rdKeys lf i l2).2.1 [] (rdKeys lf i l2).2.2) (fun _ _ _ _ v _ => c - (intOf v).toNat)
  case atStart => exact ⟨0, _, _, _, by omega, rfl, HT0.out⟩
  case round =>
    clear HT0
    obtain ⟨i, k, v, p, hi, rfl, hT⟩ := hrel
    have hkl := rdKeys_len lf i l2
    have hc255 := HC.out
    by_cases hlt : i < c
    · have hst : rdKeys lf (i + 1) l2 = keyStep lf (rdKeys lf i l2) := rfl
      obtain ⟨⟨ks, vs, r⟩, hS⟩ : ∃ S, rdKeys lf i l2 = S := ⟨_, rfl⟩
      rw [hS] at hT hst hkl
      dsimp only at hT hkl
      have HST := Lib.hid hst
      have HKL := Lib.hid hkl.1
      have HVL := Lib.hid hkl.2
      clear hS hst hkl
      have HK := Lib.hid (pstr_t w0.heap.size R r wr hT.rt)
      have hT' := hT
      obtain ⟨ak, ck, hk⟩ := own_shape8 hT.tn.ok
      subst hk
      have HT := Lib.hid hT
      have HLT := Lib.hid hlt
      have iI : (i : Int) < (c : Int) := by omega
      have i0 : (0 : Int) ≤ (i : Int) := by omega
      have cI : (c : Int) ≤ 255 := by omega
      clear hi hlt hT hT'
      go_wp2_with fail
      refine HK.out.mono ?_
      rintro e w5 ⟨rfl, hr5, hc5⟩
      have hT5 := HT.out.reads hr5 hc5
      obtain ⟨c0, c1, c2, c3⟩ := node_at hT5.tn.cell
      obtain ⟨a6, cc6, w6, hrun, d1, f1, hT6⟩ := ts_key hT5 (strA r).1 (by rw [HKL.out]; omega)
      have HR6 := Lib.hid hrun
      have HT6 := Lib.hid hT6
      clear hr5 hc5 hT5 hrun hT6 HT HK
      go_upto_region 8 with (first
        | (at_builtin; refine wpList_append_run (o := ⟨some 40, _, _, _, _, _⟩) rfl _ _ _ _ rfl _ _ _ _ rfl rfl HR6.out ?_))
      clear c0 c1 c2 c3 d1 f1
      generalize World.setCell _ ⟨G, 1, none⟩ _ = w7 at *
      obtain ⟨c0, c1, c2, c3⟩ := node_at HT6.out.tn.cell
      cases lf with
      | true =>
        rw [if_pos rfl] at HVL
        have HK2 := Lib.hid (pstr_t w0.heap.size R _ w7 HT6.out.rt)
        obtain ⟨av, cv, hv⟩ := own_shape8 HT6.out.tn.ov
        subst hv
        go_wp2_with fail
        refine HK2.out.mono ?_
        rintro e w8 ⟨rfl, hr8, hc8⟩
        have hT8 := HT6.out.reads hr8 hc8
        obtain ⟨g0, g1, g2, g3⟩ := node_at hT8.tn.cell
        obtain ⟨a9, cc9, w9, hrun, d1, f1, hT9⟩ := ts_val hT8 (strA (strA r).2.2).1 (by rw [HVL.out]; omega)
        have HR9 := Lib.hid hrun
        have HT9 := Lib.hid hT9
        clear hr8 hc8 hT8 hrun hT9 HT6 HK2 c0 c1 c2 c3
        go_wp2_with (first
          | (at_builtin; refine wpList_append_run (o := ⟨some 53, _, _, _, _, _⟩) rfl _ _ _ _ rfl _ _ _ _ rfl rfl HR9.out ?_))
        go_roundw
        case rel => exact ⟨i + 1, _, _, _, by have := HLT.out; omega, by go_num, by rw [HST.out, show keyStep true (ks, vs, r) = (ks ++ [(strA r).1], vs ++ [(strA (strA r).2.2).1], (strA (strA r).2.2).2.2) from rfl]; exact HT9.out⟩
        case measure => simp [intOf]; have := HLT.out; omega
      | false =>
        go_wp2_with fail
        go_roundw
        case rel => exact ⟨i + 1, _, _, _, by have := HLT.out; omega, by go_num, by rw [HST.out, show keyStep false (ks, vs, r) = (ks ++ [(strA r).1], vs, (strA r).2.2) from rfl]; exact HT6.out⟩
        case measure => simp [intOf]; have := HLT.out; omega
    · obtain rfl : i = c := by omega
      obtain ⟨⟨ks, vs, r⟩, hS⟩ : ∃ S, rdKeys lf i l2 = S := ⟨_, rfl⟩
      rw [hS] at hT hkl
      dsimp only at hT hkl
      have HS := Lib.hid hS
      obtain ⟨c0, c1, c2, c3⟩ := node_at hT.tn.cell
      obtain ⟨ak, ck, hk⟩ := own_shape8 hT.tn.ok
      obtain ⟨av, cv, hv⟩ := own_shape8 hT.tn.ov
      subst hk hv
      have WO := Lib.hid (fun (b : Bool) (x y z n m q : Nat) (a1 a2 a3 : Option Addr) => show (#[.bool b, .slice a1 x n, .slice a2 y m, .slice a3 z q] : Array Value).all (·.oneCell') = true from by simp [Value.oneCell'])
      have cI : (i : Int) ≤ 255 := by omega
      have c00 : (0 : Int) ≤ (i : Int) := by omega
      have HT := Lib.hid hT
      clear hi hlt hS hkl
      cases lf with
      | true =>
        obtain ⟨ap, cp, hp⟩ := own_shape8 hT.tn.op
        subst hp
        have SEN := Lib.hid (size_node true (.slice ak ks.length ck) (.slice av vs.length cv) (.slice ap ([] : List PtrV).length cp))
        clear hT
        go_wp2_with (first
          | (with_reducible refine wpList_store_row (o := ⟨none, .store _ (.tmp 2) _, _, _, _, _⟩) rfl 25 _ _ rfl w0.heap.size _ rfl rfl 25 _ HT.out.fc SEN.out rfl (WO.out _ _ _ _ _ _ _ _ _ _) ?_))
        have HTL := Lib.hid (show toldN l = ⟨true, ks, vs, []⟩ by rw [HTD.out, HLF.out, HE.out.1, HE.out.2, HS.out]; rfl)
        have HD := Lib.hid (HT.out.done #[.bool true, .slice ak ks.length ck, .slice av vs.length cv, .slice ap ([] : List PtrV).length cp])
        refine bodyPost_ret (results_cell_row Try.results52 _ _ w0.heap.size 25 _ (0, 0) _ rfl (setRow_heap _ w0.heap.size _ _ _ _ HT.out.fc) Try.underlying25 rfl SEN.out) rfl ⟨_, _, _, by rw [HTL.out], by rw [HTL.out]; exact HD.out.1, HD.out.2⟩
      | false =>
        clear hT
        go_wp2_with fail
        go_loopw [12, 13, 61] (fun _ _ v61 wr2 => ∃ (j : Nat) (p : Value), j ≤ i + 1 ∧ v61 = .int .u64 (j : Int) ∧ TS w0 wr2 R G w0.heap.size 112 false (.slice ak ks.length ck) (.slice av vs.length cv) p ks vs (rdKids j r).1 (rdKids j r).2) (fun _ _ v _ => i + 1 - (intOf v).toNat)
        case atStart => exact ⟨0, _, by omega, rfl, HT.out⟩
        case round =>
          clear HT c0 c1 c2 c3
          obtain ⟨j, p2, hj, rfl, hT⟩ := hrel
          have hkl := rdKids_len j r
          by_cases hlt : j < i + 1
          · have hst : rdKids (j + 1) r = kidStep (rdKids j r) := rfl
            obtain ⟨⟨ps, r2⟩, hS2⟩ : ∃ S, rdKids j r = S := ⟨_, rfl⟩
            rw [hS2] at hT hst hkl
            dsimp only at hT hkl
            have HST := Lib.hid hst
            have HKL := Lib.hid hkl
            obtain ⟨ap, cp, hp⟩ := own_shape8 hT.tn.op
            subst hp
            have HG := Lib.hid (pget_t w0.heap.size R r2 wr hT.rt)
            have HT := Lib.hid hT
            have HLT := Lib.hid hlt
            have iI : (j : Int) < (i : Int) + 1 := by omega
            have i0 : (0 : Int) ≤ (j : Int) := by omega
            obtain ⟨q, hq⟩ : ∃ q, (getA r2).1 = q := ⟨_, rfl⟩
            rw [hq] at HG
            have HQ := Lib.hid hq
            have hzp := zero_ptr
            have SWR := Lib.hid (size_ptrA q)
            have EW := Lib.hid (show (ptrRow zeroPtr).toArray.size = (ptrRow q).toArray.size by simp [ptrRow_length])
            have WOQ := Lib.hid (ptrRow_one q)
            obtain ⟨ZA, hZA⟩ : ∃ ZA, (ptrRow zeroPtr).toArray = ZA := ⟨_, rfl⟩
            rw [hZA] at hzp EW
            have HLP := Lib.hid (lit_ptr q)
            have HTK := Lib.hid (fun w5 (h5 : TS w0 w5 R G w0.heap.size 112 false (.slice ak ks.length ck) (.slice av vs.length cv) (.slice ap ps.length cp) ks vs ps (getA r2).2.2) => ts_kid h5 q (by rw [HKL.out]; omega))
            clear hj hlt hT hS2 hst hkl hq hZA
            obtain ⟨QR, hQR⟩ : ∃ QR, (ptrRow q).toArray = QR := ⟨_, rfl⟩
            rw [hQR] at HG SWR EW WOQ HLP HTK
            clear hQR
            go_upto_region 16 with fail
            go_wp2_with fail
            refine HG.out.mono ?_
            rintro e w5 ⟨rfl, hr5, hc5⟩
            have hT5 := HT.out.reads hr5 hc5
            have HT5 := Lib.hid hT5
            clear hr5 hc5 hT5 HT HG
            go_upto_region 17 with (first
              | (with_reducible refine wpList_store_row (o := ⟨none, .store _ (.tmp 12) _, _, _, _, _⟩) rfl 57 _ _ rfl w5.heap.size QR rfl rfl 57 ZA (heap_alloc_new w5 _) SWR.out EW.out WOQ.out ?_))
            obtain ⟨h7, hb7⟩ := new_row8 w5 ZA QR
            generalize World.setRow _ w5.heap.size _ = w6 at *
            have hT6 := HT5.out.below hb7
            have H7 := Lib.hid h7
            obtain ⟨c0, c1, c2, c3⟩ := node_at hT6.tn.cell
            obtain ⟨a9, cc9, w9, hrun, d1, f1, hT9⟩ := HTK.out w6 hT6
            have HR9 := Lib.hid hrun
            have HT9 := Lib.hid hT9
            clear h7 hb7 hT6 hrun hT9 HT5 HTK hzp EW WOQ
            go_wp2_with (first
              | (with_reducible refine wpList_load_row (o := ⟨some 70, _, _, _, _, _⟩) rfl 57 _ rfl w5.heap.size rfl 57 QR (0, 0) _ H7.out Try.underlying57 rfl SWR.out ?_)
              | (refine wpList_lit_run (o := ⟨some 71, _, _, _, _, _⟩) rfl _ _ _ rfl #[(0, .agg QR)] (by simp [Act.eval, Act.put]) _ _ (HLP.out w6) ?_)
              | (at_builtin; refine wpList_append_run (o := ⟨some 72, _, _, _, _, _⟩) rfl _ _ _ _ rfl _ _ _ _ rfl rfl HR9.out ?_))
            go_roundw
            case rel => exact ⟨j + 1, _, by have := HLT.out; omega, by go_num, by rw [HST.out, show kidStep (ps, r2) = (ps ++ [(getA r2).1], (getA r2).2.2) from rfl, HQ.out]; exact HT9.out⟩
            case measure => simp [intOf]; have := HLT.out; omega
          · obtain rfl : j = i + 1 := by omega
            obtain ⟨⟨ps, r2⟩, hS2⟩ : ∃ S, rdKids (i + 1) r = S := ⟨_, rfl⟩
            rw [hS2] at hT hkl
            dsimp only at hT hkl
            have HS2 := Lib.hid hS2
            obtain ⟨ap, cp, hp⟩ := own_shape8 hT.tn.op
            subst hp
            obtain ⟨c0, c1, c2, c3⟩ := node_at hT.tn.cell
            have SEN := Lib.hid (size_node false (.slice ak ks.length ck) (.slice av vs.length cv) (.slice ap ps.length cp))
            have HT := Lib.hid hT
            have HTL := Lib.hid (show toldN l = ⟨false, ks, vs, ps⟩ by rw [HTD.out, HLF.out, HE.out.1, HE.out.2, HS.out, if_neg (by decide), HS2.out])
            have HD := Lib.hid (hT.done #[.bool false, .slice ak ks.length ck, .slice av vs.length cv, .slice ap ps.length cp])
            have HNE := Lib.hid (show ((i + 1 : Nat) : Int) = (i : Int) + 1 by omega)
            clear hj hlt hT hS2 hkl
            go_wp2_with (first
              | (with_reducible refine wpList_store_row (o := ⟨none, .store _ (.tmp 2) _, _, _, _, _⟩) rfl 25 _ _ rfl w0.heap.size _ rfl rfl 25 _ HT.out.fc SEN.out rfl (WO.out _ _ _ _ _ _ _ _ _ _) ?_))
            refine bodyPost_ret (results_cell_row Try.results52 _ _ w0.heap.size 25 _ (0, 0) _ rfl (setRow_heap _ w0.heap.size _ _ _ _ HT.out.fc) Try.underlying25 rfl SEN.out) rfl ⟨_, _, _, by rw [HTL.out], by rw [HTL.out]; exact HD.out.1, HD.out.2⟩
end Go.Proofs.Ytcgddhainmnebaa
