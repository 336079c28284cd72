/-
  The reference of layer 6: Poke, SetLimit, New.
-/
import Derived.Test.YtmfpdbmohebodaaDRef2
namespace Go.Proofs.Ytmfpdbmohebodaa
open Go.RowKit

theorem own_only {B n k g : Nat} {e : TypeId} {v : Value} {xs : List Value} {w w' : World} (h : w.ownsRow B e k v n xs) (q : Only g w w') (hne : v.ownBlock ≠ some g) : w'.ownsRow B e k v n xs :=
  h.kept (row := some g) ⟨(q.bel 0 (Nat.zero_le _)).os, (q.bel 0 (Nat.zero_le _)).tape, (q.bel 0 (Nat.zero_le _)).output, Nat.le_of_eq q.size.symm, fun j _ hj => q.rest j (fun e => hj (by rw [e]))⟩ (.inr hne)
theorem own_type {B n k g : Nat} {e : TypeId} {v : Value} {xs : List Value} {w : World} (h : w.ownsRow B e k v n xs) {cs : Array Value} {t : TypeId} {fr : Nat × Nat} (hg : w.heap[g]? = some (.cells cs t fr)) (hte : t ≠ e) : v.ownBlock ≠ some g := by
  rcases h.2 with ⟨rfl, _⟩ | ⟨g', cap, cur, rfl, _, hg', _⟩
  · simp [Value.ownBlock]
  · intro he
    simp only [Value.ownBlock, Option.some.injEq] at he
    subst he
    rw [hg'] at hg
    injection hg with hg
    injection hg with _ h2 _
    exact hte h2.symm
theorem type_ne {w : World} {g g' : Nat} {cs cs' : Array Value} {t t' : TypeId} {fr fr' : Nat × Nat} (h : w.heap[g]? = some (.cells cs t fr)) (h' : w.heap[g']? = some (.cells cs' t' fr')) (hne : t ≠ t') : g ≠ g' := by
  rintro rfl
  rw [h] at h'
  injection h' with h'
  injection h' with _ h2 _
  exact hne h2
/-- The bytes that lie there have changed. -/
theorem RD.relay {w w' : World} {D gl n : Nat} {vw : Value} {F F' : List (BitVec 8)} {ws : List (Nat × List (BitVec 8))} {lim : Int} {dn : Bool} (h : RD w D gl n vw F ws lim dn) (q : Only gl w w') (hF : ArrY w' gl 49 F') (hl : F'.length = n * 512) : RD w' D gl n vw F' ws lim dn :=
  ⟨(q.rest D (type_ne h.dev h.lay (by decide))).trans h.dev, hF, hl, own_only h.wai q (own_type h.wai h.lay (by decide)), h.wok, h.big, h.lim1⟩
/-- Its own cells have changed, the list of what waits not. -/
theorem RD.redev {w w' : World} {D gl n : Nat} {vw : Value} {F : List (BitVec 8)} {ws : List (Nat × List (BitVec 8))} {lim lim' : Int} {dn dn' : Bool} (h : RD w D gl n vw F ws lim dn) (q : Only D w w') (hD : w'.heap[D]? = some (.cells (rdCells gl n vw lim' dn') 48 (0, 0))) (hl : lim' ≤ 9223372036854775807) : RD w' D gl n vw F ws lim' dn' :=
  ⟨hD, q.arr h.lay (type_ne h.lay h.dev (by decide)), h.len, own_only h.wai q (own_type h.wai h.dev (by decide)), h.wok, h.big, hl⟩

set_option maxHeartbeats 800000 in
theorem rsetlimit_any (D gl n : Nat) (vw : Value) (F : List (BitVec 8)) (ws : List (Nat × List (BitVec 8))) (lim x : Int) (dn : Bool) (w : World) (h : RD w D gl n vw F ws lim dn) (hx : x ≤ 9223372036854775807) :
    Calls Try.prog 18 #[.pointer (some ⟨D, 0, none⟩), .int .i64 x] w fun e w' => e = .returned (.tuple #[]) ∧ RD w' D gl n vw F ws (if x < 0 then -1 else x) dn ∧ Only D w w' := by
  obtain ⟨_, _, c2, _⟩ := rd_at h.dev
  have f2 := rd_free h.dev 2
  have H := Lib.hid h
  have HS := Lib.hid (heap_setCell_same w D 2 _ _ (.int .i64 x) h.dev)
  have HS2 := Lib.hid (heap_setCell_same _ D 2 _ _ (.int .i64 (-1)) (heap_setCell_same w D 2 _ _ (.int .i64 x) h.dev))
  by_cases h0 : x < 0
  · rw [if_pos h0]
    clear h
    go_enter Try.func18, Try.ntmps18
    go_wp2_with fail
    go_end0
    have hO : Only D w ((w.setCell ⟨D, 2, none⟩ (.int .i64 x)).setCell ⟨D, 2, none⟩ (.int .i64 (-1))) := ((Only.refl _ _).setCell _ _).setCell _ _
    exact ⟨rfl, H.out.redev hO HS2.out (by omega), hO⟩
  · rw [if_neg h0]
    have h1 : (0 : Int) ≤ x := by omega
    clear h h0
    go_enter Try.func18, Try.ntmps18
    go_wp2_with fail
    go_end0
    have hO : Only D w (w.setCell ⟨D, 2, none⟩ (.int .i64 x)) := (Only.refl _ _).setCell _ _
    exact ⟨rfl, H.out.redev hO HS.out hx, hO⟩

theorem only_setRow (w : World) (g : Nat) (cs : Array Value) : Only g w (w.setRow g cs) := ⟨by simp, fun k hk => setRow_other w g k cs hk, fun B hB => ybelow_row (Below.refl B w) hB cs⟩
set_option maxRecDepth 100000 in
set_option maxHeartbeats 1600000 in
theorem rpoke_ok (D gl n a : Nat) (vw : Value) (F l : List (BitVec 8)) (ws : List (Nat × List (BitVec 8))) (lim : Int) (dn : Bool) (ab : Option Addr) (capb : Nat) (w : World) (h : RD w D gl n vw F ws lim dn) (ha : a < n) (hB : BS w (.slice ab 512 capb) (l.map yv)) (hl : l.length = 512) :
    Calls Try.prog 22 #[.pointer (some ⟨D, 0, none⟩), .int .u32 (a : Int), .slice ab 512 capb] w fun e w' => e = .returned (.int .i64 0) ∧ RD w' D gl n vw (putL F (a * 512) l) ws lim dn ∧ Only gl w w' := by
  have hbig := h.big
  have HT := Lib.hid (show Calls Try.prog 37 #[.pointer (some ⟨D, 0, none⟩), .int .u32 (a : Int)] w fun e w' => e = .returned (.bool true) ∧ w' = w by have q := rthere_any D gl n a vw lim dn w h.dev h.big (by omega); rw [show decide (a < n) = true by simp [ha]] at q; exact q)
  obtain ⟨c0, _, _, _⟩ := rd_at h.dev
  obtain ⟨ad, rfl, hsrc⟩ := bs_src hB (by omega)
  have H := Lib.hid h
  have hsl := slice_sec gl (a * 512)
  have hix := index_sec gl n a ha
  have HSRC := Lib.hid hsrc
  have HL := Lib.hid hl
  have hfl : a * 512 + l.length ≤ F.length := by rw [h.len, hl]; omega
  have HF := Lib.hid hfl
  have HA := Lib.hid (show w.heap[gl]? = some (.cells (yvs F).toList.toArray 49 (0, 0)) from h.lay)
  have HCP := Lib.hid (show (yvs l).toList.length = Nat.min 512 512 ∧ a * 512 + (yvs l).toList.length ≤ (yvs F).toList.length ∧ ∀ v ∈ (yvs l).toList, v.oneCell' = true from
    ⟨by rw [Array.length_toList, yvs_size, hl]; rfl, by rw [Array.length_toList, Array.length_toList, yvs_size, yvs_size]; exact hfl, fun v hv => Array.all_eq_true_iff_forall_mem.1 (yvs_one l) v (by simpa using hv)⟩)
  clear h ha hB hl hsrc hfl hbig
  go_enter Try.func22, Try.ntmps22
  go_wp2_with fail
  refine HT.out.mono ?_
  rintro e w1 ⟨rfl, rfl⟩
  go_upto_region 4 with (first
    | (refine wpList_copy_y (o := ⟨some 24, _, _, _, _, _⟩) rfl (.tmp 22) (.tmp 23) 36 36 (by rfl) 5 Try.underlying36 yone gl (a * 512) 512 512 ad 512 capb (by rfl) (by rfl) (yvs F).toList 49 HA.out (yvs l).toList HCP.out.1 HSRC.out HCP.out.2.1 HCP.out.2.2 ?_))
  rw [yvs_putL]
  clear hsl hix c0
  have HO := Lib.hid (only_setRow w1 gl (yvs (putL F (a * 512) l)))
  have HR := Lib.hid (H.out.relay HO.out (setRow_heap w1 gl _ _ _ (0, 0) H.out.lay) (by rw [putL_length _ _ _ HF.out]; exact H.out.len))
  go_wp2_with fail
  go_ret
  exact ⟨rfl, HR.out, HO.out⟩
end Go.Proofs.Ytmfpdbmohebodaa
