/-
  The reference of layer 6: Read.
-/
import Derived.Test.YtmfpdbmohebodaaDFlush
namespace Go.Proofs.Ytmfpdbmohebodaa
open Go.RowKit

set_option maxHeartbeats 800000 in
theorem rread_far (D gl n a : Nat) (vw : Value) (F : List (BitVec 8)) (ws : List (Nat × List (BitVec 8))) (lim : Int) (dn : Bool) (w : World) (h : RD w D gl n vw F ws lim dn) (ha : a < 4294967296) (hn : n ≤ a) :
    Calls Try.prog 24 #[.pointer (some ⟨D, 0, none⟩), .int .u32 (a : Int)] w fun e w' => e = .returned (.tuple #[.slice none 0 0, .int .i64 2]) ∧ w' = w := by
  have HT := Lib.hid (show Calls Try.prog 37 #[.pointer (some ⟨D, 0, none⟩), .int .u32 (a : Int)] w fun e w' => e = .returned (.bool false) ∧ w' = w by have q := rthere_any D gl n a vw lim dn w h.dev h.big ha; rw [show decide (a < n) = false by simp; omega] at q; exact q)
  clear h ha hn
  go_enter Try.func24, Try.ntmps24
  go_wp2_with fail
  refine HT.out.mono ?_
  rintro e w1 ⟨rfl, rfl⟩
  go_wp2_with fail
  go_ret2
  exact ⟨rfl, rfl⟩

set_option maxHeartbeats 800000 in
theorem rread_down (D gl n a : Nat) (vw : Value) (F : List (BitVec 8)) (ws : List (Nat × List (BitVec 8))) (lim : Int) (w : World) (h : RD w D gl n vw F ws lim true) (ha : a < n) :
    Calls Try.prog 24 #[.pointer (some ⟨D, 0, none⟩), .int .u32 (a : Int)] w fun e w' => e = .returned (.tuple #[.slice none 0 0, .int .i64 7]) ∧ w' = w := by
  have hbig := h.big
  have HT := Lib.hid (show Calls Try.prog 37 #[.pointer (some ⟨D, 0, none⟩), .int .u32 (a : Int)] w fun e w' => e = .returned (.bool true) ∧ w' = w by have q := rthere_any D gl n a vw lim true w h.dev h.big (by omega); rw [show decide (a < n) = true by simp [ha]] at q; exact q)
  obtain ⟨_, _, _, c3⟩ := rd_at h.dev
  clear h ha hbig
  go_enter Try.func24, Try.ntmps24
  go_wp2_with fail
  refine HT.out.mono ?_
  rintro e w1 ⟨rfl, rfl⟩
  go_wp2_with fail
  go_ret2
  exact ⟨rfl, rfl⟩

/-- What is read: the last write that waits for the sector, or what lies there. -/
def readM (F : List (BitVec 8)) (ws : List (Nat × List (BitVec 8))) (a : Nat) : List (BitVec 8) := ws.foldl (fun o p => if p.1 = a then p.2 else o) (secY F a)
theorem readM_next (F : List (BitVec 8)) (ws : List (Nat × List (BitVec 8))) (a i : Nat) (h : i < ws.length) : readM F (ws.take (i + 1)) a = if (ws[i]).1 = a then (ws[i]).2 else readM F (ws.take i) a := by
  unfold readM
  rw [List.take_add_one, List.getElem?_eq_getElem h, Option.toList_some, List.foldl_append]
  rfl

theorem BS.of_range {w : World} {X o cap : Nat} {l : List (BitVec 8)} (h : w.rangeAt X o (yvs l).toList) : BS w (.slice (some ⟨X, o, none⟩) l.length cap) (l.map yv) := by
  refine ⟨some ⟨X, o, none⟩, cap, by simp, byt_yv _, nofun, .inr ⟨X, o, rfl, fun i hi => ?_⟩⟩
  have hi' : i < l.length := by simpa using hi
  refine h i _ ?_
  simp [yvs, List.getD, hi']

set_option maxRecDepth 100000 in
set_option maxHeartbeats 3200000 in
theorem rread_ok (D gl n a : Nat) (vw : Value) (F : List (BitVec 8)) (ws : List (Nat × List (BitVec 8))) (lim : Int) (w : World) (h : RD w D gl n vw F ws lim false) (ha : a < n) (hws : ws.length ≤ 1000000) :
    Calls Try.prog 24 #[.pointer (some ⟨D, 0, none⟩), .int .u32 (a : Int)] w (Sect w (readM F ws a) 0) := by
  have hbig := h.big
  have HT2 := Lib.hid (show Calls Try.prog 37 #[.pointer (some ⟨D, 0, none⟩), .int .u32 (a : Int)] w fun e w' => e = .returned (.bool true) ∧ w' = w by have q := rthere_any D gl n a vw lim false w h.dev h.big (by omega); rw [show decide (a < n) = true by simp [ha]] at q; exact q)
  have hform : ∃ a cap, vw = .slice a ws.length cap ∧ (0 < ws.length → ∃ g, a = some ⟨g, 0, none⟩) := by
    rcases h.wai.2 with ⟨hv, h0⟩ | ⟨g, cap, cur, hv, _⟩
    · exact ⟨none, 0, by rw [hv, h0], fun h => by omega⟩
    · exact ⟨_, cap, hv, fun _ => ⟨g, rfl⟩⟩
  obtain ⟨aw, capw, rfl, hag⟩ := hform
  have HAG := Lib.hid hag
  obtain ⟨c0, c1, _, c3⟩ := rd_at h.dev
  have H := Lib.hid h
  have HL := Lib.hid ha
  have hsl := slice_sec gl (a * 512)
  have hix := index_sec gl n a ha
  have aN : (a : Int) < (n : Int) := by omega
  have a0 : (0 : Int) ≤ (a : Int) := by omega
  have wI : (ws.length : Int) ≤ 1000000 := by omega
  have HBUF := Lib.hid (World.ownsRow_lit (base := w.heap.size) (e := 5) (size := 1) w #[] 0 (Nat.le_refl _) (by unfold maxLen; omega) rfl)
  have HB2 := Lib.hid (show Below w.heap.size w (w.alloc (.cells #[] 5)) from (Below.refl _ _).alloc (Nat.le_refl _) _)
  have c0' := (HB2.out.cell (p := ⟨D, 0, none⟩) (rd_lt h.dev)).trans c0
  have A1 := Lib.hid ((BS.of_sec h.lay h.len ha).kept HB2.out)
  have HSL := Lib.hid (secY_length F a n h.len ha)
  obtain ⟨SA, hSA⟩ : ∃ y, secY F a = y := ⟨_, rfl⟩
  rw [hSA] at A1 HSL
  have HSA := Lib.hid hSA
  have HLE := Lib.hid (show 0 + (SA.map yv).length ≤ 140737488355328 by rw [List.length_map, HSL.out]; omega)
  clear h ha hbig hag hws hSA
  go_enter Try.func24, Try.ntmps24
  go_wp2_with fail
  refine HT2.out.mono ?_
  rintro e w1 ⟨rfl, rfl⟩
  go_upto_region 6 with (first
    | (at_builtin; with_reducible refine wpList_append_BS (o := ⟨some 25, _, _, _, _, _⟩) rfl _ _ rfl w1.heap.size (.slice (some ⟨w1.heap.size, 0, none⟩) 0 0) 0 [] rfl HBUF.out (.slice (some ⟨gl, a * 512, none⟩) 512 512) (SA.map yv) rfl A1.out HLE.out (by simp) ?_; intro v7 w7 ho7 hg7))
  have hb7 := HB2.out.grown hg7 (by simp) (by intro k hk; simp [Value.ownBlock] at hk; omega)
  rw [List.nil_append, Nat.zero_add, List.length_map, HSL.out] at ho7
  obtain ⟨a7, cap7, rfl, _, _, B7⟩ := own_bytes ho7 HSL.out
  obtain ⟨_, d1, _, _⟩ := rd_at (H.out.below hb7).dev
  have HB7 := Lib.hid hb7
  have BB7 := Lib.hid B7
  clear hb7 B7 ho7 hg7 HBUF HB2 A1 c0 c1 c3 c0' hsl hix HLE
  generalize hN : ws.length = N at *
  have HN := Lib.hid hN
  clear hN
  go_wp2_with fail
  clear d1
  go_loopw [6, 31] (fun v6 v31 wr => ∃ i : Nat, i ≤ N ∧ v31 = .int .i64 (i : Nat) ∧ (∃ ax cx, v6 = .slice ax 512 cx ∧ BS wr (.slice ax 512 cx) ((readM F (ws.take i) a).map yv)) ∧ Below w1.heap.size w1 wr) (fun _ v _ => N - (intOf v).toNat)
  case atStart => exact ⟨0, by omega, rfl, ⟨_, _, rfl, by rw [show readM F (ws.take 0) a = SA from HSA.out]; exact BB7.out⟩, HB7.out⟩
  case round =>
    obtain ⟨i, hi, rfl, ⟨ax, cx, rfl, hBX⟩, hT⟩ := hrel
    by_cases hlt : i < N
    · obtain ⟨g, rfl⟩ := HAG.out (by omega)
      have hil : i < ws.length := by have := HN.out; omega
      have hR := H.out.below hT
      have hpw := hR.wok _ (List.getElem_mem hil)
      have hnx := readM_next F ws a i hil
      have hrg := own_range (by have q := hR.wai; rw [HN.out] at q ⊢; exact q) (fun p hp => (hR.wok p hp).1) i hil
      generalize hp : ws[i] = p at *
      have hix := index_wait g N capw i hlt
      have SWC := Lib.hid (show (Try.prog.info? 73).map (·.size) = some (wcell p).length by have q := size_wrow p hpw.1; rwa [wrow, List.size_toArray] at q)
      have SWR := Lib.hid (show (Try.prog.info? 73).map (·.size) = some (wcell p).toArray.size from size_wrow p hpw.1)
      have WO := Lib.hid (show (wcell p).toArray.all (·.oneCell') = true from wrow_one p)
      have EW := Lib.hid (show (wrow (0, zeroY 512)).size = (wcell p).toArray.size by rw [wrow, List.size_toArray, List.size_toArray, wcell_length p hpw.1, wcell_length _ (by simp [zeroY])])
      have hz := zero_write
      generalize wrow (0, zeroY 512) = ZW at *
      have HRG := Lib.hid hrg
      have HP := Lib.hid hpw
      have HNX := Lib.hid hnx
      have HT := Lib.hid hT
      have HBX := Lib.hid hBX
      have HLT := Lib.hid hlt
      have iI : (i : Int) < (N : Int) := by omega
      have i0 : (0 : Int) ≤ (i : Int) := by omega
      clear hR hT hi hlt hil hpw hnx hrg hp hBX
      go_upto_region 9 with (first
        | (with_reducible refine wpList_load_mid (op := ⟨some 34, _, _, _, _, _⟩) rfl 73 _ rfl g (i * 513) rfl (wcell p) _ HRG.out Try.underlying73 rfl SWC.out ?_)
        | (with_reducible refine wpList_store_row (o := ⟨none, .store _ (.tmp 8) _, _, _, _, _⟩) rfl 73 _ _ rfl wr.heap.size (wcell p).toArray rfl rfl 73 ZW (heap_alloc_new wr _) SWR.out EW.out WO.out ?_))
      clear hix
      generalize hW7 : World.setRow _ wr.heap.size _ = W7
      have h7 : W7.heap[wr.heap.size]? = some (.cells (wcell p).toArray 73 (0, 0)) ∧ Below wr.heap.size wr W7 := by
        obtain ⟨e1, e2, e3⟩ := ygen_row (w := wr) (old := ZW) (cs := (wcell p).toArray) (T := 73)
        rw [← hW7]
        exact ⟨e1, e3⟩
      have HBX7 := Lib.hid (HBX.out.kept h7.2)
      have HT7 := Lib.hid (show Below w1.heap.size w1 W7 from HT.out.trans (h7.2.mono HT.out.size))
      have hx0 : W7.cell? ⟨wr.heap.size, 0, none⟩ = some (.int .u32 (p.1 : Int)) := wrow_addr h7.1
      have H7 := Lib.hid h7.1
      clear hW7 h7 HT HRG hz HBX
      generalize wr.heap.size = X at *
      by_cases hq : p.1 = a
      · have hqb : ((p.1 : Int) == (a : Int)) = true := by simp; omega
        have HN2 := Lib.hid (show readM F (ws.take (i + 1)) a = p.2 by rw [HNX.out, if_pos hq])
        have HBUF := Lib.hid (World.ownsRow_lit (base := W7.heap.size) (e := 5) (size := 1) W7 #[] 0 (Nat.le_refl _) (by unfold maxLen; omega) rfl)
        have HB2 := Lib.hid (show Below W7.heap.size W7 (W7.alloc (.cells #[] 5)) from (Below.refl _ _).alloc (Nat.le_refl _) _)
        have A1 := Lib.hid (show BS (W7.alloc (.cells #[] 5)) (.slice (some ⟨X, 1, none⟩) 512 512) (p.2.map yv) from by
          have q := (BS.of_range (cap := 512) (wrow_bytes H7.out)).kept HB2.out
          rwa [HP.out.1] at q)
        have HLE := Lib.hid (show 0 + (p.2.map yv).length ≤ 140737488355328 by rw [List.length_map, HP.out.1]; omega)
        have hsl := slice_sec X 1
        clear hq
        go_upto_region 11 with (first
          | (at_builtin; with_reducible refine wpList_append_BS (o := ⟨some 42, _, _, _, _, _⟩) rfl _ _ rfl W7.heap.size (.slice (some ⟨W7.heap.size, 0, none⟩) 0 0) 0 [] rfl HBUF.out (.slice (some ⟨X, 1, none⟩) 512 512) (p.2.map yv) rfl A1.out HLE.out (by simp) ?_; intro v8 w8 ho8 hg8))
        have hb8 := HB2.out.grown hg8 (by simp) (by intro k hk; simp [Value.ownBlock] at hk; omega)
        rw [List.nil_append, Nat.zero_add, List.length_map, HP.out.1] at ho8
        obtain ⟨a8, cap8, rfl, _, _, B8⟩ := own_bytes ho8 HP.out.1
        have HB8 := Lib.hid hb8
        have BB8 := Lib.hid B8
        clear hb8 B8 ho8 hg8 hsl hx0 hqb
        go_wp2_with fail
        go_roundw
        case rel => exact ⟨i + 1, by have := HLT.out; omega, by go_num, ⟨_, _, rfl, by rw [HN2.out]; exact BB8.out⟩, HT7.out.trans (HB8.out.mono HT7.out.size)⟩
        case measure => simp [intOf]; have := HLT.out; omega
      · have hqb : ((p.1 : Int) == (a : Int)) = false := by simp; omega
        have HN2 := Lib.hid (show readM F (ws.take (i + 1)) a = readM F (ws.take i) a by rw [HNX.out, if_neg hq])
        clear hq
        go_wp2_with fail
        go_roundw
        case rel => exact ⟨i + 1, by have := HLT.out; omega, by go_num, ⟨_, _, rfl, by rw [HN2.out]; exact HBX7.out⟩, HT7.out⟩
        case measure => simp [intOf]; have := HLT.out; omega
    · have hbv : decide (i < N) = false := by simp; omega
      have HI := Lib.hid (show ws.take i = ws from List.take_of_length_le (by have := HN.out; omega))
      have HT := Lib.hid hT
      have HBX := Lib.hid hBX
      clear hT hi hlt hBX
      go_wp2_with fail
      go_ret2
      rw [HI.out] at HBX
      unfold Sect
      exact ⟨_, rfl, HBX.out, HT.out⟩
end Go.Proofs.Ytmfpdbmohebodaa
