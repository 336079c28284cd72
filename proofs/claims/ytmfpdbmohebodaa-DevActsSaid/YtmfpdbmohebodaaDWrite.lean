/-
  The reference of layer 6: Write, the answers that are no.
-/
import Derived.Test.YtmfpdbmohebodaaDFlush
namespace Go.Proofs.Ytmfpdbmohebodaa
open Go.RowKit

set_option maxHeartbeats 800000 in
theorem rwrite_far (D gl n a : Nat) (vw v : Value) (F : List (BitVec 8)) (ws : List (Nat × List (BitVec 8))) (lim : Int) (dn : Bool) (w : World) (h : RD w D gl n vw F ws lim dn) (ha : a < 4294967296) (hn : n ≤ a) :
    Calls Try.prog 29 #[.pointer (some ⟨D, 0, none⟩), .int .u32 (a : Int), v] w fun e w' => e = .returned (.int .i64 2) ∧ w' = w := by
  have HT := Lib.hid (show Calls Try.prog 37 #[.pointer (some ⟨D, 0, none⟩), .int .u32 (a : Int)] w fun e w' => e = .returned (.bool false) ∧ w' = w by have q := rthere_any D gl n a vw lim dn w h.dev h.big ha; rw [show decide (a < n) = false by simp; omega] at q; exact q)
  clear h ha hn
  go_enter Try.func29, Try.ntmps29
  go_wp2_with fail
  refine HT.out.mono ?_
  rintro e w1 ⟨rfl, rfl⟩
  go_wp2_with fail
  go_ret
  exact ⟨rfl, rfl⟩

set_option maxHeartbeats 800000 in
theorem rwrite_size (D gl n a : Nat) (vw : Value) (F : List (BitVec 8)) (ws : List (Nat × List (BitVec 8))) (lim : Int) (dn : Bool) (ab : Option Addr) (lb capb : Nat) (w : World) (h : RD w D gl n vw F ws lim dn) (ha : a < n) (hl : lb ≠ 512) :
    Calls Try.prog 29 #[.pointer (some ⟨D, 0, none⟩), .int .u32 (a : Int), .slice ab lb capb] w fun e w' => e = .returned (.int .i64 2) ∧ w' = w := by
  have hbig := h.big
  have HT := Lib.hid (show Calls Try.prog 37 #[.pointer (some ⟨D, 0, none⟩), .int .u32 (a : Int)] w fun e w' => e = .returned (.bool true) ∧ w' = w by have q := rthere_any D gl n a vw lim dn w h.dev h.big (by omega); rw [show decide (a < n) = true by simp [ha]] at q; exact q)
  have hbv : ((lb : Int) == 512) = false := by simp; omega
  clear h ha hl hbig
  go_enter Try.func29, Try.ntmps29
  go_wp2_with fail
  refine HT.out.mono ?_
  rintro e w1 ⟨rfl, rfl⟩
  go_wp2_with fail
  go_ret
  exact ⟨rfl, rfl⟩

set_option maxHeartbeats 800000 in
theorem rwrite_down (D gl n a : Nat) (vw : Value) (F : List (BitVec 8)) (ws : List (Nat × List (BitVec 8))) (lim : Int) (ab : Option Addr) (capb : Nat) (w : World) (h : RD w D gl n vw F ws lim true) (ha : a < n) :
    Calls Try.prog 29 #[.pointer (some ⟨D, 0, none⟩), .int .u32 (a : Int), .slice ab 512 capb] w fun e w' => e = .returned (.int .i64 7) ∧ w' = w := by
  have hbig := h.big
  have HT := Lib.hid (show Calls Try.prog 37 #[.pointer (some ⟨D, 0, none⟩), .int .u32 (a : Int)] w fun e w' => e = .returned (.bool true) ∧ w' = w by have q := rthere_any D gl n a vw lim true w h.dev h.big (by omega); rw [show decide (a < n) = true by simp [ha]] at q; exact q)
  obtain ⟨_, _, _, c3⟩ := rd_at h.dev
  clear h ha hbig
  go_enter Try.func29, Try.ntmps29
  go_wp2_with fail
  refine HT.out.mono ?_
  rintro e w1 ⟨rfl, rfl⟩
  go_wp2_with fail
  go_ret
  exact ⟨rfl, rfl⟩

set_option maxHeartbeats 800000 in
theorem rwrite_limit (D gl n a : Nat) (vw : Value) (F : List (BitVec 8)) (ws : List (Nat × List (BitVec 8))) (ab : Option Addr) (capb : Nat) (w : World) (h : RD w D gl n vw F ws 0 false) (ha : a < n) :
    Calls Try.prog 29 #[.pointer (some ⟨D, 0, none⟩), .int .u32 (a : Int), .slice ab 512 capb] w fun e w' => e = .returned (.int .i64 7) ∧ RD w' D gl n vw F ws 0 true ∧ Only D w w' := by
  have hbig := h.big
  have HT := Lib.hid (show Calls Try.prog 37 #[.pointer (some ⟨D, 0, none⟩), .int .u32 (a : Int)] w fun e w' => e = .returned (.bool true) ∧ w' = w by have q := rthere_any D gl n a vw 0 false w h.dev h.big (by omega); rw [show decide (a < n) = true by simp [ha]] at q; exact q)
  obtain ⟨_, _, _, c3⟩ := rd_at h.dev
  have hgo := rgoes_any D gl n vw 0 false w h.dev h.lim1
  rw [show goM 0 false = (0, true) by unfold goM; simp] at hgo
  have HG := Lib.hid hgo
  have H := Lib.hid h
  clear hgo h ha hbig
  go_enter Try.func29, Try.ntmps29
  go_wp2_with fail
  refine HT.out.mono ?_
  rintro e w1 ⟨rfl, rfl⟩
  go_wp2_with fail
  refine HG.out.mono ?_
  rintro e w2 ⟨rfl, hD1, hO1⟩
  have H1 := Lib.hid (H.out.redev hO1 hD1 (by omega))
  have HO := Lib.hid hO1
  clear hD1 hO1 c3 HG
  go_wp2_with fail
  go_ret
  exact ⟨rfl, H1.out, HO.out⟩
end Go.Proofs.Ytmfpdbmohebodaa
