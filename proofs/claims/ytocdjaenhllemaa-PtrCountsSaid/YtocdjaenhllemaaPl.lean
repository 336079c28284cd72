/-
  What layer 8's laws share: the chapter's examples, how a pointer and a list of pointers come in.
-/
import Derived.Test.YtocdjaenhllemaaRb
namespace Go.Proofs.Ytocdjaenhllemaa
set_option maxRecDepth 4000
open Go.ChangeShapes Go.WideShapes Go.ChangeAt Go.RowKit

theorem pdrop_nil (q : PtrV) (w : World) :
    Calls Try.prog 6 #[.pointer none, .agg (ptrRow q).toArray] w fun e w' => e = .returned (.tuple #[.int .i64 0, .int .i64 1]) ∧ Below w.heap.size w w' := by
  have HB := Lib.hid ((Below.refl w.heap.size w).alloc (Nat.le_refl _) (.cells (ptrRow q).toArray 35))
  generalize (ptrRow q).toArray = AR at *
  go_enter Try.func6, Try.ntmps6
  go_wp2_with fail
  go_ret2
  exact ⟨rfl, HB.out⟩
/-- The chapter's example. -/
def exP : PtrV := ⟨3, 5, List.replicate 32 0, by decide, by decide, by decide, byt_zeros8 32⟩
theorem exP_bytes : ptrB exP = [0, 0, 0, 3, 0, 0, 0, 0, 0, 0, 0, 5] ++ List.replicate 32 0 := by decide
set_option maxRecDepth 100000 in
set_option maxHeartbeats 3200000 in
theorem alive8_any (w : World) : Calls Try.prog 4 #[] w fun e w' => e = .returned (.bool true) ∧ Below w.heap.size w w' := by
  have hz := zero_writer
  have HN := Lib.hid (show Calls Try.prog 16 #[.pointer (some ⟨w.heap.size, 0, none⟩), .agg #[.int .u32 3, .int .u64 5, .int .u8 0, .int .u8 0, .int .u8 0, .int .u8 0, .int .u8 0, .int .u8 0, .int .u8 0, .int .u8 0, .int .u8 0, .int .u8 0, .int .u8 0, .int .u8 0, .int .u8 0, .int .u8 0, .int .u8 0, .int .u8 0, .int .u8 0, .int .u8 0, .int .u8 0, .int .u8 0, .int .u8 0, .int .u8 0, .int .u8 0, .int .u8 0, .int .u8 0, .int .u8 0, .int .u8 0, .int .u8 0, .int .u8 0, .int .u8 0, .int .u8 0, .int .u8 0]] _ _ from wl_ptr w _ w.heap.size [] exP (wl_new (Below.refl w.heap.size w)) (by simp))
  have HD := Lib.hid (show ∀ W : World, Calls Try.prog 6 #[.pointer none, .agg #[.int .u32 0, .int .u64 0, .int .u8 0, .int .u8 0, .int .u8 0, .int .u8 0, .int .u8 0, .int .u8 0, .int .u8 0, .int .u8 0, .int .u8 0, .int .u8 0, .int .u8 0, .int .u8 0, .int .u8 0, .int .u8 0, .int .u8 0, .int .u8 0, .int .u8 0, .int .u8 0, .int .u8 0, .int .u8 0, .int .u8 0, .int .u8 0, .int .u8 0, .int .u8 0, .int .u8 0, .int .u8 0, .int .u8 0, .int .u8 0, .int .u8 0, .int .u8 0, .int .u8 0, .int .u8 0]] W _ from fun W => pdrop_nil zeroPtr W)
  have HU := Lib.hid (show ∀ W : World, Calls Try.prog 18 #[.agg #[.int .u32 0, .int .u64 0, .int .u8 0, .int .u8 0, .int .u8 0, .int .u8 0, .int .u8 0, .int .u8 0, .int .u8 0, .int .u8 0, .int .u8 0, .int .u8 0, .int .u8 0, .int .u8 0, .int .u8 0, .int .u8 0, .int .u8 0, .int .u8 0, .int .u8 0, .int .u8 0, .int .u8 0, .int .u8 0, .int .u8 0, .int .u8 0, .int .u8 0, .int .u8 0, .int .u8 0, .int .u8 0, .int .u8 0, .int .u8 0, .int .u8 0, .int .u8 0, .int .u8 0, .int .u8 0]] W _ from fun W => pnull_any zeroPtr W)
  go_enter Try.func4, Try.ntmps4
  go_wp2_with fail
  refine HN.out.mono ?_
  rintro e w2 ⟨rfl, h2⟩
  have HY := Lib.hid (wl_bytes w w2 w.heap.size _ h2 (by rw [List.nil_append, ptrB_length]; decide))
  rw [List.nil_append, ptrB_length] at HY
  have HB2 := Lib.hid h2.bel
  clear h2 HN hz
  go_wp2_with fail
  refine HY.out.mono ?_
  rintro e w3 ⟨a, c, rfl, hc, hbs, _, hb3⟩
  have HB3 := Lib.hid (HB2.out.trans (hb3.mono HB2.out.size))
  obtain ⟨b, off, rfl, _, hsrc⟩ := bs_cells hbs (by rw [ptrB_length]; decide)
  have HC := Lib.hid (And.intro (show w3.cell? ⟨b, off + 3, none⟩ = some (.int .u8 3) from hsrc 3 _ rfl) (show w3.cell? ⟨b, off + 11, none⟩ = some (.int .u8 5) from hsrc 11 _ rfl))
  clear hc hbs hb3 hsrc HY HB2
  go_wp2_with fail
  refine (HD.out _).mono ?_
  rintro e w4 ⟨rfl, hb4⟩
  have c3 := (hb4.cell (block_lt_of_cell HC.out.1)).trans HC.out.1
  have c11 := (hb4.cell (block_lt_of_cell HC.out.2)).trans HC.out.2
  have HB4 := Lib.hid (HB3.out.trans (hb4.mono HB3.out.size))
  clear hb4 HC HD HB3
  go_wp2_with fail
  refine (HU.out _).mono ?_
  rintro e w5 ⟨rfl, hb5⟩
  have HB5 := Lib.hid (HB4.out.trans (hb5.mono HB4.out.size))
  clear hb5 c3 c11 HU HB4
  rw [show (zeroPtr.ad == 0) = true from rfl]
  go_wp2_with fail
  go_ret
  exact ⟨rfl, HB5.out⟩
/-! ### how they come in -/
theorem par_ptr {H : Type} {enc : TypeId × Value → H} {W : World} {base : Nat} {v : Value} {d : DataW H} {p : List MemPlace} {ts : List TypeId} {ds : List (DataW H)} {j : Nat} (_hok : Value.okWide Try.prog W .any base 35 v) (h : ∃ fuel, DataW.trod enc Try.prog W 0 (fun _ => true) true fuel 35 v.cells.toList = some (d, p))
    (hsz : (DataW.weightsEach Try.prog ts ds).all (· ≤ reachBytes) = true) (ht : ts[j]? = some 35) (hd : ds[j]? = some d) : ∃ q : PtrV, v = .agg (ptrRow q).toArray := by
  obtain ⟨q, hq⟩ := opn_param opn_ptr h hsz ht hd
  have e : v.cells.toList = ptrRow q := hq
  refine ⟨q, ?_⟩
  rw [agg_cells (v := v) (by rw [e, ptrRow_length]; decide)]
  congr 1
  rw [← e]
theorem ptrs_at {w w' : World} {x : List PtrV} {a : Option Addr} {n c i : Nat} (h : Ptrs w x a n c) (hb : Below w.heap.size w w') (hi : i < n) :
    ∃ b off q, a = some ⟨b, off, none⟩ ∧ x[i]? = some q ∧ w'.rangeAt b (off + i * 34) (ptrRow q) := by
  obtain ⟨b, off, cs, h1, h2, _, h5⟩ := h.here i (by rw [h.len]; exact hi)
  obtain rfl : cs = ptrRow _ := h2
  exact ⟨b, off, _, h1, List.getElem?_eq_getElem _, range_below h5 hb⟩
theorem index_ptr (b off len cap i : Nat) (h : i < len) (W : World) : (Instr.indexAt 27 (.slice (some ⟨b, off, none⟩) len cap) (.int .i64 (i : Int))).run Try.prog W = .ok (.pointer (some ⟨b, off + i * 34, none⟩)) W := by
  obtain ⟨i0, hi, hs⟩ := Option.map_eq_some_iff.1 (show (Try.prog.info? 35).map (·.size) = some 34 by kernel_rfl)
  simp [Instr.indexAt, asIntOf, run_underlying Try.underlying27, sizeOf, typeInfo, hi, hs, h, Addr.add_mid]
end Go.Proofs.Ytocdjaenhllemaa
