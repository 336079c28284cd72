/-
  What layer 6's laws use besides: limits, and how flags, a number, a bool come in.
-/
import Derived.Test.YtmfpdbmohebodaaPOwn
import Derived.Test.YtmfpdbmohebodaaCOpen
import Derived.Deep.Grids
namespace Go.Proofs.Ytmfpdbmohebodaa
open Go.ChangeShapes Go.WideShapes Go.ChangeAt Go.RowKit

theorem po_write_lim (w0 w : World) (K : List Nat) (D gl n a bx cap : Nat) (F l : List (BitVec 8)) (ws : List (Nat × List (BitVec 8))) (lim : Int) (h : PO w0 w K D gl n F ws lim false) (hlim : lim ≠ 0) (ha : a < n) (hB : ArrY w bx 5 l) (hl : l.length = 512) (hws : ws.length ≤ 1000000) :
    Calls Try.prog 28 #[.pointer (some ⟨D, 0, none⟩), .int .u32 (a : Int), .slice (some ⟨bx, 0, none⟩) 512 cap] w fun e w' => e = .returned (.int .i64 0) ∧ PO w0 w' K D gl n F (ws ++ [(a, l)]) (goP lim false).1 false ∧ Stay K w w' := by
  obtain ⟨bm, vw, h, hf, hk, hb⟩ := h
  refine (pwrite_ok D gl bm n a bx cap vw F l ws lim w h ha hB hl hlim hws).mono ?_
  rintro e w' ⟨he, vw', hP, hT, hn⟩
  refine ⟨he, po_step h hf hk hb hP hT (fun g hg => ?_)⟩
  simp only [pfp, List.mem_cons, Option.mem_toList] at hg ⊢
  rcases hg with h1 | h1 | h1 | h1
  · exact .inl (.inl h1)
  · exact .inl (.inr (.inl h1))
  · exact .inl (.inr (.inr (.inl h1)))
  · rcases hn g h1 with h2 | h2
    · exact .inl (.inr (.inr (.inr h2)))
    · exact .inr h2
theorem po_own {w0 w w' : World} {K : List Nat} {D gl bm n g : Nat} {vw : Value} {F F' : List (BitVec 8)} {ws : List (Nat × List (BitVec 8))} {lim lim' : Int} {dn dn' : Bool}
    (h : PD w D gl bm n vw F ws lim dn) (hf : ∀ g ∈ pfp D gl bm vw, w0.heap.size ≤ g ∧ g ∉ K) (hk : ∀ k ∈ K, k < w.heap.size) (hb : Below w0.heap.size w0 w)
    (h' : PD w' D gl bm n vw F' ws lim' dn') (t : Only g w w') (hg : g = D ∨ g = gl) : PO w0 w' K D gl n F' ws lim' dn' ∧ Stay K w w' :=
  po_step h hf hk hb h' (Touch.of_only t (by rcases hg with rfl | rfl <;> simp [pfp])) (fun g hg => .inl hg)
theorem po_write_no (w0 w : World) (K : List Nat) (D gl n a cap : Nat) (ab : Option Addr) (F : List (BitVec 8)) (ws : List (Nat × List (BitVec 8))) (lim : Int) (dn : Bool) (h : PO w0 w K D gl n F ws lim dn) (ha : a < n) (hdn : (goP lim dn).2 = true) :
    Calls Try.prog 28 #[.pointer (some ⟨D, 0, none⟩), .int .u32 (a : Int), .slice ab 512 cap] w fun e w' => e = .returned (.int .i64 7) ∧ PO w0 w' K D gl n F ws (goP lim dn).1 true ∧ Stay K w w' := by
  obtain ⟨bm, vw, h, hf, hk, hb⟩ := h
  refine (pwrite_down D gl bm n a vw F ws lim dn ab cap w h ha hdn).mono ?_
  rintro e w' ⟨he, hP, hO⟩
  exact ⟨he, po_own h hf hk hb hP hO (.inl rfl)⟩
theorem po_flush_lim (w0 w : World) (K : List Nat) (D gl n : Nat) (F : List (BitVec 8)) (ws : List (Nat × List (BitVec 8))) (lim : Int) (h : PO w0 w K D gl n F ws lim false) (hlim : lim ≠ 0) (hws : ws.length ≤ 1000000) :
    Calls Try.prog 15 #[.pointer (some ⟨D, 0, none⟩)] w fun e w' => e = .returned (.int .i64 0) ∧ PO w0 w' K D gl n (flushM F ws) [] (goP lim false).1 false ∧ Stay K w w' := by
  obtain ⟨bm, vw, h, hf, hk, hb⟩ := h
  refine (pflush_ok D gl bm n vw F ws lim w h hlim hws).mono ?_
  rintro e w' ⟨he, bm', hP, hT, hn⟩
  exact ⟨he, po_step h hf hk hb hP (hT.more (by intro k hk; simp only [List.mem_cons, List.not_mem_nil, or_false] at hk; rcases hk with rfl | rfl <;> simp [pfp])) (pfp_settled hn)⟩
theorem po_flush_no (w0 w : World) (K : List Nat) (D gl n : Nat) (F : List (BitVec 8)) (ws : List (Nat × List (BitVec 8))) (lim : Int) (dn : Bool) (h : PO w0 w K D gl n F ws lim dn) (hdn : (goP lim dn).2 = true) :
    Calls Try.prog 15 #[.pointer (some ⟨D, 0, none⟩)] w fun e w' => e = .returned (.int .i64 7) ∧ PO w0 w' K D gl n F ws (goP lim dn).1 true ∧ Stay K w w' := by
  obtain ⟨bm, vw, h, hf, hk, hb⟩ := h
  refine (pflush_down D gl bm n vw F ws lim dn w h hdn).mono ?_
  rintro e w' ⟨he, hP, hO⟩
  exact ⟨he, po_own h hf hk hb hP hO (.inl rfl)⟩
theorem po_limit (w0 w : World) (K : List Nat) (D gl n : Nat) (F : List (BitVec 8)) (ws : List (Nat × List (BitVec 8))) (lim x : Int) (dn : Bool) (h : PO w0 w K D gl n F ws lim dn) (hx : x ≤ 9223372036854775807) :
    Calls Try.prog 17 #[.pointer (some ⟨D, 0, none⟩), .int .i64 x] w fun e w' => e = .returned (.tuple #[]) ∧ PO w0 w' K D gl n F ws (if x < 0 then -1 else x) dn ∧ Stay K w w' := by
  obtain ⟨bm, vw, h, hf, hk, hb⟩ := h
  refine (plimit_any D gl bm n vw F ws lim x dn w h hx).mono ?_
  rintro e w' ⟨he, hP, hO⟩
  exact ⟨he, po_own h hf hk hb hP hO (.inl rfl)⟩
theorem po_poke (w0 w : World) (K : List Nat) (D gl n a bx cap : Nat) (F l : List (BitVec 8)) (ws : List (Nat × List (BitVec 8))) (lim : Int) (dn : Bool) (h : PO w0 w K D gl n F ws lim dn) (ha : a < n) (hB : ArrY w bx 5 l) (hl : l.length = 512) :
    Calls Try.prog 21 #[.pointer (some ⟨D, 0, none⟩), .int .u32 (a : Int), .slice (some ⟨bx, 0, none⟩) 512 cap] w fun e w' => e = .returned (.int .i64 0) ∧ PO w0 w' K D gl n (putL F (a * 512) l) ws lim dn ∧ Stay K w w' := by
  obtain ⟨bm, vw, h, hf, hk, hb⟩ := h
  refine (ppoke_ok D gl bm n a bx cap vw F l ws lim dn w h ha hB hl).mono ?_
  rintro e w' ⟨he, hP, hO⟩
  exact ⟨he, po_own h hf hk hb hP hO (.inr rfl)⟩
theorem po_down (w0 w : World) (K : List Nat) (D gl n : Nat) (F : List (BitVec 8)) (ws : List (Nat × List (BitVec 8))) (lim : Int) (dn : Bool) (h : PO w0 w K D gl n F ws lim dn) :
    Calls Try.prog 31 #[.pointer (some ⟨D, 0, none⟩)] w fun e w' => e = .returned (.bool dn) ∧ w' = w := by
  obtain ⟨bm, vw, h, _⟩ := h
  exact pdown_any D gl bm n vw F ws lim dn w h
theorem po_waits (w0 w : World) (K : List Nat) (D gl n : Nat) (F : List (BitVec 8)) (ws : List (Nat × List (BitVec 8))) (lim : Int) (dn : Bool) (h : PO w0 w K D gl n F ws lim dn) (hws : ws.length ≤ 1000000) :
    Calls Try.prog 30 #[.pointer (some ⟨D, 0, none⟩)] w fun e w' => e = .returned (.int .i64 (ws.length : Int)) ∧ w' = w := by
  obtain ⟨bm, vw, h, _⟩ := h
  exact pwaits_any D gl bm n vw F ws lim dn w h hws
theorem po_read_down (w0 w : World) (K : List Nat) (D gl n a : Nat) (F : List (BitVec 8)) (ws : List (Nat × List (BitVec 8))) (lim : Int) (h : PO w0 w K D gl n F ws lim true) (ha : a < n) :
    Calls Try.prog 23 #[.pointer (some ⟨D, 0, none⟩), .int .u32 (a : Int)] w fun e w' => e = .returned (.tuple #[.slice none 0 0, .int .i64 7]) ∧ w' = w := by
  obtain ⟨bm, vw, h, _⟩ := h
  exact pread_down D gl bm n a vw F ws lim w h ha
section
variable {H : Type} {enc : TypeId × Value → H}
theorem open_flags {W : World} {base : Nat} {v : Value} {d : DataW H} {p : List MemPlace} {ts : List TypeId} {ds : List (DataW H)} (hok : Value.okWide Try.prog W .any base 62 v) (h : ∃ fuel, DataW.trod enc Try.prog W 0 (fun _ => true) true fuel 62 v.cells.toList = some (d, p))
    (_hsz : (DataW.weightsEach Try.prog ts ds).all (· ≤ reachBytes) = true) :
    ∃ (a : Option Addr) (len cap : Nat) (B : Nat → Bool), v = .slice a len cap ∧ (∀ i, i < len → ∃ ad : Addr, a = some ad ∧ W.cell? (ad.add i) = some (.bool (B i))) ∧ len ≤ maxLen := by
  obtain ⟨a, len, cap, rfl⟩ := okWide_slice Try.underlying62 hok
  obtain ⟨fuel, hf⟩ := h
  rcases Go.Deep.open_bools Try.underlying62 Try.underlying4 (by kernel_rfl) hf with ⟨hcs, _⟩ | ⟨x, l, c, B, hcs, _, hl, hm, _, hcell⟩
  · simp [Value.cells] at hcs
    obtain ⟨rfl, rfl, rfl⟩ := hcs
    exact ⟨none, 0, 0, fun _ => false, rfl, fun i hi => by omega, by omega⟩
  · simp [Value.cells] at hcs
    obtain ⟨rfl, rfl, rfl⟩ := hcs
    exact ⟨some x, len, cap, B, rfl, fun i hi => ⟨x, rfl, hcell i (by omega)⟩, by omega⟩
theorem open_nat64 {W : World} {base : Nat} {v : Value} {d : DataW H} {p : List MemPlace} {ts : List TypeId} {ds : List (DataW H)} (hok : Value.okWide Try.prog W .any base 33 v) (h : ∃ fuel, DataW.trod enc Try.prog W 0 (fun _ => true) true fuel 33 v.cells.toList = some (d, p))
    (_hsz : (DataW.weightsEach Try.prog ts ds).all (· ≤ reachBytes) = true) : ∃ n : Nat, v = .int .u64 (n : Int) ∧ n < 18446744073709551616 := by
  obtain ⟨n, rfl, _, _, hw⟩ := open_int Try.underlying33 hok h
  simp [Lit.wf, IntKind.min, IntKind.max, IntKind.bits, IntKind.signed] at hw
  exact ⟨n.toNat, by rw [Int.toNat_of_nonneg (by omega)], by omega⟩
theorem open_flag {W : World} {base : Nat} {v : Value} {d : DataW H} {p : List MemPlace} {ts : List TypeId} {ds : List (DataW H)} (hok : Value.okWide Try.prog W .any base 4 v) (h : ∃ fuel, DataW.trod enc Try.prog W 0 (fun _ => true) true fuel 4 v.cells.toList = some (d, p))
    (_hsz : (DataW.weightsEach Try.prog ts ds).all (· ≤ reachBytes) = true) : ∃ b : Bool, v = .bool b := by
  obtain ⟨b, rfl, _⟩ := open_bool Try.underlying4 hok h
  exact ⟨b, rfl⟩
end
theorem yv_nat (b : BitVec 8) : yv b = (b.toNat : Int) := rfl
end Go.Proofs.Ytmfpdbmohebodaa
