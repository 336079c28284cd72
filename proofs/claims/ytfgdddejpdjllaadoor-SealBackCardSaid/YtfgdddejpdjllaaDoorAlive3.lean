/-
  The document's example of layer 3: alive returns true and leaves what was there as it was.
-/
import Derived.Test.YtfgdddejpdjllaaDoorMac0
import Derived.Test.YtfgdddejpdjllaaDoorSha1
namespace Go.Proofs.YtfgdddejpdjllaaDoor
set_option maxRecDepth 4000
open Go.RowKit

def jefe : List Int := [74, 101, 102, 101]
def want : List Int := [119, 104, 97, 116, 32, 100, 111, 32, 121, 97, 32, 119, 97, 110, 116, 32, 102, 111, 114, 32, 110, 111, 116, 104, 105, 110, 103, 63]
def jefeHex : List Int := [53, 98, 100, 99, 99, 49, 52, 54, 98, 102, 54, 48, 55, 53, 52, 101, 54, 97, 48, 52, 50, 52, 50, 54, 48, 56, 57, 53, 55, 53, 99, 55, 53, 97, 48, 48, 51, 102, 48, 56, 57, 100, 50, 55, 51, 57, 56, 51, 57, 100, 101, 99, 53, 56, 98, 57, 54, 52, 101, 99, 51, 56, 52, 51]
set_option maxRecDepth 100000 in
theorem jefe_hex : hexI (macS jefe want) = jefeHex := by decide +kernel
theorem jefe_str : strOfNums jefeHex = ⟨#[53, 98, 100, 99, 99, 49, 52, 54, 98, 102, 54, 48, 55, 53, 52, 101, 54, 97, 48, 52, 50, 52, 50, 54, 48, 56, 57, 53, 55, 53, 99, 55, 53, 97, 48, 48, 51, 102, 48, 56, 57, 100, 50, 55, 51, 57, 56, 51, 57, 100, 101, 99, 53, 56, 98, 57, 54, 52, 101, 99, 51, 56, 52, 51]⟩ := by rfl

/-- Two constant texts as bytes, one behind the other. -/
theorem two_texts (w : World) (A B : Array Value) (ra rb : Nat × Nat) : ∀ W, W = (w.alloc (.cells A 5 ra)).alloc (.cells B 5 rb) →
    W.heap[w.heap.size]? = some (.cells A 5 ra) ∧ W.heap[w.heap.size + 1]? = some (.cells B 5 rb) ∧ W.heap.size = w.heap.size + 2 ∧ Below w.heap.size w W := by
  rintro W rfl
  exact ⟨heap_alloc2_old w _ _, heap_alloc2_new w _ _, by simp, ((Below.refl w.heap.size w).alloc (Nat.le_refl _) _).alloc (by simp) _⟩
theorem bs_const {W : World} {g : Nat} {l : List Int} {r : Nat × Nat} (h : W.heap[g]? = some (.cells (u8s l) 5 r)) (hl : Byt l) (n : Nat) (hn : l.length = n) : BS W (.slice (some ⟨g, 0, none⟩) n n) l := by
  subst hn
  exact ⟨_, _, rfl, hl, nofun, .inr ⟨g, 0, rfl, fun i hi => by rw [Nat.zero_add]; exact (cell_of_row W g i _ _ _ h).trans (u8s_at l i hi)⟩⟩
theorem jefe_byt : Byt jefe := by unfold jefe Byt; decide
theorem want_byt : Byt want := by unfold want Byt; decide
theorem conv_const (W : World) (C : Array Value) (n c : Nat) : (convert 22 22 (.slice (some ⟨W.heap.size, 0, none⟩) n c)).run Tryd.prog (W.alloc (.cells C 5)) = .ok (.slice (some ⟨W.heap.size, 0, none⟩) n c) (W.alloc (.cells C 5 (C.size, C.size + 1))) :=
  Lib.run_convert_bytes_const (P := Tryd.prog) W 22 5 C n c Tryd.underlying22 Tryd.underlying5
theorem conv_const2 (W : World) (A : Obj) (C : Array Value) (n c : Nat) : (convert 22 22 (.slice (some ⟨W.heap.size + 1, 0, none⟩) n c)).run Tryd.prog ((W.alloc A).alloc (.cells C 5)) = .ok (.slice (some ⟨W.heap.size + 1, 0, none⟩) n c) ((W.alloc A).alloc (.cells C 5 (C.size, C.size + 1))) := by
  have := conv_const (W.alloc A) C n c
  rwa [World.size_alloc] at this

end Go.Proofs.YtfgdddejpdjllaaDoor
