import Derived.Test.YtgckapolpifbkaaGreatDoorCtr0
import Derived.Test.YtgckapolpifbkaaGreatDoorCod0
import Derived.StillTailTactics
namespace Go.Proofs.YtgckapolpifbkaaGreatDoor
section
set_option maxRecDepth 4000
open Go.RowKit
end
section
set_option maxRecDepth 4000
open Go.RowKit
def secY (F : List (BitVec 8)) (a : Nat) : List (BitVec 8) := (F.drop (a * 512)).take 512
theorem secY_length (F : List (BitVec 8)) (a n : Nat) (h : F.length = n * 512) (ha : a < n) : (secY F a).length = 512 := by
 unfold secY; rw [List.length_take,List.length_drop]; omega
end
section
set_option maxRecDepth 4000
open Go.RowKit
def wcell (p : Nat × List (BitVec 8)) : List Value := Value.int .u32 (p.1 : Int) :: p.2.map (fun b => Value.int .u8 (yv b))
def wcells (ws : List (Nat × List (BitVec 8))) : List Value := ws.flatMap wcell
theorem rd_lt {w : World} {D : Nat} {o : Obj} (h : w.heap[D]? = some o) : D < w.heap.size := (Array.getElem?_eq_some_iff.1 h).1
end
section
set_option maxRecDepth 4000
open Go.RowKit
theorem own_only {B n k g : Nat} {e : TypeId} {v : Value} {xs : List Value} {w w' : World} (h : w.ownsRow B e k v n xs) (q : Only g w w') (hne : v.ownBlock ≠ some g) : w'.ownsRow B e k v n xs :=
 h.kept (row := some g) ⟨(q.bel 0 (Nat.zero_le _)).os,(q.bel 0 (Nat.zero_le _)).tape,(q.bel 0 (Nat.zero_le _)).output,Nat.le_of_eq q.size.symm,fun j _ hj => q.rest j (fun e => hj (by rw [e]))⟩ (.inr hne)
theorem own_type6 {B n k g : Nat} {e : TypeId} {v : Value} {xs : List Value} {w : World} (h : w.ownsRow B e k v n xs) {cs : Array Value} {t : TypeId} {fr : Nat × Nat} (hg : w.heap[g]? = some (.cells cs t fr)) (hte : t ≠ e) : v.ownBlock ≠ some g := by
 rcases h.2 with ⟨rfl,_⟩ | ⟨g',cap,cur,rfl,_,hg',_⟩
 ·simp [Value.ownBlock]
 ·intro he
  simp only [Value.ownBlock,Option.some.injEq] at he
  subst he
  rw [hg'] at hg
  injection hg with hg
  injection hg with _ h2 _
  exact hte h2.symm
theorem type_ne {w : World} {g g' : Nat} {cs cs' : Array Value} {t t' : TypeId} {fr fr' : Nat × Nat} (h : w.heap[g]? = some (.cells cs t fr)) (h' : w.heap[g']? = some (.cells cs' t' fr')) (hne : t ≠ t') : g ≠ g' := by
 rintro rfl
 rw [h] at h'
 injection h' with h'
 injection h' with _ h2 _
 exact hne h2
theorem only_setRow (w : World) (g : Nat) (cs : Array Value) : Only g w (w.setRow g cs) := ⟨by simp,fun k hk => setRow_other w g k cs hk,fun B hB => ybelow_row (Below.refl B w) hB cs⟩
end
section
set_option maxRecDepth 4000
open Go.RowKit
theorem only_setCells {g : Nat} : ∀ (vs : List Value) (o : Nat) (a w : World),Only g a w → Only g a (w.setCells g o vs)
 | [],_,_,_,h => h
 | v :: vs,o,a,_,h => only_setCells vs (o + 1) a _ (h.setCell o v)
def flushM (F : List (BitVec 8)) (ws : List (Nat × List (BitVec 8))) : List (BitVec 8) := ws.foldl (fun F p => putL F (p.1 * 512) p.2) F
theorem flushM_next (F : List (BitVec 8)) (ws : List (Nat × List (BitVec 8))) (i : Nat) (h : i < ws.length) : flushM F (ws.take (i + 1)) = putL (flushM F (ws.take i)) ((ws[i]).1 * 512) (ws[i]).2 := by
 unfold flushM
 rw [List.take_add_one,List.getElem?_eq_getElem h,Option.toList_some,List.foldl_append]
 rfl
theorem wcell_length (p : Nat × List (BitVec 8)) (h : p.2.length = 512) : (wcell p).length = 513 := by simp [wcell,h]
theorem wcells_at (ws : List (Nat × List (BitVec 8))) (h : ∀ p ∈ ws,p.2.length = 512) (i : Nat) (hi : i < ws.length) (j : Nat) (hj : j < 513) : (wcells ws)[i * 513 + j]? = (wcell ws[i])[j]? := by
 induction ws generalizing i with
 | nil => simp at hi
 | cons p ws ih =>
   have h1 := wcell_length p (h p (by simp))
   show (wcell p ++ wcells ws)[i * 513 + j]? = _
   cases i with
   | zero => rw [List.getElem?_append_left (by omega)]; simp
   | succ i =>
     rw [List.getElem?_append_right (by omega),h1,show (i + 1) * 513 + j - 513 = i * 513 + j by omega,ih (fun q hq => h q (by simp [hq])) i (by simpa using hi)]
     simp
theorem own_range {w : World} {g cap : Nat} {e : TypeId} {ws : List (Nat × List (BitVec 8))} (h : w.ownsRow 0 e 513 (.slice (some ⟨g,0,none⟩) ws.length cap) ws.length (wcells ws)) (hw : ∀ p ∈ ws,p.2.length = 512) (i : Nat) (hi : i < ws.length) : w.rangeAt g (i * 513) (wcell ws[i]) := by
 intro j v hv
 have hj : j < 513 := by
  have := (List.getElem?_eq_some_iff.1 hv).1
  rwa [wcell_length _ (hw _ (List.getElem_mem hi))] at this
 have hlt : i * 513 + j < ws.length * 513 := by
  have : (i + 1) * 513 ≤ ws.length * 513 := Nat.mul_le_mul_right _ hi
  omega
 rw [h.cellAt (i * 513 + j) hlt,wcells_at ws hw i hi j hj]
 exact hv
end
section
set_option maxRecDepth 4000
open Go.RowKit
def wrow (p : Nat × List (BitVec 8)) : Array Value := (wcell p).toArray
theorem wrow_one (p : Nat × List (BitVec 8)) : (wrow p).all (·.oneCell') = true := by
 apply all_oneCell_toArray
 intro v hv
 simp only [wcell,List.mem_cons,List.mem_map] at hv
 rcases hv with rfl | ⟨b,_,rfl⟩ <;> rfl
end
section
set_option maxRecDepth 4000
open Go.RowKit
def stepC (keep : Nat) (torn : Int) (F : List (BitVec 8)) (p : Nat × List (BitVec 8)) (i : Nat) : List (BitVec 8) :=
 if (i : Int) = torn then putL F (p.1 * 512) (p.2.take 256) else if keep / 2 ^ (i % 64) % 2 = 1 then putL F (p.1 * 512) p.2 else F
def crashM (keep : Nat) (torn : Int) (F : List (BitVec 8)) (ws : List (Nat × List (BitVec 8))) : Nat → List (BitVec 8)
 | 0 => F
 | i + 1 => stepC keep torn (crashM keep torn F ws i) (ws.getD i (0, [])) i
end
section
set_option maxRecDepth 4000
open Go.RowKit
theorem made_secs (n : Nat) : madeCells (yvs (zeroY 512)) (n * 512) = yvs (zeroY (n * 512)) := by
 rw [yvs_zero,yvs_zero]
 unfold madeCells
 apply Array.ext
 ·simp
 ·intro i h1 h2
  simp only [Array.getElem_map,Array.getElem_replicate,Array.size_replicate]
  rw [getElem!_pos _ _ (by simp; omega)]
  simp
end
section
set_option maxRecDepth 4000
open Go.RowKit
def readM (F : List (BitVec 8)) (ws : List (Nat × List (BitVec 8))) (a : Nat) : List (BitVec 8) := ws.foldl (fun o p => if p.1 = a then p.2 else o) (secY F a)
end
end Go.Proofs.YtgckapolpifbkaaGreatDoor
