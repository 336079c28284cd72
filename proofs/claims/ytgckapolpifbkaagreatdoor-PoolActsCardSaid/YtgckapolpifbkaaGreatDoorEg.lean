import Derived.Test.YtgckapolpifbkaaGreatDoorEf
import Derived.Test.YtgckapolpifbkaaGreatDoorEb
import Derived.Test.YtgckapolpifbkaaGreatDoorAlive3
namespace Go.Proofs.YtgckapolpifbkaaGreatDoor
set_option maxRecDepth 4000
set_option linter.unusedVariables false
open Go.ChangeShapes Go.WideShapes Go.ChangeAt Go.RowKit
def encK (x : List Int) : List (BitVec 8) := toY (macS x [101,110,99])
def macK (x : List Int) : List (BitVec 8) := toY (macS x [109,97,99])
theorem macK_length (x : List Int) : (macK x).length = 32 := by unfold macK; rw [toY_length,macS_length]
theorem keysK_row (x : List Int) : u8s (macS x [101,110,99] ++ macS x [109,97,99]) = yvs (encK x ++ macK x) := by
 rw [u8s_app]
 unfold yvs encK macK
 rw [List.map_append]
 have h1 := toY_yv _ (macS_byt x [101,110,99])
 have h2 := toY_yv _ (macS_byt x [109,97,99])
 rw [show (toY (macS x [101,110,99])).map (fun b => Value.int .u8 (yv b)) = ((toY (macS x [101,110,99])).map yv).map (Value.int .u8) by rw [List.map_map]; rfl,h1,
  show (toY (macS x [109,97,99])).map (fun b => Value.int .u8 (yv b)) = ((toY (macS x [109,97,99])).map yv).map (Value.int .u8) by rw [List.map_map]; rfl,h2]
theorem pkeysK_any (x : List Int) (v : Value) (w : World) (hv : BS w v x) (hr : Room v) (hK : KT w) (hn : x.length ≤ 140737488355328) :
 Calls Tryz.prog 38 #[v] w fun e w' => e = .returned (.agg (yvs (encK x ++ macK x))) ∧ Below w.heap.size w w' := by
 rw [← keysK_row]; exact pkeys_any x v w hv hr hK hn
structure SD (w wc : World) (c q : Nat) (S : List (BitVec 8)) (P : PtrV) : Prop where
 bel : Below w.heap.size w wc
 cy : ArrY wc c 5 S
 qy : wc.heap[q]? = some (.cells (ptrRow P).toArray 43 (0,0))
 ne : c ≠ q
 cg : w.heap.size ≤ c
 qg : w.heap.size ≤ q
def masZ : List Int := [109,97,115,116,101,114]
theorem encK_master : encK masZ = keyE := keyE_eq
theorem openA_sealed (k : List (BitVec 8)) (a c : Nat) (l : List (BitVec 8)) (hl : l.length = 512) (ha : a < 18446744073709551616) (hc : c < 4294967296) : openA k (ptrOf12 a c ((sealS k a c l).map yv)) (sealS k a c l) = (l,0) := by
 have hs := sealS_length k a c l hl
 obtain ⟨h1,h2,h3⟩ := ptrOf12_parts a c ((sealS k a c l).map yv) hc ha
 unfold openA
 rw [if_neg (by omega),fits_len _ _ hs,h3,h1,h2,if_pos (by simp),show ((a : Int)).toNat = a from rfl,show ((c : Int)).toNat = c from rfl,sealS_twice k a c l hl]
theorem info_keys64 (l : List (BitVec 8)) (h : l.length = 64) : (Tryz.prog.info? 30).map (·.size) = some (yvs l).toList.length := by rw [Array.length_toList]; exact size_keys l h
theorem bs_master (W : World) : BS (W.alloc (.cells #[.int .u8 109,.int .u8 97,.int .u8 115,.int .u8 116,.int .u8 101,.int .u8 114] 5 (6,7))) (.slice (some ⟨W.heap.size,0,none⟩) 6 6) masZ := by
 refine ⟨_,_,rfl,by unfold masZ Byt; decide,nofun,.inr ⟨_,0,rfl,fun i hi => ?_⟩⟩
 rw [cell_of_row _ _ _ _ _ _ (heap_alloc_new W _)]
 change i < 6 at hi
 rw [Nat.zero_add]
 match i,hi with
 | 0,_ => rfl
 | 1,_ => rfl
 | 2,_ => rfl
 | 3,_ => rfl
 | 4,_ => rfl
 | 5,_ => rfl
end Go.Proofs.YtgckapolpifbkaaGreatDoor
