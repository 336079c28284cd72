/-
  Blocks sealed: how the structs of the laws come in.
-/
import Derived.Test.YtfgdddejpdjllaaDoorEc
namespace Go.Proofs.YtfgdddejpdjllaaDoor
set_option maxRecDepth 4000
set_option linter.unusedVariables false
open Go.ChangeShapes Go.WideShapes Go.ChangeAt Go.RowKit

def RBorn12 : World → Unit → List Value → Prop := fun W _ cs => ∃ (k : List (BitVec 8)) (bi : Int) (ad : Int) (ba : Option Addr) (bc : Nat) (b : List Int), cs = (yvs k).toList ++ ([Value.int .u64 bi] ++ ([Value.int .u32 ad] ++ ([Value.slice ba b.length bc]))) ∧ k.length = 32 ∧ (0 ≤ bi ∧ bi ≤ 18446744073709551615) ∧ (0 ≤ ad ∧ ad ≤ 4294967295) ∧ (b.length ≤ bc ∧ bc ≤ 140737488351232 ∧ BS W (.slice ba b.length bc) b)
theorem opn_born12 : Opn 37 RBorn12 := by
  intro H enc W fuel cs y h hw
  obtain ⟨xs, k, _, hx, hlen, hxl, hfs⟩ := DataW.trod_struct Tryd.underlying37 h
  rw [show Tryd.prog.cellsOf 37 = 35 by kernel_rfl] at hlen
  have hxk : xs.length = 4 := hxl
  have hd := congrArg Prod.fst hx
  dsimp only at hd
  clear hx hxl
  match xs, hxk with
  | [y0, y1, y2, y3], _ =>
    have e0 : Tryd.prog.cellsOf 24 = 32 := by kernel_rfl
    have e1 : Tryd.prog.cellsOf 22 = 1 := by kernel_rfl
    have e2 : Tryd.prog.cellsOf 35 = 1 := by kernel_rfl
    have e3 : Tryd.prog.cellsOf 34 = 1 := by kernel_rfl
    have hw2 : ∀ n ∈ DataW.weightsEach Tryd.prog [24, 34, 35, 22] [y0.1, y1.1, y2.1, y3.1], n ≤ reachBytes := fun n hn => hw n (by rw [hd]; simp only [DataW.weights, Tryd.underlying37]; exact hn)
    have g0 : DataW.trod enc Tryd.prog W 0 (fun _ => true) true k 24 ((cs.drop 0).take 32) = some y0 := by have q := hfs 0 _ rfl; rw [← e0]; exact q
    have g1 : DataW.trod enc Tryd.prog W 0 (fun _ => true) true k 34 ((cs.drop 32).take 1) = some y1 := by have q := hfs 1 _ rfl; rw [← e3]; exact q
    have g2 : DataW.trod enc Tryd.prog W 0 (fun _ => true) true k 35 ((cs.drop 33).take 1) = some y2 := by have q := hfs 2 _ rfl; rw [← e2]; exact q
    have g3 : DataW.trod enc Tryd.prog W 0 (fun _ => true) true k 22 ((cs.drop 34).take 1) = some y3 := by have q := hfs 3 _ rfl; rw [← e1]; exact q
    obtain ⟨k', r0', l0', z0'⟩ := opn_row Tryd.underlying24 e0 _ _ _ _ _ _ g0 (fun n hn => hw2 n (DataW.weights_mem_each (j := 0) rfl rfl n hn))
    obtain ⟨k, hh0⟩ : ∃ z, toY k' = z := ⟨_, rfl⟩
    have l0 : k.length = 32 := by rw [← hh0, toY_length]; exact l0'
    have r0 : (cs.drop 0).take 32 = (yvs k).toList := by rw [r0', ← hh0, yvs_toY _ z0']; unfold u8s; rfl
    obtain ⟨bi, r1, l1, h1⟩ := opn_int .u64 _ _ Tryd.underlying34 wf_u64 _ _ _ _ _ _ g1 (fun n hn => hw2 n (DataW.weights_mem_each (j := 1) rfl rfl n hn))
    obtain ⟨ad, r2, l2, h2⟩ := opn_int .u32 _ _ Tryd.underlying35 wf_u32 _ _ _ _ _ _ g2 (fun n hn => hw2 n (DataW.weights_mem_each (j := 2) rfl rfl n hn))
    obtain ⟨b, ba, bc, r3, m3, n3, b3⟩ := opn_bytes _ _ _ _ _ _ g3 (fun n hn => hw2 n (DataW.weights_mem_each (j := 3) rfl rfl n hn))
    have hcs : cs = (cs.drop 0).take 32 ++ ((cs.drop 32).take 1 ++ ((cs.drop 33).take 1 ++ ((cs.drop 34).take 1))) := by
      conv => lhs; rw [← List.drop_zero (l := cs), lcut cs 0 32, lcut cs (0 + 32) 1, lcut cs (0 + 32 + 1) 1, lcut cs (0 + 32 + 1 + 1) 1]
      rw [List.drop_eq_nil_of_le (show cs.length ≤ 0 + 32 + 1 + 1 + 1 by omega), List.append_nil]
    rw [r0, r1, r2, r3] at hcs
    exact ⟨(), k, bi, ad, ba, bc, b, hcs, l0, ⟨l1, h1⟩, ⟨l2, h2⟩, ⟨m3, n3, b3⟩⟩
def born12Cells (k : List (BitVec 8)) (bi : Int) (ad : Int) (ba : Option Addr) (bc : Nat) (b : List Int) : List Value := (yvs k).toList ++ ([Value.int .u64 bi] ++ ([Value.int .u32 ad] ++ ([Value.slice ba b.length bc])))
theorem par_born12 {H : Type} {enc : TypeId × Value → H} {W : World} {base : Nat} {v : Value} {d : DataW H} {p : List MemPlace} {ts : List TypeId} {ds : List (DataW H)} {j : Nat} (_hok : Value.okWide Tryd.prog W .any base 37 v) (h : ∃ fuel, DataW.trod enc Tryd.prog W 0 (fun _ => true) true fuel 37 v.cells.toList = some (d, p))
    (hsz : (DataW.weightsEach Tryd.prog ts ds).all (· ≤ reachBytes) = true) (ht : ts[j]? = some 37) (hd : ds[j]? = some d) : ∃ (k : List (BitVec 8)) (bi : Int) (ad : Int) (ba : Option Addr) (bc : Nat) (b : List Int), v = .agg (born12Cells k bi ad ba bc b).toArray ∧ k.length = 32 ∧ (0 ≤ bi ∧ bi ≤ 18446744073709551615) ∧ (0 ≤ ad ∧ ad ≤ 4294967295) ∧ (b.length ≤ bc ∧ bc ≤ 140737488351232 ∧ BS W (.slice ba b.length bc) b) := by
  rcases opn_param opn_born12 h hsz ht hd with ⟨_, k, bi, ad, ba, bc, b, e, q⟩
  have e : v.cells.toList = born12Cells k bi ad ba bc b := e
  refine ⟨k, bi, ad, ba, bc, b, ?_, q⟩
  rw [agg_cells (v := v) (by rw [e]; simp [born12Cells, yvs_size])]
  congr 1
  rw [← e]
def ROpened12 : World → Unit → List Value → Prop := fun W _ cs => ∃ (k : List (BitVec 8)) (P : PtrV) (ba : Option Addr) (bc : Nat) (b : List Int) (o : Bool), cs = (yvs k).toList ++ (ptrRow P ++ ([Value.slice ba b.length bc] ++ ([Value.bool o]))) ∧ k.length = 32 ∧ (b.length ≤ bc ∧ bc ≤ 140737488351232 ∧ BS W (.slice ba b.length bc) b)
theorem opn_opened12 : Opn 52 ROpened12 := by
  intro H enc W fuel cs y h hw
  obtain ⟨xs, k, _, hx, hlen, hxl, hfs⟩ := DataW.trod_struct Tryd.underlying52 h
  rw [show Tryd.prog.cellsOf 52 = 68 by kernel_rfl] at hlen
  have hxk : xs.length = 4 := hxl
  have hd := congrArg Prod.fst hx
  dsimp only at hd
  clear hx hxl
  match xs, hxk with
  | [y0, y1, y2, y3], _ =>
    have e0 : Tryd.prog.cellsOf 24 = 32 := by kernel_rfl
    have e1 : Tryd.prog.cellsOf 22 = 1 := by kernel_rfl
    have e2 : Tryd.prog.cellsOf 41 = 34 := by kernel_rfl
    have e3 : Tryd.prog.cellsOf 4 = 1 := by kernel_rfl
    have hw2 : ∀ n ∈ DataW.weightsEach Tryd.prog [24, 41, 22, 4] [y0.1, y1.1, y2.1, y3.1], n ≤ reachBytes := fun n hn => hw n (by rw [hd]; simp only [DataW.weights, Tryd.underlying52]; exact hn)
    have g0 : DataW.trod enc Tryd.prog W 0 (fun _ => true) true k 24 ((cs.drop 0).take 32) = some y0 := by have q := hfs 0 _ rfl; rw [← e0]; exact q
    have g1 : DataW.trod enc Tryd.prog W 0 (fun _ => true) true k 41 ((cs.drop 32).take 34) = some y1 := by have q := hfs 1 _ rfl; rw [← e2]; exact q
    have g2 : DataW.trod enc Tryd.prog W 0 (fun _ => true) true k 22 ((cs.drop 66).take 1) = some y2 := by have q := hfs 2 _ rfl; rw [← e1]; exact q
    have g3 : DataW.trod enc Tryd.prog W 0 (fun _ => true) true k 4 ((cs.drop 67).take 1) = some y3 := by have q := hfs 3 _ rfl; rw [← e3]; exact q
    obtain ⟨k', r0', l0', z0'⟩ := opn_row Tryd.underlying24 e0 _ _ _ _ _ _ g0 (fun n hn => hw2 n (DataW.weights_mem_each (j := 0) rfl rfl n hn))
    obtain ⟨k, hh0⟩ : ∃ z, toY k' = z := ⟨_, rfl⟩
    have l0 : k.length = 32 := by rw [← hh0, toY_length]; exact l0'
    have r0 : (cs.drop 0).take 32 = (yvs k).toList := by rw [r0', ← hh0, yvs_toY _ z0']; unfold u8s; rfl
    obtain ⟨P, r1'⟩ := opn_ptr _ _ _ _ _ _ g1 (fun n hn => hw2 n (DataW.weights_mem_each (j := 1) rfl rfl n hn))
    have r1 : (cs.drop 32).take 34 = ptrRow P := r1'
    obtain ⟨b, ba, bc, r2, m2, n2, b2⟩ := opn_bytes _ _ _ _ _ _ g2 (fun n hn => hw2 n (DataW.weights_mem_each (j := 2) rfl rfl n hn))
    obtain ⟨o, r3⟩ := opn_bool Tryd.underlying4 _ _ _ _ _ _ g3 (fun n hn => hw2 n (DataW.weights_mem_each (j := 3) rfl rfl n hn))
    have hcs : cs = (cs.drop 0).take 32 ++ ((cs.drop 32).take 34 ++ ((cs.drop 66).take 1 ++ ((cs.drop 67).take 1))) := by
      conv => lhs; rw [← List.drop_zero (l := cs), lcut cs 0 32, lcut cs (0 + 32) 34, lcut cs (0 + 32 + 34) 1, lcut cs (0 + 32 + 34 + 1) 1]
      rw [List.drop_eq_nil_of_le (show cs.length ≤ 0 + 32 + 34 + 1 + 1 by omega), List.append_nil]
    rw [r0, r1, r2, r3] at hcs
    exact ⟨(), k, P, ba, bc, b, o, hcs, l0, ⟨m2, n2, b2⟩⟩
def opened12Cells (k : List (BitVec 8)) (P : PtrV) (ba : Option Addr) (bc : Nat) (b : List Int) (o : Bool) : List Value := (yvs k).toList ++ (ptrRow P ++ ([Value.slice ba b.length bc] ++ ([Value.bool o])))
theorem par_opened12 {H : Type} {enc : TypeId × Value → H} {W : World} {base : Nat} {v : Value} {d : DataW H} {p : List MemPlace} {ts : List TypeId} {ds : List (DataW H)} {j : Nat} (_hok : Value.okWide Tryd.prog W .any base 52 v) (h : ∃ fuel, DataW.trod enc Tryd.prog W 0 (fun _ => true) true fuel 52 v.cells.toList = some (d, p))
    (hsz : (DataW.weightsEach Tryd.prog ts ds).all (· ≤ reachBytes) = true) (ht : ts[j]? = some 52) (hd : ds[j]? = some d) : ∃ (k : List (BitVec 8)) (P : PtrV) (ba : Option Addr) (bc : Nat) (b : List Int) (o : Bool), v = .agg (opened12Cells k P ba bc b o).toArray ∧ k.length = 32 ∧ (b.length ≤ bc ∧ bc ≤ 140737488351232 ∧ BS W (.slice ba b.length bc) b) := by
  rcases opn_param opn_opened12 h hsz ht hd with ⟨_, k, P, ba, bc, b, o, e, q⟩
  have e : v.cells.toList = opened12Cells k P ba bc b o := e
  refine ⟨k, P, ba, bc, b, o, ?_, q⟩
  rw [agg_cells (v := v) (by rw [e]; simp [opened12Cells, ptrRow_length, yvs_size])]
  congr 1
  rw [← e]
def RTurned12 : World → Unit → List Value → Prop := fun W _ cs => ∃ (maa : Option Addr) (mac : Nat) (ma : List Int) (ba : Option Addr) (bc : Nat) (b : List Int) (ad : Int) (at' : Int) (tu : Int), cs = [Value.slice maa ma.length mac] ++ ([Value.slice ba b.length bc] ++ ([Value.int .u16 ad] ++ ([Value.int .u16 at'] ++ ([Value.int .u8 tu])))) ∧ (ma.length ≤ mac ∧ mac ≤ 140737488351232 ∧ BS W (.slice maa ma.length mac) ma) ∧ (b.length ≤ bc ∧ bc ≤ 140737488351232 ∧ BS W (.slice ba b.length bc) b) ∧ (0 ≤ ad ∧ ad ≤ 65535) ∧ (0 ≤ at' ∧ at' ≤ 65535) ∧ (0 ≤ tu ∧ tu ≤ 255)
theorem opn_turned12 : Opn 58 RTurned12 := by
  intro H enc W fuel cs y h hw
  obtain ⟨xs, k, _, hx, hlen, hxl, hfs⟩ := DataW.trod_struct Tryd.underlying58 h
  rw [show Tryd.prog.cellsOf 58 = 5 by kernel_rfl] at hlen
  have hxk : xs.length = 5 := hxl
  have hd := congrArg Prod.fst hx
  dsimp only at hd
  clear hx hxl
  match xs, hxk with
  | [y0, y1, y2, y3, y4], _ =>
    have e0 : Tryd.prog.cellsOf 22 = 1 := by kernel_rfl
    have e1 : Tryd.prog.cellsOf 56 = 1 := by kernel_rfl
    have e2 : Tryd.prog.cellsOf 5 = 1 := by kernel_rfl
    have hw2 : ∀ n ∈ DataW.weightsEach Tryd.prog [22, 22, 56, 56, 5] [y0.1, y1.1, y2.1, y3.1, y4.1], n ≤ reachBytes := fun n hn => hw n (by rw [hd]; simp only [DataW.weights, Tryd.underlying58]; exact hn)
    have g0 : DataW.trod enc Tryd.prog W 0 (fun _ => true) true k 22 ((cs.drop 0).take 1) = some y0 := by have q := hfs 0 _ rfl; rw [← e0]; exact q
    have g1 : DataW.trod enc Tryd.prog W 0 (fun _ => true) true k 22 ((cs.drop 1).take 1) = some y1 := by have q := hfs 1 _ rfl; rw [← e0]; exact q
    have g2 : DataW.trod enc Tryd.prog W 0 (fun _ => true) true k 56 ((cs.drop 2).take 1) = some y2 := by have q := hfs 2 _ rfl; rw [← e1]; exact q
    have g3 : DataW.trod enc Tryd.prog W 0 (fun _ => true) true k 56 ((cs.drop 3).take 1) = some y3 := by have q := hfs 3 _ rfl; rw [← e1]; exact q
    have g4 : DataW.trod enc Tryd.prog W 0 (fun _ => true) true k 5 ((cs.drop 4).take 1) = some y4 := by have q := hfs 4 _ rfl; rw [← e2]; exact q
    obtain ⟨ma, maa, mac, r0, m0, n0, b0⟩ := opn_bytes _ _ _ _ _ _ g0 (fun n hn => hw2 n (DataW.weights_mem_each (j := 0) rfl rfl n hn))
    obtain ⟨b, ba, bc, r1, m1, n1, b1⟩ := opn_bytes _ _ _ _ _ _ g1 (fun n hn => hw2 n (DataW.weights_mem_each (j := 1) rfl rfl n hn))
    obtain ⟨ad, r2, l2, h2⟩ := opn_int .u16 _ _ Tryd.underlying56 wf_u16 _ _ _ _ _ _ g2 (fun n hn => hw2 n (DataW.weights_mem_each (j := 2) rfl rfl n hn))
    obtain ⟨at', r3, l3, h3⟩ := opn_int .u16 _ _ Tryd.underlying56 wf_u16 _ _ _ _ _ _ g3 (fun n hn => hw2 n (DataW.weights_mem_each (j := 3) rfl rfl n hn))
    obtain ⟨tu, r4, l4, h4⟩ := opn_int .u8 _ _ Tryd.underlying5 wf_u8 _ _ _ _ _ _ g4 (fun n hn => hw2 n (DataW.weights_mem_each (j := 4) rfl rfl n hn))
    have hcs : cs = (cs.drop 0).take 1 ++ ((cs.drop 1).take 1 ++ ((cs.drop 2).take 1 ++ ((cs.drop 3).take 1 ++ ((cs.drop 4).take 1)))) := by
      conv => lhs; rw [← List.drop_zero (l := cs), lcut cs 0 1, lcut cs (0 + 1) 1, lcut cs (0 + 1 + 1) 1, lcut cs (0 + 1 + 1 + 1) 1, lcut cs (0 + 1 + 1 + 1 + 1) 1]
      rw [List.drop_eq_nil_of_le (show cs.length ≤ 0 + 1 + 1 + 1 + 1 + 1 by omega), List.append_nil]
    rw [r0, r1, r2, r3, r4] at hcs
    exact ⟨(), maa, mac, ma, ba, bc, b, ad, at', tu, hcs, ⟨m0, n0, b0⟩, ⟨m1, n1, b1⟩, ⟨l2, h2⟩, ⟨l3, h3⟩, ⟨l4, h4⟩⟩
def turned12Cells (maa : Option Addr) (mac : Nat) (ma : List Int) (ba : Option Addr) (bc : Nat) (b : List Int) (ad : Int) (at' : Int) (tu : Int) : List Value := [Value.slice maa ma.length mac] ++ ([Value.slice ba b.length bc] ++ ([Value.int .u16 ad] ++ ([Value.int .u16 at'] ++ ([Value.int .u8 tu]))))
theorem par_turned12 {H : Type} {enc : TypeId × Value → H} {W : World} {base : Nat} {v : Value} {d : DataW H} {p : List MemPlace} {ts : List TypeId} {ds : List (DataW H)} {j : Nat} (_hok : Value.okWide Tryd.prog W .any base 58 v) (h : ∃ fuel, DataW.trod enc Tryd.prog W 0 (fun _ => true) true fuel 58 v.cells.toList = some (d, p))
    (hsz : (DataW.weightsEach Tryd.prog ts ds).all (· ≤ reachBytes) = true) (ht : ts[j]? = some 58) (hd : ds[j]? = some d) : ∃ (maa : Option Addr) (mac : Nat) (ma : List Int) (ba : Option Addr) (bc : Nat) (b : List Int) (ad : Int) (at' : Int) (tu : Int), v = .agg (turned12Cells maa mac ma ba bc b ad at' tu).toArray ∧ (ma.length ≤ mac ∧ mac ≤ 140737488351232 ∧ BS W (.slice maa ma.length mac) ma) ∧ (b.length ≤ bc ∧ bc ≤ 140737488351232 ∧ BS W (.slice ba b.length bc) b) ∧ (0 ≤ ad ∧ ad ≤ 65535) ∧ (0 ≤ at' ∧ at' ≤ 65535) ∧ (0 ≤ tu ∧ tu ≤ 255) := by
  rcases opn_param opn_turned12 h hsz ht hd with ⟨_, maa, mac, ma, ba, bc, b, ad, at', tu, e, q⟩
  have e : v.cells.toList = turned12Cells maa mac ma ba bc b ad at' tu := e
  refine ⟨maa, mac, ma, ba, bc, b, ad, at', tu, ?_, q⟩
  rw [agg_cells (v := v) (by rw [e]; simp [turned12Cells])]
  congr 1
  rw [← e]
def RStream12 : World → Unit → List Value → Prop := fun W _ cs => ∃ (k : List (BitVec 8)) (bi : Int) (ad : Int) (ba : Option Addr) (bc : Nat) (b : List Int), cs = (yvs k).toList ++ ([Value.int .u32 bi] ++ ([Value.int .u16 ad] ++ ([Value.slice ba b.length bc]))) ∧ k.length = 32 ∧ (0 ≤ bi ∧ bi ≤ 4294967295) ∧ (0 ≤ ad ∧ ad ≤ 65535) ∧ (b.length ≤ bc ∧ bc ≤ 140737488351232 ∧ BS W (.slice ba b.length bc) b)
theorem opn_stream12 : Opn 62 RStream12 := by
  intro H enc W fuel cs y h hw
  obtain ⟨xs, k, _, hx, hlen, hxl, hfs⟩ := DataW.trod_struct Tryd.underlying62 h
  rw [show Tryd.prog.cellsOf 62 = 35 by kernel_rfl] at hlen
  have hxk : xs.length = 4 := hxl
  have hd := congrArg Prod.fst hx
  dsimp only at hd
  clear hx hxl
  match xs, hxk with
  | [y0, y1, y2, y3], _ =>
    have e0 : Tryd.prog.cellsOf 24 = 32 := by kernel_rfl
    have e1 : Tryd.prog.cellsOf 22 = 1 := by kernel_rfl
    have e2 : Tryd.prog.cellsOf 56 = 1 := by kernel_rfl
    have e3 : Tryd.prog.cellsOf 35 = 1 := by kernel_rfl
    have hw2 : ∀ n ∈ DataW.weightsEach Tryd.prog [24, 35, 56, 22] [y0.1, y1.1, y2.1, y3.1], n ≤ reachBytes := fun n hn => hw n (by rw [hd]; simp only [DataW.weights, Tryd.underlying62]; exact hn)
    have g0 : DataW.trod enc Tryd.prog W 0 (fun _ => true) true k 24 ((cs.drop 0).take 32) = some y0 := by have q := hfs 0 _ rfl; rw [← e0]; exact q
    have g1 : DataW.trod enc Tryd.prog W 0 (fun _ => true) true k 35 ((cs.drop 32).take 1) = some y1 := by have q := hfs 1 _ rfl; rw [← e3]; exact q
    have g2 : DataW.trod enc Tryd.prog W 0 (fun _ => true) true k 56 ((cs.drop 33).take 1) = some y2 := by have q := hfs 2 _ rfl; rw [← e2]; exact q
    have g3 : DataW.trod enc Tryd.prog W 0 (fun _ => true) true k 22 ((cs.drop 34).take 1) = some y3 := by have q := hfs 3 _ rfl; rw [← e1]; exact q
    obtain ⟨k', r0', l0', z0'⟩ := opn_row Tryd.underlying24 e0 _ _ _ _ _ _ g0 (fun n hn => hw2 n (DataW.weights_mem_each (j := 0) rfl rfl n hn))
    obtain ⟨k, hh0⟩ : ∃ z, toY k' = z := ⟨_, rfl⟩
    have l0 : k.length = 32 := by rw [← hh0, toY_length]; exact l0'
    have r0 : (cs.drop 0).take 32 = (yvs k).toList := by rw [r0', ← hh0, yvs_toY _ z0']; unfold u8s; rfl
    obtain ⟨bi, r1, l1, h1⟩ := opn_int .u32 _ _ Tryd.underlying35 wf_u32 _ _ _ _ _ _ g1 (fun n hn => hw2 n (DataW.weights_mem_each (j := 1) rfl rfl n hn))
    obtain ⟨ad, r2, l2, h2⟩ := opn_int .u16 _ _ Tryd.underlying56 wf_u16 _ _ _ _ _ _ g2 (fun n hn => hw2 n (DataW.weights_mem_each (j := 2) rfl rfl n hn))
    obtain ⟨b, ba, bc, r3, m3, n3, b3⟩ := opn_bytes _ _ _ _ _ _ g3 (fun n hn => hw2 n (DataW.weights_mem_each (j := 3) rfl rfl n hn))
    have hcs : cs = (cs.drop 0).take 32 ++ ((cs.drop 32).take 1 ++ ((cs.drop 33).take 1 ++ ((cs.drop 34).take 1))) := by
      conv => lhs; rw [← List.drop_zero (l := cs), lcut cs 0 32, lcut cs (0 + 32) 1, lcut cs (0 + 32 + 1) 1, lcut cs (0 + 32 + 1 + 1) 1]
      rw [List.drop_eq_nil_of_le (show cs.length ≤ 0 + 32 + 1 + 1 + 1 by omega), List.append_nil]
    rw [r0, r1, r2, r3] at hcs
    exact ⟨(), k, bi, ad, ba, bc, b, hcs, l0, ⟨l1, h1⟩, ⟨l2, h2⟩, ⟨m3, n3, b3⟩⟩
def stream12Cells (k : List (BitVec 8)) (bi : Int) (ad : Int) (ba : Option Addr) (bc : Nat) (b : List Int) : List Value := (yvs k).toList ++ ([Value.int .u32 bi] ++ ([Value.int .u16 ad] ++ ([Value.slice ba b.length bc])))
theorem par_stream12 {H : Type} {enc : TypeId × Value → H} {W : World} {base : Nat} {v : Value} {d : DataW H} {p : List MemPlace} {ts : List TypeId} {ds : List (DataW H)} {j : Nat} (_hok : Value.okWide Tryd.prog W .any base 62 v) (h : ∃ fuel, DataW.trod enc Tryd.prog W 0 (fun _ => true) true fuel 62 v.cells.toList = some (d, p))
    (hsz : (DataW.weightsEach Tryd.prog ts ds).all (· ≤ reachBytes) = true) (ht : ts[j]? = some 62) (hd : ds[j]? = some d) : ∃ (k : List (BitVec 8)) (bi : Int) (ad : Int) (ba : Option Addr) (bc : Nat) (b : List Int), v = .agg (stream12Cells k bi ad ba bc b).toArray ∧ k.length = 32 ∧ (0 ≤ bi ∧ bi ≤ 4294967295) ∧ (0 ≤ ad ∧ ad ≤ 65535) ∧ (b.length ≤ bc ∧ bc ≤ 140737488351232 ∧ BS W (.slice ba b.length bc) b) := by
  rcases opn_param opn_stream12 h hsz ht hd with ⟨_, k, bi, ad, ba, bc, b, e, q⟩
  have e : v.cells.toList = stream12Cells k bi ad ba bc b := e
  refine ⟨k, bi, ad, ba, bc, b, ?_, q⟩
  rw [agg_cells (v := v) (by rw [e]; simp [stream12Cells, yvs_size])]
  congr 1
  rw [← e]
def RTwo12 : World → Unit → List Value → Prop := fun W _ cs => ∃ (k : List (BitVec 8)) (a : Int) (b : Int) (c : Int) (d : Int), cs = (yvs k).toList ++ ([Value.int .u32 a] ++ ([Value.int .u32 b] ++ ([Value.int .u16 c] ++ ([Value.int .u16 d])))) ∧ k.length = 32 ∧ (0 ≤ a ∧ a ≤ 4294967295) ∧ (0 ≤ b ∧ b ≤ 4294967295) ∧ (0 ≤ c ∧ c ≤ 65535) ∧ (0 ≤ d ∧ d ≤ 65535)
theorem opn_two12 : Opn 69 RTwo12 := by
  intro H enc W fuel cs y h hw
  obtain ⟨xs, k, _, hx, hlen, hxl, hfs⟩ := DataW.trod_struct Tryd.underlying69 h
  rw [show Tryd.prog.cellsOf 69 = 36 by kernel_rfl] at hlen
  have hxk : xs.length = 5 := hxl
  have hd := congrArg Prod.fst hx
  dsimp only at hd
  clear hx hxl
  match xs, hxk with
  | [y0, y1, y2, y3, y4], _ =>
    have e0 : Tryd.prog.cellsOf 24 = 32 := by kernel_rfl
    have e1 : Tryd.prog.cellsOf 56 = 1 := by kernel_rfl
    have e2 : Tryd.prog.cellsOf 35 = 1 := by kernel_rfl
    have hw2 : ∀ n ∈ DataW.weightsEach Tryd.prog [24, 35, 35, 56, 56] [y0.1, y1.1, y2.1, y3.1, y4.1], n ≤ reachBytes := fun n hn => hw n (by rw [hd]; simp only [DataW.weights, Tryd.underlying69]; exact hn)
    have g0 : DataW.trod enc Tryd.prog W 0 (fun _ => true) true k 24 ((cs.drop 0).take 32) = some y0 := by have q := hfs 0 _ rfl; rw [← e0]; exact q
    have g1 : DataW.trod enc Tryd.prog W 0 (fun _ => true) true k 35 ((cs.drop 32).take 1) = some y1 := by have q := hfs 1 _ rfl; rw [← e2]; exact q
    have g2 : DataW.trod enc Tryd.prog W 0 (fun _ => true) true k 35 ((cs.drop 33).take 1) = some y2 := by have q := hfs 2 _ rfl; rw [← e2]; exact q
    have g3 : DataW.trod enc Tryd.prog W 0 (fun _ => true) true k 56 ((cs.drop 34).take 1) = some y3 := by have q := hfs 3 _ rfl; rw [← e1]; exact q
    have g4 : DataW.trod enc Tryd.prog W 0 (fun _ => true) true k 56 ((cs.drop 35).take 1) = some y4 := by have q := hfs 4 _ rfl; rw [← e1]; exact q
    obtain ⟨k', r0', l0', z0'⟩ := opn_row Tryd.underlying24 e0 _ _ _ _ _ _ g0 (fun n hn => hw2 n (DataW.weights_mem_each (j := 0) rfl rfl n hn))
    obtain ⟨k, hh0⟩ : ∃ z, toY k' = z := ⟨_, rfl⟩
    have l0 : k.length = 32 := by rw [← hh0, toY_length]; exact l0'
    have r0 : (cs.drop 0).take 32 = (yvs k).toList := by rw [r0', ← hh0, yvs_toY _ z0']; unfold u8s; rfl
    obtain ⟨a, r1, l1, h1⟩ := opn_int .u32 _ _ Tryd.underlying35 wf_u32 _ _ _ _ _ _ g1 (fun n hn => hw2 n (DataW.weights_mem_each (j := 1) rfl rfl n hn))
    obtain ⟨b, r2, l2, h2⟩ := opn_int .u32 _ _ Tryd.underlying35 wf_u32 _ _ _ _ _ _ g2 (fun n hn => hw2 n (DataW.weights_mem_each (j := 2) rfl rfl n hn))
    obtain ⟨c, r3, l3, h3⟩ := opn_int .u16 _ _ Tryd.underlying56 wf_u16 _ _ _ _ _ _ g3 (fun n hn => hw2 n (DataW.weights_mem_each (j := 3) rfl rfl n hn))
    obtain ⟨d, r4, l4, h4⟩ := opn_int .u16 _ _ Tryd.underlying56 wf_u16 _ _ _ _ _ _ g4 (fun n hn => hw2 n (DataW.weights_mem_each (j := 4) rfl rfl n hn))
    have hcs : cs = (cs.drop 0).take 32 ++ ((cs.drop 32).take 1 ++ ((cs.drop 33).take 1 ++ ((cs.drop 34).take 1 ++ ((cs.drop 35).take 1)))) := by
      conv => lhs; rw [← List.drop_zero (l := cs), lcut cs 0 32, lcut cs (0 + 32) 1, lcut cs (0 + 32 + 1) 1, lcut cs (0 + 32 + 1 + 1) 1, lcut cs (0 + 32 + 1 + 1 + 1) 1]
      rw [List.drop_eq_nil_of_le (show cs.length ≤ 0 + 32 + 1 + 1 + 1 + 1 by omega), List.append_nil]
    rw [r0, r1, r2, r3, r4] at hcs
    exact ⟨(), k, a, b, c, d, hcs, l0, ⟨l1, h1⟩, ⟨l2, h2⟩, ⟨l3, h3⟩, ⟨l4, h4⟩⟩
def two12Cells (k : List (BitVec 8)) (a : Int) (b : Int) (c : Int) (d : Int) : List Value := (yvs k).toList ++ ([Value.int .u32 a] ++ ([Value.int .u32 b] ++ ([Value.int .u16 c] ++ ([Value.int .u16 d]))))
theorem par_two12 {H : Type} {enc : TypeId × Value → H} {W : World} {base : Nat} {v : Value} {d : DataW H} {p : List MemPlace} {ts : List TypeId} {ds : List (DataW H)} {j : Nat} (_hok : Value.okWide Tryd.prog W .any base 69 v) (h : ∃ fuel, DataW.trod enc Tryd.prog W 0 (fun _ => true) true fuel 69 v.cells.toList = some (d, p))
    (hsz : (DataW.weightsEach Tryd.prog ts ds).all (· ≤ reachBytes) = true) (ht : ts[j]? = some 69) (hd : ds[j]? = some d) : ∃ (k : List (BitVec 8)) (a : Int) (b : Int) (c : Int) (d : Int), v = .agg (two12Cells k a b c d).toArray ∧ k.length = 32 ∧ (0 ≤ a ∧ a ≤ 4294967295) ∧ (0 ≤ b ∧ b ≤ 4294967295) ∧ (0 ≤ c ∧ c ≤ 65535) ∧ (0 ≤ d ∧ d ≤ 65535) := by
  rcases opn_param opn_two12 h hsz ht hd with ⟨_, k, a, b, c, d, e, q⟩
  have e : v.cells.toList = two12Cells k a b c d := e
  refine ⟨k, a, b, c, d, ?_, q⟩
  rw [agg_cells (v := v) (by rw [e]; simp [two12Cells, yvs_size])]
  congr 1
  rw [← e]
end Go.Proofs.YtfgdddejpdjllaaDoor
