import Derived.WalkKit
import Derived.Test.YtgckapolpifbkaaGreatDoorRows
import Derived.WalkSpells
import Derived.WalkLawsBesides
import Derived.Lib.Hide
import Derived.Laws.BytesArg
import Derived.Laws.AppendOwnNone
namespace Go.Proofs.YtgckapolpifbkaaGreatDoor
open Lib (hid)
section
set_option maxRecDepth 4000
open Go.RowKit
theorem wrap_u64_of (n : Nat) (h : n < 18446744073709551616) : IntKind.u64.wrap (n : Int) = n := IntWalk.u64_in _ (by omega)
theorem wrap_u32_of (n : Nat) (h : n < 4294967296) : IntKind.u32.wrap (n : Int) = n := IntWalk.u32_in _ (by omega)
theorem wrap_u8_of (n : Nat) (h : n < 256) : IntKind.u8.wrap (n : Int) = n := IntWalk.u8_in _ (by omega)
theorem ofInt_nat (m n : Nat) : (BitVec.ofInt m (n : Int)) = BitVec.ofNat m n := by
 simp
theorem bits_nat_or (k : IntKind) (a b : Nat) : bits BinOp.or k (a : Int) (b : Int) = k.wrap (((a % 2 ^ k.bits) ||| (b % 2 ^ k.bits) : Nat) : Int) := by
 simp only [bits,ofInt_nat,BitVec.toNat_or,BitVec.toNat_ofNat]
theorem bits_or_u64 (a b : Nat) (ha : a < 18446744073709551616) (hb : b < 18446744073709551616) : bits BinOp.or IntKind.u64 (a : Int) (b : Int) = ((a ||| b : Nat) : Int) := by
 have h : a ||| b < 2 ^ 64 := Nat.or_lt_two_pow (by simpa using ha) (by simpa using hb)
 have e : IntKind.u64.bits = 64 := rfl
 rw [bits_nat_or,e,Nat.mod_eq_of_lt (by simpa using ha),Nat.mod_eq_of_lt (by simpa using hb)]
 exact wrap_u64_of _ (by simpa using h)
theorem bits_or_u32 (a b : Nat) (ha : a < 4294967296) (hb : b < 4294967296) : bits BinOp.or IntKind.u32 (a : Int) (b : Int) = ((a ||| b : Nat) : Int) := by
 have h : a ||| b < 2 ^ 32 := Nat.or_lt_two_pow (by simpa using ha) (by simpa using hb)
 have e : IntKind.u32.bits = 32 := rfl
 rw [bits_nat_or,e,Nat.mod_eq_of_lt (by simpa using ha),Nat.mod_eq_of_lt (by simpa using hb)]
 exact wrap_u32_of _ (by simpa using h)
theorem snoc_ind {α : Type} {P : List α → Prop} (h0 : P []) (h1 : ∀ l a,P l → P (l ++ [a])) (l : List α) : P l := by
 rw [← List.reverse_reverse l]
 induction l.reverse with
 | nil => simpa using h0
 | cons a t ih => rw [List.reverse_cons]; exact h1 _ _ ih
theorem or_add (a b i : Nat) (h : b < 2 ^ i) : a * 2 ^ i ||| b = a * 2 ^ i + b := by
 rw [← Nat.shiftLeft_eq]
 exact (Nat.shiftLeft_add_eq_or_of_lt h a).symm
def num (l : List Int) : Int := l.foldl (fun x c => x * 256 + c) 0
theorem num_snoc (l : List Int) (c : Int) : num (l ++ [c]) = num l * 256 + c := by simp [num]
def Byt (l : List Int) : Prop := ∀ z ∈ l,0 ≤ z ∧ z ≤ 255
theorem num_bound (l : List Int) : Byt l → 0 ≤ num l ∧ num l < 256 ^ l.length := by
 induction l using snoc_ind with
 | h0 => intro _; simp [num]
 | h1 l c ih =>
   intro h
   have := ih (fun z hz => h z (by simp [hz]))
   have hc := h c (by simp)
   rw [num_snoc]
   simp only [List.length_append,List.length_singleton,Int.pow_succ]
   omega
theorem or_step (x c : Int) (h0 : 0 ≤ x) (h1 : x < 72057594037927936) (h2 : 0 ≤ c) (h3 : c ≤ 255) : bits BinOp.or IntKind.u64 (x * 256) c = x * 256 + c := by
 obtain ⟨a,rfl⟩ := Int.eq_ofNat_of_zero_le h0
 obtain ⟨b,rfl⟩ := Int.eq_ofNat_of_zero_le h2
 have := or_add a b 8 (by omega)
 have e : ((a : Int) * 256) = ((a * 2 ^ 8 : Nat) : Int) := by simp
 rw [e,bits_or_u64 _ _ (by omega) (by omega),this]
 simp
theorem take_next (l : List Int) (k : Nat) (h : k < l.length) : l.take (k + 1) = l.take k ++ [l[k]?.getD 0] := by
 rw [List.take_succ_eq_append_getElem h]; simp [h]
theorem byt_at (l : List Int) (h : Byt l) (k : Nat) : 0 ≤ l[k]?.getD 0 ∧ l[k]?.getD 0 ≤ 255 := by
 by_cases hk : k < l.length
 ·simp only [List.getElem?_eq_getElem hk,Option.getD_some]
  exact h _ (List.getElem_mem hk)
 ·simp [List.getElem?_eq_none (by omega : l.length ≤ k)]
theorem byt_take (l : List Int) (h : Byt l) (k : Nat) : Byt (l.take k) := fun z hz => h z (List.mem_of_mem_take hz)
theorem pow256_le (n : Nat) (h : n ≤ 7) : (256 : Int) ^ n ≤ 72057594037927936 := by
 match n,h with
 | 0,_ | 1,_ | 2,_ | 3,_ | 4,_ | 5,_ | 6,_ | 7,_ => decide
theorem num_take_le (l : List Int) (h : Byt l) (k : Nat) (hk : k ≤ 7) : 0 ≤ num (l.take k) ∧ num (l.take k) < 72057594037927936 := by
 have := num_bound _ (byt_take l h k)
 have h2 := pow256_le (l.take k).length (by have := List.length_take_le k l; omega)
 omega
theorem get_step (l : List Int) (h : Byt l) (k : Nat) (hk : k < l.length) (h8 : l.length ≤ 8) :
 bits BinOp.or IntKind.u64 (num (l.take k) * 256) (l[k]?.getD 0) = num (l.take (k + 1)) := by
 have h1 := num_take_le l h k (by omega)
 have h2 := byt_at l h k
 rw [take_next l k hk,num_snoc,or_step _ _ h1.1 h1.2 h2.1 h2.2]
def putI (x : Int) (n : Nat) : List Int := (List.range n).map fun i => x / 2 ^ (8 * (n - 1 - i)) % 256
def putP (x : Int) (n k : Nat) : List Int := (List.range n).map fun i => if i < k then x / 2 ^ (8 * (n - 1 - i)) % 256 else 0
theorem putP_zero (x : Int) (n : Nat) : (putP x n 0).map (Value.int .u8) = List.replicate n (.int .u8 0) := by
 apply List.ext_getElem
 ·simp [putP]
 ·intro i h1 h2; simp [putP]
theorem putP_at (x : Int) (n k : Nat) (h : k < n) : ((putP x n k).map (Value.int .u8))[k]? = some (.int .u8 0) := by
 simp [putP,h]
theorem putP_set (x : Int) (n k : Nat) : ((putP x n k).map (Value.int .u8)).set k (.int .u8 (x / 2 ^ (8 * (n - 1 - k)) % 256)) = (putP x n (k + 1)).map (Value.int .u8) := by
 apply List.ext_getElem
 ·simp [putP]
 ·intro i h1 h2
  by_cases e : k = i
  ·subst e; simp [putP]
  ·simp only [putP,List.map_map,List.getElem_set,if_neg e,List.getElem_map,List.getElem_range,Function.comp_apply]
   by_cases hi : i < k
   ·rw [if_pos hi,if_pos (by omega)]
   ·rw [if_neg hi,if_neg (by omega)]
theorem putP_full (x : Int) (n : Nat) : putP x n n = putI x n := by
 apply List.map_congr_left
 intro i hi
 rw [if_pos (by simpa using hi)]
theorem putI_length (x : Int) (n : Nat) : (putI x n).length = n := by simp [putI]
theorem putI_byt (x : Int) (n : Nat) : Byt (putI x n) := by
 intro z hz
 obtain ⟨i,_,rfl⟩ := List.mem_map.1 hz
 omega
theorem putI_num (n : Nat) : ∀ x : Int,0 ≤ x → x < 2 ^ (8 * n) → num (putI x n) = x := by
 induction n with
 | zero => intro x h0 h1; simp at h1; simp [putI,num]; omega
 | succ n ih =>
   intro x h0 h1
   have e : putI x (n + 1) = putI (x / 256) n ++ [x % 256] := by
    unfold putI
    rw [List.range_succ,List.map_append]
    congr 1
    ·apply List.map_congr_left
     intro i hi
     have hi' : i < n := by simpa using hi
     rw [show 8 * (n + 1 - 1 - i) = 8 + 8 * (n - 1 - i) from by omega,Int.pow_add,← Int.ediv_ediv_of_nonneg (by decide)]
     rfl
    ·simp
   rw [e,num_snoc,ih _ (by omega) (by
    have : (2 : Int) ^ (8 * (n + 1)) = 2 ^ (8 * n) * 256 := by rw [show 8 * (n + 1) = 8 * n + 8 from by omega,Int.pow_add]; rfl
    omega)]
   omega
end
section
set_option maxRecDepth 4000
open Go.RowKit
def BS (w : World) (v : Value) (l : List Int) : Prop :=
 ∃ a cap,v = .slice a l.length cap ∧ Byt l ∧ (a = none → cap = 0) ∧ (l = [] ∨ ∃ b off,a = some ⟨b,off,none⟩ ∧ ∀ i,i < l.length → w.cell? ⟨b,off + i,none⟩ = some (.int .u8 (l.getD i 0)))
theorem BS.byt {w : World} {v : Value} {l : List Int} (h : BS w v l) : Byt l := by obtain ⟨_,_,_,hy,_⟩ := h; exact hy
theorem BS.kept {w w' : World} {v : Value} {l : List Int} (h : BS w v l) (hb : Below w.heap.size w w') : BS w' v l := by
 obtain ⟨a,cap,hv,hy,hn,h⟩ := h
 refine ⟨a,cap,hv,hy,hn, ?_⟩
 rcases h with h | ⟨b,off,ha,hc⟩
 ·exact .inl h
 ·refine .inr ⟨b,off,ha,fun i hi => ?_⟩
  have hlt := block_lt_of_cell (hc i hi)
  rw [hb.cell hlt]; exact hc i hi
theorem BS.drew {w : World} {v : Value} {l : List Int} (h : BS w v l) : BS w.drew v l := h
theorem BS.of_owns {w : World} {base g n : Nat} {l : List Int} (h : w.ownsRow base 5 1 (.slice (some ⟨g,0,none⟩) n n) n (l.map (Value.int .u8))) (hl : l.length = n) (hb : Byt l) :
 BS w (.slice (some ⟨g,0,none⟩) n n) l := by
 refine ⟨some ⟨g,0,none⟩,n,by rw [hl],hb,nofun,.inr ⟨g,0,rfl,fun i hi => ?_⟩⟩
 rw [Nat.zero_add,h.cellAt i (by omega)]
 simp [hi]
theorem BS.lit (w : World) (l : List Int) (hb : Byt l) : BS (w.alloc (.cells (l.map (Value.int .u8)).toArray 5)) (.slice (some ⟨w.heap.size,0,none⟩) l.length l.length) l := by
 refine ⟨_,_,rfl,hb,nofun,.inr ⟨_,0,rfl,fun i hi => ?_⟩⟩
 rw [cell_of_row _ _ _ _ _ _ (heap_alloc_new w _)]
 simp [hi]
theorem BS.of_own {w : World} {base n : Nat} {v : Value} {l : List Int} (h : w.ownsRow base 5 1 v n (l.map (Value.int .u8))) (hl : l.length = n) (hb : Byt l) : BS w v l := by
 rcases h.2 with ⟨rfl,h0⟩ | ⟨g,cap,cur,rfl,_,hg,hc,_,hs,ht⟩
 ·have : l = [] := List.eq_nil_of_length_eq_zero (by omega)
  subst this
  exact ⟨none,0,rfl,hb,fun _ => rfl,.inl rfl⟩
 ·refine ⟨some ⟨g,0,none⟩,cap,by rw [hl],hb,nofun,.inr ⟨g,0,rfl,fun i hi => ?_⟩⟩
  rw [Nat.zero_add,h.cellAt i (by omega)]
  simp [hi]
theorem info_u8 : (Tryz.prog.info? 5).map (fun i => (i.zero,i.size,i.bytes)) = some (some (.int .u8 0),1,1) := by kernel_rfl
theorem wpList_append_BS {ops : Array Oper} {rest : List Oper} {o : Oper} {a : Act} {w : World} {Q : Exit → Act → World → Prop} (hgd : o.guard = none) (s x : Operand)
 (ho : o.op = .call { callee := .builtin .append,args := #[s,x],argTypes := #[62,62] })
 (base : Nat) (v : Value) (n : Nat) (xs : List Value) (hs : a.eval s = v) (hown : w.ownsRow base 5 1 v n xs)
 (vx : Value) (l : List Int) (hx : a.eval x = vx) (hB : BS w vx l) (h63 : n + l.length ≤ 140737488355328) (hbase : base ≤ w.heap.size)
 (h : ∀ v' w',w'.ownsRow base 5 1 v' (n + l.length) (xs ++ l.map (Value.int .u8)) → w.grownBy w' v.ownBlock → wpList Tryz.prog ops Q rest (a.put o.dst v') w') : wpList Tryz.prog ops Q (o :: rest) a w := by
 obtain ⟨i0,hi,hz0,hz1,hz2⟩ := info_parts info_u8
 obtain ⟨ad,cap,rfl,hb,hn,hc⟩ := hB
 cases ad with
 | none =>
   obtain rfl := hn rfl
   have hl : l = [] := by
    rcases hc with h | ⟨b,off,h,_⟩
    ·exact h
    ·cases h
   subst hl
   refine wpList_append_own_none hgd s x _ ho base 5 i0 1 Tryz.underlying62 hi v n xs hs hown hx ?_
   have := h v w (by simpa using hown) ⟨rfl,rfl,rfl,Nat.le_refl _,fun _ _ _ => rfl⟩
   exact this
 | some ad =>
   refine wpList_append_own w hgd s x _ ho base 5 i0 _ 1 1 Tryz.underlying62 hi hz0 hz1 hz2 rfl (by decide) v n xs hs hown ad l.length cap (l.map (Value.int .u8)) hx (by simp) ?_ ?_ (by unfold maxLen; omega) (by omega) hbase (fun v' w' h1 h2 _ => h v' w' h1 h2)
   ·intro j u hj
    have hjl : j < l.length := by
     have := (List.getElem?_eq_some_iff.1 hj).1
     simpa using this
    rcases hc with hc | ⟨b,off,he,hc⟩
    ·subst hc; simp at hjl
    ·obtain rfl := Option.some.inj he
     have e2 : (⟨b,off,none⟩ : Addr).add j = ⟨b,off + j,none⟩ := by unfold Addr.add; split <;> simp_all
     rw [e2,hc j hjl]
     simp [hjl] at hj
     simp [hjl,hj]
   ·intro u hu
    simp only [List.mem_map] at hu
    obtain ⟨z,_,rfl⟩ := hu
    rfl
set_option maxRecDepth 4000 in
set_option maxHeartbeats 400000 in
theorem get_nil (w : World) (a : Option Addr) (cap : Nat) :
 Calls Tryz.prog 130 #[.slice a 0 cap] w fun e w' => e = .returned (.tuple #[.int .u64 0,.int .i64 0]) ∧ w' = w := by
 go_enter Tryz.func130,Tryz.ntmps130
 go_wp2
 go_loop [4,12] (fun x i => x = .int .u64 0 ∧ i = .int .i64 0) (fun _ i => 0)
 case atStart => exact ⟨rfl,rfl⟩
 case round =>
  obtain ⟨rfl,rfl⟩ := hrel
  go_wp2
  go_ret2
  exact ⟨rfl,rfl⟩
set_option maxRecDepth 4000 in
set_option maxHeartbeats 400000 in
theorem get_some (w : World) (b off cap : Nat) (l : List Int) (h8 : l.length ≤ 8) (hb : Byt l)
 (hc : ∀ i,i < l.length → w.cell? ⟨b,off + i,none⟩ = some (.int .u8 (l.getD i 0))) :
 Calls Tryz.prog 130 #[.slice (some ⟨b,off,none⟩) l.length cap] w fun e w' => e = .returned (.tuple #[.int .u64 (num l),.int .i64 0]) ∧ w' = w := by
 have HS := hid (fun k (hk : k < l.length) => get_step l hb k hk h8)
 generalize hn : l.length = n at *
 have HN := hid hn
 clear hn
 go_enter Tryz.func130,Tryz.ntmps130
 go_wp2
 go_loop [4,12] (fun x i => ∃ k : Nat,k ≤ n ∧ i = .int .i64 k ∧ x = .int .u64 (num (l.take k))) (fun _ i => n - (intOf i).toNat)
 case atStart => exact ⟨0,by omega,rfl,rfl⟩
 case round =>
  obtain ⟨k,hk,rfl,rfl⟩ := hrel
  by_cases hlt : k < n
  ·have hcx := hc k hlt
   clear hc
   obtain ⟨b1,b2⟩ := num_take_le l hb k (by omega)
   obtain ⟨c1,c2⟩ := byt_at l hb k
   go_wp2
   go_round
   case rel => exact ⟨k + 1,by omega,by go_num,by rw [HS.out k hlt]⟩
   case measure => simp [intOf]; omega
  ·have hkn : k = n := by omega
   subst hkn
   go_wp2
   go_ret2
   have e := HN.out
   exact ⟨by rw [List.take_of_length_le (by omega)]; rfl,rfl⟩
theorem get_ok (w : World) (v : Value) (l : List Int) (h : BS w v l) (h8 : l.length ≤ 8) :
 Calls Tryz.prog 130 #[v] w fun e w' => e = .returned (.tuple #[.int .u64 (num l),.int .i64 0]) ∧ w' = w := by
 obtain ⟨a,cap,rfl,hb,_,rfl | ⟨b,off,rfl,hc⟩⟩ := h
 ·exact get_nil w a cap
 ·exact get_some w b off cap l h8 hb hc
set_option maxRecDepth 4000 in
set_option maxHeartbeats 400000 in
theorem put_bad (x n : Int) (w : World) (h : n < 0 ∨ 8 < n ∨ 2 ^ (8 * n.toNat) ≤ x) :
 Calls Tryz.prog 99 #[.int .u64 x,.int .i64 n] w fun e w' => e = .returned (.tuple #[.slice none 0 0,.int .i64 2]) ∧ w' = w := by
 by_cases h1 : n < 0
 ·go_enter Tryz.func99,Tryz.ntmps99
  go_wp2
  go_ret2
  exact ⟨rfl,rfl⟩
 by_cases h2 : 8 < n
 ·go_enter Tryz.func99,Tryz.ntmps99
  go_wp2
  go_ret2
  exact ⟨rfl,rfl⟩
 obtain ⟨m,rfl⟩ := Int.eq_ofNat_of_zero_le (by omega : 0 ≤ n)
 have h5 : 2 ^ (8 * m) ≤ x := by simpa using (by omega : 2 ^ (8 * (m : Int).toNat) ≤ x)
 have hp : (0 : Int) < 2 ^ (8 * m) := Int.pow_pos (by decide)
 have h6 : (x / 2 ^ (8 * m) != 0) = true := by
  have : 1 ≤ x / 2 ^ (8 * m) := (Int.le_ediv_iff_mul_le hp).2 (by omega)
  simp; omega
 clear h h5 hp
 go_enter Tryz.func99,Tryz.ntmps99
 go_wp2
 go_ret2
 exact ⟨rfl,rfl⟩
set_option maxRecDepth 4000 in
set_option maxHeartbeats 400000 in
theorem put_ok (x : Int) (n : Nat) (w : World) (h2 : n ≤ 8) (h0 : 0 ≤ x) (h3 : x < 2 ^ (8 * n)) :
 Calls Tryz.prog 99 #[.int .u64 x,.int .i64 n] w fun e w' => e = .returned (.tuple #[.slice (some ⟨w.heap.size,0,none⟩) n n,.int .i64 0]) ∧
  w'.ownsRow w.heap.size 5 1 (.slice (some ⟨w.heap.size,0,none⟩) n n) n ((putI x n).map (.int .u8)) ∧ Below w.heap.size w w' := by
 have h6 : x / 2 ^ (8 * n) = 0 := Int.ediv_eq_zero_of_lt h0 h3
 have h7 : (x / 2 ^ (8 * n) != 0) = false := by simp [h6]
 obtain ⟨i0,hi,hz0,hz1,hz2⟩ := info_parts info_u8
 go_enter Tryz.func99,Tryz.ntmps99
 go_wp2_with (at_make; refine wpList_make_full _ rfl _ _ _ rfl w.heap.size 5 i0 (.int .u8 0) 1 Tryz.underlying62 hi hz0 hz1 .i64 .i64 _ _ n rfl rfl (by rfl) (by rfl) ?c1 ?c2 ?c3 ?_)
 case c1 => rw [hz2]; omega
 case c2 => unfold maxLen; omega
 case c3 => omega
 intro w1 hown hgrow
 have hb := (Below.refl w.heap.size w).grown hgrow (Nat.le_refl _) (by simp)
 have hsz := hgrow.size
 clear hgrow
 generalize hB : w.heap.size = B at *
 clear hi hz0 hz1 hz2
 go_wp2
 go_loopw [25] (fun i wr => ∃ k : Nat,k ≤ n ∧ i = .int .i64 k ∧ wr.ownsRow B 5 1 (.slice (some ⟨B,0,none⟩) n n) n ((putP x n k).map (.int .u8)) ∧ Below B w wr) (fun i _ => n - (intOf i).toNat)
 case atStart => exact ⟨0,by omega,rfl,by rw [putP_zero,← toList_madeCells_one]; exact hown,hb⟩
 case round =>
  obtain ⟨k,hk,rfl,ho,hbe⟩ := hrel
  by_cases hlt : k < n
  ·have hce : wr.cell? ⟨B,k,none⟩ = some (.int .u8 0) := (ho.cellAt k (by omega)).trans (putP_at x n k hlt)
   have hfr := ho.frozenAt k
   have hst := ho.stored k
   clear ho hown
   have HST := hid hst
   clear hst
   go_wp2
   go_roundw
   case rel => exact ⟨k + 1,by omega,by go_num,by rw [← putP_set x n k]; exact (HST.out _).1,hbe.setCell (Nat.le_refl _) _⟩
   case measure => simp [intOf]; omega
  ·obtain rfl : k = n := by omega
   go_wp2
   go_ret2
   subst hB
   rw [putP_full] at ho
   exact ⟨rfl,ho,hbe⟩
theorem conv_BS {w : World} {v : Value} {l : List Int} (h : BS w v l) : (convert 62 9 v).run Tryz.prog w = .ok (.string (strOfNums l)) w := by
 obtain ⟨a,cap,rfl,hb,_,rfl | ⟨b,off,rfl,hc⟩⟩ := h
 ·cases a with
  | none => exact run_convert_bytes_nil w 62 5 Tryz.underlying62 Tryz.underlying5 _ cap 9 Tryz.underlying9
  | some a =>
    rw [run_convert_bytes_string w 62 9 5 _ _ cap Tryz.underlying62 Tryz.underlying5 Tryz.underlying9]
    exact run_bytesToString w a 0 cap [] (by simpa using run_loadCells_list (P := Tryz.prog) w a [] (by simp))
 ·exact run_convert_bytes_arg w 62 5 Tryz.underlying62 Tryz.underlying5 b off _ cap l rfl hc 9 Tryz.underlying9
def turnI (x n : Int) : Int := bits BinOp.or IntKind.u32 (x * 2 ^ (n % 32).toNat % 4294967296) (x / 2 ^ (32 - n % 32).toNat)
set_option maxRecDepth 4000 in
set_option maxHeartbeats 400000 in
theorem turn_any (x n : Int) (w : World) :
 Calls Tryz.prog 124 #[.int .u32 x,.int .i64 n] w fun e w' => e = .returned (.int .u32 (turnI x n)) ∧ w' = w := by
 have h : IntKind.u64.wrap n % 32 = n % 32 := by rw [IntKind.wrap_u64]; omega
 have H := hid h
 have h0 : 0 ≤ IntKind.u64.wrap n := by rw [IntKind.wrap_u64]; omega
 have h1 : 0 ≤ IntKind.u64.wrap n % 32 := by omega
 have h2 : IntKind.u64.wrap n % 32 < 32 := by omega
 clear h
 go_enter Tryz.func124,Tryz.ntmps124
 go_wp2
 go_ret
 exact ⟨by unfold turnI; rw [← H.out]; rfl,rfl⟩
theorem turnI_rot (b : BitVec 32) (n : Int) : turnI (b.toNat : Int) n = ((b.rotateLeft (n % 32).toNat).toNat : Int) := by
 obtain ⟨k,hk⟩ : ∃ k : Nat,n % 32 = k := ⟨(n % 32).toNat,by omega⟩
 have hlt : k < 32 := by omega
 unfold turnI
 rw [hk,Int.toNat_natCast,show ((32 : Int) - (k : Int)).toNat = 32 - k from by omega]
 have e1 : ((b.toNat : Int) * 2 ^ k % 4294967296) = ((b <<< k).toNat : Int) := by
  rw [BitVec.toNat_shiftLeft,Nat.shiftLeft_eq]; simp
 have e2 : ((b.toNat : Int) / 2 ^ (32 - k)) = ((b >>> (32 - k)).toNat : Int) := by
  rw [BitVec.toNat_ushiftRight,Nat.shiftRight_eq_div_pow]; simp
 rw [e1,e2,bits_or_u32 _ _ (BitVec.isLt _) (BitVec.isLt _),BitVec.rotateLeft_def,Nat.mod_eq_of_lt hlt,BitVec.toNat_or]
end
section
set_option maxRecDepth 4000
open Go.RowKit
end
section
set_option maxRecDepth 4000
open Go.RowKit
def putQ (x : Int) (n m : Nat) : List Int := (List.range n).map fun i => if m ≤ i then x / 2 ^ (8 * (n - 1 - i)) % 256 else 0
theorem putQ_full (x : Int) (n : Nat) : (putQ x n n).map (Value.int .u8) = List.replicate n (.int .u8 0) := by
 apply List.ext_getElem
 ·simp [putQ]
 ·intro i h1 h2
  have : i < n := by simpa [putQ] using h1
  simp [putQ]; omega
theorem putQ_at (x : Int) (n m : Nat) (h : m < n) : ((putQ x n (m + 1)).map (Value.int .u8))[m]? = some (.int .u8 0) := by
 simp [putQ,h]
 intro h'
 omega
theorem putQ_set (x : Int) (n m : Nat) (h : m < n) : ((putQ x n (m + 1)).map (Value.int .u8)).set m (.int .u8 (x / 256 ^ (n - (m + 1)) % 256)) = (putQ x n m).map (Value.int .u8) := by
 apply List.ext_getElem
 ·simp [putQ]
 ·intro i h1 h2
  by_cases e : m = i
  ·subst e
   simp [putQ,show n - (m + 1) = n - 1 - m from by omega,Int.pow_mul]
  ·simp only [putQ,List.map_map,List.getElem_set,if_neg e,List.getElem_map,List.getElem_range,Function.comp_apply]
   by_cases hi : m + 1 ≤ i
   ·rw [if_pos hi,if_pos (by omega)]
   ·rw [if_neg hi,if_neg (by omega)]
theorem putQ_zero (x : Int) (n : Nat) : putQ x n 0 = putI x n := by
 apply List.map_congr_left
 intro i hi
 rw [if_pos (by omega)]
theorem bytes_next (x : Int) (n m : Nat) (h : m < n) : x / 256 ^ (n - m) = x / 256 ^ (n - (m + 1)) / 256 := by
 rw [Int.ediv_ediv_of_nonneg (Int.le_of_lt (Int.pow_pos (by decide))),← Int.pow_succ]; congr 2; omega
theorem bytes_bound (x : Int) (k : Nat) (h0 : 0 ≤ x) : 0 ≤ x / 256 ^ k ∧ x / 256 ^ k ≤ x :=
 ⟨Int.ediv_nonneg h0 (Int.le_of_lt (Int.pow_pos (by decide))),Int.ediv_le_self _ h0⟩
end
section
set_option maxRecDepth 4000
open Go.RowKit
set_option maxHeartbeats 400000 in
theorem rput_loop (x : Int) (n : Nat) (w : World) (h2 : n ≤ 8) (h0 : 0 ≤ x) (h1 : x < 18446744073709551616) :
 Calls Tryz.prog 139 #[.int .u64 x,.int .i64 n] w fun e w' => Below w.heap.size w w' ∧
  ((x / 256 ^ n = 0 ∧ e = .returned (.tuple #[.slice (some ⟨w.heap.size,0,none⟩) n n,.int .i64 0]) ∧ w'.ownsRow w.heap.size 5 1 (.slice (some ⟨w.heap.size,0,none⟩) n n) n ((putI x n).map (.int .u8))) ∨
   (x / 256 ^ n ≠ 0 ∧ e = .returned (.tuple #[.slice none 0 0,.int .i64 2]))) := by
 obtain ⟨i0,hi,hz0,hz1,hz2⟩ := info_parts info_u8
 go_enter Tryz.func139,Tryz.ntmps139
 go_wp2_with (at_make; refine wpList_make_full _ rfl _ _ _ rfl w.heap.size 5 i0 (.int .u8 0) 1 Tryz.underlying62 hi hz0 hz1 .i64 .i64 _ _ n rfl rfl (by rfl) (by rfl) ?c1 ?c2 ?c3 ?_)
 case c1 => rw [hz2]; omega
 case c2 => unfold maxLen; omega
 case c3 => omega
 intro w1 hown hgrow
 have hb := (Below.refl w.heap.size w).grown hgrow (Nat.le_refl _) (by simp)
 have hsz := hgrow.size
 clear hgrow
 generalize hB : w.heap.size = B at *
 clear hi hz0 hz1 hz2
 go_wp2
 go_loopw [0,7] (fun y i wr => ∃ m : Nat,m ≤ n ∧ i = .int .i64 ((m : Int) - 1) ∧ y = .int .u64 (x / 256 ^ (n - m)) ∧ wr.ownsRow B 5 1 (.slice (some ⟨B,0,none⟩) n n) n ((putQ x n m).map (.int .u8)) ∧ Below B w wr) (fun _ i _ => (intOf i + 1).toNat)
 case atStart => exact ⟨n,by omega,rfl,by simp,by rw [putQ_full,← toList_madeCells_one]; exact hown,hb⟩
 case round =>
  obtain ⟨m,hm,rfl,rfl,ho,hbe⟩ := hrel
  cases m with
  | zero =>
    rw [putQ_zero] at ho
    rw [Nat.sub_zero] at *
    have g0 := (bytes_bound x n h0).1
    generalize hye : x / 256 ^ n = y at *
    have HY := hid hye
    clear hye
    have HO := hid ho
    clear ho hown
    by_cases hy : y = 0
    ·subst hy
     go_wp2
     go_ret2
     subst hB
     exact ⟨hbe,.inl ⟨HY.out,rfl,HO.out⟩⟩
    ·have hy1 : 0 < y := by omega
     go_wp2
     go_ret2
     subst hB
     exact ⟨hbe,.inr ⟨by rw [HY.out]; exact hy,rfl⟩⟩
  | succ i =>
    have e0 : ((i + 1 : Nat) : Int) - 1 = (i : Int) := by omega
    rw [e0]
    clear e0
    have hce : wr.cell? ⟨B,i,none⟩ = some (.int .u8 0) := (ho.cellAt i (by omega)).trans (putQ_at x n i (by omega))
    have hfr := ho.frozenAt i
    have hst := ho.stored i
    have hset := putQ_set x n i (by omega)
    have hnext := bytes_next x n i (by omega)
    obtain ⟨y0,y1⟩ := bytes_bound x (n - (i + 1)) h0
    generalize x / 256 ^ (n - (i + 1)) = y at *
    clear ho hown
    have HST := hid hst
    have HSET := hid hset
    have HN := hid hnext
    clear hst hset hnext
    go_wp2
    go_roundw
    case rel => exact ⟨i,by omega,rfl,by rw [HN.out],by rw [← HSET.out]; exact (HST.out _).1,hbe.setCell (Nat.le_refl _) _⟩
    case measure => simp [intOf]
end
end Go.Proofs.YtgckapolpifbkaaGreatDoor
