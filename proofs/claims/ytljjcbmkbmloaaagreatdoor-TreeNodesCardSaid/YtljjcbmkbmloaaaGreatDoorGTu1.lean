import Derived.WalkKit
import Derived.Test.YtljjcbmkbmloaaaGreatDoorRows
import Derived.WalkSpells
import Derived.WalkLawsBesides
import Derived.Lib.Hide
import Derived.Laws.AppendOwnNone
import Derived.Test.YtljjcbmkbmloaaaGreatDoorGTuA
namespace Go.Proofs.YtljjcbmkbmloaaaGreatDoor
set_option maxHeartbeats 400000
set_option maxRecDepth 4000
set_option linter.unusedVariables false
open Lib (hid)
section
open Go.RowKit
theorem jw (n:Nat)(h:n<18446744073709551616):IntKind.u64.wrap (n:Int)=n:=IntWalk.u64_in _ (by omega)
theorem uO (n:Nat)(h:n<4294967296):IntKind.u32.wrap (n:Int)=n:=IntWalk.u32_in _ (by omega)
theorem Ei (n:Nat)(h:n<256):IntKind.u8.wrap (n:Int)=n:=IntWalk.u8_in _ (by omega)
theorem rf (m n:Nat):(BitVec.ofInt m (n:Int))=BitVec.ofNat m n:=by
 simp
theorem BF (k:IntKind)(a b:Nat):bits BinOp.or k (a:Int) (b:Int)=k.wrap (((a % 2 ^ k.bits) ||| (b % 2 ^ k.bits):Nat):Int):=by
 simp only [bits,rf,BitVec.toNat_or,BitVec.toNat_ofNat]
theorem NG (a b:Nat)(ha:a<18446744073709551616)(hb:b<18446744073709551616):bits BinOp.or IntKind.u64 (a:Int) (b:Int)=((a ||| b:Nat):Int):=by
 have h:a ||| b<2 ^ 64:=Nat.or_lt_two_pow (by simpa using ha) (by simpa using hb);have e:IntKind.u64.bits=64:=rfl;rw [BF,e,Nat.mod_eq_of_lt (by simpa using ha),Nat.mod_eq_of_lt (by simpa using hb)];exact jw _ (by simpa using h)
theorem uP (a b:Nat)(ha:a<4294967296)(hb:b<4294967296):bits BinOp.or IntKind.u32 (a:Int) (b:Int)=((a ||| b:Nat):Int):=by
 have h:a ||| b<2 ^ 32:=Nat.or_lt_two_pow (by simpa using ha) (by simpa using hb);have e:IntKind.u32.bits=32:=rfl;rw [BF,e,Nat.mod_eq_of_lt (by simpa using ha),Nat.mod_eq_of_lt (by simpa using hb)];exact uO _ (by simpa using h)
theorem Z8 {α:Type}{P:List α→Prop}(h0:P [])(h1:∀ l a,P l→P (l++[a]))(l:List α):P l:=by
 rw [← List.reverse_reverse l];induction l.reverse with
 | nil=>simpa using h0
 | cons a t ih=>rw [List.reverse_cons]; exact h1 _ _ ih
theorem Z9 (a b i:Nat)(h:b<2 ^ i):a * 2 ^ i ||| b=a * 2 ^ i+b:=by
 rw [← Nat.shiftLeft_eq];exact (Nat.shiftLeft_add_eq_or_of_lt h a).symm
def num (l:bI):Int:=l.foldl (fun x c=>x * 256+c) 0
theorem yU (l:bI)(c:Int):num (l++[c])=num l * 256+c:=by simp [num]
def gm (l:bI):Prop:=∀ z ∈ l,0≤z∧z≤255
theorem Aw (l:bI):gm l→0≤num l∧num l<256 ^ l.length:=by
 induction l using Z8 with
 | h0=>intro _; simp [num]
 | h1 l c ih =>
   intro h;have:=ih (fun z hz=>h z (by simp [hz]));have hc:=h c (by simp);rw [yU];simp only [List.length_append,List.length_singleton,Int.pow_succ];omega
theorem aes (x c:Int)(h0:0≤x)(h1:x<72057594037927936)(h2:0≤c)(h3:c≤255):bits BinOp.or IntKind.u64 (x * 256) c=x * 256+c:=by
 obtain ⟨a,rfl⟩:=Int.eq_ofNat_of_zero_le h0;obtain ⟨b,rfl⟩:=Int.eq_ofNat_of_zero_le h2;have:=Z9 a b 8 (by omega);have e:((a:Int) * 256)=((a * 2 ^ 8:Nat):Int):=by simp
 rw [e,NG _ _ (by omega) (by omega),this];simp
theorem IY (l:bI)(k:Nat)(h:k<l.length):l.take (k+1)=l.take k++[l[k]?.getD 0]:=by
 rw [List.take_succ_eq_append_getElem h]; simp [h]
theorem Ko (l:bI)(h:gm l)(k:Nat):0≤l[k]?.getD 0∧l[k]?.getD 0≤255:=by
 by_cases hk:k<l.length
 ·simp only [List.getElem?_eq_getElem hk,Option.getD_some]
  exact h _ (List.getElem_mem hk)
 simp [List.getElem?_eq_none (by omega:l.length≤k)]
theorem aab (l:bI)(h:gm l)(k:Nat):gm (l.take k):=fun z hz=>h z (List.mem_of_mem_take hz)
theorem WY (n:Nat)(h:n≤7):(256:Int) ^ n≤72057594037927936:=by
 match n,h with
 | 0,_ | 1,_ | 2,_ | 3,_ | 4,_ | 5,_ | 6,_ | 7,_=>decide
theorem BG (l:bI)(h:gm l)(k:Nat)(hk:k≤7):0≤num (l.take k)∧num (l.take k)<72057594037927936:=by
 have:=Aw _ (aab l h k);have h2:=WY (l.take k).length (by have:=List.length_take_le k l; omega);omega
theorem aac (l:bI)(h:gm l)(k:Nat)(hk:k<l.length)(h8:l.length≤8) :
 bits BinOp.or IntKind.u64 (num (l.take k) * 256) (l[k]?.getD 0)=num (l.take (k+1)):=by
 have h1:=BG l h k (by omega)
 have h2:=Ko l h k
 rw [IY l k hk,yU,aes _ _ h1.1 h1.2 h2.1 h2.2]
def kW (x:Int)(n:Nat):bI:=(List.range n).map fun i=>x / 2 ^ (8 * (n - 1 - i)) % 256
def Dp (x:Int)(n k:Nat):bI:=(List.range n).map fun i=>if i<k then x / 2 ^ (8 * (n - 1 - i)) % 256 else 0
theorem WZ (x:Int)(n:Nat):(Dp x n 0).map (Value.int .u8)=List.replicate n (.int .u8 0):=by
 apply List.ext_getElem
 ·simp [Dp]
 intro i h1 h2; simp [Dp]
theorem aet (x:Int)(n k:Nat)(h:k<n):((Dp x n k).map (Value.int .u8))[k]? = some (.int .u8 0):=by
 simp [Dp,h]
theorem aad (x:Int)(n k:Nat):((Dp x n k).map (Value.int .u8)).set k (.int .u8 (x / 2 ^ (8 * (n - 1 - k)) % 256))=(Dp x n (k+1)).map (Value.int .u8):=by
 apply List.ext_getElem
 ·simp [Dp]
 intro i h1 h2;by_cases e:k=i
 ·subst e; simp [Dp]
 simp only [Dp,List.map_map,List.getElem_set,if_neg e,List.getElem_map,List.getElem_range,Function.comp_apply];by_cases hi:i<k
 ·rw [if_pos hi,if_pos (by omega)]
 rw [if_neg hi,if_neg (by omega)]
theorem W9 (x:Int)(n:Nat):Dp x n n=kW x n:=by
 apply List.map_congr_left;intro i hi;rw [if_pos (by simpa using hi)]
theorem dQ (x:Int)(n:Nat):(kW x n).length=n:=by simp [kW]
theorem rq (x:Int)(n:Nat):gm (kW x n):=by
 intro z hz;obtain ⟨i,_,rfl⟩:=List.mem_map.1 hz;omega
theorem NH (n:Nat):∀ x:Int,0≤x→x<2 ^ (8 * n)→num (kW x n)=x:=by
 induction n with
 | zero=>intro x h0 h1; simp at h1; simp [kW,num]; omega
 | succ n ih =>
   intro x h0 h1;have e:kW x (n+1)=kW (x / 256) n++[x % 256]:=by
    unfold kW;rw [List.range_succ,List.map_append];congr 1
    ·apply List.map_congr_left
     intro i hi;have hi':i<n:=by simpa using hi
     rw [show 8 * (n+1 - 1 - i)=8+8 * (n - 1 - i) from by omega,Int.pow_add,← Int.ediv_ediv_of_nonneg (by decide)];rfl
    simp
   rw [e,yU,ih _ (by omega) (by
    have:(2:Int) ^ (8 * (n+1))=2 ^ (8 * n) * 256:=by rw [show 8 * (n+1)=8 * n+8 from by omega,Int.pow_add]; rfl
    omega)]
   omega
end
section
open Go.RowKit
def BS (w:World)(v:Value)(l:bI):Prop :=
 ∃ a cap,v = .slice a l.length cap∧gm l∧(a=none→cap=0)∧(l=[]∨∃ b off,a=some ⟨b,off,none⟩∧∀ i,i<l.length→w.cell? ⟨b,off+i,none⟩=some (.int .u8 (l.getD i 0)))
theorem BS.DK {w:World}{v:Value}{l:bI}(h:BS w v l):gm l:=by obtain ⟨_,_,_,hy,_⟩:=h; exact hy
theorem BS.kept {w w':World}{v:Value}{l:bI}(h:BS w v l)(hb:Below w.heap.size w w'):BS w' v l:=by
 obtain ⟨a,cap,hv,hy,hn,h⟩:=h;refine ⟨a,cap,hv,hy,hn, ?_⟩;rcases h with h | ⟨b,off,ha,hc⟩
 ·exact .inl h
 refine .inr ⟨b,off,ha,fun i hi=>?_⟩;have hlt:=block_lt_of_cell (hc i hi);rw [hb.cell hlt]; exact hc i hi
theorem BS.Vp {w:World}{base g n:Nat}{l:bI}(h:w.ownsRow base 5 1 (.slice (some ⟨g,0,none⟩) n n) n (l.map (Value.int .u8)))(hl:l.length=n)(hb:gm l) :
 BS w (.slice (some ⟨g,0,none⟩) n n) l:=by
 refine ⟨some ⟨g,0,none⟩,n,by rw [hl],hb,nofun,.inr ⟨g,0,rfl,fun i hi=>?_⟩⟩
 rw [Nat.zero_add,h.cellAt i (by omega)]
 simp [hi]
theorem BS.Ej {w:World}{base n:Nat}{v:Value}{l:bI}(h:w.ownsRow base 5 1 v n (l.map (Value.int .u8)))(hl:l.length=n)(hb:gm l):BS w v l:=by
 rcases h.2 with ⟨rfl,h0⟩ | ⟨g,cap,cur,rfl,_,hg,hc,_,hs,ht⟩
 ·have:l=[]:=List.eq_nil_of_length_eq_zero (by omega)
  subst this;exact ⟨none,0,rfl,hb,fun _=>rfl,.inl rfl⟩
 refine ⟨some ⟨g,0,none⟩,cap,by rw [hl],hb,nofun,.inr ⟨g,0,rfl,fun i hi=>?_⟩⟩;rw [Nat.zero_add,h.cellAt i (by omega)];simp [hi]
theorem yV:(Tryz.prog.info? 5).map (fun i=>(i.zero,i.size,i.bytes))=some (some (.int .u8 0),1,1):=by kernel_rfl
theorem mf {ops:Array Oper}{rest:List Oper}{o:Oper}{a:Act}{w:World}{Q:Exit→Act→World→Prop}(hgd:o.guard=none)(s x:Operand)
 (ho:o.op = .call { callee := .builtin .append,args:=#[s,x],argTypes:=#[62,62] })
 (base:Nat) (v:Value) (n:Nat) (xs:List Value) (hs:a.eval s=v) (hown:w.ownsRow base 5 1 v n xs)
 (vx:Value) (l:bI) (hx:a.eval x=vx) (hB:BS w vx l) (h63:n+l.length≤140737488355328) (hbase:base≤w.heap.size)
 (h:∀ v' w',w'.ownsRow base 5 1 v' (n+l.length) (xs++l.map (Value.int .u8))→w.grownBy w' v.ownBlock→wpList Tryz.prog ops Q rest (a.put o.dst v') w'):wpList Tryz.prog ops Q (o::rest) a w:=by
 obtain ⟨i0,hi,hz0,hz1,hz2⟩:=info_parts yV
 obtain ⟨ad,cap,rfl,hb,hn,hc⟩:=hB
 cases ad with
 | none =>
   obtain rfl:=hn rfl;have hl:l=[]:=by
    rcases hc with h | ⟨b,off,h,_⟩
    ·exact h
    cases h
   subst hl;refine wpList_append_own_none hgd s x _ ho base 5 i0 1 Tryz.underlying62 hi v n xs hs hown hx ?_;have:=h v w (by simpa using hown) ⟨rfl,rfl,rfl,Nat.le_refl _,fun _ _ _=>rfl⟩;exact this
 | some ad =>
   refine wpList_append_own w hgd s x _ ho base 5 i0 _ 1 1 Tryz.underlying62 hi hz0 hz1 hz2 rfl (by decide) v n xs hs hown ad l.length cap (l.map (Value.int .u8)) hx (by simp) ?_ ?_ (by unfold maxLen; omega) (by omega) hbase (fun v' w' h1 h2 _=>h v' w' h1 h2)
   ·intro j u hj
    have hjl:j<l.length:=by
     have:=(List.getElem?_eq_some_iff.1 hj).1;simpa using this
    rcases hc with hc | ⟨b,off,he,hc⟩
    ·subst hc; simp at hjl
    obtain rfl:=Option.some.inj he;have e2:(⟨b,off,none⟩:Addr).add j=⟨b,off+j,none⟩:=by unfold Addr.add; split <;> simp_all
    rw [e2,hc j hjl];simp [hjl] at hj;simp [hjl,hj]
   intro u hu;simp only [List.mem_map] at hu;obtain ⟨z,_,rfl⟩:=hu;rfl
theorem get_nil (w:World)(a:bO)(cap:Nat) :
 Calls Tryz.prog 145 #[.slice a 0 cap] w fun e w'=>e = .returned (.tuple #[.int .u64 0,.int .i64 0])∧w'=w:=by
 go_in
 go_wp2
 go_loop [4,12] (fun x i=>x = .int .u64 0∧i = .int .i64 0) (fun _ i=>0)
 case atStart=>exact ⟨rfl,rfl⟩
 case round =>
  obtain ⟨rfl,rfl⟩:=hrel;go_wp2
  go_ret2;exact ⟨rfl,rfl⟩
theorem get_some (w:World)(b off cap:Nat)(l:bI)(h8:l.length≤8)(hb:gm l)
 (hc:∀ i,i<l.length→w.cell? ⟨b,off+i,none⟩=some (.int .u8 (l.getD i 0))) :
 Calls Tryz.prog 145 #[.slice (some ⟨b,off,none⟩) l.length cap] w fun e w'=>e = .returned (.tuple #[.int .u64 (num l),.int .i64 0])∧w'=w:=by
 have HS:=hid (fun k (hk:k<l.length)=>aac l hb k hk h8)
 generalize hn:l.length=n at *
 have HN:=hid hn
 clear hn
 go_in
 go_wp2
 go_loop [4,12] (fun x i=>∃ k:Nat,k≤n∧i = .int .i64 k∧x = .int .u64 (num (l.take k))) (fun _ i=>n - (intOf i).toNat)
 case atStart=>exact ⟨0,by omega,rfl,rfl⟩
 case round =>
  obtain ⟨k,hk,rfl,rfl⟩:=hrel;by_cases hlt:k<n
  ·have hcx:=hc k hlt
   clear hc;obtain ⟨b1,b2⟩:=BG l hb k (by omega);obtain ⟨c1,c2⟩:=Ko l hb k;go_wp2
   go_round
   case rel=>exact ⟨k+1,by omega,by go_num,by rw [HS.out k hlt]⟩
   case measure=>simp [intOf]; omega
  have hkn:k=n:=by omega
  subst hkn;go_wp2
  go_ret2;have e:=HN.out;exact ⟨by rw [List.take_of_length_le (by omega)]; rfl,rfl⟩
theorem aae (w:World)(v:Value)(l:bI)(h:BS w v l)(h8:l.length≤8) :
 Calls Tryz.prog 145 #[v] w fun e w'=>e = .returned (.tuple #[.int .u64 (num l),.int .i64 0])∧w'=w:=by
 obtain ⟨a,cap,rfl,hb,_,rfl | ⟨b,off,rfl,hc⟩⟩:=h
 ·exact get_nil w a cap
 ·exact get_some w b off cap l h8 hb hc
theorem aeu (x n:Int)(w:World)(h:n<0∨8<n∨2 ^ (8 * n.toNat)≤x) :
 Calls Tryz.prog 131 #[.int .u64 x,.int .i64 n] w fun e w'=>e = .returned (.tuple #[.slice none 0 0,.int .i64 2])∧w'=w:=by
 by_cases h1:n<0
 ·go_in
  go_wp2
  go_ret2;exact ⟨rfl,rfl⟩
 by_cases h2:8<n
 ·go_in
  go_wp2
  go_ret2;exact ⟨rfl,rfl⟩
 obtain ⟨m,rfl⟩:=Int.eq_ofNat_of_zero_le (by omega:0≤n)
 have h5:2 ^ (8 * m)≤x:=by simpa using (by omega:2 ^ (8 * (m:Int).toNat)≤x)
 have hp:(0:Int)<2 ^ (8 * m):=Int.pow_pos (by decide)
 have h6:(x / 2 ^ (8 * m) != 0)=true:=by
  have:1≤x / 2 ^ (8 * m):=(Int.le_ediv_iff_mul_le hp).2 (by omega);simp; omega
 clear h h5 hp
 go_in
 go_wp2
 go_ret2
 exact ⟨rfl,rfl⟩
theorem aaf (x:Int)(n:Nat)(w:World)(h2:n≤8)(h0:0≤x)(h3:x<2 ^ (8 * n)) :
 Calls Tryz.prog 131 #[.int .u64 x,.int .i64 n] w fun e w'=>e = .returned (.tuple #[.slice (some ⟨w.heap.size,0,none⟩) n n,.int .i64 0]) ∧
  w'.ownsRow w.heap.size 5 1 (.slice (some ⟨w.heap.size,0,none⟩) n n) n ((kW x n).map (.int .u8))∧Below w.heap.size w w':=by
 have h6:x / 2 ^ (8 * n)=0:=Int.ediv_eq_zero_of_lt h0 h3
 have h7:(x / 2 ^ (8 * n) != 0)=false:=by simp [h6]
 obtain ⟨i0,hi,hz0,hz1,hz2⟩:=info_parts yV
 go_in
 go_wp2_with (at_make; refine wpList_make_full _ rfl _ _ _ rfl w.heap.size 5 i0 (.int .u8 0) 1 Tryz.underlying62 hi hz0 hz1 .i64 .i64 _ _ n rfl rfl (by rfl) (by rfl) ?c1 ?c2 ?c3 ?_)
 case c1=>rw [hz2]; omega
 case c2=>unfold maxLen; omega
 case c3=>omega
 intro w1 hown hgrow
 have hb:=(Below.refl w.heap.size w).grown hgrow (Nat.le_refl _) (by simp)
 have hsz:=hgrow.size
 clear hgrow
 generalize hB:w.heap.size=B at *
 clear hi hz0 hz1 hz2
 go_wp2
 go_loopw [25] (fun i wr=>∃ k:Nat,k≤n∧i = .int .i64 k∧wr.ownsRow B 5 1 (.slice (some ⟨B,0,none⟩) n n) n ((Dp x n k).map (.int .u8))∧Below B w wr) (fun i _=>n - (intOf i).toNat)
 case atStart=>exact ⟨0,by omega,rfl,by rw [WZ,← toList_madeCells_one]; exact hown,hb⟩
 case round =>
  obtain ⟨k,hk,rfl,ho,hbe⟩:=hrel;by_cases hlt:k<n
  ·have hce:wr.cell? ⟨B,k,none⟩=some (.int .u8 0):=(ho.cellAt k (by omega)).trans (aet x n k hlt)
   have hfr:=ho.frozenAt k;have hst:=ho.stored k;clear ho hown;have HST:=hid hst;clear hst;go_wp2
   go_roundw
   case rel=>exact ⟨k+1,by omega,by go_num,by rw [← aad x n k]; exact (HST.out _).1,hbe.setCell (Nat.le_refl _) _⟩
   case measure=>simp [intOf]; omega
  obtain rfl:k=n:=by omega
  go_wp2
  go_ret2;subst hB;rw [W9] at ho;exact ⟨rfl,ho,hbe⟩
theorem Kq {w:World}{v:Value}{l:bI}(h:BS w v l):(convert 62 9 v).run Tryz.prog w = .ok (.string (strOfNums l)) w:=by
 obtain ⟨a,cap,rfl,hb,_,rfl | ⟨b,off,rfl,hc⟩⟩:=h
 ·cases a with
  | none=>exact run_convert_bytes_nil w 62 5 Tryz.underlying62 Tryz.underlying5 _ cap 9 Tryz.underlying9
  | some a =>
    rw [run_convert_bytes_string w 62 9 5 _ _ cap Tryz.underlying62 Tryz.underlying5 Tryz.underlying9];exact run_bytesToString w a 0 cap [] (by simpa using run_loadCells_list (P:=Tryz.prog) w a [] (by simp))
 exact run_convert_bytes_arg w 62 5 Tryz.underlying62 Tryz.underlying5 b off _ cap l rfl hc 9 Tryz.underlying9
def Vq (x n:Int):Int:=bits BinOp.or IntKind.u32 (x * 2 ^ (n % 32).toNat % 4294967296) (x / 2 ^ (32 - n % 32).toNat)
theorem aag (x n:Int)(w:World) :
 Calls Tryz.prog 164 #[.int .u32 x,.int .i64 n] w fun e w'=>e = .returned (.int .u32 (Vq x n))∧w'=w:=by
 have h:IntKind.u64.wrap n % 32=n % 32:=by rw [IntKind.wrap_u64]; omega
 have H:=hid h
 have h0:0≤IntKind.u64.wrap n:=by rw [IntKind.wrap_u64]; omega
 have h1:0≤IntKind.u64.wrap n % 32:=by omega
 have h2:IntKind.u64.wrap n % 32<32:=by omega
 clear h
 go_in
 go_wp2
 go_ret
 exact ⟨by unfold Vq; rw [← H.out]; rfl,rfl⟩
theorem Xa (b:BitVec 32)(n:Int):Vq (b.toNat:Int) n=((b.rotateLeft (n % 32).toNat).toNat:Int):=by
 obtain ⟨k,hk⟩:∃ k:Nat,n % 32=k:=⟨(n % 32).toNat,by omega⟩
 have hlt:k<32:=by omega
 unfold Vq;rw [hk,Int.toNat_natCast,show ((32:Int) - (k:Int)).toNat=32 - k from by omega];have e1:((b.toNat:Int) * 2 ^ k % 4294967296)=((b <<< k).toNat:Int):=by
  rw [BitVec.toNat_shiftLeft,Nat.shiftLeft_eq]; simp
 have e2:((b.toNat:Int) / 2 ^ (32 - k))=((b >>> (32 - k)).toNat:Int):=by
  rw [BitVec.toNat_ushiftRight,Nat.shiftRight_eq_div_pow]; simp
 rw [e1,e2,uP _ _ (BitVec.isLt _) (BitVec.isLt _),BitVec.rotateLeft_def,Nat.mod_eq_of_lt hlt,BitVec.toNat_or]
end
section
open Go.RowKit
end
section
open Go.RowKit
end
section
open Go.RowKit
end
end Go.Proofs.YtljjcbmkbmloaaaGreatDoor
