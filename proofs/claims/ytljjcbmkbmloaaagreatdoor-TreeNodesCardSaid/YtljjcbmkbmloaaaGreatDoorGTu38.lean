import Derived.Test.YtljjcbmkbmloaaaGreatDoorGTu35
import Derived.Test.YtljjcbmkbmloaaaGreatDoorGTu36
import Derived.Test.YtljjcbmkbmloaaaGreatDoorGTu37
import Derived.Test.YtljjcbmkbmloaaaGreatDoorGTuA
namespace Go.Proofs.YtljjcbmkbmloaaaGreatDoor
set_option maxRecDepth 4000
set_option linter.unusedVariables false
open Go.ChangeShapes Go.WideShapes Go.ChangeAt Go.RowKit
def agb (x:bI):bY:=ZQ (gJ x [101,110,99])
def QE (x:bI):bY:=ZQ (gJ x [109,97,99])
theorem QF (x:bI):(QE x).length=32:=by unfold QE; rw [GX,dU]
theorem Ze (x:bI):bg (gJ x [101,110,99]++gJ x [109,97,99])=aF (agb x++QE x):=by
 rw [WG];unfold aF agb QE;rw [List.map_append];have h1:=S9 _ (Qx x [101,110,99]);have h2:=S9 _ (Qx x [109,97,99]);rw [show (ZQ (gJ x [101,110,99])).map (fun b=>Value.int .u8 (yv b))=((ZQ (gJ x [101,110,99])).map yv).map (Value.int .u8) by rw [List.map_map]; rfl,h1,
  show (ZQ (gJ x [109,97,99])).map (fun b=>Value.int .u8 (yv b))=((ZQ (gJ x [109,97,99])).map yv).map (Value.int .u8) by rw [List.map_map]; rfl,h2]
theorem G5 (x:bI)(v:Value)(w:World)(hv:BS w v x)(hr:Room v)(hK:KT w)(hn:x.length≤140737488355328) :
 Calls Tryz.prog 19 #[v] w fun e w'=>e = .returned (.agg (aF (agb x++QE x)))∧Below w.heap.size w w':=by
 rw [← Ze]; exact Za x v w hv hr hK hn
structure SD (w wc:World)(c q:Nat)(S:bY)(P:ay):Prop where
 bel:Below w.heap.size w wc
 cy:aU wc c 5 S
 qy:wc.heap[q]? = some (.cells (ag P).toArray 51 (0,0))
 ne:c ≠ q
 cg:w.heap.size≤c
 qg:w.heap.size≤q
def QG:bI:=[109,97,115,116,101,114]
theorem Dh:agb QG=keyE:=aga
theorem Na (k:bY)(a c:Nat)(l:bY)(hl:l.length=512)(ha:a<18446744073709551616)(hc:c<4294967296):kV k (eP a c ((fU k a c l).map yv)) (fU k a c l)=(l,0):=by
 have hs:=jc k a c l hl;obtain ⟨h1,h2,h3⟩:=qU a c ((fU k a c l).map yv) hc ha;unfold kV;rw [if_neg (by omega),ac5 _ _ hs,h3,h1,h2,if_pos (by simp),show ((a:Int)).toNat=a from rfl,show ((c:Int)).toNat=c from rfl,Qz k a c l hl]
theorem Di (l:bY)(h:l.length=64):(Tryz.prog.info? 60).map (·.size)=some (aF l).toList.length:=by rw [Array.length_toList]; exact xh l h
theorem JV (W:World):BS (W.alloc (.cells #[.int .u8 109,.int .u8 97,.int .u8 115,.int .u8 116,.int .u8 101,.int .u8 114] 5 (6,7))) (.slice (some ⟨W.heap.size,0,none⟩) 6 6) QG:=by
 refine ⟨_,_,rfl,by unfold QG gm; decide,nofun,.inr ⟨_,0,rfl,fun i hi=>?_⟩⟩;rw [cell_of_row _ _ _ _ _ _ (heap_alloc_new W _)];change i<6 at hi;rw [Nat.zero_add];match i,hi with
 | 0,_=>rfl
 | 1,_=>rfl
 | 2,_=>rfl
 | 3,_=>rfl
 | 4,_=>rfl
 | 5,_=>rfl
end Go.Proofs.YtljjcbmkbmloaaaGreatDoor
