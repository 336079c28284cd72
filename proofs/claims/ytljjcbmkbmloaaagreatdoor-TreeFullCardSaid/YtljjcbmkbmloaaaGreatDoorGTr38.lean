import Derived.Test.YtljjcbmkbmloaaaGreatDoorGTr35
import Derived.Test.YtljjcbmkbmloaaaGreatDoorGTr36
import Derived.Test.YtljjcbmkbmloaaaGreatDoorGTr37
import Derived.Test.YtljjcbmkbmloaaaGreatDoorGTrA
namespace Go.Proofs.YtljjcbmkbmloaaaGreatDoor
set_option maxRecDepth 4000
set_option linter.unusedVariables false
open Go.ChangeShapes Go.WideShapes Go.ChangeAt Go.RowKit
def afR (x:bI):bY:=Zr (gq x [101,110,99])
def UI (x:bI):bY:=Zr (gq x [109,97,99])
theorem Qm (x:bI):(UI x).length=32:=by unfold UI; rw [Gg,dV]
theorem YQ (x:bI):bn (gq x [101,110,99]++gq x [109,97,99])=aG (afR x++UI x):=by
 rw [V5]
 unfold aG afR UI
 rw [List.map_append]
 have h1:=RJ _ (Qd x [101,110,99])
 have h2:=RJ _ (Qd x [109,97,99])
 rw [show (Zr (gq x [101,110,99])).map (fun b=>Value.int .u8 (yv b))=((Zr (gq x [101,110,99])).map yv).map (Value.int .u8) by rw [List.map_map]; rfl,h1,
  show (Zr (gq x [109,97,99])).map (fun b=>Value.int .u8 (yv b))=((Zr (gq x [109,97,99])).map yv).map (Value.int .u8) by rw [List.map_map]; rfl,h2]
theorem UJ (x:bI)(v:Value)(w:World)(hv:BS w v x)(hr:Room v)(hK:KT w)(hn:x.length≤140737488355328) :
 Calls Tryz.prog 19 #[v] w fun e w'=>e = .returned (.agg (aG (afR x++UI x)))∧Below w.heap.size w w':=by
 rw [← YQ]; exact YJ x v w hv hr hK hn
structure SD (w wc:World)(c q:Nat)(S:bY)(P:ay):Prop where
 bel:Below w.heap.size w wc
 cy:aW wc c 5 S
 qy:wc.heap[q]? = some (.cells (ag P).toArray 51 (0,0))
 ne:c ≠ q
 cg:w.heap.size≤c
 qg:w.heap.size≤q
def YR:bI:=[109,97,115,116,101,114]
theorem Qn:afR YR=keyE:=afQ
theorem LW (k:bY)(a c:Nat)(l:bY)(hl:l.length=512)(ha:a<18446744073709551616)(hc:c<4294967296):kQ k (eH a c ((fK k a c l).map yv)) (fK k a c l)=(l,0):=by
 have hs:=iV k a c l hl
 obtain ⟨h1,h2,h3⟩:=qF a c ((fK k a c l).map yv) hc ha
 unfold kQ
 rw [if_neg (by omega),acT _ _ hs,h3,h1,h2,if_pos (by simp),show ((a:Int)).toNat=a from rfl,show ((c:Int)).toNat=c from rfl,Qh k a c l hl]
theorem CO (l:bY)(h:l.length=64):(Tryz.prog.info? 60).map (·.size)=some (aG l).toList.length:=by rw [Array.length_toList]; exact wR l h
theorem YS (W:World):BS (W.alloc (.cells #[.int .u8 109,.int .u8 97,.int .u8 115,.int .u8 116,.int .u8 101,.int .u8 114] 5 (6,7))) (.slice (some ⟨W.heap.size,0,none⟩) 6 6) YR:=by
 refine ⟨_,_,rfl,by unfold YR fP; decide,nofun,.inr ⟨_,0,rfl,fun i hi=>?_⟩⟩
 rw [cell_of_row _ _ _ _ _ _ (heap_alloc_new W _)]
 change i<6 at hi
 rw [Nat.zero_add]
 match i,hi with
 | 0,_=>rfl
 | 1,_=>rfl
 | 2,_=>rfl
 | 3,_=>rfl
 | 4,_=>rfl
 | 5,_=>rfl
end Go.Proofs.YtljjcbmkbmloaaaGreatDoor
