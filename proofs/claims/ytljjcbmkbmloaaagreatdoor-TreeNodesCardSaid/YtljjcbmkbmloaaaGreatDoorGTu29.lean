import Derived.Test.YtljjcbmkbmloaaaGreatDoorGTu7
import Derived.Test.YtljjcbmkbmloaaaGreatDoorGTu8
import Derived.StillTailTactics
import Derived.Test.YtljjcbmkbmloaaaGreatDoorGTuA
namespace Go.Proofs.YtljjcbmkbmloaaaGreatDoor
set_option maxRecDepth 4000
set_option linter.unusedVariables false
section
open Go.RowKit
end
section
open Go.RowKit
def yK (F:bY)(a:Nat):bY:=(F.drop (a * 512)).take 512
theorem Qi (F:bY)(a n:Nat)(h:F.length=n * 512)(ha:a<n):(yK F a).length=512:=by
 unfold yK; rw [List.length_take,List.length_drop]; omega
end
section
open Go.RowKit
def vV (p:Nat×bY):List Value:=Value.int .u32 (p.1:Int)::p.2.map (fun b=>Value.int .u8 (yv b))
def vW (ws:bW):List Value:=ws.flatMap vV
theorem CS {w:World}{D:Nat}{o:Obj}(h:w.heap[D]? = some o):D<w.heap.size:=(Array.getElem?_eq_some_iff.1 h).1
end
section
open Go.RowKit
theorem GG {B n k g:Nat}{e:TypeId}{v:Value}{xs:List Value}{w w':World}(h:w.ownsRow B e k v n xs)(q:Only g w w')(hne:v.ownBlock ≠ some g):w'.ownsRow B e k v n xs :=
 h.kept (row:=some g) ⟨(q.bel 0 (Nat.zero_le _)).os,(q.bel 0 (Nat.zero_le _)).tape,(q.bel 0 (Nat.zero_le _)).output,Nat.le_of_eq q.size.symm,fun j _ hj=>q.rest j (fun e=>hj (by rw [e]))⟩ (.inr hne)
theorem kT {B n k g:Nat}{e:TypeId}{v:Value}{xs:List Value}{w:World}(h:w.ownsRow B e k v n xs){cs:Array Value}{t:TypeId}{fr:Nat×Nat}(hg:w.heap[g]? = some (.cells cs t fr))(hte:t ≠ e):v.ownBlock ≠ some g:=by
 rcases h.2 with ⟨rfl,_⟩ | ⟨g',cap,cur,rfl,_,hg',_⟩
 ·simp [Value.ownBlock]
 intro he;simp only [Value.ownBlock,Option.some.injEq] at he;subst he;rw [hg'] at hg;injection hg with hg;injection hg with _ h2 _;exact hte h2.symm
theorem xe {w:World}{g g':Nat}{cs cs':Array Value}{t t':TypeId}{fr fr':Nat×Nat}(h:w.heap[g]? = some (.cells cs t fr))(h':w.heap[g']? = some (.cells cs' t' fr'))(hne:t ≠ t'):g ≠ g':=by
 rintro rfl;rw [h] at h';injection h' with h';injection h' with _ h2 _;exact hne h2
theorem Qj (w:World)(g:Nat)(cs:Array Value):Only g w (w.setRow g cs):=⟨by simp,fun k hk=>setRow_other w g k cs hk,fun B hB=>aG (Below.refl B w) hB cs⟩
end
section
open Go.RowKit
theorem xM {g:Nat}:∀ (vs:List Value) (o:Nat) (a w:World),Only g a w→Only g a (w.setCells g o vs)
 | [],_,_,_,h=>h
 | v::vs,o,a,_,h=>xM vs (o+1) a _ (h.setCell o v)
def jG (F:bY)(ws:bW):bY:=ws.foldl (fun F p=>fK F (p.1 * 512) p.2) F
theorem Qk (F:bY)(ws:bW)(i:Nat)(h:i<ws.length):jG F (ws.take (i+1))=fK (jG F (ws.take i)) ((ws[i]).1 * 512) (ws[i]).2:=by
 unfold jG;rw [List.take_add_one,List.getElem?_eq_getElem h,Option.toList_some,List.foldl_append];rfl
theorem um (p:Nat×bY)(h:p.2.length=512):(vV p).length=513:=by simp [vV,h]
theorem YU (ws:bW)(h:∀ p ∈ ws,p.2.length=512)(i:Nat)(hi:i<ws.length)(j:Nat)(hj:j<513):(vW ws)[i * 513+j]? = (vV ws[i])[j]? := by
 induction ws generalizing i with
 | nil=>simp at hi
 | cons p ws ih =>
   have h1:=um p (h p (by simp));show (vV p++vW ws)[i * 513+j]? = _;cases i with
   | zero=>rw [List.getElem?_append_left (by omega)]; simp
   | succ i =>
     rw [List.getElem?_append_right (by omega),h1,show (i+1) * 513+j - 513=i * 513+j by omega,ih (fun q hq=>h q (by simp [hq])) i (by simpa using hi)];simp
theorem JO {w:World}{g cap:Nat}{e:TypeId}{ws:bW}(h:w.ownsRow 0 e 513 (.slice (some ⟨g,0,none⟩) ws.length cap) ws.length (vW ws))(hw:∀ p ∈ ws,p.2.length=512)(i:Nat)(hi:i<ws.length):w.rangeAt g (i * 513) (vV ws[i]):=by
 intro j v hv;have hj:j<513:=by
  have:=(List.getElem?_eq_some_iff.1 hv).1;rwa [um _ (hw _ (List.getElem_mem hi))] at this
 have hlt:i * 513+j<ws.length * 513:=by
  have:(i+1) * 513≤ws.length * 513:=Nat.mul_le_mul_right _ hi;omega
 rw [h.cellAt (i * 513+j) hlt,YU ws hw i hi j hj];exact hv
end
section
open Go.RowKit
def jo (p:Nat×bY):Array Value:=(vV p).toArray
theorem acI (p:Nat×bY):(jo p).all (·.oneCell')=true:=by
 apply all_oneCell_toArray;intro v hv;simp only [vV,List.mem_cons,List.mem_map] at hv;rcases hv with rfl | ⟨b,_,rfl⟩ <;> rfl
end
section
open Go.RowKit
def Wy (keep:Nat)(lN:Int)(F:bY)(p:Nat×bY)(i:Nat):bY :=
 if (i:Int)=lN then fK F (p.1 * 512) (p.2.take 256) else if keep / 2 ^ (i % 64) % 2=1 then fK F (p.1 * 512) p.2 else F
def jX (keep:Nat)(lN:Int)(F:bY)(ws:bW):Nat→bY
 | 0=>F
 | i+1=>Wy keep lN (jX keep lN F ws i) (ws.getD i (0, [])) i
end
section
open Go.RowKit
theorem YV (n:Nat):madeCells (aF (aC 512)) (n * 512)=aF (aC (n * 512)):=by
 rw [EF,EF];unfold madeCells;apply Array.ext
 ·simp
 intro i h1 h2;simp only [Array.getElem_map,Array.getElem_replicate,Array.size_replicate];rw [getElem!_pos _ _ (by simp; omega)];simp
end
section
open Go.RowKit
def uD (F:bY)(ws:bW)(a:Nat):bY:=ws.foldl (fun o p=>if p.1=a then p.2 else o) (yK F a)
end
end Go.Proofs.YtljjcbmkbmloaaaGreatDoor
