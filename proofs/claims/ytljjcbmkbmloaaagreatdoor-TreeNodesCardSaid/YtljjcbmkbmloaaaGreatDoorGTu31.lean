import Derived.Test.YtljjcbmkbmloaaaGreatDoorGTu5
import Derived.Stop.BytesEq
import Derived.Test.YtljjcbmkbmloaaaGreatDoorGTuA
namespace Go.Proofs.YtljjcbmkbmloaaaGreatDoor
set_option maxRecDepth 4000
set_option linter.unusedVariables false
section
open Go.RowKit
theorem qG (a:bO)(n c:Nat)(h:n≤c)(hc:c≤9223372036854775807):Room (.slice a n c):=by
 intro a' n' c' e;injection e with e1 e2 e3;subst e2; subst e3;exact ⟨h,hc⟩
theorem BC (w:World)(old cs:Array Value)(T:TypeId):∀ W,W=(w.alloc (.cells old T)).setRow w.heap.size cs →
 W.heap[w.heap.size]? = some (.cells cs T (0,0))∧W.heap.size=w.heap.size+1∧Below w.heap.size w W:=by
 rintro W rfl
 exact ⟨setRow_heap _ _ _ cs _ _ (heap_alloc_new w _),by simp,((Below.refl w.heap.size w).alloc (Nat.le_refl _) _).trans ⟨rfl,rfl,rfl,by simp,fun k hk=>setRow_other _ _ k cs (by omega)⟩⟩
theorem iU.grown {w w':World}{b g t:Nat}{l:bI}(h:iU w b t l)(hg:w.grownBy w' (some g))(hne:b ≠ g):iU w' b t l :=
 (hg.block b (lt_of_block h) (fun e=>hne (Option.some.inj e))).trans h
theorem iU.lt {w:World}{b t:Nat}{l:bI}(h:iU w b t l):b<w.heap.size:=lt_of_block h
end
section
open Go.RowKit
structure One (w W:World)(h:Nat)(t:bI):Prop where
 bel:Below w.heap.size w W
 kt:KT W
 hh:Has W h t
 hl:w.heap.size≤h
theorem One.below {w W W':World}{h:Nat}{t:bI}(q:One w W h t)(hb:Below W.heap.size W W'):One w W' h t :=
 ⟨q.bel.trans (hb.mono q.bel.size),q.kt.below hb q.kt.pos,q.hh.below hb q.hh.lt,q.hl⟩
theorem One.pos {w W:World}{h:Nat}{t:bI}(q:One w W h t)(hw:2<w.heap.size):h ≠ 2:=by have:=q.hl; omega
theorem One.put {w W W':World}{h:Nat}{t t':bI}(q:One w W h t)(hw:2<w.heap.size)(hg:W.grownBy W' (some h))(hs:Has W' h t'):One w W' h t' :=
 ⟨q.bel.grown hg q.bel.size (fun k hk=>by obtain rfl:=Option.some.inj hk; exact q.hl),q.kt.grown hg (q.pos hw),hs,q.hl⟩
end
end Go.Proofs.YtljjcbmkbmloaaaGreatDoor
