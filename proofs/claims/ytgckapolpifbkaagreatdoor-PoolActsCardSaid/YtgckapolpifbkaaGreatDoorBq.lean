import Derived.Test.YtgckapolpifbkaaGreatDoorLow
import Derived.Lib.Bytes
namespace Go.Proofs.YtgckapolpifbkaaGreatDoor
open Lib (hid)
set_option maxRecDepth 4000
set_option linter.unusedVariables false
open Go.RowKit
theorem bytesOf_inj : ∀ (l m : List Int),Byt l → Byt m → Lib.bytesOf l = Lib.bytesOf m → l = m
 | [], [],_,_,_ => rfl
 | [],_ :: _,_,_,h => by simp [Lib.bytesOf] at h
 | _ :: _, [],_,_,h => by simp [Lib.bytesOf] at h
 | a :: l,b :: m,hl,hm,h => by
   have ha := hl a (by simp)
   have hb := hm b (by simp)
   have h1 : a.toNat.toUInt8 :: Lib.bytesOf l = b.toNat.toUInt8 :: Lib.bytesOf m := h
   injection h1 with h1 h2
   have h3 := congrArg UInt8.toNat h1
   have e : ∀ z : Int,0 ≤ z ∧ z ≤ 255 → z.toNat.toUInt8.toNat = z.toNat := fun z hz => by simp; omega
   rw [e a ha,e b hb] at h3
   rw [bytesOf_inj l m (fun z hz => hl z (by simp [hz])) (fun z hz => hm z (by simp [hz])) h2]
   congr 1
   omega
theorem str_nums_beq (l m : List Int) (hl : Byt l) (hm : Byt m) : ((strOfNums l).toList == (strOfNums m).toList) = decide (l = m) := by
 rw [Lib.strOfNums_toList,Lib.strOfNums_toList]
 by_cases e : l = m
 ·rw [e,decide_eq_true rfl]; simp
 ·rw [decide_eq_false e,beq_eq_false_iff_ne]
  exact fun h => e (bytesOf_inj l m hl hm h)
set_option maxRecDepth 100000 in
set_option maxHeartbeats 1600000 in
theorem bequal_any (u v : Value) (l m : List Int) (w : World) (hu : BS w u l) (hv : BS w v m) :
 Calls Tryz.prog 93 #[u,v] w fun e w' => e = .returned (.bool (decide (l = m))) ∧ w' = w := by
 have h1 := conv_BS hu
 have h2 := conv_BS hv
 have HE := hid (str_nums_beq l m hu.byt hv.byt)
 obtain ⟨_,_,rfl,_⟩ := hu
 obtain ⟨_,_,rfl,_⟩ := hv
 go_enter Tryz.func93,Tryz.ntmps93
 go_wp2_with fail
 go_ret
 rw [← HE.out]
 exact ⟨by simp,rfl⟩
end Go.Proofs.YtgckapolpifbkaaGreatDoor
