import Derived.Test.YtljjcbmkbmloaaaGreatDoorGTu1
import Derived.Lib.Bytes
import Derived.Test.YtljjcbmkbmloaaaGreatDoorGTuA
namespace Go.Proofs.YtljjcbmkbmloaaaGreatDoor
set_option maxHeartbeats 1600000
set_option maxRecDepth 100000
set_option linter.unusedVariables false
open Lib (hid)
open Go.RowKit
theorem Ce:∀ (l m:bI),gm l→gm m→Lib.bytesOf l=Lib.bytesOf m→l=m
 | [], [],_,_,_=>rfl
 | [],_::_,_,_,h=>by simp [Lib.bytesOf] at h
 | _::_, [],_,_,h=>by simp [Lib.bytesOf] at h
 | a::l,b::m,hl,hm,h=>by
   have ha:=hl a (by simp);have hb:=hm b (by simp);have h1:a.toNat.toUInt8::Lib.bytesOf l=b.toNat.toUInt8::Lib.bytesOf m:=h;injection h1 with h1 h2;have h3:=congrArg UInt8.toNat h1;have e:∀ z:Int,0≤z∧z≤255→z.toNat.toUInt8.toNat=z.toNat:=fun z hz=>by simp; omega
   rw [e a ha,e b hb] at h3;rw [Ce l m (fun z hz=>hl z (by simp [hz])) (fun z hz=>hm z (by simp [hz])) h2];congr 1;omega
theorem LP (l m:bI)(hl:gm l)(hm:gm m):((strOfNums l).toList == (strOfNums m).toList)=decide (l=m):=by
 rw [Lib.strOfNums_toList,Lib.strOfNums_toList];by_cases e:l=m
 ·rw [e,decide_eq_true rfl]; simp
 rw [decide_eq_false e,beq_eq_false_iff_ne];exact fun h=>e (Ce l m hl hm h)
theorem TG (u v:Value)(l m:bI)(w:World)(hu:BS w u l)(hv:BS w v m) :
 Calls Tryz.prog 88 #[u,v] w fun e w'=>e = .returned (.bool (decide (l=m)))∧w'=w:=by
 have h1:=Kq hu
 have h2:=Kq hv
 have HE:=hid (LP l m hu.DK hv.DK)
 obtain ⟨_,_,rfl,_⟩:=hu
 obtain ⟨_,_,rfl,_⟩:=hv
 go_in
 go_wp2_with fail
 go_ret
 rw [← HE.out]
 exact ⟨by simp,rfl⟩
end Go.Proofs.YtljjcbmkbmloaaaGreatDoor
