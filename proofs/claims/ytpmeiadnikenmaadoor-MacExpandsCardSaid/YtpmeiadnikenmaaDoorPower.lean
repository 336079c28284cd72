/-
  The power of a number of 64 bits, as the Go text makes it of four words, is that power modulo 2^128.
-/
import Derived.Test.YtpmeiadnikenmaaDoorTimes
namespace Go.Proofs.YtpmeiadnikenmaaDoor
open Go.RowKit

def wd (x : Nat) : List Nat := [x % 4294967296, x / 4294967296 % 4294967296, 0, 0]
theorem wd_length (x : Nat) : (wd x).length = 4 := rfl
theorem wd_small (x : Nat) : Small (wd x) := by
  intro d hd
  simp only [wd, List.mem_cons, List.not_mem_nil, or_false] at hd
  omega
theorem wd_val (x : Nat) (h : x < 18446744073709551616) : val (wd x) = x := by simp only [wd, val]; omega

end Go.Proofs.YtpmeiadnikenmaaDoor
