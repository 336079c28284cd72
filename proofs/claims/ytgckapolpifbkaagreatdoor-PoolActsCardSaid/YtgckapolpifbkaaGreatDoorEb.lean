import Derived.Test.YtgckapolpifbkaaGreatDoorSe0
namespace Go.Proofs.YtgckapolpifbkaaGreatDoor
set_option maxRecDepth 100000
set_option linter.unusedVariables false
open Go.ChangeShapes Go.WideShapes Go.ChangeAt Go.RowKit
def keyE : List (BitVec 8) := [239,103,197,4,136,224,69,71,137,182,5,211,46,216,125,114,15,117,18,80,174,69,50,100,30,120,48,187,240,238,238,40]
def keysE : List (BitVec 8) := [239,103,197,4,136,224,69,71,137,182,5,211,46,216,125,114,15,117,18,80,174,69,50,100,30,120,48,187,240,238,238,40,198,79,241,136,78,175,180,207,199,25,177,28,233,193,204,110,17,13,89,207,191,72,107,171,161,48,91,16,81,222,181,56,217,154,246,89,151,53,66,150,80,44,243,138,185,237,63,228,71,88,44,166,248,16,71,13,89,32,28,29,8,254,169,37,102,73,201,105,241,124,139,255,161,80,120,117,24,189,71,145,234,34,140,39,18,50,203,42,75,18,215,55,67,236,126,18,160,186,0,115,81,198,139,140,240,150,243,249,232,43,180,104,113,211,1,98,99,225,202,72,40,243,29,127,107,31,99,109,112,65,60,12,33,135,183,128,209,17,68,121,57,58,240,17,99,83,141,224,0,178,71,168,40,65,90,215,67,94,57,186,8,83,200,22,41,212,127,150,248,197,59,239,193,255,203,254,27,69,146,91,27,247,213,243,51,182,143,36,112,232,182,158,211,29,195,71,250,201,188,209,2,12,135,62,195,243,76,192]
def nonE : List (BitVec 8) := [0,0,0,0,0,0,0,1,0,0,0,2]
def streamE : List (BitVec 8) := [147,104,67,96,151,163,121,24,3,208,8,207,15,14,32,209,79,74,177,63,204,93,31,149,234,193,6,234,36,237,74,148,128,25,38,183,79,175,133,5,229,31,9,52,125,171,237,11,163,175,39,222,243,145,77,69,42,158,138,149,80,112,139,176,215,30,65,111,77,192,116,17,211,234,235,160,224,18,186,165,106,9,217,8,28,243,156,82,38,8,4,198,61,187,10,20,30,11,88,92,26,164,222,73,142,212,203,236,19,67,190,171,253,108,145,243,3,138,8,147,245,193,14,155,189,149,192,101,216,230,168,213,138,80,216,169,133,214,200,132,63,64,48,89,104,91,213,47,56,208,73,146,16,226,164,223,149,205,8,151,39,235,80,234,136,193,201,37,243,251,163,229,173,238,206,55,194,175,94,241,4,224,239,140,100,27,199,166,226,171,243,86,98,65,97,192,253,102,61,29,5,22,146,183,99,224,7,99,110,43,15,235,160,74,113,152,162,106,76,191,111,161,154,189,218,102,8,188,131,66,254,113,42,60,34,163,68,36,86,40,149,59,110,42,146,30,137,169,202,240,114,15,6,225,247,186,62,59,235,104,114,76,200,13,151,151,123,55,111,95,138,234,166,174,74,30,33,57,8,101,67,68,122,207,105,91,38,199,64,7,90,55,249,161,69,34,49,102,153,124,96,159,48,156,203,19,178,188,41,66,159,7,60,90,75,241,106,200,218,243,212,227,129,100,248,199,31,189,98,185,54,24,247,207,147,250,48,26,233,148,208,195,186,233,200,173,33,224,81,178,148,0,163,36,186,65,15,207,168,152,15,225,247,146,51,54,8,210,128,199,128,121,69,1,40,230,102,28,33,130,97,228,222,247,127,73,87,46,183,214,176,174,134,142,229,8,167,34,165,123,189,168,34,50,153,196,173,160,159,244,182,232,213,237,79,65,96,79,112,200,198,154,58,53,81,76,27,22,67,136,22,100,92,30,238,14,106,187,112,132,15,239,62,13,38,122,236,111,216,198,236,158,111,152,56,221,137,98,219,178,109,117,26,69,92,181,112,123,18,156,248,211,59,28,13,143,78,37,67,45,55,72,160,204,152,181,224,155,208,172,181,48,167,97,31,70,157,139,193,142,254,186,36,71,161,185,40,166,47,247,239,227]
theorem keyE_eq : toY (macS [109,97,115,116,101,114] [101,110,99]) = keyE := by decide +kernel
theorem keysE_eq : keysL keyE = keysE := by decide +kernel
theorem nonE_eq : beY 8 1 ++ beY 4 2 = nonE := by decide +kernel
theorem blkE0 : sealB keysE (nonE ++ beY 4 0) = [147,104,67,96,151,163,121,24,3,208,8,207,15,14,32,209] := by decide +kernel
theorem blkE1 : sealB keysE (nonE ++ beY 4 1) = [79,74,177,63,204,93,31,149,234,193,6,234,36,237,74,148] := by decide +kernel
theorem blkE2 : sealB keysE (nonE ++ beY 4 2) = [128,25,38,183,79,175,133,5,229,31,9,52,125,171,237,11] := by decide +kernel
theorem blkE3 : sealB keysE (nonE ++ beY 4 3) = [163,175,39,222,243,145,77,69,42,158,138,149,80,112,139,176] := by decide +kernel
theorem blkE4 : sealB keysE (nonE ++ beY 4 4) = [215,30,65,111,77,192,116,17,211,234,235,160,224,18,186,165] := by decide +kernel
theorem blkE5 : sealB keysE (nonE ++ beY 4 5) = [106,9,217,8,28,243,156,82,38,8,4,198,61,187,10,20] := by decide +kernel
theorem blkE6 : sealB keysE (nonE ++ beY 4 6) = [30,11,88,92,26,164,222,73,142,212,203,236,19,67,190,171] := by decide +kernel
theorem blkE7 : sealB keysE (nonE ++ beY 4 7) = [253,108,145,243,3,138,8,147,245,193,14,155,189,149,192,101] := by decide +kernel
theorem blkE8 : sealB keysE (nonE ++ beY 4 8) = [216,230,168,213,138,80,216,169,133,214,200,132,63,64,48,89] := by decide +kernel
theorem blkE9 : sealB keysE (nonE ++ beY 4 9) = [104,91,213,47,56,208,73,146,16,226,164,223,149,205,8,151] := by decide +kernel
theorem blkE10 : sealB keysE (nonE ++ beY 4 10) = [39,235,80,234,136,193,201,37,243,251,163,229,173,238,206,55] := by decide +kernel
theorem blkE11 : sealB keysE (nonE ++ beY 4 11) = [194,175,94,241,4,224,239,140,100,27,199,166,226,171,243,86] := by decide +kernel
theorem blkE12 : sealB keysE (nonE ++ beY 4 12) = [98,65,97,192,253,102,61,29,5,22,146,183,99,224,7,99] := by decide +kernel
theorem blkE13 : sealB keysE (nonE ++ beY 4 13) = [110,43,15,235,160,74,113,152,162,106,76,191,111,161,154,189] := by decide +kernel
theorem blkE14 : sealB keysE (nonE ++ beY 4 14) = [218,102,8,188,131,66,254,113,42,60,34,163,68,36,86,40] := by decide +kernel
theorem blkE15 : sealB keysE (nonE ++ beY 4 15) = [149,59,110,42,146,30,137,169,202,240,114,15,6,225,247,186] := by decide +kernel
theorem blkE16 : sealB keysE (nonE ++ beY 4 16) = [62,59,235,104,114,76,200,13,151,151,123,55,111,95,138,234] := by decide +kernel
theorem blkE17 : sealB keysE (nonE ++ beY 4 17) = [166,174,74,30,33,57,8,101,67,68,122,207,105,91,38,199] := by decide +kernel
theorem blkE18 : sealB keysE (nonE ++ beY 4 18) = [64,7,90,55,249,161,69,34,49,102,153,124,96,159,48,156] := by decide +kernel
theorem blkE19 : sealB keysE (nonE ++ beY 4 19) = [203,19,178,188,41,66,159,7,60,90,75,241,106,200,218,243] := by decide +kernel
theorem blkE20 : sealB keysE (nonE ++ beY 4 20) = [212,227,129,100,248,199,31,189,98,185,54,24,247,207,147,250] := by decide +kernel
theorem blkE21 : sealB keysE (nonE ++ beY 4 21) = [48,26,233,148,208,195,186,233,200,173,33,224,81,178,148,0] := by decide +kernel
theorem blkE22 : sealB keysE (nonE ++ beY 4 22) = [163,36,186,65,15,207,168,152,15,225,247,146,51,54,8,210] := by decide +kernel
theorem blkE23 : sealB keysE (nonE ++ beY 4 23) = [128,199,128,121,69,1,40,230,102,28,33,130,97,228,222,247] := by decide +kernel
theorem blkE24 : sealB keysE (nonE ++ beY 4 24) = [127,73,87,46,183,214,176,174,134,142,229,8,167,34,165,123] := by decide +kernel
theorem blkE25 : sealB keysE (nonE ++ beY 4 25) = [189,168,34,50,153,196,173,160,159,244,182,232,213,237,79,65] := by decide +kernel
theorem blkE26 : sealB keysE (nonE ++ beY 4 26) = [96,79,112,200,198,154,58,53,81,76,27,22,67,136,22,100] := by decide +kernel
theorem blkE27 : sealB keysE (nonE ++ beY 4 27) = [92,30,238,14,106,187,112,132,15,239,62,13,38,122,236,111] := by decide +kernel
theorem blkE28 : sealB keysE (nonE ++ beY 4 28) = [216,198,236,158,111,152,56,221,137,98,219,178,109,117,26,69] := by decide +kernel
theorem blkE29 : sealB keysE (nonE ++ beY 4 29) = [92,181,112,123,18,156,248,211,59,28,13,143,78,37,67,45] := by decide +kernel
theorem blkE30 : sealB keysE (nonE ++ beY 4 30) = [55,72,160,204,152,181,224,155,208,172,181,48,167,97,31,70] := by decide +kernel
theorem blkE31 : sealB keysE (nonE ++ beY 4 31) = [157,139,193,142,254,186,36,71,161,185,40,166,47,247,239,227] := by decide +kernel
theorem strL_blocks (T n : List (BitVec 8)) (hT : T.length = 240) (o m : Nat) : strL T n (16 * o) (16 * m) = ((List.range m).map fun i => sealB T (n ++ beY 4 (o + i))).flatten := by
 induction m with
 | zero => rfl
 | succ m ih =>
   rw [List.range_succ,List.map_append,List.flatten_append,← ih]
   have h1 := List.take_append_drop (16 * m) (strL T n (16 * o) (16 * (m + 1)))
   rw [strL_take T n (16 * o) (16 * (m + 1)) (16 * m) (by omega),show 16 * (m + 1) = 16 * m + 16 by omega,strL_drop,show 16 * o + 16 * m = 16 * (o + m) by omega,strL_block T n hT] at h1
   rw [show 16 * (m + 1) = 16 * m + 16 by omega,← h1]
   simp
theorem streamE_eq : strL (keysL keyE) (beY 8 1 ++ beY 4 2) 0 512 = streamE := by
 rw [nonE_eq,keysE_eq,strL_blocks keysE nonE (by decide +kernel) 0 32]
 rw [show (List.range 32).map (fun i => sealB keysE (nonE ++ beY 4 (0 + i))) = [sealB keysE (nonE ++ beY 4 0),sealB keysE (nonE ++ beY 4 1),sealB keysE (nonE ++ beY 4 2),sealB keysE (nonE ++ beY 4 3),sealB keysE (nonE ++ beY 4 4),sealB keysE (nonE ++ beY 4 5),sealB keysE (nonE ++ beY 4 6),sealB keysE (nonE ++ beY 4 7),sealB keysE (nonE ++ beY 4 8),sealB keysE (nonE ++ beY 4 9),sealB keysE (nonE ++ beY 4 10),sealB keysE (nonE ++ beY 4 11),sealB keysE (nonE ++ beY 4 12),sealB keysE (nonE ++ beY 4 13),sealB keysE (nonE ++ beY 4 14),sealB keysE (nonE ++ beY 4 15),sealB keysE (nonE ++ beY 4 16),sealB keysE (nonE ++ beY 4 17),sealB keysE (nonE ++ beY 4 18),sealB keysE (nonE ++ beY 4 19),sealB keysE (nonE ++ beY 4 20),sealB keysE (nonE ++ beY 4 21),sealB keysE (nonE ++ beY 4 22),sealB keysE (nonE ++ beY 4 23),sealB keysE (nonE ++ beY 4 24),sealB keysE (nonE ++ beY 4 25),sealB keysE (nonE ++ beY 4 26),sealB keysE (nonE ++ beY 4 27),sealB keysE (nonE ++ beY 4 28),sealB keysE (nonE ++ beY 4 29),sealB keysE (nonE ++ beY 4 30),sealB keysE (nonE ++ beY 4 31)] from rfl]
 rw [blkE0,blkE1,blkE2,blkE3,blkE4,blkE5,blkE6,blkE7,blkE8,blkE9,blkE10,blkE11,blkE12,blkE13,blkE14,blkE15,blkE16,blkE17,blkE18,blkE19,blkE20,blkE21,blkE22,blkE23,blkE24,blkE25,blkE26,blkE27,blkE28,blkE29,blkE30,blkE31]
 decide +kernel
end Go.Proofs.YtgckapolpifbkaaGreatDoor
