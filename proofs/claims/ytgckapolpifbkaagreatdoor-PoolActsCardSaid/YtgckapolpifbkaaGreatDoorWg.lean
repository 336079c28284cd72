import Derived.Test.YtgckapolpifbkaaGreatDoorWf
import Derived.Test.YtgckapolpifbkaaGreatDoorEb
namespace Go.Proofs.YtgckapolpifbkaaGreatDoor
open Lib (hid)
set_option maxRecDepth 100000
set_option linter.unusedVariables false
open Go.ChangeShapes Go.WideShapes Go.ChangeAt Go.RowKit
def leafN : NodeV := ⟨true, [], [], []⟩
def leafE : List (BitVec 8) := [1,0,0,0,0,0,0,0,0,0,0,0,0,0,0,0,0,0,0,0,0,0,0,0,0,0,0,0,0,0,0,0,0,0,0,0,0,0,0,0,0,0,0,0,0,0,0,0,0,0,0,0,0,0,0,0,0,0,0,0,0,0,0,0,0,0,0,0,0,0,0,0,0,0,0,0,0,0,0,0,0,0,0,0,0,0,0,0,0,0,0,0,0,0,0,0,0,0,0,0,0,0,0,0,0,0,0,0,0,0,0,0,0,0,0,0,0,0,0,0,0,0,0,0,0,0,0,0,0,0,0,0,0,0,0,0,0,0,0,0,0,0,0,0,0,0,0,0,0,0,0,0,0,0,0,0,0,0,0,0,0,0,0,0,0,0,0,0,0,0,0,0,0,0,0,0,0,0,0,0,0,0,0,0,0,0,0,0,0,0,0,0,0,0,0,0,0,0,0,0,0,0,0,0,0,0,0,0,0,0,0,0,0,0,0,0,0,0,0,0,0,0,0,0,0,0,0,0,0,0,0,0,0,0,0,0,0,0,0,0,0,0,0,0,0,0,0,0,0,0,0,0,0,0,0,0,0,0,0,0,0,0,0,0,0,0,0,0,0,0,0,0,0,0,0,0,0,0,0,0,0,0,0,0,0,0,0,0,0,0,0,0,0,0,0,0,0,0,0,0,0,0,0,0,0,0,0,0,0,0,0,0,0,0,0,0,0,0,0,0,0,0,0,0,0,0,0,0,0,0,0,0,0,0,0,0,0,0,0,0,0,0,0,0,0,0,0,0,0,0,0,0,0,0,0,0,0,0,0,0,0,0,0,0,0,0,0,0,0,0,0,0,0,0,0,0,0,0,0,0,0,0,0,0,0,0,0,0,0,0,0,0,0,0,0,0,0,0,0,0,0,0,0,0,0,0,0,0,0,0,0,0,0,0,0,0,0,0,0,0,0,0,0,0,0,0,0,0,0,0,0,0,0,0,0,0,0,0,0,0,0,0,0,0,0,0,0,0,0,0,0,0,0,0,0,0,0,0,0,0,0,0,0,0,0,0,0,0,0,0,0,0,0,0,0,0,0,0,0,0,0,0,0,0,0,0,0,0,0,0,0,0,0,0,0,0,0,0,0,0,0,0,0,0,0,0,0,0,0,0,0,0]
def lsealE : List (BitVec 8) := [146,104,67,96,151,163,121,24,3,208,8,207,15,14,32,209,79,74,177,63,204,93,31,149,234,193,6,234,36,237,74,148,128,25,38,183,79,175,133,5,229,31,9,52,125,171,237,11,163,175,39,222,243,145,77,69,42,158,138,149,80,112,139,176,215,30,65,111,77,192,116,17,211,234,235,160,224,18,186,165,106,9,217,8,28,243,156,82,38,8,4,198,61,187,10,20,30,11,88,92,26,164,222,73,142,212,203,236,19,67,190,171,253,108,145,243,3,138,8,147,245,193,14,155,189,149,192,101,216,230,168,213,138,80,216,169,133,214,200,132,63,64,48,89,104,91,213,47,56,208,73,146,16,226,164,223,149,205,8,151,39,235,80,234,136,193,201,37,243,251,163,229,173,238,206,55,194,175,94,241,4,224,239,140,100,27,199,166,226,171,243,86,98,65,97,192,253,102,61,29,5,22,146,183,99,224,7,99,110,43,15,235,160,74,113,152,162,106,76,191,111,161,154,189,218,102,8,188,131,66,254,113,42,60,34,163,68,36,86,40,149,59,110,42,146,30,137,169,202,240,114,15,6,225,247,186,62,59,235,104,114,76,200,13,151,151,123,55,111,95,138,234,166,174,74,30,33,57,8,101,67,68,122,207,105,91,38,199,64,7,90,55,249,161,69,34,49,102,153,124,96,159,48,156,203,19,178,188,41,66,159,7,60,90,75,241,106,200,218,243,212,227,129,100,248,199,31,189,98,185,54,24,247,207,147,250,48,26,233,148,208,195,186,233,200,173,33,224,81,178,148,0,163,36,186,65,15,207,168,152,15,225,247,146,51,54,8,210,128,199,128,121,69,1,40,230,102,28,33,130,97,228,222,247,127,73,87,46,183,214,176,174,134,142,229,8,167,34,165,123,189,168,34,50,153,196,173,160,159,244,182,232,213,237,79,65,96,79,112,200,198,154,58,53,81,76,27,22,67,136,22,100,92,30,238,14,106,187,112,132,15,239,62,13,38,122,236,111,216,198,236,158,111,152,56,221,137,98,219,178,109,117,26,69,92,181,112,123,18,156,248,211,59,28,13,143,78,37,67,45,55,72,160,204,152,181,224,155,208,172,181,48,167,97,31,70,157,139,193,142,254,186,36,71,161,185,40,166,47,247,239,227]
def lturnE : List (BitVec 8) := [146,104,67,96,151,163,121,24,3,209,8,207,15,14,32,209,79,74,177,63,204,93,31,149,234,193,6,234,36,237,74,148,128,25,38,183,79,175,133,5,229,31,9,52,125,171,237,11,163,175,39,222,243,145,77,69,42,158,138,149,80,112,139,176,215,30,65,111,77,192,116,17,211,234,235,160,224,18,186,165,106,9,217,8,28,243,156,82,38,8,4,198,61,187,10,20,30,11,88,92,26,164,222,73,142,212,203,236,19,67,190,171,253,108,145,243,3,138,8,147,245,193,14,155,189,149,192,101,216,230,168,213,138,80,216,169,133,214,200,132,63,64,48,89,104,91,213,47,56,208,73,146,16,226,164,223,149,205,8,151,39,235,80,234,136,193,201,37,243,251,163,229,173,238,206,55,194,175,94,241,4,224,239,140,100,27,199,166,226,171,243,86,98,65,97,192,253,102,61,29,5,22,146,183,99,224,7,99,110,43,15,235,160,74,113,152,162,106,76,191,111,161,154,189,218,102,8,188,131,66,254,113,42,60,34,163,68,36,86,40,149,59,110,42,146,30,137,169,202,240,114,15,6,225,247,186,62,59,235,104,114,76,200,13,151,151,123,55,111,95,138,234,166,174,74,30,33,57,8,101,67,68,122,207,105,91,38,199,64,7,90,55,249,161,69,34,49,102,153,124,96,159,48,156,203,19,178,188,41,66,159,7,60,90,75,241,106,200,218,243,212,227,129,100,248,199,31,189,98,185,54,24,247,207,147,250,48,26,233,148,208,195,186,233,200,173,33,224,81,178,148,0,163,36,186,65,15,207,168,152,15,225,247,146,51,54,8,210,128,199,128,121,69,1,40,230,102,28,33,130,97,228,222,247,127,73,87,46,183,214,176,174,134,142,229,8,167,34,165,123,189,168,34,50,153,196,173,160,159,244,182,232,213,237,79,65,96,79,112,200,198,154,58,53,81,76,27,22,67,136,22,100,92,30,238,14,106,187,112,132,15,239,62,13,38,122,236,111,216,198,236,158,111,152,56,221,137,98,219,178,109,117,26,69,92,181,112,123,18,156,248,211,59,28,13,143,78,37,67,45,55,72,160,204,152,181,224,155,208,172,181,48,167,97,31,70,157,139,193,142,254,186,36,71,161,185,40,166,47,247,239,227]
def lsealZ : List Int := [146,104,67,96,151,163,121,24,3,208,8,207,15,14,32,209,79,74,177,63,204,93,31,149,234,193,6,234,36,237,74,148,128,25,38,183,79,175,133,5,229,31,9,52,125,171,237,11,163,175,39,222,243,145,77,69,42,158,138,149,80,112,139,176,215,30,65,111,77,192,116,17,211,234,235,160,224,18,186,165,106,9,217,8,28,243,156,82,38,8,4,198,61,187,10,20,30,11,88,92,26,164,222,73,142,212,203,236,19,67,190,171,253,108,145,243,3,138,8,147,245,193,14,155,189,149,192,101,216,230,168,213,138,80,216,169,133,214,200,132,63,64,48,89,104,91,213,47,56,208,73,146,16,226,164,223,149,205,8,151,39,235,80,234,136,193,201,37,243,251,163,229,173,238,206,55,194,175,94,241,4,224,239,140,100,27,199,166,226,171,243,86,98,65,97,192,253,102,61,29,5,22,146,183,99,224,7,99,110,43,15,235,160,74,113,152,162,106,76,191,111,161,154,189,218,102,8,188,131,66,254,113,42,60,34,163,68,36,86,40,149,59,110,42,146,30,137,169,202,240,114,15,6,225,247,186,62,59,235,104,114,76,200,13,151,151,123,55,111,95,138,234,166,174,74,30,33,57,8,101,67,68,122,207,105,91,38,199,64,7,90,55,249,161,69,34,49,102,153,124,96,159,48,156,203,19,178,188,41,66,159,7,60,90,75,241,106,200,218,243,212,227,129,100,248,199,31,189,98,185,54,24,247,207,147,250,48,26,233,148,208,195,186,233,200,173,33,224,81,178,148,0,163,36,186,65,15,207,168,152,15,225,247,146,51,54,8,210,128,199,128,121,69,1,40,230,102,28,33,130,97,228,222,247,127,73,87,46,183,214,176,174,134,142,229,8,167,34,165,123,189,168,34,50,153,196,173,160,159,244,182,232,213,237,79,65,96,79,112,200,198,154,58,53,81,76,27,22,67,136,22,100,92,30,238,14,106,187,112,132,15,239,62,13,38,122,236,111,216,198,236,158,111,152,56,221,137,98,219,178,109,117,26,69,92,181,112,123,18,156,248,211,59,28,13,143,78,37,67,45,55,72,160,204,152,181,224,155,208,172,181,48,167,97,31,70,157,139,193,142,254,186,36,71,161,185,40,166,47,247,239,227,128,0,0,0,0,0,0,0,0,0,0,0,0,0,0,0,0,0,0,0,0,0,0,0,0,0,0,0,0,0,0,0,0,0,0,0,0,0,0,0,0,0,0,0,0,0,0,0,0,0,0,0,0,0,0,0,0,0,0,0,0,0,16,0]
def lturnZ : List Int := [146,104,67,96,151,163,121,24,3,209,8,207,15,14,32,209,79,74,177,63,204,93,31,149,234,193,6,234,36,237,74,148,128,25,38,183,79,175,133,5,229,31,9,52,125,171,237,11,163,175,39,222,243,145,77,69,42,158,138,149,80,112,139,176,215,30,65,111,77,192,116,17,211,234,235,160,224,18,186,165,106,9,217,8,28,243,156,82,38,8,4,198,61,187,10,20,30,11,88,92,26,164,222,73,142,212,203,236,19,67,190,171,253,108,145,243,3,138,8,147,245,193,14,155,189,149,192,101,216,230,168,213,138,80,216,169,133,214,200,132,63,64,48,89,104,91,213,47,56,208,73,146,16,226,164,223,149,205,8,151,39,235,80,234,136,193,201,37,243,251,163,229,173,238,206,55,194,175,94,241,4,224,239,140,100,27,199,166,226,171,243,86,98,65,97,192,253,102,61,29,5,22,146,183,99,224,7,99,110,43,15,235,160,74,113,152,162,106,76,191,111,161,154,189,218,102,8,188,131,66,254,113,42,60,34,163,68,36,86,40,149,59,110,42,146,30,137,169,202,240,114,15,6,225,247,186,62,59,235,104,114,76,200,13,151,151,123,55,111,95,138,234,166,174,74,30,33,57,8,101,67,68,122,207,105,91,38,199,64,7,90,55,249,161,69,34,49,102,153,124,96,159,48,156,203,19,178,188,41,66,159,7,60,90,75,241,106,200,218,243,212,227,129,100,248,199,31,189,98,185,54,24,247,207,147,250,48,26,233,148,208,195,186,233,200,173,33,224,81,178,148,0,163,36,186,65,15,207,168,152,15,225,247,146,51,54,8,210,128,199,128,121,69,1,40,230,102,28,33,130,97,228,222,247,127,73,87,46,183,214,176,174,134,142,229,8,167,34,165,123,189,168,34,50,153,196,173,160,159,244,182,232,213,237,79,65,96,79,112,200,198,154,58,53,81,76,27,22,67,136,22,100,92,30,238,14,106,187,112,132,15,239,62,13,38,122,236,111,216,198,236,158,111,152,56,221,137,98,219,178,109,117,26,69,92,181,112,123,18,156,248,211,59,28,13,143,78,37,67,45,55,72,160,204,152,181,224,155,208,172,181,48,167,97,31,70,157,139,193,142,254,186,36,71,161,185,40,166,47,247,239,227,128,0,0,0,0,0,0,0,0,0,0,0,0,0,0,0,0,0,0,0,0,0,0,0,0,0,0,0,0,0,0,0,0,0,0,0,0,0,0,0,0,0,0,0,0,0,0,0,0,0,0,0,0,0,0,0,0,0,0,0,0,0,16,0]
theorem leaf_check : checkN leafN = 0 := by decide +kernel
theorem leafE_eq : secY9 leafN = leafE := by decide +kernel
theorem lsealZ_eq : lsealE.map yv ++ pad 512 = lsealZ := by decide +kernel
theorem lturnZ_eq : lturnE.map yv ++ pad 512 = lturnZ := by decide +kernel
theorem lsealE_eq : sealQ keyE 1 2 leafN = lsealE := by
 unfold sealQ sealS
 rw [leafE_eq,streamE_eq]
 decide +kernel
theorem stlc1 : blockS KS ([1779033703,3144134277,1013904242,2773480762,1359893119,2600822924,528734635,1541459225] : List (BitVec 32)) ((lsealZ.drop 0).take 64) = [1408781867,4262062937,423658366,3547818662,1099901121,2832175876,1353189915,55278308] := by decide +kernel
theorem stlc2 : blockS KS ([1408781867,4262062937,423658366,3547818662,1099901121,2832175876,1353189915,55278308] : List (BitVec 32)) ((lsealZ.drop 64).take 64) = [3571279725,3332174977,395229333,1352008855,2603963859,3762582259,3576172397,815820807] := by decide +kernel
theorem stlc3 : blockS KS ([3571279725,3332174977,395229333,1352008855,2603963859,3762582259,3576172397,815820807] : List (BitVec 32)) ((lsealZ.drop 128).take 64) = [1772586708,871684544,4192371731,4259448421,2018575026,2956757079,3620815314,1847350175] := by decide +kernel
theorem stlc4 : blockS KS ([1772586708,871684544,4192371731,4259448421,2018575026,2956757079,3620815314,1847350175] : List (BitVec 32)) ((lsealZ.drop 192).take 64) = [2213007062,4055384388,695881455,3289622102,986393349,844782805,3340287474,2288951300] := by decide +kernel
theorem stlc5 : blockS KS ([2213007062,4055384388,695881455,3289622102,986393349,844782805,3340287474,2288951300] : List (BitVec 32)) ((lsealZ.drop 256).take 64) = [1079944180,811269058,2866139956,928122628,1607122286,227705606,3390969137,948438160] := by decide +kernel
theorem stlc6 : blockS KS ([1079944180,811269058,2866139956,928122628,1607122286,227705606,3390969137,948438160] : List (BitVec 32)) ((lsealZ.drop 320).take 64) = [2274418930,1300229146,2725872140,3315706042,2823249308,3679586336,470065383,1559073483] := by decide +kernel
theorem stlc7 : blockS KS ([2274418930,1300229146,2725872140,3315706042,2823249308,3679586336,470065383,1559073483] : List (BitVec 32)) ((lsealZ.drop 384).take 64) = [81478206,3524648244,899850462,2311694644,3546583810,2129474164,3156699133,899184466] := by decide +kernel
theorem stlc8 : blockS KS ([81478206,3524648244,899850462,2311694644,3546583810,2129474164,3156699133,899184466] : List (BitVec 32)) ((lsealZ.drop 448).take 64) = [2055387393,2612685593,3047281515,3220292684,4223757718,4257967413,408394937,3494928634] := by decide +kernel
theorem stlc9 : blockS KS ([2055387393,2612685593,3047281515,3220292684,4223757718,4257967413,408394937,3494928634] : List (BitVec 32)) ((lsealZ.drop 512).take 64) = [3777082303,2081147164,3907786131,3736859738,4209143671,2462720500,3423214867,2198797774] := by decide +kernel
theorem stlc : stOf lsealZ 9 = [3777082303,2081147164,3907786131,3736859738,4209143671,2462720500,3423214867,2198797774] := by
 show blockS KS (blockS KS (blockS KS (blockS KS (blockS KS (blockS KS (blockS KS (blockS KS (blockS KS H0 ((lsealZ.drop (64 * 0)).take 64)) ((lsealZ.drop (64 * 1)).take 64)) ((lsealZ.drop (64 * 2)).take 64)) ((lsealZ.drop (64 * 3)).take 64)) ((lsealZ.drop (64 * 4)).take 64)) ((lsealZ.drop (64 * 5)).take 64)) ((lsealZ.drop (64 * 6)).take 64)) ((lsealZ.drop (64 * 7)).take 64)) ((lsealZ.drop (64 * 8)).take 64) = _
 rw [show H0 = ([1779033703,3144134277,1013904242,2773480762,1359893119,2600822924,528734635,1541459225] : List (BitVec 32)) by decide +kernel]
 rw [show 64 * 0 = 0 from rfl,stlc1,show 64 * 1 = 64 from rfl,stlc2,show 64 * 2 = 128 from rfl,stlc3,show 64 * 3 = 192 from rfl,stlc4,show 64 * 4 = 256 from rfl,stlc5,show 64 * 5 = 320 from rfl,stlc6,show 64 * 6 = 384 from rfl,stlc7,show 64 * 7 = 448 from rfl,stlc8,show 64 * 8 = 512 from rfl,stlc9]
theorem stld1 : blockS KS ([1779033703,3144134277,1013904242,2773480762,1359893119,2600822924,528734635,1541459225] : List (BitVec 32)) ((lturnZ.drop 0).take 64) = [235398816,431609264,3008238920,785793150,3014771888,870489133,2880587848,1016592992] := by decide +kernel
theorem stld2 : blockS KS ([235398816,431609264,3008238920,785793150,3014771888,870489133,2880587848,1016592992] : List (BitVec 32)) ((lturnZ.drop 64).take 64) = [3563112779,2106560086,1260753560,2223466485,1751919705,845726827,21168285,889668029] := by decide +kernel
theorem stld3 : blockS KS ([3563112779,2106560086,1260753560,2223466485,1751919705,845726827,21168285,889668029] : List (BitVec 32)) ((lturnZ.drop 128).take 64) = [4258911069,4079099144,2091312983,170148346,2627997337,4152388397,1814235084,1877215959] := by decide +kernel
theorem stld4 : blockS KS ([4258911069,4079099144,2091312983,170148346,2627997337,4152388397,1814235084,1877215959] : List (BitVec 32)) ((lturnZ.drop 192).take 64) = [2842070555,855996885,3159858684,1460886696,3461628333,625593019,1775410430,88445523] := by decide +kernel
theorem stld5 : blockS KS ([2842070555,855996885,3159858684,1460886696,3461628333,625593019,1775410430,88445523] : List (BitVec 32)) ((lturnZ.drop 256).take 64) = [2174543942,2056835469,783120253,3386743784,3470571042,2792609963,1580700451,4102790394] := by decide +kernel
theorem stld6 : blockS KS ([2174543942,2056835469,783120253,3386743784,3470571042,2792609963,1580700451,4102790394] : List (BitVec 32)) ((lturnZ.drop 320).take 64) = [4173331614,148580606,3424287002,3350667785,191886881,1398472135,3555162013,2163484770] := by decide +kernel
theorem stld7 : blockS KS ([4173331614,148580606,3424287002,3350667785,191886881,1398472135,3555162013,2163484770] : List (BitVec 32)) ((lturnZ.drop 384).take 64) = [2903451645,3114639250,225616763,3650353322,443357465,3211086445,3351837582,462612456] := by decide +kernel
theorem stld8 : blockS KS ([2903451645,3114639250,225616763,3650353322,443357465,3211086445,3351837582,462612456] : List (BitVec 32)) ((lturnZ.drop 448).take 64) = [4258363547,2819603208,2445208057,724607653,589268463,3612696653,3482929914,2093662657] := by decide +kernel
theorem stld9 : blockS KS ([4258363547,2819603208,2445208057,724607653,589268463,3612696653,3482929914,2093662657] : List (BitVec 32)) ((lturnZ.drop 512).take 64) = [838402062,4217204545,2459067341,251587351,384977613,623247173,729895058,3162166454] := by decide +kernel
theorem stld : stOf lturnZ 9 = [838402062,4217204545,2459067341,251587351,384977613,623247173,729895058,3162166454] := by
 show blockS KS (blockS KS (blockS KS (blockS KS (blockS KS (blockS KS (blockS KS (blockS KS (blockS KS H0 ((lturnZ.drop (64 * 0)).take 64)) ((lturnZ.drop (64 * 1)).take 64)) ((lturnZ.drop (64 * 2)).take 64)) ((lturnZ.drop (64 * 3)).take 64)) ((lturnZ.drop (64 * 4)).take 64)) ((lturnZ.drop (64 * 5)).take 64)) ((lturnZ.drop (64 * 6)).take 64)) ((lturnZ.drop (64 * 7)).take 64)) ((lturnZ.drop (64 * 8)).take 64) = _
 rw [show H0 = ([1779033703,3144134277,1013904242,2773480762,1359893119,2600822924,528734635,1541459225] : List (BitVec 32)) by decide +kernel]
 rw [show 64 * 0 = 0 from rfl,stld1,show 64 * 1 = 64 from rfl,stld2,show 64 * 2 = 128 from rfl,stld3,show 64 * 3 = 192 from rfl,stld4,show 64 * 4 = 256 from rfl,stld5,show 64 * 5 = 320 from rfl,stld6,show 64 * 6 = 384 from rfl,stld7,show 64 * 7 = 448 from rfl,stld8,show 64 * 8 = 512 from rfl,stld9]
theorem lseal_hash : hashS (lsealE.map yv) = [225,33,179,191,124,11,201,28,232,236,21,147,222,187,244,90,250,226,111,119,146,202,33,244,204,10,29,19,131,14,253,206] := by
 unfold hashS
 rw [show (lsealE.map yv).length = 512 by rw [List.length_map]; decide +kernel,lsealZ_eq,show lsealZ.length / 64 = 9 by decide +kernel,stlc]
 decide +kernel
theorem lturn_hash : hashS (lturnE.map yv) = [49,249,0,14,251,93,111,65,146,146,99,205,14,254,235,23,22,242,74,205,37,37,255,69,43,129,80,146,188,122,212,182] := by
 unfold hashS
 rw [show (lturnE.map yv).length = 512 by rw [List.length_map]; decide +kernel,lturnZ_eq,show lturnZ.length / 64 = 9 by decide +kernel,stld]
 decide +kernel
theorem lturned_other : hashS (lturnE.map yv) ≠ hashS (lsealE.map yv) := by
 rw [lseal_hash,lturn_hash]
 decide
theorem ptrQ_parts {kk : List (BitVec 8)} {b a : Nat} {nd : NodeV} (ha : a < 4294967296) (hb : b < 18446744073709551616) : (ptrQ kk b a nd).ad = (a : Int) ∧ (ptrQ kk b a nd).bi = (b : Int) ∧ (ptrQ kk b a nd).su = hashS ((sealQ kk b a nd).map yv) := ptrOf12_parts b a _ ha hb
theorem ptrQ_may {kk : List (BitVec 8)} {b a n : Nat} {nd : NodeV} (ha2 : 2 ≤ a) (han : a < n) (ha : a < 4294967296) (hb : b < 18446744073709551616) (hb0 : b ≠ 0) : (ptrQ kk b a nd).ad ≠ 0 ∧ checkE (ptrQ kk b a nd) n = 0 := by
 obtain ⟨h1,h2,_⟩ := ptrQ_parts (kk := kk) (nd := nd) ha hb
 refine ⟨by omega, ?_⟩
 have hm : mayB (ptrQ kk b a nd) n = true := by
  unfold mayB
  rw [if_neg (show ¬ (ptrQ kk b a nd).ad = 0 by omega)]
  simp only [Bool.and_eq_true,decide_eq_true_eq]
  refine ⟨⟨by omega,by omega⟩,by omega⟩
 unfold checkE
 rw [if_pos hm]
theorem sealQ_length {kk : List (BitVec 8)} {b a : Nat} {nd : NodeV} (hc : checkN nd = 0) : (sealQ kk b a nd).length = 512 := sealS_length _ _ _ _ (secY9_length hc)
theorem readQ_wrote {kk : List (BitVec 8)} {b a n : Nat} {nd : NodeV} {V : List (BitVec 8)} {ws : List (Nat × List (BitVec 8))} (hc : checkN nd = 0) (ha2 : 2 ≤ a) (han : a < n) (ha : a < 4294967296) (hb : b < 18446744073709551616) (hb0 : b ≠ 0) (hL : readM V ws a = sealQ kk b a nd) : readQ kk n (ptrQ kk b a nd) V ws false = (nd,0) := by
 obtain ⟨h1,h2,h3⟩ := ptrQ_parts (kk := kk) (nd := nd) ha hb
 obtain ⟨h4,h5⟩ := ptrQ_may (kk := kk) (nd := nd) ha2 han ha hb hb0
 unfold readQ
 rw [if_neg (by simp [h4,h5]),if_neg (by simp),h1,Int.toNat_natCast,hL]
 have ho : openA kk (ptrQ kk b a nd) (sealQ kk b a nd) = (secY9 nd,0) := openA_sealed kk b a (secY9 nd) (secY9_length hc) hb ha
 unfold upR
 rw [ho,if_neg (by simp),secY9_yv hc,get_sec hc]
theorem readQ_sum {kk : List (BitVec 8)} {n : Nat} {q : PtrV} {V : List (BitVec 8)} {ws : List (Nat × List (BitVec 8))} (h0 : q.ad ≠ 0) (hc : checkE q n = 0) (hl : (readM V ws q.ad.toNat).length = 512) (hs : hashS ((readM V ws q.ad.toNat).map yv) ≠ q.su) : readQ kk n q V ws false = (zeroNode,5) := by
 unfold readQ
 rw [if_neg (by simp [h0,hc]),if_neg (by simp)]
 have ho : openA kk q (readM V ws q.ad.toNat) = ([],5) := by
  unfold openA
  rw [if_neg (by omega),fits_len _ _ hl,if_neg (by simpa using hs)]
 unfold upR
 rw [ho,if_pos (by simp)]
theorem getN_two (l : List Int) (hl : l.length = 512) : (getN l).2 = 0 ∨ (getN l).2 = 4 ∧ (getN l).1 = zeroNode := by
 unfold getN
 rw [if_neg (by omega)]
 split
 ·exact .inl rfl
 ·exact .inr ⟨rfl,rfl⟩
theorem getN_check (l : List Int) (h : (getN l).2 = 0) : checkN (getN l).1 = 0 := by
 unfold getN at h ⊢
 split at h
 ·simp at h
 ·rename_i h1
  rw [if_neg h1]
  split at h
  ·rename_i h2; rw [if_pos h2]; exact h2.1
  ·simp at h
theorem nb_check {n : NodeV} (h : checkN n = 0) : NB n := by
 obtain ⟨h1,h2⟩ := check_few h
 obtain ⟨h3,h4⟩ := form_small (check_ok h).1
 have h5 : n.vs.length ≤ 510 := by
  have hf := form_counts (check_ok h).1
  cases hl : n.lf with
  | true => have := (counts_leaf hl hf).1; omega
  | false => have := (counts_branch hl hf).2.1; rw [this]; simp
 exact ⟨by omega,fun s hs => by have := h3 s hs; omega,by omega,fun s hs => by have := h4 s hs; omega,by omega⟩
theorem readQ_node (kk : List (BitVec 8)) (n : Nat) (q : PtrV) (V : List (BitVec 8)) (ws : List (Nat × List (BitVec 8))) (dn : Bool) : ((readQ kk n q V ws dn).2 = 0 ∧ checkN (readQ kk n q V ws dn).1 = 0) ∨ ((readQ kk n q V ws dn).2 ≠ 0 ∧ (readQ kk n q V ws dn).1 = zeroNode) := by
 unfold readQ
 split
 ·exact .inr ⟨by simp,rfl⟩
 ·split
  ·exact .inr ⟨by simp,rfl⟩
  ·unfold upR
   split
   ·rename_i h; exact .inr ⟨h,rfl⟩
   ·by_cases h : (getN ((openA kk q (readM V ws q.ad.toNat)).1.map yv)).2 = 0
    ·exact .inl ⟨h,getN_check _ h⟩
    ·refine .inr ⟨h, ?_⟩
     unfold getN at h ⊢
     split
     ·rfl
     ·rename_i h1
      rw [if_neg h1] at h
      split
      ·rename_i h2; rw [if_pos h2] at h; exact absurd rfl h
      ·rfl
theorem readQ_nb (kk : List (BitVec 8)) (n : Nat) (q : PtrV) (V : List (BitVec 8)) (ws : List (Nat × List (BitVec 8))) (dn : Bool) : NB (readQ kk n q V ws dn).1 ∧ (readQ kk n q V ws dn).1.ps.length ≤ 1000000 := by
 rcases readQ_node kk n q V ws dn with ⟨_,h⟩ | ⟨_,h⟩
 ·exact ⟨nb_check h,by have := (check_few h).2; omega⟩
 ·rw [h]; exact ⟨nb_zero,by decide⟩
section
set_option maxRecDepth 4000
set_option maxRecDepth 100000 in
set_option maxHeartbeats 3200000 in
theorem pwrite_ok13 {tb : TypeId} (htb : 112 ≠ tb) (htw : tb ≠ 120) (D gl bm n a bx cap : Nat) (vw : Value) (F l : List (BitVec 8)) (ws : List (Nat × List (BitVec 8))) (lim : Int) (w : World) (h : PD w D gl bm n vw F ws lim false) (ha : a < n) (hB : ArrY w bx tb l) (hl : l.length = 512) (hlim : lim ≠ 0) (hws : ws.length ≤ 1000000) :
 Calls Tryz.prog 39 #[.pointer (some ⟨D,0,none⟩),.int .u32 (a : Int),.slice (some ⟨bx,0,none⟩) 512 cap] w fun e w' => e = .returned (.int .i64 0) ∧
  ∃ vw',PD w' D gl bm n vw' F (ws ++ [(a,l)]) (goP lim false).1 false ∧ Touch (pfp D gl bm vw) w w' ∧ (∀ g,vw'.ownBlock = some g → vw.ownBlock = some g ∨ w.heap.size ≤ g) := by
 have hbig := h.big
 have HT := hid (show Calls Tryz.prog 64 #[.pointer (some ⟨D,0,none⟩),.int .u32 (a : Int),.slice (some ⟨bx,0,none⟩) 512 cap] w fun e w' => e = .returned (.int .i64 0) ∧ w' = w by have q := prefuses_any D gl bm n a vw F ws lim false (some ⟨bx,0,none⟩) 512 cap w h (by omega); rwa [if_pos ⟨ha,rfl⟩] at q)
 have hgo := pgoes_any D gl bm n vw F ws lim false w h
 rw [show (goP lim false).2 = false by unfold goP; simp [hlim]] at hgo
 generalize (goP lim false).1 = lim' at *
 have HG := hid hgo
 obtain ⟨left0,hd0,_⟩ := h.dev
 have hneD : D ≠ bx := type_ne hd0 hB htb
 have HB := hid hB
 have HL := hid hl
 have HA := hid ha
 have HBIG := hid hbig
 have wI : (ws.length : Int) ≤ 1000000 := by omega
 have HWS := hid hws
 have HSZ := hid (Nat.le_refl w.heap.size)
 have harr := parr_ptr ⟨bx,0,none⟩ cap
 have hkey := hid (key_u32_6 a (by omega))
 have hbuild := hid (build_pwrite a l hl)
 have hlit := hid (lit_pwrite (a,l) hl)
 have IP := hid (show (Tryz.prog.info? 117).map (·.size) = some (yvs l).toList.length by rw [Array.length_toList]; exact psize_sec _ hl)
 obtain ⟨aw,capw,rfl,_⟩ := pd_form h
 generalize hN : ws.length = N at *
 have HN := hid hN
 clear hgo hlim h hws hbig hd0 hB hl ha hN
 go_enter Tryz.func39,Tryz.ntmps39
 go_wp2_with fail
 refine HT.out.mono ?_
 rintro e w1 ⟨rfl,rfl⟩
 go_wp2_with fail
 refine HG.out.mono ?_
 rintro e w2 ⟨rfl,hP2,hO2⟩
 clear HG HT
 obtain ⟨left,hd,hle⟩ := hP2.dev
 obtain ⟨_,c1,c2,_⟩ := pd_at hd
 obtain ⟨m,hm,hown⟩ := hP2.map
 obtain ⟨w6,hrun,hown6,hg6⟩ := World.ownsMap.update (w := w2.drew) (t := 110) (e := 3) hown.drew (Maps.int_keyed Tryz.underlying41) Tryz.underlying110 (by rw [HN.out]; have := HWS.out; unfold maxLen; omega) hkey.out
  (plainElem_int (H := Unit) Tryz.underlying3 (a := (N : Int)) (by have := HWS.out; simp [Lit.wf,IntKind.min,IntKind.max,IntKind.bits,IntKind.signed]; omega))
 have hDm : D ≠ bm := hP2.map.ne hd
 have hdm : some D ≠ some bm := by simpa using hDm
 have hsz6 : w2.heap.size ≤ w6.heap.size := hg6.size
 have k6 : ∀ k,k < w2.heap.size → k ≠ bm → w6.heap[k]? = w2.heap[k]? := fun k hk hb => hg6.block k hk (by simpa using hb)
 have hd6 : w6.heap[D]? = _ := (k6 D (rd_lt hd) hDm).trans hd
 have HB2 := hid (hO2.arr HB.out (Ne.symm hneD))
 have hbm : bx ≠ bm := hP2.map.ne HB2.out
 have HB6 := hid (show ArrY w6 bx tb l from (k6 bx (zlt HB2.out) hbm).trans HB2.out)
 have hlay6 : ArrY w6 gl 117 F := (k6 gl (zlt hP2.lay) (hP2.map.ne hP2.lay)).trans hP2.lay
 have hT6 : Touch [D,bm] w1 w6 := (Touch.of_only hO2 (by simp)).trans ⟨hg6.os,hg6.tape,hg6.output,hg6.size,fun k hk hn => k6 k hk (fun e => hn (by simp [e]))⟩
 have hwai6 := own_touch hP2.wai (l := [bm]) (w' := w6) ⟨hg6.os,hg6.tape,hg6.output,hg6.size,fun k hk hn => k6 k hk (fun e => hn (by simp [e]))⟩ (fun g hg => by
  have := own_map_ne hP2.wai hP2.map
  simp only [List.mem_cons,List.not_mem_nil,or_false]
  rintro rfl
  exact this hg)
 have HRUN := hid hrun
 have HS0 := hid (show w2.drew.cell? ⟨D,2,none⟩ = some (.map (some bm)) ∧ w2.drew.cell? ⟨D,1,none⟩ = some (.slice aw N capw) from ⟨c2,c1⟩)
 have HS1 := hid (show w6.cell? ⟨D,2,none⟩ = some (.map (some bm)) ∧ w6.cell? ⟨D,1,none⟩ = some (.slice aw N capw) from ⟨(pd_at hd6).2.2.1,(pd_at hd6).2.1⟩)
 have C6 := hid (show w6.drew.cell? ⟨D,1,none⟩ = some (.slice aw N capw) from (pd_at hd6).2.1)
 have HS2 := hid (show w6.drew.rangeAt bx 0 (yvs l).toList from arr_range (show ArrY w6.drew bx _ l from HB6.out))
 -- the slice of the one write
 have hlt6 : ∀ k,k < w6.heap.size → (w6.drew.alloc (.cells (wrow (a,l)) 120)).heap[k]? = w6.heap[k]? := fun k hk => ((Below.refl w6.heap.size w6).drew.alloc (Nat.le_refl _) _).block k hk
 have hnew6 : (w6.drew.alloc (.cells (wrow (a,l)) 120)).heap[w6.heap.size]? = some (.cells (wrow (a,l)) 120 (0,0)) := heap_alloc_new w6.drew _
 have hT8 : Touch [] w6 (w6.drew.alloc (.cells (wrow (a,l)) 120)) := Touch.of_below ((Below.refl w6.heap.size w6).drew.alloc (Nat.le_refl _) _)
 have hwai8 := own_touch hwai6 hT8 (fun g _ => by simp)
 have hd8 := (hlt6 D (rd_lt hd6)).trans hd6
 have HB8 := hid (show ArrY (w6.drew.alloc (.cells (wrow (a,l)) 120)) bx tb l from (hlt6 bx (zlt HB6.out)).trans HB6.out)
 have hlay8 : ArrY (w6.drew.alloc (.cells (wrow (a,l)) 120)) gl 117 F := (hlt6 gl (zlt hlay6)).trans hlay6
 have hown8 := hown6.drew.alloc (.cells (wrow (a,l)) 120)
 have C8 := hid (show (w6.drew.alloc (.cells (wrow (a,l)) 120)).cell? ⟨D,1,none⟩ = some (.slice aw N capw) from (pd_at hd8).2.1)
 have HS3 := hid (show (w6.drew.alloc (.cells (wrow (a,l)) 120)).rangeAt bx 0 (yvs l).toList from arr_range HB8.out)
 obtain ⟨i8,hi8,hzz⟩ := Option.map_eq_some_iff.1 info_pwrite
 simp only [Prod.mk.injEq] at hzz
 obtain ⟨hz8,hs8,hby8⟩ := hzz
 have hwl : (wrow (a,l)).toList.length = 1 * 513 := by rw [Array.length_toList,wrow_size _ HL.out]
 generalize hW8 : w6.drew.alloc (.cells (wrow (a,l)) 120) = w8 at *
 obtain ⟨v9,w9,hrun9,hown9,hg9,_,hloc9⟩ := run_append_own_at (P := Tryz.prog) w8 0 109 109 120 i8 _ 513 516 Tryz.underlying109 hi8 hz8 hs8 hby8 (wrow_size _ zero_len) (by decide)
  _ N (wcells ws) (by rw [← HN.out]; exact hwai8) ⟨w6.heap.size,0,none⟩ 1 1 (wrow (a,l)).toList hwl (fun j u hu => by
    rw [Addr.add_mid,cell_of_row _ _ _ _ _ _ hnew6]; simpa using hu) (fun u hu => Array.all_eq_true_iff_forall_mem.1 (wrow_one (a,l)) u (by simpa using hu)) (by have := HWS.out; unfold maxLen; omega) (by have := HWS.out; omega) (Nat.zero_le _)
 obtain ⟨a9,cap9,rfl⟩ : ∃ x c,v9 = .slice x (N + 1) c := by
  rcases hown9.2 with ⟨hv,h0⟩ | ⟨g,c,cur,hv,_⟩
  ·omega
  ·exact ⟨_,_,hv⟩
 have hvD : Value.ownBlock (.slice aw N capw) ≠ some D := own_type6 hwai8 hd8 (by decide)
 have hvB : Value.ownBlock (.slice aw N capw) ≠ some bx := own_type6 hwai8 HB8.out htw
 have hvL : Value.ownBlock (.slice aw N capw) ≠ some gl := own_type6 hwai8 hlay8 (by decide)
 have hvM : Value.ownBlock (.slice aw N capw) ≠ some bm := own_map_ne hwai8 (ws := ws ++ [(a,l)]) ⟨_,MapOf.more ws m (a,l) hm,by rw [List.length_append,HN.out]; rw [HN.out] at hown8; exact hown8⟩
 have k9 : ∀ k,k < w8.heap.size → Value.ownBlock (.slice aw N capw) ≠ some k → w9.heap[k]? = w8.heap[k]? := fun k hk hb => hg9.block k hk (fun e => hb e.symm)
 have hd9 := (k9 D (rd_lt hd8) hvD).trans hd8
 have HRUN9 := hid hrun9
 have HS4 := hid (show w9.rangeAt bx 0 (yvs l).toList from arr_range (show ArrY w9 bx _ l from (k9 bx (zlt HB8.out) hvB).trans HB8.out))
 have C9 := hid (show w9.cell? ⟨D,1,none⟩ = some (.slice aw N capw) from (pd_at hd9).2.1)
 have F9 := hid (pd_free hd9 1)
 have hO10 : Only D w9 (w9.setCell ⟨D,1,none⟩ (.slice a9 (N + 1) cap9)) := (Only.refl _ _).setCell _ _
 have hB9 : ArrY w9 bx tb l := (k9 bx (zlt HB8.out) hvB).trans HB8.out
 have HS5 := hid (show (w9.setCell ⟨D,1,none⟩ (.slice a9 (N + 1) cap9)).rangeAt bx 0 (yvs l).toList from arr_range (hO10.arr hB9 (Ne.symm hneD)))
 have hd10 := heap_setCell_same _ D 1 _ _ (.slice a9 (N + 1) cap9) hd9
 have hlay9 : ArrY w9 gl 117 F := (k9 gl (zlt hlay8) hvL).trans hlay8
 have hmap8 : MapAt w8 bm (ws ++ [(a,l)]) := ⟨_,MapOf.more ws m (a,l) hm,by rw [List.length_append,HN.out]; rw [HN.out] at hown8; exact hown8⟩
 have hmap9 : MapAt w9 bm (ws ++ [(a,l)]) := hmap8.keep (k9 bm hmap8.lt hvM)
 have hv9D : Value.ownBlock (.slice a9 (N + 1) cap9) ≠ some D := own_type6 hown9 hd9 (by decide)
 have HPD := hid (show PD (w9.setCell ⟨D,1,none⟩ (.slice a9 (N + 1) cap9)) D gl bm n (.slice a9 (N + 1) cap9) F (ws ++ [(a,l)]) lim' false from
  ⟨⟨left,hd10,hle⟩,hO10.arr hlay9 (type_ne hlay9 hd9 (by decide)),hP2.len,by
    rw [wcells_more,List.length_append,HN.out]
    exact own_only hown9 hO10 hv9D,fun p hp => by
    rcases List.mem_append.1 hp with hp | hp
    ·exact hP2.wok p hp
    ·simp only [List.mem_cons,List.not_mem_nil,or_false] at hp
     subst hp
     exact ⟨HL.out,HA.out⟩,HBIG.out,hP2.lim1,hmap9.keep (hO10.rest bm (Ne.symm (hmap9.ne hd9)))⟩)
 have HTT := hid (show Touch (pfp D gl bm (.slice aw N capw)) w1 (w9.setCell ⟨D,1,none⟩ (.slice a9 (N + 1) cap9)) from by
  have t1 : Touch (pfp D gl bm (.slice aw N capw)) w1 w6 := hT6.more (by intro k hk; simp only [List.mem_cons,List.not_mem_nil,or_false] at hk; rcases hk with rfl | rfl <;> simp [pfp])
  have t2 : Touch (pfp D gl bm (.slice aw N capw)) w6 w8 := hT8.more (by simp)
  have t3 : Touch (pfp D gl bm (.slice aw N capw)) w8 w9 := ⟨hg9.os,hg9.tape,hg9.output,hg9.size,fun k hk hn => k9 k hk (fun e => hn (by simp [pfp,e]))⟩
  exact ((t1.trans t2).trans t3).trans (Touch.of_only hO10 (by simp [pfp])))
 have HLOC := hid (show ∀ g,Value.ownBlock (.slice a9 (N + 1) cap9) = some g → Value.ownBlock (.slice aw N capw) = some g ∨ w1.heap.size ≤ g from fun g hg => by
  rcases hloc9 with e | e
  ·exact .inl (e ▸ hg)
  ·rw [hg] at e
   injection e with e
   have h8 := hT8.size
   have h6 := hT6.size
   exact .inr (by omega))
 have HS3w := HS3
 rw [← hW8] at HS3
 clear hP2 hO2 hd hle hm hown hown6 hg6 hrun hdm hsz6 k6 hd6 hlay6 hT6 hwai6 hlt6 hnew6 hT8 hwai8 hd8 hlay8 hown8 hi8 hz8 hs8 hby8 hwl hrun9 hown9 hg9 hloc9 hvD hvB hvL hvM k9 hd9 hO10 hB9 hd10 hlay9 hmap8 hmap9 hv9D c1 c2 hneD hbm hDm
 go_upto_region 6 with fail
 try simp only [Act.put]
 refine wp_region_noPanic ?_
 refine wp_region_held_drew (S := fun W => W.cell? ⟨D,2,none⟩ = some (.map (some bm)) ∧ W.cell? ⟨D,1,none⟩ = some (.slice aw N capw)) (by kernel_rfl) (HS0.out) (fun hHeld => ?_)
 refine wpAnyH_take (i := 0) (oi := ⟨some 18,_,_,_,_,_⟩) (v := ?_) rfl (by kernel_rfl) (by decide +kernel) (by decide +kernel) (fun _ _ _ h => h) (Or.inl ⟨by rfl, ?_⟩) (by assumption) ?_
 rotate_left 1
 ·(intro w' hSw; go_simp; try with_reducible rfl)
 try simp only [Act.put,List.setIfInBounds_toArray,List.set_cons_zero,List.set_cons_succ]
 refine wpAnyH_take (i := 1) (oi := ⟨some 19,_,_,_,_,_⟩) (v := ?_) rfl (by kernel_rfl) (by decide +kernel) (by decide +kernel) (fun _ _ _ h => h) (Or.inl ⟨by rfl, ?_⟩) (by assumption) ?_
 rotate_left 1
 ·(intro w' hSw; go_simp; try with_reducible rfl)
 try simp only [Act.put,List.setIfInBounds_toArray,List.set_cons_zero,List.set_cons_succ]
 refine wpAnyH_take (i := 2) (oi := ⟨some 20,_,_,_,_,_⟩) (v := ?_) rfl (by kernel_rfl) (by decide +kernel) (by decide +kernel) (fun _ _ _ h => h) (Or.inl ⟨by rfl, ?_⟩) (by assumption) ?_
 rotate_left 1
 ·(intro w' hSw; go_simp; try with_reducible rfl)
 try simp only [Act.put,List.setIfInBounds_toArray,List.set_cons_zero,List.set_cons_succ]
 refine wpAnyH_take (i := 3) (oi := ⟨some 21,_,_,_,_,_⟩) (v := ?_) rfl (by kernel_rfl) (by decide +kernel) (by decide +kernel) (fun _ _ _ h => h) (Or.inl ⟨by rfl, ?_⟩) (by assumption) ?_
 rotate_left 1
 ·(intro w' hSw; have hcell := hSw.1; clear hSw; go_simp; try with_reducible rfl)
 try simp only [Act.put,List.setIfInBounds_toArray,List.set_cons_zero,List.set_cons_succ]
 refine wpAnyH_take (i := 4) (oi := ⟨some 22,_,_,_,_,_⟩) (v := ?_) rfl (by kernel_rfl) (by decide +kernel) (by decide +kernel) (fun _ _ _ h => h) (Or.inl ⟨by rfl, ?_⟩) (by assumption) ?_
 rotate_left 1
 ·(intro w' hSw; go_simp; try with_reducible rfl)
 try simp only [Act.put,List.setIfInBounds_toArray,List.set_cons_zero,List.set_cons_succ]
 refine wpAnyH_take (i := 5) (oi := ⟨some 23,_,_,_,_,_⟩) (v := ?_) rfl (by kernel_rfl) (by decide +kernel) (by decide +kernel) (fun _ _ _ h => h) (Or.inl ⟨by rfl, ?_⟩) (by assumption) ?_
 rotate_left 1
 ·(intro w' hSw; go_simp; try with_reducible rfl)
 try simp only [Act.put,List.setIfInBounds_toArray,List.set_cons_zero,List.set_cons_succ]
 refine wpAnyH_take (i := 6) (oi := ⟨some 24,_,_,_,_,_⟩) (v := ?_) rfl (by kernel_rfl) (by decide +kernel) (by decide +kernel) (fun _ _ _ h => h) (Or.inl ⟨by rfl, ?_⟩) (by assumption) ?_
 rotate_left 1
 ·(intro w' hSw; go_simp; try with_reducible rfl)
 try simp only [Act.put,List.setIfInBounds_toArray,List.set_cons_zero,List.set_cons_succ]
 refine wpAnyH_take (i := 7) (oi := ⟨some 25,_,_,_,_,_⟩) (v := ?_) rfl (by kernel_rfl) (by decide +kernel) (by decide +kernel) (fun _ _ _ h => h) (Or.inl ⟨by rfl, ?_⟩) (by assumption) ?_
 rotate_left 1
 ·(intro w' hSw; go_simp; try with_reducible rfl)
 try simp only [Act.put,List.setIfInBounds_toArray,List.set_cons_zero,List.set_cons_succ]
 refine wpAnyH_take (i := 8) (oi := ⟨some 26,_,_,_,_,_⟩) (v := ?_) rfl (by kernel_rfl) (by decide +kernel) (by decide +kernel) (fun _ _ _ h => h) (Or.inl ⟨by rfl, ?_⟩) (by assumption) ?_
 rotate_left 1
 ·(intro w' hSw; have hcell := hSw.2; clear hSw; go_simp; try with_reducible rfl)
 try simp only [Act.put,List.setIfInBounds_toArray,List.set_cons_zero,List.set_cons_succ]
 refine wpAnyH_take (i := 9) (oi := ⟨some 27,_,_,_,_,_⟩) (v := ?_) rfl (by kernel_rfl) (by decide +kernel) (by decide +kernel) (fun _ _ _ h => h) (Or.inl ⟨by rfl, ?_⟩) (by assumption) ?_
 rotate_left 1
 ·(intro w' hSw; go_simp; try with_reducible rfl)
 try simp only [Act.put,List.setIfInBounds_toArray,List.set_cons_zero,List.set_cons_succ]
 clear hHeld
 refine wpAnyH_ready (rs := [10]) (by decide +kernel) (by simp) ?_
 refine AllReadyH.cons rfl (fun K hK => ?_) AllReadyH.nil
 rw [if_pos (by kernel_rfl)]
 refine wp_mapUpdate_at (o := ⟨none,.mapUpdate _ (.tmp 21) (.tmp 22) (.tmp 27),_,_,_,_⟩) _ _ _ _ rfl _ _ _ rfl rfl rfl w6 HRUN.out ?_
 refine hK.out _ _ (HS1.out) (fun hHeld => ?_)
 clear hK K hHeld
 try simp only [Act.put]
 refine wpAnyH_done (by decide +kernel) ?_ _
 refine NoPanic.normal ?_
 go_upto_region 7 with fail
 try simp only [Act.put]
 refine wp_region_noPanic ?_
 refine wp_region_held_drew (S := fun W => W.rangeAt bx 0 (yvs l).toList) (by kernel_rfl) (HS2.out) (fun hHeld => ?_)
 refine wpAnyH_take (i := 0) (oi := ⟨some 28,_,_,_,_,_⟩) (v := ?_) rfl (by kernel_rfl) (by decide +kernel) (by decide +kernel) (fun _ _ _ h => h) (Or.inl ⟨by rfl, ?_⟩) (by assumption) ?_
 rotate_left 1
 ·(intro w' hSw; go_simp; try with_reducible rfl)
 try simp only [Act.put,List.setIfInBounds_toArray,List.set_cons_zero,List.set_cons_succ]
 refine wpAnyH_take (i := 1) (oi := ⟨some 29,_,_,_,_,_⟩) (v := ?_) rfl (by kernel_rfl) (by decide +kernel) (by decide +kernel) (fun _ _ _ h => h) (Or.inl ⟨by rfl, ?_⟩) (by assumption) ?_
 rotate_left 1
 ·(intro w' hSw; go_simp; try with_reducible rfl)
 try simp only [Act.put,List.setIfInBounds_toArray,List.set_cons_zero,List.set_cons_succ]
 refine wpAnyH_take (i := 2) (oi := ⟨some 30,_,_,_,_,_⟩) (v := ?_) rfl (by kernel_rfl) (by decide +kernel) (by decide +kernel) (fun _ _ _ h => h) (Or.inl ⟨by rfl, ?_⟩) (by assumption) ?_
 rotate_left 1
 ·(intro w' hSw; go_simp; try with_reducible rfl)
 try simp only [Act.put,List.setIfInBounds_toArray,List.set_cons_zero,List.set_cons_succ]
 refine wpAnyH_take (i := 3) (oi := ⟨some 31,_,_,_,_,_⟩) (v := ?_) rfl (by kernel_rfl) (by decide +kernel) (by decide +kernel) (fun _ _ _ h => h) (Or.inl ⟨by rfl, ?_⟩) (by assumption) ?_
 rotate_left 1
 ·(intro w' hSw; go_simp; try with_reducible rfl)
 try simp only [Act.put,List.setIfInBounds_toArray,List.set_cons_zero,List.set_cons_succ]
 refine wpAnyH_take (i := 5) (oi := ⟨some 33,_,_,_,_,_⟩) (v := ?_) rfl (by kernel_rfl) (by decide +kernel) (by decide +kernel) (fun _ _ _ h => h) (Or.inl ⟨by rfl, ?_⟩) (by assumption) ?_
 rotate_left 1
 ·(intro w' hSw; go_simp; try with_reducible rfl)
 try simp only [Act.put,List.setIfInBounds_toArray,List.set_cons_zero,List.set_cons_succ]
 refine wpAnyH_take (i := 6) (oi := ⟨some 34,_,_,_,_,_⟩) (v := ?_) rfl (by kernel_rfl) (by decide +kernel) (by decide +kernel) (fun _ _ _ h => h) (Or.inl ⟨by rfl, ?_⟩) (by assumption) ?_
 rotate_left 1
 ·(intro w' hSw; go_simp; try with_reducible rfl)
 try simp only [Act.put,List.setIfInBounds_toArray,List.set_cons_zero,List.set_cons_succ]
 refine wpAnyH_take (i := 7) (oi := ⟨some 35,_,_,_,_,_⟩) (v := ?_) rfl (by kernel_rfl) (by decide +kernel) (by decide +kernel) (fun _ _ _ h => h) (Or.inl ⟨by rfl, ?_⟩) (by assumption) ?_
 rotate_left 1
 ·(intro w' hSw; go_simp; try with_reducible rfl)
 try simp only [Act.put,List.setIfInBounds_toArray,List.set_cons_zero,List.set_cons_succ]
 refine wpAnyH_take (i := 8) (oi := ⟨some 36,_,_,_,_,_⟩) rfl (by kernel_rfl) (by decide +kernel) (by decide +kernel) (fun _ _ _ h => h) (yieldsIf_load_mid (by rfl) _ _ rfl (bx) (0) rfl (yvs l).toList _ (fun w' h => h) Tryz.underlying117 rfl IP.out) (by assumption) ?_
 try simp only [Act.put,List.setIfInBounds_toArray,List.set_cons_zero,List.set_cons_succ,Array.toArray_toList]
 refine wpAnyH_take (i := 9) (oi := ⟨some 37,_,_,_,_,_⟩) rfl (by kernel_rfl) (by decide +kernel) (by decide +kernel) (fun _ _ _ h => h) (yieldsIf_build6 (by rfl) _ _ rfl #[(0,.int .u32 (a : Int)),(1,.agg (yvs l))] _ (by simp [Act.eval]) hbuild.out) (by assumption) ?_
 try simp only [Act.put,List.setIfInBounds_toArray,List.set_cons_zero,List.set_cons_succ]
 clear hHeld
 refine wpAnyH_ready (rs := [4,10]) (by decide +kernel) (by simp) ?_
 refine AllReadyH.cons rfl (fun K hK => ?_) (AllReadyH.cons rfl (fun K hK => ?_) AllReadyH.nil)
 ·have co' := C6.out
  go_simp
  refine hK.out _ _ (HS2.out) (fun hHeld => ?_)
  clear hK K co' hHeld
  try simp only [Act.put,List.setIfInBounds_toArray,List.set_cons_zero,List.set_cons_succ]
  refine wpAnyH_ready (rs := [10]) (by decide +kernel) (by simp) ?_
  refine AllReadyH.cons rfl (fun K hK => ?_) AllReadyH.nil
  rw [if_pos (by kernel_rfl)]
  refine wp_lit_at6 (o := ⟨some 38,_,_,_,_,_⟩) _ _ _ rfl #[(0,.agg (wrow (a,l)))] (by simp [Act.eval]) _ _ (hlit.out w6.drew) ?_
  refine hK.out _ (w6.drew.alloc (.cells (wrow (a,l)) 120)) (HS3.out) (fun hHeld => ?_)
  clear hK K hHeld
  try simp only [Act.put,List.setIfInBounds_toArray,List.set_cons_zero,List.set_cons_succ]
  rw [hW8]
  refine wpAnyH_ready (rs := [11]) (by decide +kernel) (by simp) ?_
  refine AllReadyH.cons rfl (fun K hK => ?_) AllReadyH.nil
  rw [if_pos (by kernel_rfl)]
  refine wp_append_at6 (o := ⟨some 39,_,_,_,_,_⟩) _ _ _ rfl (.slice aw N capw) (.slice (some ⟨w6.heap.size,0,none⟩) 1 1) rfl rfl (.slice a9 (N + 1) cap9) w9 HRUN9.out ?_
  refine hK.out _ _ (HS4.out) (fun hHeld => ?_)
  clear hK K
  try simp only [Act.put,List.setIfInBounds_toArray,List.set_cons_zero,List.set_cons_succ]
  refine wpAnyH_take (i := 12) (oi := ⟨some 40,_,_,_,_,_⟩) (v := ?_) rfl (by kernel_rfl) (by decide +kernel) (by decide +kernel) (fun _ _ _ h => h) (Or.inl ⟨by rfl, ?_⟩) (by assumption) ?_
  rotate_left 1
  ·(intro w' hSw; go_simp; try with_reducible rfl)
  try simp only [Act.put,List.setIfInBounds_toArray,List.set_cons_zero,List.set_cons_succ]
  refine wpAnyH_take (i := 13) (oi := ⟨some 41,_,_,_,_,_⟩) (v := ?_) rfl (by kernel_rfl) (by decide +kernel) (by decide +kernel) (fun _ _ _ h => h) (Or.inl ⟨by rfl, ?_⟩) (by assumption) ?_
  rotate_left 1
  ·(intro w' hSw; go_simp; try with_reducible rfl)
  try simp only [Act.put,List.setIfInBounds_toArray,List.set_cons_zero,List.set_cons_succ]
  clear hHeld
  refine wpAnyH_ready (rs := [14]) (by decide +kernel) (by simp) ?_
  refine AllReadyH.cons rfl (fun K hK => ?_) AllReadyH.nil
  have co' := C9.out
  have fo' := F9.out
  go_simp
  refine hK.out _ _ (HS5.out) (fun hHeld => ?_)
  clear hK K co' fo' hHeld
  try simp only [Act.put,List.setIfInBounds_toArray,List.set_cons_zero,List.set_cons_succ]
  refine wpAnyH_done (by decide +kernel) ?_ _
  refine NoPanic.normal ?_
  go_wp2_with fail
  go_ret
  exact ⟨rfl,.slice a9 (N + 1) cap9,HPD.out,HTT.out,HLOC.out⟩
 ·rw [if_pos (by kernel_rfl)]
  refine wp_lit_at6 (o := ⟨some 38,_,_,_,_,_⟩) _ _ _ rfl #[(0,.agg (wrow (a,l)))] (by simp [Act.eval]) _ _ (hlit.out w6.drew) ?_
  refine hK.out _ (w6.drew.alloc (.cells (wrow (a,l)) 120)) (HS3.out) (fun hHeld => ?_)
  clear hK K hHeld
  try simp only [Act.put,List.setIfInBounds_toArray,List.set_cons_zero,List.set_cons_succ]
  rw [hW8]
  refine wpAnyH_ready (rs := [4]) (by decide +kernel) (by simp) ?_
  refine AllReadyH.cons rfl (fun K hK => ?_) AllReadyH.nil
  have co' := C8.out
  go_simp
  refine hK.out _ _ (HS3w.out) (fun hHeld => ?_)
  clear hK K co' hHeld
  try simp only [Act.put,List.setIfInBounds_toArray,List.set_cons_zero,List.set_cons_succ]
  refine wpAnyH_ready (rs := [11]) (by decide +kernel) (by simp) ?_
  refine AllReadyH.cons rfl (fun K hK => ?_) AllReadyH.nil
  rw [if_pos (by kernel_rfl)]
  refine wp_append_at6 (o := ⟨some 39,_,_,_,_,_⟩) _ _ _ rfl (.slice aw N capw) (.slice (some ⟨w6.heap.size,0,none⟩) 1 1) rfl rfl (.slice a9 (N + 1) cap9) w9 HRUN9.out ?_
  refine hK.out _ _ (HS4.out) (fun hHeld => ?_)
  clear hK K
  try simp only [Act.put,List.setIfInBounds_toArray,List.set_cons_zero,List.set_cons_succ]
  refine wpAnyH_take (i := 12) (oi := ⟨some 40,_,_,_,_,_⟩) (v := ?_) rfl (by kernel_rfl) (by decide +kernel) (by decide +kernel) (fun _ _ _ h => h) (Or.inl ⟨by rfl, ?_⟩) (by assumption) ?_
  rotate_left 1
  ·(intro w' hSw; go_simp; try with_reducible rfl)
  try simp only [Act.put,List.setIfInBounds_toArray,List.set_cons_zero,List.set_cons_succ]
  refine wpAnyH_take (i := 13) (oi := ⟨some 41,_,_,_,_,_⟩) (v := ?_) rfl (by kernel_rfl) (by decide +kernel) (by decide +kernel) (fun _ _ _ h => h) (Or.inl ⟨by rfl, ?_⟩) (by assumption) ?_
  rotate_left 1
  ·(intro w' hSw; go_simp; try with_reducible rfl)
  try simp only [Act.put,List.setIfInBounds_toArray,List.set_cons_zero,List.set_cons_succ]
  clear hHeld
  refine wpAnyH_ready (rs := [14]) (by decide +kernel) (by simp) ?_
  refine AllReadyH.cons rfl (fun K hK => ?_) AllReadyH.nil
  have co' := C9.out
  have fo' := F9.out
  go_simp
  refine hK.out _ _ (HS5.out) (fun hHeld => ?_)
  clear hK K co' fo' hHeld
  try simp only [Act.put,List.setIfInBounds_toArray,List.set_cons_zero,List.set_cons_succ]
  refine wpAnyH_done (by decide +kernel) ?_ _
  refine NoPanic.normal ?_
  go_wp2_with fail
  go_ret
  exact ⟨rfl,.slice a9 (N + 1) cap9,HPD.out,HTT.out,HLOC.out⟩
theorem ql_dwrite13 {w0 w : World} {P D gl n b : Nat} {ks V : List (BitVec 8)} {F : Nat → Bool} {ws : List (Nat × List (BitVec 8))} {L : List RowE} {M : List Nat} {tb : TypeId} (htb : 112 ≠ tb) (htw : tb ≠ 120) (a bx cap : Nat) (l : List (BitVec 8)) (h : QL w0 w P D gl n ks F b V ws (-1) false L M) (ha : a < n) (hB : ArrY w bx tb l) (hl : l.length = 512) (hws : ws.length ≤ 1000000) :
 Calls Tryz.prog 39 #[.pointer (some ⟨D,0,none⟩),.int .u32 (a : Int),.slice (some ⟨bx,0,none⟩) 512 cap] w fun e w' => e = .returned (.int .i64 0) ∧ QL w0 w' P D gl n ks F b V (ws ++ [(a,l)]) (-1) false L M ∧ Stay M w w' := by
 obtain ⟨bm,vw,hd,hf,a3,a4⟩ := h.po
 refine (pwrite_ok13 htb htw D gl bm n a bx cap vw V l ws (-1) w hd ha hB hl (by decide) hws).mono ?_
 rintro e w' ⟨he,vw',hd',ht,hn⟩
 rw [goP_free] at hd'
 exact ⟨he,h.dev hd hf hd' (h.pl.touch ht (fun e => (hf P e).2 (List.mem_cons_self ..))) (ht.more (fun x hx => List.mem_cons_of_mem _ hx)) (pfp_new hn)⟩
end
end Go.Proofs.YtgckapolpifbkaaGreatDoor
