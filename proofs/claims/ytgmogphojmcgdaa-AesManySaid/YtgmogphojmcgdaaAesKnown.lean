/- The document's example of AES, worked out by the kernel round by round. Conditions: none. -/
import Derived.Test.YtgmogphojmcgdaaAesKeys
namespace Go.Proofs.Ytgmogphojmcgdaa
def exWords : List (List Nat) := [[0, 1, 2, 3], [4, 5, 6, 7], [8, 9, 10, 11], [12, 13, 14, 15], [16, 17, 18, 19], [20, 21, 22, 23], [24, 25, 26, 27], [28, 29, 30, 31], [165, 115, 194, 159], [161, 118, 196, 152], [169, 127, 206, 147], [165, 114, 192, 156], [22, 81, 168, 205], [2, 68, 190, 218], [26, 93, 164, 193], [6, 64, 186, 222], [174, 135, 223, 240], [15, 241, 27, 104], [166, 142, 213, 251], [3, 252, 21, 103], [109, 225, 241, 72], [111, 165, 79, 146], [117, 248, 235, 83], [115, 184, 81, 141], [198, 86, 130, 127], [201, 167, 153, 23], [111, 41, 76, 236], [108, 213, 89, 139], [61, 226, 58, 117], [82, 71, 117, 231], [39, 191, 158, 180], [84, 7, 207, 57], [11, 220, 144, 95], [194, 123, 9, 72], [173, 82, 69, 164], [193, 135, 28, 47], [69, 245, 166, 96], [23, 178, 211, 135], [48, 13, 77, 51], [100, 10, 130, 10], [124, 207, 247, 28], [190, 180, 254, 84], [19, 230, 187, 240], [210, 97, 167, 223], [240, 26, 250, 254], [231, 168, 41, 121], [215, 165, 100, 74], [179, 175, 230, 64], [37, 65, 254, 113], [155, 245, 0, 37], [136, 19, 187, 213], [90, 114, 28, 10], [78, 90, 102, 153], [169, 242, 79, 224], [126, 87, 43, 170], [205, 248, 205, 234], [36, 252, 121, 204], [191, 9, 121, 233], [55, 26, 194, 60], [109, 104, 222, 54]]
set_option maxRecDepth 100000 in
theorem ex_words : kws (List.range 32) 60 = exWords := by decide +kernel
/-- Bytes as a state. -/
def ofL (l : List Nat) : State := fun i => UInt8.ofNat (l.getD i.val 0)
theorem state_all {s t : State} (h : ∀ r, r < 4 → ∀ k, k < 4 → at_ s r k = at_ t r k) : s = t := state_ext h
def exBlock : List Nat := [0, 17, 34, 51, 68, 85, 102, 119, 136, 153, 170, 187, 204, 221, 238, 255]
def ex0 : List Nat := [0, 16, 32, 48, 64, 80, 96, 112, 128, 144, 160, 176, 192, 208, 224, 240]
theorem step0 : keyS (rk exWords 0) (ofL exBlock) = ofL ex0 := state_all (by decide +kernel)
theorem upto0 : rounds (rk exWords) (ofL exBlock) 0 = ofL ex0 := step0
def ex1 : List Nat := [79, 99, 118, 6, 67, 224, 170, 133, 239, 167, 33, 50, 1, 164, 231, 5]
theorem step1 : keyS (rk exWords 1) (mixS (rowS (subS (ofL ex0)))) = ofL ex1 := state_all (by decide +kernel)
theorem upto1 : rounds (rk exWords) (ofL exBlock) 1 = ofL ex1 := by rw [rounds, upto0, step1]
def ex2 : List Nat := [24, 89, 251, 194, 138, 28, 0, 160, 120, 237, 138, 173, 196, 47, 97, 9]
theorem step2 : keyS (rk exWords 2) (mixS (rowS (subS (ofL ex1)))) = ofL ex2 := state_all (by decide +kernel)
theorem upto2 : rounds (rk exWords) (ofL exBlock) 2 = ofL ex2 := by rw [rounds, upto1, step2]
def ex3 : List Nat := [151, 92, 102, 193, 203, 159, 63, 168, 169, 58, 40, 223, 142, 225, 15, 99]
theorem step3 : keyS (rk exWords 3) (mixS (rowS (subS (ofL ex2)))) = ofL ex3 := state_all (by decide +kernel)
theorem upto3 : rounds (rk exWords) (ofL exBlock) 3 = ofL ex3 := by rw [rounds, upto2, step3]
def ex4 : List Nat := [28, 5, 242, 113, 164, 23, 224, 79, 249, 33, 197, 193, 4, 112, 21, 84]
theorem step4 : keyS (rk exWords 4) (mixS (rowS (subS (ofL ex3)))) = ofL ex4 := state_all (by decide +kernel)
theorem upto4 : rounds (rk exWords) (ofL exBlock) 4 = ofL ex4 := by rw [rounds, upto3, step4]
def ex5 : List Nat := [195, 87, 170, 225, 27, 69, 183, 176, 162, 199, 189, 40, 168, 220, 153, 250]
theorem step5 : keyS (rk exWords 5) (mixS (rowS (subS (ofL ex4)))) = ofL ex5 := state_all (by decide +kernel)
theorem upto5 : rounds (rk exWords) (ofL exBlock) 5 = ofL ex5 := by rw [rounds, upto4, step5]
def ex6 : List Nat := [127, 7, 65, 67, 203, 78, 36, 62, 193, 12, 129, 93, 131, 117, 213, 76]
theorem step6 : keyS (rk exWords 6) (mixS (rowS (subS (ofL ex5)))) = ofL ex6 := state_all (by decide +kernel)
theorem upto6 : rounds (rk exWords) (ofL exBlock) 6 = ofL ex6 := by rw [rounds, upto5, step6]
def ex7 : List Nat := [214, 83, 164, 105, 108, 160, 188, 15, 90, 202, 171, 93, 185, 108, 94, 125]
theorem step7 : keyS (rk exWords 7) (mixS (rowS (subS (ofL ex6)))) = ofL ex7 := state_all (by decide +kernel)
theorem upto7 : rounds (rk exWords) (ofL exBlock) 7 = ofL ex7 := by rw [rounds, upto6, step7]
def ex8 : List Nat := [90, 168, 88, 57, 95, 210, 141, 125, 5, 225, 163, 136, 104, 243, 185, 197]
theorem step8 : keyS (rk exWords 8) (mixS (rowS (subS (ofL ex7)))) = ofL ex8 := state_all (by decide +kernel)
theorem upto8 : rounds (rk exWords) (ofL exBlock) 8 = ofL ex8 := by rw [rounds, upto7, step8]
def ex9 : List Nat := [74, 130, 72, 81, 197, 126, 126, 71, 100, 61, 229, 12, 42, 243, 232, 201]
theorem step9 : keyS (rk exWords 9) (mixS (rowS (subS (ofL ex8)))) = ofL ex9 := state_all (by decide +kernel)
theorem upto9 : rounds (rk exWords) (ofL exBlock) 9 = ofL ex9 := by rw [rounds, upto8, step9]
def ex10 : List Nat := [193, 73, 7, 246, 202, 59, 58, 160, 112, 233, 170, 49, 59, 82, 181, 236]
theorem step10 : keyS (rk exWords 10) (mixS (rowS (subS (ofL ex9)))) = ofL ex10 := state_all (by decide +kernel)
theorem upto10 : rounds (rk exWords) (ofL exBlock) 10 = ofL ex10 := by rw [rounds, upto9, step10]
def ex11 : List Nat := [95, 156, 106, 191, 186, 198, 52, 170, 80, 64, 159, 167, 102, 103, 118, 83]
theorem step11 : keyS (rk exWords 11) (mixS (rowS (subS (ofL ex10)))) = ofL ex11 := state_all (by decide +kernel)
theorem upto11 : rounds (rk exWords) (ofL exBlock) 11 = ofL ex11 := by rw [rounds, upto10, step11]
def ex12 : List Nat := [81, 102, 4, 149, 67, 83, 149, 3, 20, 251, 134, 228, 1, 146, 37, 33]
theorem step12 : keyS (rk exWords 12) (mixS (rowS (subS (ofL ex11)))) = ofL ex12 := state_all (by decide +kernel)
theorem upto12 : rounds (rk exWords) (ofL exBlock) 12 = ofL ex12 := by rw [rounds, upto11, step12]
def ex13 : List Nat := [98, 123, 206, 185, 153, 157, 90, 170, 201, 69, 236, 244, 35, 245, 109, 165]
theorem step13 : keyS (rk exWords 13) (mixS (rowS (subS (ofL ex12)))) = ofL ex13 := state_all (by decide +kernel)
theorem upto13 : rounds (rk exWords) (ofL exBlock) 13 = ofL ex13 := by rw [rounds, upto12, step13]
def ex14 : List Nat := [142, 162, 183, 202, 81, 103, 69, 191, 234, 252, 73, 144, 75, 73, 96, 137]
theorem step14 : keyS (rk exWords 14) (rowS (subS (ofL ex13))) = ofL ex14 := state_all (by decide +kernel)
/-- The example. -/
theorem aes_known : aesLock (List.range 32) (ofL exBlock) = ofL ex14 := by
  unfold aesLock lockS
  rw [ex_words, upto13, step14]
end Go.Proofs.Ytgmogphojmcgdaa
