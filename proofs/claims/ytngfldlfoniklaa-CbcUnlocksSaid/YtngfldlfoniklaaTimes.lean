/- The reference's product in the field. Conditions: the factors are bytes. -/
import Derived.Test.YtngfldlfoniklaaRows
import Derived.Test.YtngfldlfoniklaaAesKeys
import Derived.Test.YtngfldlfoniklaaBits
import Derived.WalkKit
import Derived.WalkSpells
import Derived.WalkLawsBesides
import Derived.IntWalk
import Derived.Lib.Hide
import Derived.Laws.BitsAllLaws
namespace Go.Proofs.Ytngfldlfoniklaa
open Go.RowKit
theorem bit_cases (n : Nat) : n % 2 = 1 ∨ n % 2 = 0 := by omega
set_option maxHeartbeats 800000 in
theorem times_any (a b : Nat) (ha : a < 256) (hb : b < 256) (W : World) : Calls Try.prog 32 #[.int .i64 (a : Int), .int .i64 (b : Int)] W fun e w' => e = .returned (.int .i64 ((times a b : Nat) : Int)) ∧ w' = W := by
  go_enter Try.func32, Try.ntmps32
  go_wp2
  go_loop [5, 6] (fun p i => ∃ k : Nat, k ≤ 8 ∧ i = .int .i64 (k : Int) ∧ p = .int .i64 ((tp a b k : Nat) : Int)) (fun _ i => 8 - (intOf i).toNat)
  case atStart => exact ⟨0, Nat.zero_le _, rfl, rfl⟩
  case round =>
    obtain ⟨k, hk, rfl, rfl⟩ := hrel
    by_cases hlt : k < 8
    · have hp := tp_lt a b ha k (by omega)
      have hp15 : tp a b k < 32768 := Nat.lt_of_lt_of_le hp (show 2 ^ (7 + k) ≤ 2 ^ 15 from Nat.pow_le_pow_right (by omega) (by omega))
      have hak : a <<< k < 32768 := by
        rw [Nat.shiftLeft_eq]
        have h1 : 2 ^ k ≤ 2 ^ 7 := Nat.pow_le_pow_right (by omega) (by omega)
        have h2 : a * 2 ^ k ≤ 255 * 2 ^ 7 := Nat.mul_le_mul (by omega) h1
        omega
      have hx := xor_shl (tp a b k) a k hp15 hak
      have hb2 := bit_and b k (by omega)
      have hstep : tp a b (k + 1) = if (b >>> k) % 2 = 1 then tp a b k ^^^ (a <<< k) else tp a b k := rfl
      have HST := Lib.hid hstep
      clear hstep hp hp15 hak
      rcases bit_cases (b >>> k) with hbit | hbit
      · have hd : (bits .and .i64 ((b : Int) / 2 ^ k) 1 == 1) = true := by rw [hb2, hbit]; rfl
        have HBIT := Lib.hid hbit
        clear hb2 hbit
        go_wp2
        go_round
        case rel => exact ⟨k + 1, by omega, by go_num, by rw [HST.out, if_pos HBIT.out]⟩
        case measure => simp [intOf]; omega
      · have hd : (bits .and .i64 ((b : Int) / 2 ^ k) 1 == 1) = false := by rw [hb2, hbit]; rfl
        have HBIT := Lib.hid hbit
        clear hb2 hbit
        go_wp2
        go_round
        case rel => exact ⟨k + 1, by omega, by go_num, by rw [HST.out, if_neg (by rw [HBIT.out]; decide)]⟩
        case measure => simp [intOf]; omega
    · have ek : k = 8 := by omega
      subst ek
      have hp15 : tp a b 8 < 2 ^ 15 := tp_lt a b ha 8 (Nat.le_refl _)
      obtain ⟨P, hP⟩ : ∃ P, P = tp a b 8 := ⟨_, rfl⟩
      rw [← hP] at hp15 ⊢
      have HP := Lib.hid hP
      clear hP hlt hk
      go_wp2_with (fail)
      go_loop [5, 7] (fun p v => ∃ i : Nat, 7 ≤ i ∧ i ≤ 14 ∧ v = .int .i64 (i : Int) ∧ p = .int .i64 ((tr P (14 - i) : Nat) : Int)) (fun _ v => (intOf v).toNat)
      case atStart => exact ⟨14, by omega, by omega, rfl, rfl⟩
      case round =>
        obtain ⟨i, hi7, hi, rfl, rfl⟩ := hrel
        have hq := tr_lt P hp15 (14 - i) (by omega)
        by_cases hi8 : 8 ≤ i
        · have hstep : tr P (14 - (i - 1)) = if (tr P (14 - i) >>> i) % 2 = 1 then tr P (14 - i) ^^^ (283 <<< (i - 8)) else tr P (14 - i) := by
            rw [show 14 - (i - 1) = (14 - i) + 1 by omega, tr, show 14 - (14 - i) = i by omega, show 6 - (14 - i) = i - 8 by omega]
          have hs2 : 283 <<< (i - 8) < 32768 := by
            obtain rfl | rfl | rfl | rfl | rfl | rfl | rfl : i = 8 ∨ i = 9 ∨ i = 10 ∨ i = 11 ∨ i = 12 ∨ i = 13 ∨ i = 14 := by omega
            all_goals decide
          have hx : bits .xor .i64 ((tr P (14 - i) : Nat) : Int) (wrap64 ((283 : Int) * 2 ^ (i - 8))) = ((tr P (14 - i) ^^^ (283 <<< (i - 8)) : Nat) : Int) := xor_shl (tr P (14 - i)) 283 (i - 8) hq hs2
          have hb2 := bit_and (tr P (14 - i)) i (by omega)
          obtain ⟨q, hqe⟩ : ∃ q, q = tr P (14 - i) := ⟨_, rfl⟩
          rw [← hqe] at hx hb2 hstep ⊢
          have HST := Lib.hid hstep
          have e8 : ((i : Int) - 8).toNat = i - 8 := by omega
          have e0 : (0 : Int) ≤ (i : Int) - 8 := by omega
          clear hstep hs2 hq hqe
          rcases bit_cases (q >>> i) with hbit | hbit
          · have hd : (bits .and .i64 ((q : Int) / 2 ^ i) 1 == 1) = true := by rw [hb2, hbit]; rfl
            have HBIT := Lib.hid hbit
            clear hb2 hbit
            go_wp2
            go_round
            case rel => exact ⟨i - 1, by omega, by omega, by go_num, by rw [HST.out, if_pos HBIT.out]⟩
            case measure => simp [intOf]; omega
          · have hd : (bits .and .i64 ((q : Int) / 2 ^ i) 1 == 1) = false := by rw [hb2, hbit]; rfl
            have HBIT := Lib.hid hbit
            clear hb2 hbit
            go_wp2
            go_round
            case rel => exact ⟨i - 1, by omega, by omega, by go_num, by rw [HST.out, if_neg (by rw [HBIT.out]; decide)]⟩
            case measure => simp [intOf]; omega
        · have ei : i = 7 := by omega
          subst ei
          have hres : tr P (14 - 7) = times a b := by rw [HP.out]; rfl
          rw [hres]
          clear hq hres
          go_wp2
          go_ret
          exact ⟨rfl, rfl⟩
end Go.Proofs.Ytngfldlfoniklaa
