/- Whether bytes are the same, as the program and the reference tell it. Conditions: none. -/
import Derived.Test.YtgphopahlgfogaaDoorMac3
namespace Go.Proofs.YtgphopahlgfogaaDoor
open Go.RowKit
theorem bool_end {a b : Bool} (h : a = b) : Ending.returned (.bool a) = .returned (.bool b) := by rw [h]
theorem bytes_any {w : World} {ok ok' : Nat → Prop} {A B : Option Addr} {xs ys : List UInt8} {c d : Nat} (ha : Byt w ok A xs) (hb : Byt w ok' B ys) :
    Calls Tryd.prog 12 #[.slice A xs.length c, .slice B ys.length d] w fun e w' => e = .returned (.bool (decide (xs = ys))) ∧ w = w' := by
  have r1 := ha.str c
  have r2 := hb.str d
  go_enter Tryd.func12, Tryd.ntmps12
  go_wp2
  go_ret
  exact ⟨bool_end (by rw [Bool.eq_iff_iff]; simp), rfl⟩
theorem bytes_n {w : World} {ok ok' : Nat → Prop} {A B : Option Addr} {xs ys : List UInt8} {c d n m : Nat} (ha : Byt w ok A xs) (hb : Byt w ok' B ys) (hn : xs.length = n) (hm : ys.length = m) :
    Calls Tryd.prog 12 #[.slice A n c, .slice B m d] w fun e w' => e = .returned (.bool (decide (xs = ys))) ∧ w = w' := by
  subst hn hm; exact bytes_any ha hb
/-- Where the k first bytes are unlike. -/
def dif (xs ys : List UInt8) : Nat → UInt8
  | 0 => 0
  | k + 1 => dif xs ys k ||| (xs.getD k 0 ^^^ ys.getD k 0)
theorem or_zero_iff (a b : UInt8) : a ||| b = 0 ↔ a = 0 ∧ b = 0 := by
  rw [← UInt8.toNat_inj, ← UInt8.toNat_inj, ← UInt8.toNat_inj, UInt8.toNat_or]
  exact Nat.or_eq_zero_iff
theorem xor_zero_iff (a b : UInt8) : a ^^^ b = 0 ↔ a = b := by
  constructor
  · intro h
    have := congrArg (· ^^^ b) h
    simpa [UInt8.xor_assoc] using this
  · rintro rfl; simp
theorem dif_zero (xs ys : List UInt8) : ∀ k, dif xs ys k = 0 ↔ ∀ j, j < k → xs.getD j 0 = ys.getD j 0
  | 0 => by simp [dif]
  | k + 1 => by
    rw [dif, or_zero_iff, dif_zero xs ys k, xor_zero_iff]
    constructor
    · rintro ⟨h1, h2⟩ j hj
      rcases Nat.lt_or_ge j k with h | h
      · exact h1 j h
      · obtain rfl : j = k := by omega
        exact h2
    · intro h
      exact ⟨fun j hj => h j (by omega), h k (by omega)⟩
theorem dif_same (xs ys : List UInt8) (h : xs.length = ys.length) : dif xs ys xs.length = 0 ↔ xs = ys := by
  rw [dif_zero]
  constructor
  · intro hj
    apply List.ext_getElem h
    intro i h1 h2
    have := hj i h1
    simpa [List.getD_eq_getElem?_getD, h1, h2] using this
  · rintro rfl; simp
theorem u8_or' (x y : UInt8) : bits .or .u8 (x.toNat : Int) (y.toNat : Int) = ((x ||| y).toNat : Int) := by
  rw [u8_or_nat _ _ x.toNat_lt y.toNat_lt, UInt8.toNat_or]
set_option maxHeartbeats 800000 in
theorem same_any {w : World} {ok ok' : Nat → Prop} {A B : Option Addr} {xs ys : List UInt8} {c d n m : Nat} (ha : Byt w ok A xs) (hb : Byt w ok' B ys) (hn : xs.length = n) (hm : ys.length = m) (hmax : n ≤ 9223372036854775807) :
    Calls Tryd.prog 13 #[.slice A n c, .slice B m d] w fun e w' => e = .returned (.bool (decide (xs = ys))) ∧ w = w' := by
  have HA := Lib.hid ha
  have HB := Lib.hid hb
  have HN := Lib.hid hn
  have HM := Lib.hid hm
  clear ha hb hn hm
  by_cases hnm : n = m
  · subst hnm
    have d1 : ((n : Int) != (n : Int)) = false := by simp
    go_enter Tryd.func13, Tryd.ntmps13
    go_wp2
    go_loop [5, 15] (fun u i => ∃ k : Nat, k ≤ n ∧ i = .int .i64 k ∧ u = .int .u8 ((dif xs ys k).toNat : Int)) (fun _ i => n - (intOf i).toNat)
    case atStart => exact ⟨0, Nat.zero_le _, rfl, rfl⟩
    case round =>
      obtain ⟨k, hk, rfl, rfl⟩ := hrel
      by_cases hlt : k < n
      · have hkx : k < xs.length := by rw [HN.out]; exact hlt
        have hky : k < ys.length := by rw [HM.out]; exact hlt
        obtain ⟨a, rfl, -, ca⟩ := HA.out.some_ (by omega)
        obtain ⟨b, rfl, -, cb⟩ := HB.out.some_ (by omega)
        have ha := ca k hkx
        have hb := cb k hky
        have e1 : xs.getD k 0 = xs[k] := by simp [List.getD_eq_getElem?_getD, hkx]
        have e2 : ys.getD k 0 = ys[k] := by simp [List.getD_eq_getElem?_getD, hky]
        rw [← e1] at ha
        rw [← e2] at hb
        obtain ⟨x, hx⟩ : ∃ x, x = xs.getD k 0 := ⟨_, rfl⟩
        obtain ⟨y, hy⟩ : ∃ y, y = ys.getD k 0 := ⟨_, rfl⟩
        obtain ⟨u, hu⟩ : ∃ u, u = dif xs ys k := ⟨_, rfl⟩
        obtain ⟨v, hv⟩ : ∃ v, v = x ^^^ y := ⟨_, rfl⟩
        obtain ⟨r, hr⟩ : ∃ r, r = u ||| v := ⟨_, rfl⟩
        have hs : dif xs ys (k + 1) = r := by rw [hr, hv, hx, hy, hu]; rfl
        rw [← hx] at ha
        rw [← hy] at hb
        rw [← hu]
        have z1 : bits .xor .u8 (x.toNat : Int) (y.toNat : Int) = (v.toNat : Int) := by rw [hv]; exact u8_xor' x y
        have z2 : bits .or .u8 (u.toNat : Int) (v.toNat : Int) = (r.toNat : Int) := by rw [hr]; exact u8_or' u v
        have HS := Lib.hid hs
        clear e1 e2 hx hy hu hs hv hr ca cb hkx hky
        go_wp2
        go_round
        case rel => exact ⟨k + 1, by omega, by go_num, by rw [HS.out]⟩
        case measure => simp [intOf]; omega
      · have ek : k = n := by omega
        have hd : (dif xs ys k).toNat = 0 ↔ xs = ys := by
          rw [ek, ← HN.out, ← dif_same xs ys (by rw [HN.out, HM.out])]
          constructor
          · intro h
            apply UInt8.toNat.inj
            rw [h]; rfl
          · intro h; rw [h]; rfl
        have HD := Lib.hid hd
        obtain ⟨z, hz⟩ : ∃ z, z = ((dif xs ys k).toNat : Int) := ⟨_, rfl⟩
        have HZ := Lib.hid hz
        rw [← hz]
        clear hd hz ek
        go_wp2
        go_ret
        refine ⟨bool_end ?_, rfl⟩
        rw [Bool.eq_iff_iff]
        simpa [HZ.out] using HD.out
  · have d1 : ((n : Int) != (m : Int)) = true := by simp; omega
    go_enter Tryd.func13, Tryd.ntmps13
    go_wp2
    go_ret
    refine ⟨bool_end ?_, rfl⟩
    have : xs ≠ ys := fun e => hnm (by rw [← HN.out, ← HM.out, e])
    simp [this]
end Go.Proofs.YtgphopahlgfogaaDoor
