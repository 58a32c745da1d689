/- The code's small calls: a byte doubled, a byte turned, a pair put into the tables. Conditions: the tables lie in the cipher's block. -/
import Derived.Test.YtngfldlfoniklaaAesCode
import Derived.Test.YtngfldlfoniklaaMov
namespace Go.Proofs.Ytngfldlfoniklaa
open Go.RowKit
theorem b_xor (x y : UInt8) : bits .xor .u8 (x.toNat : Int) (y.toNat : Int) = ((x ^^^ y).toNat : Int) := by
  rw [u8_xor_nat _ _ x.toNat_lt y.toNat_lt, UInt8.toNat_xor]
theorem dbl_nat : ∀ n, n < 256 → bits .xor .u8 (((n * 2 % 256 : Nat) : Int)) (((n / 128 * 27 : Nat) : Int)) = ((xt (UInt8.ofNat n)).toNat : Int) := by decide +kernel
theorem dbl_val (x : UInt8) : bits .xor .u8 ((x.toNat : Int) * 2 % 256) ((x.toNat : Int) / 128 * 27) = ((xt x).toNat : Int) := by
  have h := dbl_nat _ x.toNat_lt
  rw [UInt8.ofNat_toNat] at h
  rw [show (x.toNat : Int) * 2 % 256 = ((x.toNat * 2 % 256 : Nat) : Int) by omega, show (x.toNat : Int) / 128 * 27 = ((x.toNat / 128 * 27 : Nat) : Int) by omega]
  exact h
theorem dbl_any (x : UInt8) (W : World) : Calls Try.prog 35 #[.int .u8 (x.toNat : Int)] W fun e w' => e = .returned (.int .u8 ((xt x).toNat : Int)) ∧ w' = W := by
  have hx := x.toNat_lt
  have hd := dbl_val x
  go_enter Try.func35, Try.ntmps35
  go_wp2
  go_ret
  exact ⟨by rw [← hd]; rfl, rfl⟩
theorem ror_nat : ∀ k, k < 8 → 4 ≤ k → ∀ n, n < 256 → bits .or .u8 (((n * 2 ^ (8 - k) % 256 : Nat) : Int)) (((n / 2 ^ (8 - (8 - k)) : Nat) : Int)) = ((ror8 (UInt8.ofNat n) k).toNat : Int) := by decide +kernel
theorem ror_any (x : UInt8) (k : Nat) (W : World) (h1 : 4 ≤ k) (h2 : k < 8) : Calls Try.prog 39 #[.int .u8 (x.toNat : Int), .int .i64 (-(k : Int))] W fun e w' => e = .returned (.int .u8 ((ror8 x k).toNat : Int)) ∧ w' = W := by
  have hs : bits BinOp.and IntKind.u64 (IntKind.u64.wrap (-(k : Int))) 7 = ((8 - k : Nat) : Int) := by
    obtain rfl | rfl | rfl | rfl : k = 4 ∨ k = 5 ∨ k = 6 ∨ k = 7 := by omega
    all_goals decide +kernel
  have hr : bits .or .u8 ((x.toNat : Int) * 2 ^ (8 - k) % 256) ((x.toNat : Int) / 2 ^ (8 - (8 - k))) = ((ror8 x k).toNat : Int) := by
    have h := ror_nat k h2 h1 _ x.toNat_lt
    rw [UInt8.ofNat_toNat] at h
    have hp : ∀ k : Nat, (2 : Int) ^ k = ((2 ^ k : Nat) : Int) := fun k => by rw [Int.natCast_pow]; rfl
    rw [hp, hp]
    exact h
  have h3 : ((8 - k : Nat) : Int) ≤ 64 := by omega
  have h4 : (0 : Int) ≤ ((8 - k : Nat) : Int) := by omega
  go_enter Try.func39, Try.ntmps39
  go_wp2
  go_ret
  exact ⟨by rw [← hr]; rfl, rfl⟩
/-- The cells of a cipher: S, its contrary, the bytes of the keys. -/
def cph (S B K : List UInt8) : List Value := u8s S ++ (u8s B ++ u8s K)
theorem u8s_at (l : List UInt8) (i : Nat) (h : i < l.length) : (u8s l)[i]? = some (.int .u8 ((l.getD i 0).toNat : Int)) := by
  unfold u8s
  rw [List.getElem?_map, List.getElem?_eq_getElem h, List.getD_eq_getElem?_getD, List.getElem?_eq_getElem h]
  rfl
theorem u8s_set (l : List UInt8) (i : Nat) (x : UInt8) : (u8s l).set i (.int .u8 (x.toNat : Int)) = u8s (l.set i x) := by simp [u8s, List.map_set]
section
variable (S B K : List UInt8) (i : Nat) (x : UInt8)
theorem cph_setS (h : i < S.length) : (cph S B K).set i (.int .u8 (x.toNat : Int)) = cph (S.set i x) B K := by
  unfold cph
  rw [List.set_append_left _ _ (by rw [u8s_length]; exact h), u8s_set]
theorem cph_setB (hS : S.length = 256) (h : i < B.length) : (cph S B K).set (256 + i) (.int .u8 (x.toNat : Int)) = cph S (B.set i x) K := by
  unfold cph
  rw [List.set_append_right _ _ (by rw [u8s_length]; omega), u8s_length, hS, Nat.add_sub_cancel_left, List.set_append_left _ _ (by rw [u8s_length]; exact h), u8s_set]
theorem cph_setK (hS : S.length = 256) (hB : B.length = 256) : (cph S B K).set (512 + i) (.int .u8 (x.toNat : Int)) = cph S B (K.set i x) := by
  unfold cph
  rw [List.set_append_right _ _ (by rw [u8s_length]; omega), u8s_length, hS, List.set_append_right _ _ (by rw [u8s_length]; omega), u8s_length, hB, show 512 + i - 256 - 256 = i by omega, u8s_set]
theorem cph_getS (h : i < S.length) : (cph S B K)[i]? = some (.int .u8 ((S.getD i 0).toNat : Int)) := by
  unfold cph
  rw [List.getElem?_append_left (by rw [u8s_length]; exact h), u8s_at _ _ h]
theorem cph_getB (hS : S.length = 256) (h : i < B.length) : (cph S B K)[256 + i]? = some (.int .u8 ((B.getD i 0).toNat : Int)) := by
  unfold cph
  rw [List.getElem?_append_right (by rw [u8s_length]; omega), u8s_length, hS, Nat.add_sub_cancel_left, List.getElem?_append_left (by rw [u8s_length]; exact h), u8s_at _ _ h]
theorem cph_getK (hS : S.length = 256) (hB : B.length = 256) (h : i < K.length) : (cph S B K)[512 + i]? = some (.int .u8 ((K.getD i 0).toNat : Int)) := by
  unfold cph
  rw [List.getElem?_append_right (by rw [u8s_length]; omega), u8s_length, hS, List.getElem?_append_right (by rw [u8s_length]; omega), u8s_length, hB, show 512 + i - 256 - 256 = i by omega, u8s_at _ _ h]
end
set_option maxRecDepth 100000 in
set_option maxHeartbeats 800000 in
theorem pair_any {W : World} {g : Nat} {S B K : List UInt8} (hb : Blk W g 49 (cph S B K)) (hS : S.length = 256) (hB : B.length = 256) (b v : UInt8) :
    Calls Try.prog 36 #[.pointer (some ⟨g, 0, none⟩), .int .u8 (b.toNat : Int), .int .u8 (v.toNat : Int)] W fun e w' => e = .returned (.tuple #[]) ∧ Blk w' g 49 (cph (S.set b.toNat (aff v 4)) (B.set (aff v 4).toNat b) K) ∧ W.grownBy w' (some g) ∧ w'.heap.size = W.heap.size := by
  have h99 : bits .xor .u8 (v.toNat : Int) 99 = ((aff v 0).toNat : Int) := b_xor v 99
  have HB := Lib.hid hb
  have HS := Lib.hid hS
  have HBB := Lib.hid hB
  clear hb hS hB
  go_enter Try.func36, Try.ntmps36
  go_wp2
  clear h99
  go_loop [6, 7] (fun s i => ∃ k : Nat, 4 ≤ k ∧ k ≤ 8 ∧ i = .int .i64 (k : Int) ∧ s = .int .u8 ((aff v (k - 4)).toNat : Int)) (fun _ i => 8 - (intOf i).toNat)
  case atStart => exact ⟨4, by omega, by omega, rfl, rfl⟩
  case round =>
    obtain ⟨k, h4, hk, rfl, rfl⟩ := hrel
    by_cases hlt : k < 8
    · have hx : bits .xor .u8 ((aff v (k - 4)).toNat : Int) ((ror8 v k).toNat : Int) = ((aff v (k + 1 - 4)).toNat : Int) := by
        rw [show k + 1 - 4 = (k - 4) + 1 by omega, aff, show k - 4 + 4 = k by omega]
        exact b_xor _ _
      have hr : ∀ V, Calls Try.prog 39 #[.int .u8 (v.toNat : Int), .int .i64 (-(k : Int))] V fun e w' => e = .returned (.int .u8 ((ror8 v k).toNat : Int)) ∧ w' = V := fun V => ror_any v k V h4 hlt
      go_wp2_with (go_at_call 39; with_reducible refine (hr _).mono ?_; rintro _ V ⟨rfl, rfl⟩)
      go_round
      case rel => exact ⟨k + 1, by omega, by omega, by go_num, rfl⟩
      case measure => simp [intOf]; omega
    · have ek : k = 8 := by omega
      rw [show aff v (k - 4) = aff v 4 by rw [ek]]
      obtain ⟨s, hs⟩ : ∃ s, s = aff v 4 := ⟨_, rfl⟩
      rw [← hs]
      have HSE := Lib.hid hs
      clear h4 hk hs
      have hb256 := b.toNat_lt
      have hs256 := s.toNat_lt
      have hf1 := HB.out.frozen b.toNat
      have hc1 := HB.out.get b.toNat _ (cph_getS S B K b.toNat (by rw [HS.out]; exact hb256))
      have hb2 : Blk (W.setCell ⟨g, b.toNat, none⟩ (.int .u8 (s.toNat : Int))) g 49 (cph (S.set b.toNat s) B K) := (HB.out.set b.toNat (.int .u8 (s.toNat : Int))).to (cph_setS S B K _ _ (by rw [HS.out]; exact hb256))
      have hf2 := hb2.frozen (256 + s.toNat)
      have hc2 := hb2.get (256 + s.toNat) _ (cph_getB (S.set b.toNat s) B K s.toNat (by rw [List.length_set, HS.out]) (by rw [HBB.out]; exact hs256))
      have hb3 := (hb2.set (256 + s.toNat) (.int .u8 (b.toNat : Int))).to (cph_setB (S.set b.toNat s) B K _ _ (by rw [List.length_set, HS.out]) (by rw [HBB.out]; exact hs256))
      have HB3 := Lib.hid hb3
      clear hb2 hb3 ek
      go_wp2
      go_end0
      rw [← HSE.out]
      exact ⟨rfl, HB3.out, World.grownBy.trans (grown_set _ _ _ _) (grown_set _ _ _ _), by rw [size_set, size_set]⟩
end Go.Proofs.Ytngfldlfoniklaa
