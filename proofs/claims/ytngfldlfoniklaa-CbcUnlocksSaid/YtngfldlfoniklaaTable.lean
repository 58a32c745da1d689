/- The reference's table of S. Conditions: none. -/
import Derived.Test.YtngfldlfoniklaaMov
namespace Go.Proofs.Ytngfldlfoniklaa
open Go.RowKit
/-- The table, b of its bytes told, the next one under way. -/
def tabAt (b x : Nat) : List Nat := (List.range b).map sbox ++ x :: List.replicate (255 - b) 0
theorem tabAt_length (b x : Nat) (h : b < 256) : (tabAt b x).length = 256 := by simp [tabAt]; omega
theorem tabAt_get (b x : Nat) : (tabAt b x).getD b 0 = x := by
  unfold tabAt
  rw [List.getD_eq_getElem?_getD, List.getElem?_append_right (by simp), List.length_map, List.length_range, Nat.sub_self]
  rfl
theorem tabAt_set (b x y : Nat) : (tabAt b x).set b y = tabAt b y := by
  unfold tabAt
  rw [List.set_append_right _ _ (by simp), List.length_map, List.length_range, Nat.sub_self]
  rfl
/-- The table, b of its bytes told. -/
def tabTo (b : Nat) : List Nat := (List.range b).map sbox ++ List.replicate (256 - b) 0
theorem tabTo_at (b : Nat) (h : b < 256) : tabTo b = tabAt b 0 := by
  unfold tabTo tabAt
  rw [show 256 - b = (255 - b) + 1 by omega, List.replicate_succ]
theorem tabTo_next (b : Nat) (h : b < 256) : tabAt b (sbox b) = tabTo (b + 1) := by
  unfold tabTo tabAt
  rw [List.range_succ, List.map_append, List.append_assoc, show 256 - (b + 1) = 255 - b by omega]
  rfl
theorem tabTo_all : tabTo 256 = stab := by simp [tabTo, stab]
theorem sv_lt (c : Nat) : ∀ k, sv c k < 2 ^ k
  | 0 => by simp [sv]
  | k + 1 => by
    have ih := sv_lt c k
    have h1 : sv c k < 2 ^ (k + 1) := Nat.lt_of_lt_of_le ih (Nat.pow_le_pow_right (by omega) (by omega))
    have h2 : (sx c k % 2) <<< k < 2 ^ (k + 1) := by
      rw [Nat.shiftLeft_eq, Nat.pow_succ, Nat.mul_comm (2 ^ k) 2]
      exact Nat.mul_lt_mul_of_pos_right (Nat.mod_lt _ (by omega)) (Nat.two_pow_pos k)
    exact Nat.or_lt_two_pow h1 h2
theorem sv_val (c k : Nat) (hc : c < 256) (hk : k < 8) :
    bits .or .i64 ((sv c k : Nat) : Int) (wrap64 (bits .and .i64 (bits .xor .i64 (bits .xor .i64 (bits .xor .i64 (bits .xor .i64 (bits .xor .i64 ((c : Int) / 2 ^ k) ((c : Int) / 2 ^ ((k + 4) % 8))) ((c : Int) / 2 ^ ((k + 5) % 8))) ((c : Int) / 2 ^ ((k + 6) % 8))) ((c : Int) / 2 ^ ((k + 7) % 8))) (99 / 2 ^ k)) 1 * 2 ^ k)) = ((sv c (k + 1) : Nat) : Int) := by
  have hs : ∀ j, c >>> j < 256 := fun j => Nat.lt_of_le_of_lt (shr_le c j) hc
  have h99 : 99 >>> k < 256 := Nat.lt_of_le_of_lt (shr_le 99 k) (by decide)
  have e99 : (99 : Int) / (2 : Int) ^ k = ((99 >>> k : Nat) : Int) := shr_nat 99 k
  have x1 := xor_lt _ _ (hs k) (hs ((k + 4) % 8))
  have x2 := xor_lt _ _ x1 (hs ((k + 5) % 8))
  have x3 := xor_lt _ _ x2 (hs ((k + 6) % 8))
  have x4 := xor_lt _ _ x3 (hs ((k + 7) % 8))
  have x5 := xor_lt _ _ x4 h99
  have hlt := sv_lt c k
  have h2 : (2 : Nat) ^ k ≤ 2 ^ 7 := Nat.pow_le_pow_right (by omega) (by omega)
  have hb : (sx c k % 2) <<< k < 32768 := by
    rw [Nat.shiftLeft_eq]
    have : sx c k % 2 * 2 ^ k ≤ 1 * 2 ^ 7 := Nat.mul_le_mul (by omega) h2
    omega
  simp only [shr_nat, e99]
  have l1 := hs k
  have l2 := hs ((k + 4) % 8)
  have l3 := hs ((k + 5) % 8)
  have l4 := hs ((k + 6) % 8)
  have l5 := hs ((k + 7) % 8)
  rw [i64_xor_nat _ _ (by omega) (by omega), i64_xor_nat _ _ (by omega) (by omega), i64_xor_nat _ _ (by omega) (by omega), i64_xor_nat _ _ (by omega) (by omega), i64_xor_nat _ _ (by omega) (by omega), i64_and_one _ (by omega), shl_nat]
  rw [show wrap64 (((c >>> k ^^^ c >>> ((k + 4) % 8) ^^^ c >>> ((k + 5) % 8) ^^^ c >>> ((k + 6) % 8) ^^^ c >>> ((k + 7) % 8) ^^^ 99 >>> k) % 2) <<< k : Nat) = (((sx c k % 2) <<< k : Nat) : Int) from by rw [← IntWalk.i64_left]; exact i64_keep _ (by show (sx c k % 2) <<< k < _; omega)]
  rw [i64_or_nat _ _ (by omega) (by omega)]
  rfl
set_option maxRecDepth 100000 in
set_option maxHeartbeats 1600000 in
theorem table_any (W : World) : Calls Try.prog 30 #[] W fun e w' => ∃ g, e = .returned (.slice (some ⟨g, 0, none⟩) 256 256) ∧ Blk w' g 3 (ints stab) ∧ W.grownBy w' none ∧ W.heap.size ≤ g := by
  obtain ⟨i0, hi, hz0, hz1, hz2⟩ := info_parts Try.info3
  go_enter Try.func30, Try.ntmps30
  go_wp2_with (with_reducible refine wpList_make_full _ rfl _ _ 40 rfl W.heap.size 3 i0 (.int .i64 0) 1 Try.underlying40 hi hz0 hz1 .i64 .i64 _ _ 256 rfl rfl rfl rfl ?c1 ?c2 ?c3 ?_)
  case c1 => rw [hz2]; omega
  case c2 => unfold maxLen; omega
  case c3 => exact Nat.le_refl _
  intro w1 hown hg1
  rw [made_ints] at hown
  have hb1 := Blk.of_owns_e hown
  obtain ⟨g, hg⟩ : ∃ g, g = W.heap.size := ⟨_, rfl⟩
  rw [← hg] at hb1 ⊢
  have hb1' : Blk w1 g 3 (ints (tabTo 0)) := hb1.to (by rfl)
  have HB1 := Lib.hid hb1'
  have HG1 := Lib.hid hg1
  have HGE := Lib.hid hg
  clear hown hb1 hb1' hg1 hg
  go_wp2_with (fail)
  go_loopw [2] (fun v wr => ∃ b : Nat, b ≤ 256 ∧ v = .int .i64 (b : Int) ∧ Blk wr g 3 (ints (tabTo b)) ∧ W.grownBy wr none) (fun v _ => 256 - (intOf v).toNat)
  case atStart => exact ⟨0, by omega, rfl, HB1.out, HG1.out⟩
  case round =>
    clear HB1 HG1
    obtain ⟨b, hb, rfl, hbk, hgr⟩ := hrel
    by_cases hlt : b < 256
    · rw [tabTo_at b hlt] at hbk
      have HBK := Lib.hid hbk
      have HGR := Lib.hid hgr
      have hci := ci_lt b hlt
      have hcc := cc_lt b hlt
      clear hbk hgr
      have dB : decide ((b : Int) < 256) = true := by simp; omega
      go_wp2_with (fail)
      clear dB
      go_loop [3, 4] (fun c i => ∃ k : Nat, k ≤ 7 ∧ i = .int .i64 (k : Int) ∧ c = .int .i64 ((ci b k : Nat) : Int)) (fun _ i => 7 - (intOf i).toNat)
      case atStart => exact ⟨0, by omega, rfl, rfl⟩
      case round =>
        obtain ⟨k, hk, rfl, rfl⟩ := hrel
        by_cases hk7 : k < 7
        · have r1 : ∀ V, Calls Try.prog 32 #[.int .i64 ((ci b k : Nat) : Int), .int .i64 ((ci b k : Nat) : Int)] V fun e w' => e = .returned (.int .i64 ((times (ci b k) (ci b k) : Nat) : Int)) ∧ w' = V := fun V => times_any _ _ (hci k (by omega)) (hci k (by omega)) V
          have r2 : ∀ V, Calls Try.prog 32 #[.int .i64 ((times (ci b k) (ci b k) : Nat) : Int), .int .i64 (b : Int)] V fun e w' => e = .returned (.int .i64 ((ci b (k + 1) : Nat) : Int)) ∧ w' = V := fun V => times_any _ _ (hcc k (by omega)) hlt V
          generalize ci b k = c0 at r1 r2 ⊢
          generalize times c0 c0 = c1 at r1 r2
          obtain ⟨c2, hc2⟩ : ∃ c2, c2 = ci b (k + 1) := ⟨_, rfl⟩
          rw [← hc2] at r2
          have HC2 := Lib.hid hc2
          have R1 := Lib.hid r1
          have R2 := Lib.hid r2
          clear r1 r2 hc2 hci hcc
          go_wp2_with (first
            | (go_at_call 32; with_reducible refine (R1.out _).mono ?_; rintro _ V ⟨rfl, rfl⟩)
            | (go_at_call 32; with_reducible refine (R2.out _).mono ?_; rintro _ V ⟨rfl, rfl⟩))
          go_round
          case rel => exact ⟨k + 1, by omega, by go_num, by rw [HC2.out]⟩
          case measure => simp [intOf]; omega
        · have ek : k = 7 := by omega
          subst ek
          have r1 : ∀ V, Calls Try.prog 32 #[.int .i64 ((ci b 7 : Nat) : Int), .int .i64 ((ci b 7 : Nat) : Int)] V fun e w' => e = .returned (.int .i64 ((times (ci b 7) (ci b 7) : Nat) : Int)) ∧ w' = V := fun V => times_any _ _ (hci 7 (by omega)) (hci 7 (by omega)) V
          have hsb : sbox b = sv (times (ci b 7) (ci b 7)) 8 := rfl
          have hcl := hcc 7 (by omega)
          obtain ⟨c, hc⟩ : ∃ c, c = times (ci b 7) (ci b 7) := ⟨_, rfl⟩
          rw [← hc] at r1 hsb hcl
          have HSB := Lib.hid hsb
          have R1 := Lib.hid r1
          clear r1 hc hci hcc hk7 hk hsb
          go_wp2_with (go_at_call 32; with_reducible refine (R1.out _).mono ?_; rintro _ V ⟨rfl, rfl⟩)
          clear R1
          go_loopw [5] (fun i wx => ∃ k : Nat, k ≤ 8 ∧ i = .int .i64 (k : Int) ∧ Blk wx g 3 (ints (tabAt b (sv c k))) ∧ W.grownBy wx none) (fun i _ => 8 - (intOf i).toNat)
          case atStart => exact ⟨0, by omega, rfl, HBK.out, HGR.out⟩
          case round =>
            clear HBK HGR
            obtain ⟨k, hk, rfl, hbk, hgr⟩ := hrel
            by_cases hk8 : k < 8
            · have hcell := hbk.get b _ (ints_get _ b (by rw [tabAt_length _ _ hlt]; exact hlt))
              rw [tabAt_get] at hcell
              have hfr := hbk.frozen b
              have HBK := Lib.hid hbk
              have HGR := Lib.hid hgr
              clear hbk hgr
              go_wp2
              go_roundw
              case rel =>
                rw [sv_val c k hcl hk8]
                refine ⟨k + 1, by omega, by go_num, ?_, grown_new HGR.out (by rw [HGE.out]; exact Nat.le_refl _) _ _⟩
                have h := HBK.out.set b (.int .i64 ((sv c (k + 1) : Nat) : Int))
                rw [ints_set, tabAt_set] at h
                exact h
              case measure => simp [intOf]; omega
            · have ek : k = 8 := by omega
              rw [ek, ← HSB.out, tabTo_next b hlt] at hbk
              have HBK := Lib.hid hbk
              have HGR := Lib.hid hgr
              clear hbk hgr ek
              go_wp2
              go_roundw
              case rel => exact ⟨b + 1, by omega, by go_num, HBK.out, HGR.out⟩
              case measure => simp [intOf]; omega
    · have eb : b = 256 := by omega
      rw [eb, tabTo_all] at hbk
      have HBK := Lib.hid hbk
      have HGR := Lib.hid hgr
      clear hbk hgr
      go_wp2
      go_ret
      exact ⟨g, rfl, HBK.out, HGR.out, by rw [HGE.out]; exact Nat.le_refl _⟩
end Go.Proofs.Ytngfldlfoniklaa
