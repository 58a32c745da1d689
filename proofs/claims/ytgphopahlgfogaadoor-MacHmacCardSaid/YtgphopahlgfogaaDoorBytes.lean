/- A number is read out of bytes, and written into them, the greatest byte first. Conditions: none. -/
import Derived.Test.YtgphopahlgfogaaDoorSmall
import Derived.Test.YtgphopahlgfogaaDoorRow
namespace Go.Proofs.YtgphopahlgfogaaDoor
open Go.RowKit
theorem read_or (xs : List UInt8) (k : Nat) (h : k < xs.length) (h8 : k < 8) :
    bits .or .u64 (IntKind.u64.wrap ((nb (xs.take k) : Int) * 256)) (xs[k].toNat : Int) = (nb (xs.take (k + 1)) : Int) := by
  have hb := xs[k].toNat_lt
  have hlt : nb (xs.take k) < 256 ^ k := nb_lt k _ (by simp; omega)
  have h7 : 256 ^ k ≤ 256 ^ 7 := Nat.pow_le_pow_right (by omega) (by omega)
  have e1 : IntKind.u64.wrap ((nb (xs.take k) : Int) * 256) = ((nb (xs.take k) * 256 : Nat) : Int) := by rw [IntKind.wrap_u64]; omega
  rw [e1, u64_or_nat _ _ (by omega) (by omega), nb_take xs k h, nat_join 8 _ _ (by omega) (by omega)]
set_option maxHeartbeats 800000 in
theorem read_any {w : World} {ok : Nat → Prop} {A : Option Addr} {xs : List UInt8} {c : Nat} (hx : Byt w ok A xs) (h0 : 0 < xs.length) (hm : xs.length ≤ 8) :
    Calls Tryd.prog 31 #[.slice A xs.length c] w fun e w' => e = .returned (.int .u64 (nb xs)) ∧ w = w' := by
  obtain ⟨ad, rfl, _, hcell⟩ := hx.some_ h0
  go_enter Tryd.func31, Tryd.ntmps31
  go_wp2
  go_loop [3, 8] (fun m i => ∃ k : Nat, k ≤ xs.length ∧ i = .int .i64 k ∧ m = .int .u64 (nb (xs.take k))) (fun _ i => xs.length - (intOf i).toNat)
  case atStart => exact ⟨0, Nat.zero_le _, rfl, rfl⟩
  case round =>
    obtain ⟨k, hk, rfl, rfl⟩ := hrel
    by_cases hlt : k < xs.length
    · have hc := hcell k hlt
      have hb := xs[k].toNat_lt
      have hs := read_or xs k hlt (by omega)
      clear hcell
      go_wp2
      go_round
      case rel => exact ⟨k + 1, by omega, by go_num, rfl⟩
      case measure => simp [intOf]; omega
    · clear hcell
      have h3 : xs.length ≤ k := by omega
      go_wp2
      go_ret
      have e : k = xs.length := by omega
      subst e
      rw [List.take_length]
      exact ⟨rfl, rfl⟩
/-- ys, its k last bytes those of a number. -/
def part (ys : List UInt8) (n k : Nat) : List UInt8 := (List.range ys.length).map fun j => if ys.length - k ≤ j then UInt8.ofNat (n / 256 ^ (ys.length - 1 - j)) else ys.getD j 0
theorem part_length (ys : List UInt8) (n k : Nat) : (part ys n k).length = ys.length := by simp [part]
theorem part_zero (ys : List UInt8) (n : Nat) : part ys n 0 = ys := by
  apply List.ext_getElem (by simp [part])
  intro j h1 h2
  simp only [part, List.getElem_map, List.getElem_range]
  rw [if_neg (by omega)]
  simp [h2]
theorem part_all (ys : List UInt8) (n : Nat) : part ys n ys.length = be ys.length n := by
  apply List.ext_getElem (by simp [part, be_length])
  intro j h1 h2
  rw [part_length] at h1
  rw [be_get ys.length n j h1]
  simp [part]
theorem part_step (ys : List UInt8) (n k : Nat) (h : k < ys.length) : (part ys n k).set (ys.length - 1 - k) (UInt8.ofNat (n / 256 ^ k)) = part ys n (k + 1) := by
  apply List.ext_getElem (by simp [part])
  intro j h1 h2
  rw [part_length] at h2
  simp only [List.getElem_set, part, List.getElem_map, List.getElem_range]
  by_cases e : ys.length - 1 - k = j
  · rw [if_pos e, if_pos (by omega), show ys.length - 1 - j = k by omega]
  · rw [if_neg e]
    by_cases h3 : ys.length - k ≤ j
    · rw [if_pos h3, if_pos (by omega)]
    · rw [if_neg h3, if_neg (by omega)]
theorem u8s_set (xs : List UInt8) (j : Nat) (x : UInt8) : (u8s xs).set j (.int .u8 (x.toNat : Int)) = u8s (xs.set j x) := by simp [u8s, List.map_set]
theorem set_mid {pre mid post : List Value} (j o : Nat) (v : Value) (ho : pre.length = o) (hj : j < mid.length) : (pre ++ mid ++ post).set (o + j) v = pre ++ mid.set j v ++ post := by
  subst ho
  rw [List.append_assoc, List.set_append_right _ _ (by omega), Nat.add_sub_cancel_left, List.set_append_left _ _ hj, List.append_assoc]
theorem pow8 (k : Nat) : (2 : Int) ^ (8 * k) = ((256 ^ k : Nat) : Int) := by
  rw [Int.pow_mul]; norm_cast
theorem shr_byte (n k : Nat) : (n : Int) / 2 ^ (8 * k) % 256 = ((UInt8.ofNat (n / 256 ^ k)).toNat : Int) := by
  rw [pow8, u8_ofNat, show (n : Int) / ((256 ^ k : Nat) : Int) = ((n / 256 ^ k : Nat) : Int) from rfl]
  omega
set_option maxHeartbeats 800000 in
theorem write_any {w : World} {g o c n : Nat} {ty : TypeId} {pre post : List Value} {ys : List UInt8} (hb : Blk w g ty (pre ++ u8s ys ++ post)) (ho : pre.length = o) (hl : ys.length ≤ 8) :
    Calls Tryd.prog 25 #[.slice (some ⟨g, o, none⟩) ys.length c, .int .u64 n] w fun e w' => e = .returned (.tuple #[]) ∧ Blk w' g ty (pre ++ u8s (be ys.length n) ++ post) ∧ w.grownBy w' (some g) ∧ w'.heap.size = w.heap.size := by
  go_enter Tryd.func25, Tryd.ntmps25
  go_wp2
  go_loopw [7] (fun i wr => ∃ k : Nat, k ≤ ys.length ∧ i = .int .i64 k ∧ Blk wr g ty (pre ++ u8s (part ys n k) ++ post) ∧ w.grownBy wr (some g) ∧ wr.heap.size = w.heap.size) (fun i _ => ys.length - (intOf i).toNat)
  case atStart => exact ⟨0, Nat.zero_le _, rfl, by rw [part_zero]; exact hb, World.grownBy.refl _ _, rfl⟩
  case round =>
    obtain ⟨k, hk, rfl, hbr, hgr, hsz⟩ := hrel
    clear hb
    by_cases hlt : k < ys.length
    · have hpl := part_length ys n k
      have hc := hbr.cell (o + (ys.length - 1 - k)) (by rw [List.length_append, List.length_append, u8s_length]; omega)
      have hf := hbr.frozen (o + (ys.length - 1 - k))
      have HB := Lib.hid hbr
      clear hbr
      go_wp2
      go_roundw

      case rel =>
        refine ⟨k + 1, by omega, by go_num, ?_, World.grownBy.trans hgr (grown_set _ _ _ _), (size_set _ _ _).trans hsz⟩
        have hs := HB.out.set (o + (ys.length - 1 - k)) (.int .u8 ((UInt8.ofNat (n / 256 ^ k)).toNat : Int))
        rw [set_mid _ _ _ ho (by rw [u8s_length]; omega), u8s_set, part_step ys n k hlt] at hs
        rw [shr_byte]
        exact hs
      case measure => simp [intOf]; omega
    · obtain rfl : k = ys.length := by omega
      rw [part_all] at hbr
      go_wp2
      go_end0
      exact ⟨rfl, hbr, hgr, hsz⟩
end Go.Proofs.YtgphopahlgfogaaDoor
