/- Put, and its reference, write a number as just so many bytes, the greatest first, or nothing. Conditions: none. -/
import Derived.Test.YtonpcenjipigpaaOBytes
import Derived.Test.YtonpcenjipigpaaDBrn
import Derived.Test.YtonpcenjipigpaaDMath
import Derived.Test.YtonpcenjipigpaaDMem
namespace Go.Proofs.Ytonpcenjipigpaa
open Go.RowKit
/-- What a number's bytes are when its k last ones are written. -/
def part (s n k : Nat) : List UInt8 := (List.range s).map fun j => if s - k ≤ j then UInt8.ofNat (n / 256 ^ (s - 1 - j)) else 0
theorem part_length (s n k : Nat) : (part s n k).length = s := by simp [part]
theorem part_zero (s n : Nat) : part s n 0 = List.replicate s 0 := by
  apply List.ext_getElem (by simp [part])
  intro j h1 h2
  rw [part_length] at h1
  simp [part]
  omega
theorem part_all (s n : Nat) : part s n s = be s n := by
  apply List.ext_getElem (by simp [part, be_length])
  intro j h1 h2
  rw [part_length] at h1
  rw [be_get s n j h1]
  simp [part]
theorem part_step (s n k : Nat) (h : k < s) : (part s n k).set (s - 1 - k) (UInt8.ofNat (n / 256 ^ k)) = part s n (k + 1) := by
  apply List.ext_getElem (by simp [part])
  intro j h1 h2
  rw [part_length] at h2
  simp only [List.getElem_set, part, List.getElem_map, List.getElem_range]
  by_cases e : s - 1 - k = j
  · rw [if_pos e, if_pos (by omega), show s - 1 - j = k by omega]
  · rw [if_neg e]
    by_cases h3 : s - k ≤ j
    · rw [if_pos h3, if_pos (by omega)]
    · rw [if_neg h3, if_neg (by omega)]
theorem u8s_set (xs : List UInt8) (j : Nat) (x : UInt8) : (u8s xs).set j (.int .u8 (x.toNat : Int)) = u8s (xs.set j x) := by simp [u8s, List.map_set]
theorem made_u8 (s : Nat) : (madeCells #[Value.int .u8 0] s).toList = u8s (List.replicate s 0) := by
  rw [toList_madeCells_one]
  simp [u8s]
/-- Nothing is answered, and nothing has turned. -/
def noB : Ending := .returned (.tuple #[.slice none 0 0, .bool false])
/-- In new memory lies just xs; and 'yes'. -/
def YesB (w : World) (xs : List UInt8) (e : Ending) (w' : World) : Prop :=
  ∃ A c, e = .returned (.tuple #[.slice A xs.length c, .bool true]) ∧ xs.length ≤ c ∧ c ≤ maxLen ∧ Byt w' (fun b => w.heap.size ≤ b ∧ b < w'.heap.size) A xs ∧ Below w.heap.size w w'
theorem yesB_mk {w w' : World} {xs : List UInt8} {A : Option Addr} {n c : Nat} (hl : xs.length = n) (hc : n ≤ c) (hm : c ≤ maxLen) (hb : Byt w' (fun b => w.heap.size ≤ b ∧ b < w'.heap.size) A xs) (h : Below w.heap.size w w') :
    YesB w xs (.returned (.tuple #[.slice A n c, .bool true])) w' := by
  subst hl
  exact ⟨A, c, rfl, hc, hm, hb, h⟩
theorem pow8 (k : Nat) : (2 : Int) ^ (8 * k) = ((256 ^ k : Nat) : Int) := by
  rw [Int.pow_mul]; norm_cast
theorem shr_ne (n s : Nat) : ((n : Int) / 2 ^ (8 * s) != 0) = decide (256 ^ s ≤ n) := by
  rw [pow8, Bool.eq_iff_iff]
  have hp : 0 < 256 ^ s := Nat.pow_pos (by omega)
  have h : n / 256 ^ s = 0 ↔ n < 256 ^ s := Nat.div_eq_zero_iff_lt hp
  rw [show (n : Int) / ((256 ^ s : Nat) : Int) = ((n / 256 ^ s : Nat) : Int) from rfl, bne_iff_ne, decide_eq_true_iff]
  generalize n / 256 ^ s = q at h
  omega
theorem shr_byte (n k : Nat) : (n : Int) / 2 ^ (8 * k) % 256 = ((UInt8.ofNat (n / 256 ^ k)).toNat : Int) := by
  rw [pow8, u8_ofNat, show (n : Int) / ((256 ^ k : Nat) : Int) = ((n / 256 ^ k : Nat) : Int) from rfl]
  omega
set_option maxRecDepth 100000 in
set_option maxHeartbeats 800000 in
theorem put_yes (n s : Nat) (w : World) (h1 : 1 ≤ s) (h8 : s ≤ 8) (hn : n < 256 ^ s) :
    Calls Try.prog 70 #[.int .u64 n, .int .i64 s] w (YesB w (be s n)) := by
  have d1 : decide ((s : Int) < 1) = false := by simp; omega
  have d2 : decide (8 < (s : Int)) = false := by simp; omega
  have d3 : ((n : Int) / 2 ^ (8 * s) != 0) = false := by rw [shr_ne]; simpa using hn
  obtain ⟨i0, hi, hz0, hz1, hz2⟩ := info_parts Try.info5
  go_enter Try.func70, Try.ntmps70
  go_wp2_with (with_reducible refine wpList_make_full _ rfl _ _ 40 rfl w.heap.size 5 i0 (.int .u8 0) 1 Try.underlying40 hi hz0 hz1 .i64 .i64 _ _ s rfl rfl rfl rfl ?c1 ?c2 ?c3 ?_)
  case c1 => rw [hz2]; omega
  case c2 => unfold maxLen; omega
  case c3 => exact Nat.le_refl _
  intro w1 hown hgrow
  rw [made_u8, ← part_zero s n] at hown
  have hb1 : Below w.heap.size w w1 := (Below.refl _ _).grown hgrow (Nat.le_refl _) (fun _ h => by cases h)
  go_wp2
  go_loopw [25] (fun i wr => ∃ k : Nat, k ≤ s ∧ i = .int .i64 k ∧ wr.ownsRow w.heap.size 5 1 (.slice (some ⟨w.heap.size, 0, none⟩) s s) s (u8s (part s n k)) ∧ Below w.heap.size w wr) (fun i _ => s - (intOf i).toNat)
  case atStart => exact ⟨0, Nat.zero_le _, rfl, hown, hb1⟩
  case round =>
    obtain ⟨k, hk, rfl, ho, hb⟩ := hrel
    clear hown hgrow hb1
    by_cases hlt : k < s
    · have hc : wr.cell? ⟨w.heap.size, s - 1 - k, none⟩ = some (.int .u8 ((part s n k)[s - 1 - k]'(by rw [part_length]; omega)).toNat) := by
        rw [ho.cellAt (s - 1 - k) (by omega)]
        unfold u8s
        rw [List.getElem?_map, List.getElem?_eq_getElem (by rw [part_length]; omega)]
        rfl
      have hf := ho.frozenAt (s - 1 - k)
      go_wp2
      go_roundw
      case rel =>
        refine ⟨k + 1, by omega, by go_num, ?_, hb.setCell (Nat.le_refl _) _⟩
        have hs := (ho.stored (s - 1 - k) (.int .u8 ((UInt8.ofNat (n / 256 ^ k)).toNat : Int))).1
        rw [u8s_set, part_step s n k hlt] at hs
        rw [shr_byte]
        exact hs
      case measure => simp [intOf]; omega
    · obtain rfl : k = s := by omega
      rw [part_all] at ho
      obtain ⟨-, -, h4, h5⟩ := Byt.of_own ho
      have hl := be_length k n
      go_wp2
      go_ret2
      exact yesB_mk hl (Nat.le_refl _) h4 (h5.imp fun b hb => hb.2) hb
set_option maxRecDepth 100000 in
set_option maxHeartbeats 800000 in
theorem put_no (n : Nat) (s : Int) (w : World) (h : s < 1 ∨ 8 < s ∨ 256 ^ s.toNat ≤ n) :
    Calls Try.prog 70 #[.int .u64 n, .int .i64 s] w fun e w' => e = noB ∧ w = w' := by
  by_cases h1 : s < 1
  · have d1 : decide (s < 1) = true := by simpa using h1
    go_enter Try.func70, Try.ntmps70
    go_wp2
    go_ret2
    exact ⟨rfl, rfl⟩
  have d1 : decide (s < 1) = false := by simpa using h1
  by_cases h8 : 8 < s
  · have d2 : decide (8 < s) = true := by simpa using h8
    go_enter Try.func70, Try.ntmps70
    go_wp2
    go_ret2
    exact ⟨rfl, rfl⟩
  have d2 : decide (8 < s) = false := by simpa using h8
  obtain ⟨m, rfl⟩ : ∃ m : Nat, s = m := ⟨s.toNat, by omega⟩
  have hn : 256 ^ m ≤ n := by
    rcases h with h | h | h
    · omega
    · omega
    · simpa using h
  have d3 : ((n : Int) / 2 ^ (8 * m) != 0) = true := by rw [shr_ne]; simpa using hn
  clear h
  go_enter Try.func70, Try.ntmps70
  go_wp2
  go_ret2
  exact ⟨rfl, rfl⟩
/-- Just xs in new memory, if the number has room; else nothing. -/
def MayB (w : World) (n s : Nat) (e : Ending) (w' : World) : Prop := (n < 256 ^ s ∧ YesB w (be s n) e w') ∨ (256 ^ s ≤ n ∧ e = noB ∧ Below w.heap.size w w')
end Go.Proofs.Ytonpcenjipigpaa
