/- What a slice of bytes, and a slice of slices of bytes, reads as in memory: how that is kept, made into a string, and appended. Conditions: none. -/
import Derived.Test.YtonpcenjipigpaaGreatZ3
import Derived.Test.YtonpcenjipigpaaGreatRows
import Derived.WalkKit
import Derived.WalkSpells
import Derived.WalkLawsBesides
import Derived.Maps.AppendAt
import Derived.IntWalk
import Derived.Lib.Hide
import Derived.Test.YtonpcenjipigpaaGreatZ2
import Derived.Test.YtonpcenjipigpaaGreatZ1
namespace Go.Proofs.YtonpcenjipigpaaGreat
open Go.RowKit
theorem Tryz.info40 : (Tryz.prog.info? 40).map (fun i => (i.zero, i.size, i.bytes)) = some (some (.slice none 0 0), 1, 24) := by kernel_rfl
section
variable {w w' : World} {ok ok' : Nat → Prop} {A : Option Addr} {xs : List UInt8}
end
/-- A list of bytes' slices lies at A, all of it in blocks that are 'ok'. -/
def Lst (w : World) (ok : Nat → Prop) (A : Option Addr) (ps : List (List UInt8)) : Prop :=
  ∀ j (h : j < ps.length), ∃ ad A' c', A = some ad ∧ ok ad.block ∧ w.cell? (ad.add j) = some (.slice A' ps[j].length c') ∧ ps[j].length ≤ c' ∧ c' ≤ maxLen ∧ Byt w ok A' ps[j]
section
variable {w w' : World} {ok ok' : Nat → Prop} {A : Option Addr} {ps : List (List UInt8)}
theorem Lst.nil : Lst w ok A [] := fun _ h => absurd h (by simp)
theorem Lst.imp (h : Lst w ok A ps) (hi : ∀ b, ok b → ok' b) : Lst w ok' A ps := fun j hj => by
  obtain ⟨ad, A', c', e, ho, hc, h1, h2, h3⟩ := h j hj
  exact ⟨ad, A', c', e, hi _ ho, hc, h1, h2, h3.imp hi⟩
theorem Lst.keep (h : Lst w ok A ps) (hk : ∀ b, ok b → w'.heap[b]? = w.heap[b]?) : Lst w' ok A ps := fun j hj => by
  obtain ⟨ad, A', c', e, ho, hc, h1, h2, h3⟩ := h j hj
  exact ⟨ad, A', c', e, ho, (World.cell?_of_block (by rw [block_of_plus]; exact hk _ ho)).trans hc, h1, h2, h3.keep hk⟩
theorem Lst.below {B : Nat} (h : Lst w ok A ps) (hb : Below B w w') (hok : ∀ b, ok b → b < B) : Lst w' ok A ps := h.keep fun b hbb => hb.block b (hok b hbb)
end
section
variable {P : Program} (w : World)
end
end Go.Proofs.YtonpcenjipigpaaGreat
/- Bytes tells whether two slices hold the same bytes; Clone copies a slice's bytes into new memory; Get and its reference read a number. Conditions: of Clone: at most 2^40 bytes. -/
namespace Go.Proofs.YtonpcenjipigpaaGreat
open Go.RowKit
set_option maxHeartbeats 400000 in
theorem bytes_any {w : World} {ok ok' : Nat → Prop} {A B : Option Addr} {xs ys : List UInt8} {c d : Nat} (ha : Byt w ok A xs) (hb : Byt w ok' B ys) :
    Calls Tryz.prog 21 #[.slice A xs.length c, .slice B ys.length d] w fun e w' => e = .returned (.bool (decide (xs = ys))) ∧ w = w' := by
  have r1 := ha.str c
  have r2 := hb.str d
  go_enter Tryz.func21, Tryz.ntmps21
  go_wp2
  go_ret
  exact ⟨bool_end (by rw [Bool.eq_iff_iff]; simp), rfl⟩
/-- In new memory lies just xs. -/
def NewB (w : World) (xs : List UInt8) (e : Ending) (w' : World) : Prop :=
  ∃ A c, e = .returned (.slice A xs.length c) ∧ xs.length ≤ c ∧ c ≤ maxLen ∧ Byt w' (fun b => w.heap.size ≤ b ∧ b < w'.heap.size) A xs ∧ Below w.heap.size w w'
set_option maxHeartbeats 400000 in
theorem clone_any {w : World} {ok : Nat → Prop} {A : Option Addr} {xs : List UInt8} {c : Nat} (hx : Byt w ok A xs) (hok : ∀ b, ok b → b < w.heap.size) (hl : xs.length ≤ 1099511627776) :
    Calls Tryz.prog 47 #[.slice A xs.length c] w (NewB w xs) := by
  rcases A with _ | ad
  · have : xs = [] := by
      rcases xs with _ | ⟨x, xs⟩
      · rfl
      · obtain ⟨_, e, _⟩ := hx 0 (by simp)
        cases e
    subst this
    have r1 := fun w : World => Lib.run_eql_slice_nil (P := Tryz.prog) w 40 5 none 0 c 0 0 Tryz.underlying40
    simp only [List.length_nil]
    go_enter Tryz.func47, Tryz.ntmps47
    go_wp2
    go_ret
    exact ⟨none, 0, rfl, Nat.le_refl _, by unfold maxLen; omega, Byt.nil, Below.refl _ _⟩
  · obtain ⟨i0, hi, hz0, hz1, hz2⟩ := info_parts Tryz.info5
    have hx1 : Byt (w.alloc (.cells #[] 5)) ok (some ad) xs := hx.below (Below.alloc (Below.refl w.heap.size w) (Nat.le_refl _) _) hok
    have r1 := fun w : World => Lib.run_eql_slice_nil (P := Tryz.prog) w 40 5 (some ad) xs.length c 0 0 Tryz.underlying40
    go_enter Tryz.func47, Tryz.ntmps47
    go_wp2_with (at_builtin; refine wpList_append_byt _ rfl _ _ 40 rfl w.heap.size i0 (.int .u8 0) Tryz.underlying40 hi hz0 hz1 hz2 rfl _ 0 [] rfl (World.ownsRow_lit w #[] 0 (Nat.le_refl _) (Nat.zero_le _) rfl) ok (some ad) _ xs rfl hx1 ?c1 ?c2 ?_)
    case c1 => omega
    case c2 => simp
    intro v' w1 hown hgrow hat
    have hown' : w1.ownsRow w.heap.size 5 1 v' xs.length (u8s xs) := by simpa using hown
    clear hown
    obtain ⟨A', c', rfl, _, h1, h2, h3⟩ := own_form hown'
    go_wp2
    go_ret
    refine ⟨A', c', rfl, h1, h2, h3.imp fun b hb => hb.2, ?_⟩
    refine (((Below.refl _ _).alloc (Nat.le_refl _) _).grown hgrow (by simp) ?_)
    intro k hk
    simp [Value.ownBlock] at hk
    omega
/-- What Get answers. -/
def getV (xs : List UInt8) : Ending := if 1 ≤ xs.length ∧ xs.length ≤ 8 then .returned (.tuple #[.int .u64 (nb xs), .bool true]) else .returned (.tuple #[.int .u64 0, .bool false])
theorem getV_no {xs : List UInt8} (h : xs.length < 1 ∨ 8 < xs.length) : getV xs = .returned (.tuple #[.int .u64 0, .bool false]) := by rw [getV, if_neg (by omega)]
theorem getV_yes {xs : List UInt8} {k : Nat} (h1 : 1 ≤ xs.length) (h2 : xs.length ≤ 8) (hk : k = xs.length) : getV xs = .returned (.tuple #[.int .u64 (nb (xs.take k)), .bool true]) := by
  rw [getV, if_pos ⟨h1, h2⟩, hk, List.take_length]
theorem get_bd (xs : List UInt8) (k : Nat) (h8 : k < 8) : nb (xs.take k) < 72057594037927936 := by
  have h := nb_lt _ (xs.take k) rfl
  have hl : (xs.take k).length ≤ 7 := by rw [List.length_take]; omega
  have := Nat.pow_le_pow_right (n := 256) (by omega) hl
  omega
theorem get_or (xs : List UInt8) (k : Nat) (h : k < xs.length) (h8 : k < 8) :
    bits .or .u64 (IntKind.u64.wrap ((nb (xs.take k) : Int) * 256)) (xs[k].toNat : Int) = (nb (xs.take (k + 1)) : Int) := by
  have hb := xs[k].toNat_lt
  have hn := get_bd xs k h8
  rw [nb_take xs k h, IntWalk.u64_in _ (by omega), show (nb (xs.take k) : Int) * 256 = ((nb (xs.take k) * 256 : Nat) : Int) by omega, u64_or_nat _ _ (by omega) (by omega)]
  congr 1
  have := Nat.two_pow_add_eq_or_of_lt (i := 8) (b := xs[k].toNat) (by omega) (nb (xs.take k))
  rw [Nat.mul_comm, ← this]
theorem get_sum (xs : List UInt8) (k : Nat) (h : k < xs.length) (h8 : k < 8) :
    IntKind.u64.wrap (IntKind.u64.wrap ((nb (xs.take k) : Int) * 256) + (xs[k].toNat : Int)) = (nb (xs.take (k + 1)) : Int) := by
  have hb := xs[k].toNat_lt
  have hn := get_bd xs k h8
  rw [nb_take xs k h, IntWalk.u64_in ((nb (xs.take k) : Int) * 256) (by omega), IntWalk.u64_in _ (by omega)]
  omega
set_option maxRecDepth 100000 in
set_option maxHeartbeats 400000 in
theorem get_any {w : World} {ok : Nat → Prop} {A : Option Addr} {xs : List UInt8} {c : Nat} (hx : Byt w ok A xs) (hm : xs.length ≤ maxLen) :
    Calls Tryz.prog 93 #[.slice A xs.length c] w fun e w' => e = getV xs ∧ w = w' := by
  unfold maxLen at hm
  by_cases h1 : xs.length < 1
  · have d1 : decide ((xs.length : Int) < 1) = true := by simp; omega
    go_enter Tryz.func93, Tryz.ntmps93
    go_wp2
    go_ret2
    exact ⟨(getV_no (by omega)).symm, rfl⟩
  have d1 : decide ((xs.length : Int) < 1) = false := by simp; omega
  by_cases h2 : 8 < xs.length
  · have d2 : decide (8 < (xs.length : Int)) = true := by simp; omega
    go_enter Tryz.func93, Tryz.ntmps93
    go_wp2
    go_ret2
    exact ⟨(getV_no (by omega)).symm, rfl⟩
  have d2 : decide (8 < (xs.length : Int)) = false := by simp; omega
  obtain ⟨ad, rfl, _, hcell⟩ := hx.some_ (by omega)
  go_enter Tryz.func93, Tryz.ntmps93
  go_wp2
  go_loop [4, 17] (fun n i => ∃ k : Nat, k ≤ xs.length ∧ i = .int .i64 k ∧ n = .int .u64 (nb (xs.take k))) (fun _ i => xs.length - (intOf i).toNat)
  case atStart => exact ⟨0, Nat.zero_le _, rfl, rfl⟩
  case round =>
    obtain ⟨k, hk, rfl, rfl⟩ := hrel
    by_cases hlt : k < xs.length
    · have hc := hcell k hlt
      have hb := xs[k].toNat_lt
      have hs := get_or xs k hlt (by omega)
      clear hcell
      go_wp2
      go_round
      case rel => exact ⟨k + 1, by omega, by go_num, rfl⟩
      case measure => simp [intOf]; omega
    · clear hcell
      have h3 : xs.length ≤ k := by omega
      go_wp2
      go_ret2
      exact ⟨(getV_yes (by omega) (by omega) (by omega)).symm, rfl⟩
end Go.Proofs.YtonpcenjipigpaaGreat
/- Put, and its reference, write a number as just so many bytes, the greatest first, or nothing. Conditions: none. -/
namespace Go.Proofs.YtonpcenjipigpaaGreat
open Go.RowKit
/-- What a number's bytes are when its k last ones are written. -/
def part (s n k : Nat) : List UInt8 := (List.range s).map fun j => if s - k ≤ j then UInt8.ofNat (n / 256 ^ (s - 1 - j)) else 0
theorem part_length (s n k : Nat) : (part s n k).length = s := by simp [part]
theorem part_zero (s n : Nat) : part s n 0 = List.replicate s 0 := by
  apply List.ext_getElem (by simp [part])
  intro j h1 h2
  rw [part_length] at h1
  simp [part]
  omega
theorem part_all (s n : Nat) : part s n s = be s n := by
  apply List.ext_getElem (by simp [part, be_length])
  intro j h1 h2
  rw [part_length] at h1
  rw [be_get s n j h1]
  simp [part]
theorem part_step (s n k : Nat) (h : k < s) : (part s n k).set (s - 1 - k) (UInt8.ofNat (n / 256 ^ k)) = part s n (k + 1) := by
  apply List.ext_getElem (by simp [part])
  intro j h1 h2
  rw [part_length] at h2
  simp only [List.getElem_set, part, List.getElem_map, List.getElem_range]
  by_cases e : s - 1 - k = j
  · rw [if_pos e, if_pos (by omega), show s - 1 - j = k by omega]
  · rw [if_neg e]
    by_cases h3 : s - k ≤ j
    · rw [if_pos h3, if_pos (by omega)]
    · rw [if_neg h3, if_neg (by omega)]
theorem u8s_set (xs : List UInt8) (j : Nat) (x : UInt8) : (u8s xs).set j (.int .u8 (x.toNat : Int)) = u8s (xs.set j x) := by simp [u8s, List.map_set]
theorem made_u8 (s : Nat) : (madeCells #[Value.int .u8 0] s).toList = u8s (List.replicate s 0) := by
  rw [toList_madeCells_one]
  simp [u8s]
/-- Nothing is answered, and nothing has turned. -/
def noB : Ending := .returned (.tuple #[.slice none 0 0, .bool false])
/-- In new memory lies just xs; and 'yes'. -/
def YesB (w : World) (xs : List UInt8) (e : Ending) (w' : World) : Prop :=
  ∃ A c, e = .returned (.tuple #[.slice A xs.length c, .bool true]) ∧ xs.length ≤ c ∧ c ≤ maxLen ∧ Byt w' (fun b => w.heap.size ≤ b ∧ b < w'.heap.size) A xs ∧ Below w.heap.size w w'
theorem yesB_mk {w w' : World} {xs : List UInt8} {A : Option Addr} {n c : Nat} (hl : xs.length = n) (hc : n ≤ c) (hm : c ≤ maxLen) (hb : Byt w' (fun b => w.heap.size ≤ b ∧ b < w'.heap.size) A xs) (h : Below w.heap.size w w') :
    YesB w xs (.returned (.tuple #[.slice A n c, .bool true])) w' := by
  subst hl
  exact ⟨A, c, rfl, hc, hm, hb, h⟩
theorem pow8 (k : Nat) : (2 : Int) ^ (8 * k) = ((256 ^ k : Nat) : Int) := by
  rw [Int.pow_mul]; norm_cast
theorem shr_ne (n s : Nat) : ((n : Int) / 2 ^ (8 * s) != 0) = decide (256 ^ s ≤ n) := by
  rw [pow8, Bool.eq_iff_iff]
  have hp : 0 < 256 ^ s := Nat.pow_pos (by omega)
  have h : n / 256 ^ s = 0 ↔ n < 256 ^ s := Nat.div_eq_zero_iff_lt hp
  rw [show (n : Int) / ((256 ^ s : Nat) : Int) = ((n / 256 ^ s : Nat) : Int) from rfl, bne_iff_ne, decide_eq_true_iff]
  generalize n / 256 ^ s = q at h
  omega
theorem shr_byte (n k : Nat) : (n : Int) / 2 ^ (8 * k) % 256 = ((UInt8.ofNat (n / 256 ^ k)).toNat : Int) := by
  rw [pow8, u8_ofNat, show (n : Int) / ((256 ^ k : Nat) : Int) = ((n / 256 ^ k : Nat) : Int) from rfl]
  omega
set_option maxRecDepth 100000 in
set_option maxHeartbeats 800000 in
theorem put_yes (n s : Nat) (w : World) (h1 : 1 ≤ s) (h8 : s ≤ 8) (hn : n < 256 ^ s) :
    Calls Tryz.prog 96 #[.int .u64 n, .int .i64 s] w (YesB w (be s n)) := by
  have d1 : decide ((s : Int) < 1) = false := by simp; omega
  have d2 : decide (8 < (s : Int)) = false := by simp; omega
  have d3 : ((n : Int) / 2 ^ (8 * s) != 0) = false := by rw [shr_ne]; simpa using hn
  obtain ⟨i0, hi, hz0, hz1, hz2⟩ := info_parts Tryz.info5
  go_enter Tryz.func96, Tryz.ntmps96
  go_wp2_with (with_reducible refine wpList_make_full _ rfl _ _ 40 rfl w.heap.size 5 i0 (.int .u8 0) 1 Tryz.underlying40 hi hz0 hz1 .i64 .i64 _ _ s rfl rfl rfl rfl ?c1 ?c2 ?c3 ?_)
  case c1 => rw [hz2]; omega
  case c2 => unfold maxLen; omega
  case c3 => exact Nat.le_refl _
  intro w1 hown hgrow
  rw [made_u8, ← part_zero s n] at hown
  have hb1 : Below w.heap.size w w1 := (Below.refl _ _).grown hgrow (Nat.le_refl _) (fun _ h => by cases h)
  go_wp2
  go_loopw [25] (fun i wr => ∃ k : Nat, k ≤ s ∧ i = .int .i64 k ∧ wr.ownsRow w.heap.size 5 1 (.slice (some ⟨w.heap.size, 0, none⟩) s s) s (u8s (part s n k)) ∧ Below w.heap.size w wr) (fun i _ => s - (intOf i).toNat)
  case atStart => exact ⟨0, Nat.zero_le _, rfl, hown, hb1⟩
  case round =>
    obtain ⟨k, hk, rfl, ho, hb⟩ := hrel
    clear hown hgrow hb1
    by_cases hlt : k < s
    · have hc : wr.cell? ⟨w.heap.size, s - 1 - k, none⟩ = some (.int .u8 ((part s n k)[s - 1 - k]'(by rw [part_length]; omega)).toNat) := by
        rw [ho.cellAt (s - 1 - k) (by omega)]
        unfold u8s
        rw [List.getElem?_map, List.getElem?_eq_getElem (by rw [part_length]; omega)]
        rfl
      have hf := ho.frozenAt (s - 1 - k)
      go_wp2
      go_roundw
      case rel =>
        refine ⟨k + 1, by omega, by go_num, ?_, hb.setCell (Nat.le_refl _) _⟩
        have hs := (ho.stored (s - 1 - k) (.int .u8 ((UInt8.ofNat (n / 256 ^ k)).toNat : Int))).1
        rw [u8s_set, part_step s n k hlt] at hs
        rw [shr_byte]
        exact hs
      case measure => simp [intOf]; omega
    · obtain rfl : k = s := by omega
      rw [part_all] at ho
      obtain ⟨-, -, h4, h5⟩ := Byt.of_own ho
      have hl := be_length k n
      go_wp2
      go_ret2
      exact yesB_mk hl (Nat.le_refl _) h4 (h5.imp fun b hb => hb.2) hb
set_option maxRecDepth 100000 in
set_option maxHeartbeats 800000 in
theorem put_no (n : Nat) (s : Int) (w : World) (h : s < 1 ∨ 8 < s ∨ 256 ^ s.toNat ≤ n) :
    Calls Tryz.prog 96 #[.int .u64 n, .int .i64 s] w fun e w' => e = noB ∧ w = w' := by
  by_cases h1 : s < 1
  · have d1 : decide (s < 1) = true := by simpa using h1
    go_enter Tryz.func96, Tryz.ntmps96
    go_wp2
    go_ret2
    exact ⟨rfl, rfl⟩
  have d1 : decide (s < 1) = false := by simpa using h1
  by_cases h8 : 8 < s
  · have d2 : decide (8 < s) = true := by simpa using h8
    go_enter Tryz.func96, Tryz.ntmps96
    go_wp2
    go_ret2
    exact ⟨rfl, rfl⟩
  have d2 : decide (8 < s) = false := by simpa using h8
  obtain ⟨m, rfl⟩ : ∃ m : Nat, s = m := ⟨s.toNat, by omega⟩
  have hn : 256 ^ m ≤ n := by
    rcases h with h | h | h
    · omega
    · omega
    · simpa using h
  have d3 : ((n : Int) / 2 ^ (8 * m) != 0) = true := by rw [shr_ne]; simpa using hn
  clear h
  go_enter Tryz.func96, Tryz.ntmps96
  go_wp2
  go_ret2
  exact ⟨rfl, rfl⟩
/-- Just xs in new memory, if the number has room; else nothing. -/
def MayB (w : World) (n s : Nat) (e : Ending) (w' : World) : Prop := (n < 256 ^ s ∧ YesB w (be s n) e w') ∨ (256 ^ s ≤ n ∧ e = noB ∧ Below w.heap.size w w')
end Go.Proofs.YtonpcenjipigpaaGreat
