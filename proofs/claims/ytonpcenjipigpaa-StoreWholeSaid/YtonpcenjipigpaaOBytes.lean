/- Bytes tells whether two slices hold the same bytes; Clone copies a slice's bytes into new memory; Get and its reference read a number. Conditions: of Clone: at most 2^40 bytes. -/
import Derived.Test.YtonpcenjipigpaaOMem
import Derived.Test.YtonpcenjipigpaaDBrn
import Derived.Test.YtonpcenjipigpaaDMath
import Derived.Test.YtonpcenjipigpaaDMem
namespace Go.Proofs.Ytonpcenjipigpaa
open Go.RowKit
set_option maxHeartbeats 400000 in
theorem bytes_any {w : World} {ok ok' : Nat → Prop} {A B : Option Addr} {xs ys : List UInt8} {c d : Nat} (ha : Byt w ok A xs) (hb : Byt w ok' B ys) :
    Calls Try.prog 16 #[.slice A xs.length c, .slice B ys.length d] w fun e w' => e = .returned (.bool (decide (xs = ys))) ∧ w = w' := by
  have r1 := ha.str c
  have r2 := hb.str d
  go_enter Try.func16, Try.ntmps16
  go_wp2
  go_ret
  exact ⟨bool_end (by rw [Bool.eq_iff_iff]; simp), rfl⟩
/-- In new memory lies just xs. -/
def NewB (w : World) (xs : List UInt8) (e : Ending) (w' : World) : Prop :=
  ∃ A c, e = .returned (.slice A xs.length c) ∧ xs.length ≤ c ∧ c ≤ maxLen ∧ Byt w' (fun b => w.heap.size ≤ b ∧ b < w'.heap.size) A xs ∧ Below w.heap.size w w'
set_option maxHeartbeats 400000 in
theorem clone_any {w : World} {ok : Nat → Prop} {A : Option Addr} {xs : List UInt8} {c : Nat} (hx : Byt w ok A xs) (hok : ∀ b, ok b → b < w.heap.size) (hl : xs.length ≤ 1099511627776) :
    Calls Try.prog 30 #[.slice A xs.length c] w (NewB w xs) := by
  rcases A with _ | ad
  · have : xs = [] := by
      rcases xs with _ | ⟨x, xs⟩
      · rfl
      · obtain ⟨_, e, _⟩ := hx 0 (by simp)
        cases e
    subst this
    have r1 := fun w : World => Lib.run_eql_slice_nil (P := Try.prog) w 40 5 none 0 c 0 0 Try.underlying40
    simp only [List.length_nil]
    go_enter Try.func30, Try.ntmps30
    go_wp2
    go_ret
    exact ⟨none, 0, rfl, Nat.le_refl _, by unfold maxLen; omega, Byt.nil, Below.refl _ _⟩
  · obtain ⟨i0, hi, hz0, hz1, hz2⟩ := info_parts Try.info5
    have hx1 : Byt (w.alloc (.cells #[] 5)) ok (some ad) xs := hx.below (Below.alloc (Below.refl w.heap.size w) (Nat.le_refl _) _) hok
    have r1 := fun w : World => Lib.run_eql_slice_nil (P := Try.prog) w 40 5 (some ad) xs.length c 0 0 Try.underlying40
    go_enter Try.func30, Try.ntmps30
    go_wp2_with (at_builtin; refine wpList_append_byt _ rfl _ _ 40 rfl w.heap.size i0 (.int .u8 0) Try.underlying40 hi hz0 hz1 hz2 rfl _ 0 [] rfl (World.ownsRow_lit w #[] 0 (Nat.le_refl _) (Nat.zero_le _) rfl) ok (some ad) _ xs rfl hx1 ?c1 ?c2 ?_)
    case c1 => omega
    case c2 => simp
    intro v' w1 hown hgrow hat
    have hown' : w1.ownsRow w.heap.size 5 1 v' xs.length (u8s xs) := by simpa using hown
    clear hown
    obtain ⟨A', c', rfl, _, h1, h2, h3⟩ := own_form hown'
    go_wp2
    go_ret
    refine ⟨A', c', rfl, h1, h2, h3.imp fun b hb => hb.2, ?_⟩
    refine (((Below.refl _ _).alloc (Nat.le_refl _) _).grown hgrow (by simp) ?_)
    intro k hk
    simp [Value.ownBlock] at hk
    omega
/-- What Get answers. -/
def getV (xs : List UInt8) : Ending := if 1 ≤ xs.length ∧ xs.length ≤ 8 then .returned (.tuple #[.int .u64 (nb xs), .bool true]) else .returned (.tuple #[.int .u64 0, .bool false])
theorem getV_no {xs : List UInt8} (h : xs.length < 1 ∨ 8 < xs.length) : getV xs = .returned (.tuple #[.int .u64 0, .bool false]) := by rw [getV, if_neg (by omega)]
theorem getV_yes {xs : List UInt8} {k : Nat} (h1 : 1 ≤ xs.length) (h2 : xs.length ≤ 8) (hk : k = xs.length) : getV xs = .returned (.tuple #[.int .u64 (nb (xs.take k)), .bool true]) := by
  rw [getV, if_pos ⟨h1, h2⟩, hk, List.take_length]
theorem get_bd (xs : List UInt8) (k : Nat) (h8 : k < 8) : nb (xs.take k) < 72057594037927936 := by
  have h := nb_lt _ (xs.take k) rfl
  have hl : (xs.take k).length ≤ 7 := by rw [List.length_take]; omega
  have := Nat.pow_le_pow_right (n := 256) (by omega) hl
  omega
theorem get_or (xs : List UInt8) (k : Nat) (h : k < xs.length) (h8 : k < 8) :
    bits .or .u64 (IntKind.u64.wrap ((nb (xs.take k) : Int) * 256)) (xs[k].toNat : Int) = (nb (xs.take (k + 1)) : Int) := by
  have hb := xs[k].toNat_lt
  have hn := get_bd xs k h8
  rw [nb_take xs k h, IntWalk.u64_in _ (by omega), show (nb (xs.take k) : Int) * 256 = ((nb (xs.take k) * 256 : Nat) : Int) by omega, u64_or_nat _ _ (by omega) (by omega)]
  congr 1
  have := Nat.two_pow_add_eq_or_of_lt (i := 8) (b := xs[k].toNat) (by omega) (nb (xs.take k))
  rw [Nat.mul_comm, ← this]
theorem get_sum (xs : List UInt8) (k : Nat) (h : k < xs.length) (h8 : k < 8) :
    IntKind.u64.wrap (IntKind.u64.wrap ((nb (xs.take k) : Int) * 256) + (xs[k].toNat : Int)) = (nb (xs.take (k + 1)) : Int) := by
  have hb := xs[k].toNat_lt
  have hn := get_bd xs k h8
  rw [nb_take xs k h, IntWalk.u64_in ((nb (xs.take k) : Int) * 256) (by omega), IntWalk.u64_in _ (by omega)]
  omega
set_option maxRecDepth 100000 in
set_option maxHeartbeats 400000 in
theorem get_any {w : World} {ok : Nat → Prop} {A : Option Addr} {xs : List UInt8} {c : Nat} (hx : Byt w ok A xs) (hm : xs.length ≤ maxLen) :
    Calls Try.prog 67 #[.slice A xs.length c] w fun e w' => e = getV xs ∧ w = w' := by
  unfold maxLen at hm
  by_cases h1 : xs.length < 1
  · have d1 : decide ((xs.length : Int) < 1) = true := by simp; omega
    go_enter Try.func67, Try.ntmps67
    go_wp2
    go_ret2
    exact ⟨(getV_no (by omega)).symm, rfl⟩
  have d1 : decide ((xs.length : Int) < 1) = false := by simp; omega
  by_cases h2 : 8 < xs.length
  · have d2 : decide (8 < (xs.length : Int)) = true := by simp; omega
    go_enter Try.func67, Try.ntmps67
    go_wp2
    go_ret2
    exact ⟨(getV_no (by omega)).symm, rfl⟩
  have d2 : decide (8 < (xs.length : Int)) = false := by simp; omega
  obtain ⟨ad, rfl, _, hcell⟩ := hx.some_ (by omega)
  go_enter Try.func67, Try.ntmps67
  go_wp2
  go_loop [4, 17] (fun n i => ∃ k : Nat, k ≤ xs.length ∧ i = .int .i64 k ∧ n = .int .u64 (nb (xs.take k))) (fun _ i => xs.length - (intOf i).toNat)
  case atStart => exact ⟨0, Nat.zero_le _, rfl, rfl⟩
  case round =>
    obtain ⟨k, hk, rfl, rfl⟩ := hrel
    by_cases hlt : k < xs.length
    · have hc := hcell k hlt
      have hb := xs[k].toNat_lt
      have hs := get_or xs k hlt (by omega)
      clear hcell
      go_wp2
      go_round
      case rel => exact ⟨k + 1, by omega, by go_num, rfl⟩
      case measure => simp [intOf]; omega
    · clear hcell
      have h3 : xs.length ≤ k := by omega
      go_wp2
      go_ret2
      exact ⟨(getV_yes (by omega) (by omega) (by omega)).symm, rfl⟩
end Go.Proofs.Ytonpcenjipigpaa
