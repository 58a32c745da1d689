/- OctetNumbers: a number's bytes are the document's, and read back as it, whatever the number and the size are. Conditions: none. -/
import Derived.Test.YtogikipoedbklaaAlive
import Derived.ProofKit
import Derived.OpenShut
namespace Go.Proofs.Ytogikipoedbklaa
open Go.RowKit

theorem bytes_n {w : World} {ok ok' : Nat → Prop} {A B : Option Addr} {xs ys : List UInt8} {n m c d : Nat} (hn : xs.length = n) (hm : ys.length = m) (ha : Byt w ok A xs) (hb : Byt w ok' B ys) {t : Bool} (ht : decide (xs = ys) = t) :
    Calls Try.prog 12 #[.slice A n c, .slice B m d] w fun e w' => e = .returned (.bool t) ∧ w = w' := by
  subst hn; subst hm; subst ht; exact bytes_any ha hb

set_option maxHeartbeats 1000000 in
theorem numbers_no (n : Nat) (s : Int) (w : World) (h64 : n < 18446744073709551616) (h : s < 1 ∨ 8 < s ∨ 256 ^ s.toNat ≤ n) :
    Calls Try.prog 3 #[.int .u64 n, .int .i64 s] w fun e w' => e = .returned (.bool true) ∧ Below w.heap.size w w' := by
  have href : ∀ W : World, Calls Try.prog 11 #[.int .u64 n, .int .i64 s] W fun e w' => e = noB ∧ Below W.heap.size W w' := by
    intro W
    by_cases hs : s < 1 ∨ 8 < s
    · exact (refput_no n s W hs).mono fun e w' ⟨he, hw⟩ => ⟨he, hw ▸ Below.refl _ _⟩
    · obtain ⟨m, rfl⟩ : ∃ m : Nat, s = m := ⟨s.toNat, by omega⟩
      refine (refput_any n m W (by omega) (by omega) h64).mono ?_
      rintro e w' (⟨h1, _⟩ | ⟨_, h2, h3⟩)
      · have : 256 ^ m ≤ n := by
          rcases h with h | h | h
          · omega
          · omega
          · simpa using h
        omega
      · exact ⟨h2, h3⟩
  have H := Lib.hid h
  have HR := Lib.hid href
  clear h href
  go_enter Try.func3, Try.ntmps3
  go_wp2_with fail
  go_at_call 9
  refine (alive_any _).mono ?_
  rintro e w1 ⟨rfl, hb1⟩
  go_wp2_with fail
  go_at_call 10
  refine (put_no n s _ H.out).mono ?_
  rintro e w2 ⟨he, rfl⟩
  obtain rfl : e = .returned (.tuple #[.slice none 0 0, .bool false]) := he
  go_wp2_with fail
  go_at_call 11
  refine (HR.out _).mono ?_
  rintro e w2 ⟨he, hb2⟩
  obtain rfl : e = .returned (.tuple #[.slice none 0 0, .bool false]) := he
  go_wp2_with fail
  go_at_call 12
  refine (bytes_n (xs := []) (ys := []) (ok := fun _ => True) (ok' := fun _ => True) rfl rfl Byt.nil Byt.nil rfl).mono ?_
  rintro e w3 ⟨rfl, rfl⟩
  go_wp2_with fail
  go_at_call 13
  refine (get_n (n := 0) (xs := []) (ok := fun _ => True) Byt.nil rfl (Nat.zero_le _)).mono ?_
  rintro e w3 ⟨he, rfl⟩
  obtain rfl : e = .returned (.tuple #[.int .u64 0, .bool false]) := he
  go_wp2
  go_ret
  exact ⟨rfl, hb1.trans (hb2.mono hb1.size)⟩

set_option maxHeartbeats 1000000 in
theorem numbers_yes (n s : Nat) (w : World) (h64 : n < 18446744073709551616) (h1 : 1 ≤ s) (h8 : s ≤ 8) (hn : n < 256 ^ s) :
    Calls Try.prog 3 #[.int .u64 n, .int .i64 s] w fun e w' => e = .returned (.bool true) ∧ Below w.heap.size w w' := by
  have HN := Lib.hid hn
  clear hn
  have hget : Hid (getV (be s n) = .returned (.tuple #[.int .u64 n, .bool true])) := by
    show getV (be s n) = _
    rw [getV, be_length, if_pos ⟨h1, h8⟩, nb_be, Nat.mod_eq_of_lt HN.out]
  go_enter Try.func3, Try.ntmps3
  go_wp2_with fail
  go_at_call 9
  refine (alive_any _).mono ?_
  rintro e w1 ⟨rfl, hb1⟩
  go_wp2_with fail
  go_at_call 10
  refine (put_yes n s _ h1 h8 HN.out).mono ?_
  intro e w2 h2
  obtain ⟨A2, c2, rfl, -, -, h23, h24⟩ := h2.n (be_length s n)
  clear h2
  go_wp2_with fail
  go_at_call 11
  refine (refput_any n s _ h1 h8 h64).mono ?_
  rintro e w3 (⟨_, h3⟩ | ⟨h, _⟩)
  · obtain ⟨A3, c3, rfl, -, -, h33, h34⟩ := h3.n (be_length s n)
    have x2 := h23.below h34 fun b hb => hb.2
    clear h3 h23
    go_wp2_with fail
    go_at_call 12
    refine (bytes_n (be_length s n) (be_length s n) x2 h33 (decide_eq_true rfl)).mono ?_
    rintro e w4 ⟨rfl, rfl⟩
    go_wp2_with fail
    go_at_call 13
    refine (get_n x2 (be_length s n) (by unfold maxLen; omega)).mono ?_
    rintro e w4 ⟨he, rfl⟩
    obtain rfl : e = .returned (.tuple #[.int .u64 n, .bool true]) := he.trans hget.out
    go_wp2
    go_ret
    exact ⟨rfl, hb1.trans ((h24.trans (h34.mono h24.size)).mono hb1.size)⟩
  · have := HN.out
    omega

open Go.ChangeShapes Go.WideShapes Go.ChangeAt

theorem numbers_walk (n s : Int) (w : World) (h0 : 0 ≤ n) (h64 : n < 18446744073709551616) :
    Calls Try.prog 3 #[.int .u64 n, .int .i64 s] w fun e w' => e = .returned (.bool true) ∧ Below w.heap.size w w' := by
  obtain ⟨m, rfl⟩ : ∃ m : Nat, n = m := ⟨n.toNat, by omega⟩
  by_cases h : s < 1 ∨ 8 < s ∨ 256 ^ s.toNat ≤ m
  · exact numbers_no m s w (by omega) h
  · obtain ⟨k, rfl⟩ : ∃ k : Nat, s = k := ⟨s.toNat, by omega⟩
    exact numbers_yes m k w (by omega) (by omega) (by omega) (by simpa using (show ¬ 256 ^ ((k : Int).toNat) ≤ m from fun hh => h (.inr (.inr hh))))

theorem own_knob : ownKnob Try.prog.godebug = none := by kernel_rfl

set_option maxRecDepth 100000 in
theorem numbers_lifted (os : Os) (started : os.Started) (H : Type) (enc : TypeId × Value → H) :
    ReturnsInHanded {} Try.checked os 3 .any (Rows.octetNumbersSpec.pre6 enc Try.prog Try.f3 Rows.octetNumbersRow.domain false) (Rows.octetNumbersSpec.post enc Try.prog Try.f3 false true false false) := by
  refine returnsInHanded_of_change (C := Try.checked) own_knob started (by kernel_rfl) Try.func3
    (ChangeSpec.witness6 (enc := enc) (C := Try.checked) false ⟨#[], #[.int .u64 0, .int .i64 0], []⟩ 8 (by kernel_rfl) (by kernel_rfl) (by kernel_rfl) (by kernel_rfl)) ?_
  intro W base args ds gs before hval0 hW _ _
  have hval : ∀ (j : Nat) t v, Try.f3.params[j]? = some t → args[j]? = some v → Value.okWide Try.prog W .any base t v := hval0
  have hW' := hW
  obtain ⟨p, q, hA0, hV, rfl, _, _⟩ := hW
  have hA : DataW.TrodAll enc Try.prog W 0 (fun _ => true) true Try.f3.params.toList args.toList ds p := hA0
  rw [Try.params3] at hA hval
  obtain ⟨v0, vs0, d0, ds0, p0, q0, hargs, rfl, rfl, h0, r0⟩ := trodAll_cons hA
  obtain ⟨v1, vs1, d1, ds1, p1, q1, rfl, rfl, rfl, h1, r1⟩ := trodAll_cons r0
  obtain ⟨rfl, rfl, rfl⟩ := trodAll_nil r1
  obtain rfl : args = #[v0, v1] := by cases args; simp_all
  obtain ⟨rfl, rfl⟩ := trodVars_none hV
  obtain ⟨a0, rfl, rfl, rfl, w0⟩ := open_int Try.underlying22 (hval 0 22 v0 rfl rfl) h0
  obtain ⟨a1, rfl, rfl, rfl, w1⟩ := open_int Try.underlying3 (hval 1 3 v1 rfl rfl) h1
  clear hA0 hval0
  simp only [List.append_nil] at hW'
  have hwf : 0 ≤ a0 ∧ a0 < 18446744073709551616 := by
    simp [Lit.wf, IntKind.min, IntKind.max, IntKind.bits, IntKind.signed] at w0
    omega
  refine (numbers_walk a0 a1 W hwf.1 hwf.2).mono fun e W' ⟨he, hg⟩ => ?_
  subst he
  refine ⟨_, rfl, ?_⟩
  refine ⟨_, _, _, [], [], [], hW', trodAll_mk1 (shut_bool Try.underlying4 true), trodAll_mk2 (shut_int Try.underlying22 w0) (shut_int Try.underlying3 w1), rfl, hg.frame _, fun h => by cases h⟩

theorem numbers_over : Rows.octetNumbersRow.holds Try.pinned (OpenSpec.ofChange Rows.octetNumbersSpec) :=
  OpenClaim.holds_of_wide 3 Try.f3 rfl rfl rfl rfl rfl rfl rfl ⟨rfl, rfl, rfl, rfl, rfl⟩ rfl rfl rfl rfl rfl (by kernel_rfl) Try.func3 (by kernel_rfl)
    (of_decide_eq_true (by kernel_rfl)) (by unfold Func.isWrapper; first | (rw [if_pos (by decide +kernel)]; kernel_rfl) | (rw [if_neg (by decide +kernel)]; exact ⟨rfl, rfl⟩))
    (fun os started H enc _ => numbers_lifted os started H enc)

theorem numbers_holds : Rows.OctetNumbersSaid := numbers_over
#print axioms numbers_holds

end Go.Proofs.Ytogikipoedbklaa
