/- OctetSplits: what any bytes say as pieces is the document's, with its error; what was taken joins to just those bytes. Conditions: none. -/
import Derived.Test.YtogikipoedbklaaJoins
namespace Go.Proofs.Ytogikipoedbklaa
open Go.RowKit

set_option maxHeartbeats 1000000 in
theorem splits_walk {w : World} {A : Option Addr} {b : List UInt8} {c : Nat} (hx : Byt w (fun g => g < w.heap.size) A b) (hc : b.length ≤ c) (hm : c ≤ maxLen) :
    Calls Try.prog 6 #[.slice A b.length c] w fun e w' => e = .returned (.bool true) ∧ Below w.heap.size w w' := by
  by_cases hgreat : 400000 < b.length
  · have d1 : decide (400000 < (b.length : Int)) = true := by simp; omega
    go_enter Try.func6, Try.ntmps6
    go_wp2_with fail
    go_at_call 9
    refine (alive_any _).mono ?_
    rintro e w1 ⟨rfl, hb1⟩
    go_wp2
    go_ret
    exact ⟨rfl, hb1⟩
  have d1 : decide (400000 < (b.length : Int)) = false := by simp; omega
  obtain ⟨ps, err, hs⟩ : ∃ ps err, split b = (ps, err) := ⟨_, _, rfl⟩
  have hfit : Fit ps := by have := split_fit b; rw [hs] at this; exact this
  have hback : Hid (err = 0 → jn ps = b) := fun h0 => by
    have := (split_ok b (by rw [hs]; exact h0)).2
    rw [hs] at this
    exact this
  have HF := Lib.hid hfit
  have HS := Lib.hid hs
  have hjl : (jn ps).length ≤ 262273 := jn_length ps hfit
  obtain ⟨m, hpm⟩ : ∃ m, ps.length = m := ⟨_, rfl⟩
  obtain ⟨n, hn⟩ : ∃ n, (jn ps).length = n := ⟨_, rfl⟩
  have h64 : m ≤ 64 := by rw [← hpm]; exact hfit.1
  have HM := Lib.hid hpm
  have HN := Lib.hid hn
  rw [hn] at hjl
  clear hs hfit hpm hn
  have d2 : ((err : Int) != (err : Int)) = false := by simp
  go_enter Try.func6, Try.ntmps6
  go_wp2_with fail
  go_at_call 9
  refine (alive_any _).mono ?_
  rintro e w1 ⟨rfl, hb1⟩
  have hx1 := hx.below hb1 fun b hb => hb
  go_wp2_with fail
  go_at_call 19
  refine (split_n rfl hx1 (fun g hg => Nat.lt_of_lt_of_le hg hb1.size) hc hm HS.out HM.out).mono ?_
  rintro e w2 ⟨A2, c2, rfl, h21, h22, h23, h24⟩
  have hb2 : Below w.heap.size w w2 := hb1.trans (h24.mono hb1.size)
  have hx2 := hx1.below h24 fun b hb => Nat.lt_of_lt_of_le hb hb1.size
  go_wp2_with fail
  go_at_call 21
  refine (refsplit_any hx2 (fun g hg => Nat.lt_of_lt_of_le hg hb2.size) hc hm).mono ?_
  intro e w3 h3
  unfold SplitE at h3
  rw [HS.out] at h3
  obtain ⟨A3, c3, he, h31, h32, h33, h34⟩ := h3
  simp only [HM.out] at he
  subst he
  have hb3 : Below w.heap.size w w3 := hb2.trans (h34.mono hb2.size)
  have hx3 := hx2.below h34 fun b hb => Nat.lt_of_lt_of_le hb hb2.size
  have hl3 := h23.below h34 fun b hb => hb.2
  clear h31
  go_wp2_with fail
  go_at_call 20
  refine (lists_n HM.out HM.out hl3 h33 (by unfold maxLen; omega) (decide_eq_true rfl)).mono ?_
  rintro e w4 ⟨rfl, hd⟩
  have hb4 := below_told hb3 hd
  have hx4 : Byt w4 (fun g => g < w.heap.size) A b := by
    obtain ⟨k, rfl⟩ := hd
    exact hx3
  have hl4 : Lst w4 (fun g => w1.heap.size ≤ g ∧ g < w2.heap.size) A2 ps := by
    obtain ⟨k, rfl⟩ := hd
    exact hl3
  have hz4 : w2.heap.size ≤ w4.heap.size := by
    obtain ⟨k, rfl⟩ := hd
    exact h34.size
  clear hd
  go_wp2_with fail
  go_at_call 17
  refine (join_n hl4 (fun g hg => Nat.lt_of_lt_of_le hg.2 hz4) HF.out HM.out HN.out).mono ?_
  rintro e w5 ⟨A5, c5, rfl, h51, h52, h53, h54⟩
  have hb5 : Below w.heap.size w w5 := hb4.trans (h54.mono hb4.size)
  have hx5 := hx4.below h54 fun b hb => Nat.lt_of_lt_of_le hb hb4.size
  by_cases h0 : err = 0
  · have HB : Hid (jn ps = b) := hback.out h0
    subst h0
    go_wp2_with fail
    go_at_call 12
    refine (bytes_n (t := true) rfl HN.out hx5 h53 (by rw [HB.out]; exact decide_eq_true rfl)).mono ?_
    rintro e w6 ⟨rfl, rfl⟩
    go_wp2
    go_ret
    exact ⟨rfl, hb5⟩
  · have d5 : ((err : Int) != 0) = true := by simp; omega
    go_wp2
    go_ret
    exact ⟨rfl, hb5⟩

open Go.ChangeShapes Go.WideShapes Go.ChangeAt

set_option maxRecDepth 100000 in
theorem splits_lifted (os : Os) (started : os.Started) (H : Type) (enc : TypeId × Value → H) :
    ReturnsInHanded {} Try.checked os 6 .any (Rows.octetSplitsSpec.pre6 enc Try.prog Try.f6 Rows.octetSplitsRow.domain false) (Rows.octetSplitsSpec.post enc Try.prog Try.f6 false true false false) := by
  refine returnsInHanded_of_change (C := Try.checked) own_knob started (by kernel_rfl) Try.func6
    (ChangeSpec.witness6 (enc := enc) (C := Try.checked) false ⟨#[], #[.slice none 0 0], []⟩ 8 (by kernel_rfl) (by kernel_rfl) (by kernel_rfl) (by kernel_rfl)) ?_
  intro W base args ds gs before hval0 hW _ _
  have hval : ∀ (j : Nat) t v, Try.f6.params[j]? = some t → args[j]? = some v → Value.okWide Try.prog W .any base t v := hval0
  have hW' := hW
  obtain ⟨p, q, hA0, hV, rfl, _, _⟩ := hW
  have hA : DataW.TrodAll enc Try.prog W 0 (fun _ => true) true Try.f6.params.toList args.toList ds p := hA0
  rw [Try.params6] at hA hval
  obtain ⟨v0, vs0, d0, ds0, p0, q0, hargs, rfl, rfl, h0, r0⟩ := trodAll_cons hA
  obtain ⟨rfl, rfl, rfl⟩ := trodAll_nil r0
  obtain rfl : args = #[v0] := by cases args; simp_all
  obtain ⟨rfl, rfl⟩ := trodVars_none hV
  obtain ⟨A, b, c, rfl, hc, hm, hx⟩ := open_byt (hval 0 24 v0 rfl rfl) h0
  clear hA0 hval0
  simp only [List.append_nil] at hW'
  refine (splits_walk hx hc hm).mono fun e W' ⟨he, hg⟩ => ?_
  subst he
  refine ⟨_, rfl, ?_⟩
  have hback := Below.trod laid_out read24 row24 h0 hg (fun x hx => hW'.lt x hx)
  refine ⟨_, _, _, [], p0, [], hW', trodAll_mk1 (shut_bool Try.underlying4 true), trodAll_mk1 hback, rfl, hg.frame _, fun h => by cases h⟩

theorem splits_over : Rows.octetSplitsRow.holds Try.pinned (OpenSpec.ofChange Rows.octetSplitsSpec) :=
  OpenClaim.holds_of_wide 6 Try.f6 rfl rfl rfl rfl rfl rfl rfl ⟨rfl, rfl, rfl, rfl, rfl⟩ rfl rfl rfl rfl rfl (by kernel_rfl) Try.func6 (by kernel_rfl)
    (of_decide_eq_true (by kernel_rfl)) (by unfold Func.isWrapper; first | (rw [if_pos (by decide +kernel)]; kernel_rfl) | (rw [if_neg (by decide +kernel)]; exact ⟨rfl, rfl⟩))
    (fun os started H enc _ => splits_lifted os started H enc)

theorem splits_holds : Rows.OctetSplitsSaid := splits_over
#print axioms splits_holds

end Go.Proofs.Ytogikipoedbklaa
