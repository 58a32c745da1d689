/- The reference's inverse and root, as the plain mathematics has them; bytes and numbers. Conditions: the number is below p. -/
import Derived.Test.YtoookolekpblhaaDoorNum13
import Derived.Test.YtoookolekpblhaaDoorFieldMath
namespace Go.Proofs.YtoookolekpblhaaDoor
open Go.RowKit
theorem fq_fp : fq = fp := by decide +kernel
theorem one_fq : 1 % fq = 1 := by decide
theorem two_fq : 2 % fq = 2 := by decide
theorem noRt_iff {a e2 : Nat} (he2 : e2 = (fq - 1) / 2) : noRt a e2 ↔ rootN a = none := by
  have h2 : (fp - 1) / 2 = e2 := by rw [he2, fq_fp]
  unfold noRt rootN
  rw [h2, one_fq, fq_fp]
  constructor
  · intro h
    rw [if_pos h]
  · intro h
    by_cases hc : a ≠ 0 ∧ a ^ e2 % fp ≠ 1
    · exact hc
    · rw [if_neg hc] at h
      split at h <;> cases h
theorem evn_ng {s : Nat} (h : s < fq) : (if s % 2 = 1 then ng s else s) = evn s := by
  unfold evn
  by_cases h1 : s % 2 = 1
  · rw [if_pos h1, if_pos h1]
    unfold ng
    rw [Nat.mod_eq_of_lt (by omega), fq_fp]
  · rw [if_neg h1, if_neg h1]
theorem rtB_lt (a e4 e8 : Nat) : rtB a e4 e8 < fq := by
  unfold rtB
  split
  · exact Nat.mod_lt _ fq_pos
  · exact Nat.mod_lt _ fq_pos
theorem rtC_is {a e2 e4 e8 : Nat} (he2 : e2 = (fq - 1) / 2) (he4 : e4 = e2 / 2) (he8 : e8 = fq / 2 / 2 / 2 + 1) (h : ¬ noRt a e2) : rootN a = some (rtC a e4 e8) := by
  have h2 : (fp - 1) / 2 = e2 := by rw [he2, fq_fp]
  have h8 : (fp + 3) / 8 = e8 := by rw [he8, fq_fp]; decide +kernel
  have h4 : (fp - 1) / 4 = e4 := by rw [he4, he2, fq_fp]; decide +kernel
  have hi : im = 2 ^ e4 % fp := im_is e4 h4.symm
  have hn : ¬ (a ≠ 0 ∧ a ^ e2 % fp ≠ 1) := by
    unfold noRt at h
    rwa [one_fq, fq_fp] at h
  unfold rtC
  rw [evn_ng (rtB_lt a e4 e8)]
  unfold rootN rtB rtA
  rw [h2, h8, if_neg hn, two_fq, fq_fp, hi]
  by_cases hc : a ^ e8 % fp * (a ^ e8 % fp) % fp = a
  · rw [if_pos hc, if_pos hc]
  · rw [if_neg hc, if_neg hc]
theorem root_ref (w : World) (a : Nat) (ha : a < fq) : Calls Tryd.prog 16 #[.agg (num (dgt a)).toArray] w fun r w' => w.grownBy w' none ∧ ((rootN a = none ∧ r = .returned (.tuple #[.agg (num (dgt 0)).toArray, .bool false])) ∨ (∃ s, rootN a = some s ∧ r = .returned (.tuple #[.agg (num (dgt s)).toArray, .bool true]))) := by
  obtain ⟨e, he⟩ : ∃ e, e = fq - 1 := ⟨_, rfl⟩
  obtain ⟨e2, he2⟩ : ∃ e2, e2 = e / 2 := ⟨_, rfl⟩
  obtain ⟨e4, he4⟩ : ∃ e4, e4 = e2 / 2 := ⟨_, rfl⟩
  obtain ⟨e8, he8⟩ : ∃ e8, e8 = fq / 2 / 2 / 2 + 1 := ⟨_, rfl⟩
  refine (root_any w a e e2 e4 e8 ha he he2 he4 he8).mono ?_
  rintro r w' ⟨hg, h⟩
  refine ⟨hg, ?_⟩
  rw [he] at he2
  rcases h with ⟨h1, h2⟩ | ⟨h1, h2⟩
  · exact .inl ⟨(noRt_iff he2).1 h1, h2⟩
  · exact .inr ⟨_, rtC_is he2 he4 he8 h1, h2⟩
/-- The inverse; 0 of 0. -/
def iv (x : Nat) : Nat := pw fp 256 x (fp - 2)
theorem iv_is (x e : Nat) (he : e = fq - 2) : iv x = x ^ e % fq := by
  unfold iv
  rw [show fp - 2 = e by rw [he, fq_fp], pw_is fp 256 x e (by rw [he]; decide +kernel), fq_fp]
theorem iv_lt (x : Nat) : iv x < fq := by
  rw [iv_is x (fq - 2) rfl]
  exact Nat.mod_lt _ fq_pos
theorem inv_ref (w : World) (x : Nat) (hx : x < fq) : Calls Tryd.prog 13 #[.agg (num (dgt x)).toArray] w fun r w' => r = .returned (.agg (num (dgt (iv x))).toArray) ∧ w.grownBy w' none := by
  obtain ⟨e, he⟩ : ∃ e, e = fq - 2 := ⟨_, rfl⟩
  rw [iv_is x e he]
  exact inv_any w x e hx he
theorem iv_mul {x : Nat} (h0 : x ≠ 0) (h : x < fq) : x * iv x % fq = 1 := by
  obtain ⟨e, he⟩ : ∃ e, e = fp - 2 := ⟨_, rfl⟩
  rw [iv_is x e (by rw [he, fq_fp]), fq_fp]
  have := inv_mul h0 (by rwa [fq_fp] at h)
  rwa [← he] at this
theorem iv_zero : 0 * iv 0 % fq = 0 := by rw [Nat.zero_mul, Nat.zero_mod]
/-- The number of a number's bytes is it. -/
theorem nb_bt {x : Nat} (h : x < 65536 ^ 16) : nb (bt x) = x := by
  apply dgs_inj (k := 16) (nb_lt _) h
  unfold dgs
  apply List.map_congr_left
  intro i hi
  have hi' : i < 16 := by simpa using hi
  rw [nb_dgt _ i hi', bt_low, bt_high]
  omega
/-- What bytes say. -/
def val (k : Fin 32 → UInt8) : Nat := nb k % t255 % fq
theorem val_lt (k : Fin 32 → UInt8) : val k < fq := Nat.mod_lt _ fq_pos
theorem fq_t255 : fq < t255 := by decide
theorem val_bt {x : Nat} (h : x < fq) : val (bt x) = x := by
  unfold val
  rw [nb_bt (lt16 h), Nat.mod_eq_of_lt (Nat.lt_trans h fq_t255), Nat.mod_eq_of_lt h]
theorem bt_inj {x y : Nat} (hx : x < fq) (hy : y < fq) (h : k32 (bt x) = k32 (bt y)) : x = y := by
  have h2 : nb (bt x) = nb (bt y) := by unfold nb; rw [h]
  rwa [nb_bt (lt16 hx), nb_bt (lt16 hy)] at h2
theorem bt_eq {x y : Nat} (hx : x < fq) (hy : y < fq) : (k32 (bt x) == k32 (bt y)) = decide (x = y) := by
  rw [Bool.eq_iff_iff]
  simp only [beq_iff_eq, decide_eq_true_eq]
  exact ⟨bt_inj hx hy, fun h => by rw [h]⟩
end Go.Proofs.YtoookolekpblhaaDoor
