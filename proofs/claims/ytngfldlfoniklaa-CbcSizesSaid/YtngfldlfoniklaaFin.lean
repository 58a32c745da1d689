/- The six statements of layer 6. Conditions: none. -/
import Derived.Test.YtngfldlfoniklaaUnl
import Derived.Test.YtngfldlfoniklaaEnd
namespace Go.Proofs.Ytngfldlfoniklaa
open Go.RowKit
set_option maxRecDepth 100000 in
set_option maxHeartbeats 1600000 in
theorem unlock_none (w : World) (A : Option Addr) (n c : Nat) (h : n = 0 ∨ n % 16 ≠ 0) (k : Fin 32 → UInt8) (v : State) :
    Calls Try.prog 13 #[.agg (u8s (k32 k)).toArray, .agg (bytesOf v).toArray, .slice A n c] w fun e w' => w.grownBy w' none ∧ e = .returned (.tuple #[.slice none 0 0, .bool false]) := by
  have d1 : (n : Int).tmod 16 = (n : Int) % 16 := Int.tmod_eq_emod_of_nonneg (by omega)
  rcases h with rfl | h
  · go_enter Try.func13, Try.ntmps13
    go_wp2_with (first
      | (refine wpList_box22 rfl _ k rfl rfl ?_
         intro w1 hb1 hg1 hz1')
      | (refine wpList_box23 rfl _ v rfl rfl ?_
         intro w2 hb2 hg2 hz2')
      | fail)
    go_ret2
    exact ⟨World.grownBy.trans hg1 hg2, rfl⟩
  · have d2 : ¬ (n : Int) = 0 := by omega
    have d3 : ¬ (n : Int) % 16 = 0 := by omega
    go_enter Try.func13, Try.ntmps13
    go_wp2_with (first
      | (refine wpList_box22 rfl _ k rfl rfl ?_
         intro w1 hb1 hg1 hz1')
      | (refine wpList_box23 rfl _ v rfl rfl ?_
         intro w2 hb2 hg2 hz2')
      | fail)
    · go_ret2
      exact ⟨World.grownBy.trans hg1 hg2, rfl⟩
    · exact absurd (by assumption : ((n : Int) == 0) = false ∧ ((n : Int) % 16 != 0) = false).2 (by simpa using d3)
theorem cbcunlock_any : UnlockSays := by
  intro w ok A b n c hx hok hn hc hm hs k v
  by_cases h : n = 0 ∨ n % 16 ≠ 0
  · refine (unlock_none w A n c h k v).mono ?_
    rintro e w' ⟨hg, he⟩
    refine ⟨hg, .inr ⟨none, 0, ?_, he⟩⟩
    unfold unlockB
    rw [if_pos (by rw [hn]; exact h)]
  · have h0 : 0 < n := by omega
    have h16 : n % 16 = 0 := by omega
    obtain ⟨ad, rfl, _⟩ := hx.some_ (by omega)
    refine (unlock_some hx hok hn hc hs h0 h16 k v).mono ?_
    rintro e w' ⟨hg, g, hb, hbare⟩
    have hu : unlockB (kn (k32 k)) v b = unfill (toB (cbcU (aesUnlock (kn (k32 k))) v (ofB b))) := by
      unfold unlockB
      rw [if_neg (by rw [hn]; exact h)]
    have hlen : (toB (cbcU (aesUnlock (kn (k32 k))) v (ofB b))).length = n := by
      rw [toB_length, cbcU_length, ofB_length, hn]; omega
    refine ⟨hg, ?_⟩
    rcases hbare with ⟨s, h1, he, h2, h3⟩ | ⟨h1, he⟩
    · refine .inl ⟨s, some ⟨g, 0, none⟩, s.length, hu.trans h1, he, Nat.le_refl _, by unfold maxLen; omega, ?_⟩
      have hb2 := (byt_blk hb).take s.length
      rw [← h3] at hb2
      exact hb2.imp fun b e => by rw [e]; exact hb.lt
    · exact .inr ⟨none, 0, hu.trans h1, he⟩
theorem cbcsize_any : SizeSays := fun w n _ => size_any w n
theorem cbcLocks_holds : Rows.CbcLocksSaid := cbcLocks_over cbclock_any cbcunlock_any cbcsize_any
theorem cbcBack_holds : Rows.CbcBackSaid := cbcBack_over cbclock_any cbcunlock_any cbcsize_any
theorem cbcUnlocks_holds : Rows.CbcUnlocksSaid := cbcUnlocks_over cbclock_any cbcunlock_any cbcsize_any
theorem cbcCut_holds : Rows.CbcCutSaid := cbcCut_over cbclock_any cbcunlock_any cbcsize_any
theorem cbcSizes_holds : Rows.CbcSizesSaid := cbcSizes_over cbclock_any cbcunlock_any cbcsize_any
theorem cbcBegins_holds : Rows.CbcBeginsSaid := cbcBegins_over cbclock_any cbcunlock_any cbcsize_any
end Go.Proofs.Ytngfldlfoniklaa
