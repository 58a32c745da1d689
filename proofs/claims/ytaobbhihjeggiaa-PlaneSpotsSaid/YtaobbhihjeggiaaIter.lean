/- The walk along the spiral hands each of the spots 0 to 4095 to the loop's body, in order, until the body says no more. Conditions: none. -/
import Derived.Test.YtaobbhihjeggiaaMath
import Derived.Test.YtaobbhihjeggiaaRows
import Derived.RangeFuncNested
import Derived.RangeFuncBound
import Derived.RangeFuncCalls
import Derived.RangeFuncLeaves
import Derived.Shelf.Abstract
import Derived.Shelf.RegionOpen
import Derived.WalkKit
import Derived.WalkLawsBesides
import Derived.OwnWalkIn
import Derived.TacticsInMore
import Derived.LoopNIn
import Derived.LoopIn
import Derived.Lib.Hide
namespace Go.Proofs.Ytaobbhihjeggiaa
open Go.RowKit Go.Shelf

attribute [local go_sem] Oper.semAt_some

/-- All of the spots below k have come. -/
def Upto (k : Nat) (pre : List (Fin 4096)) : Prop := pre.length = k ∧ ∀ j : Fin 4096, j.1 < k → j ∈ pre
theorem Upto.zero : Upto 0 [] := ⟨rfl, fun _ h => absurd h (Nat.not_lt_zero _)⟩
theorem Upto.succ {k : Nat} {pre : List (Fin 4096)} (h : Upto k pre) (hk : k < 4096) : Upto (k + 1) (pre ++ [⟨k, hk⟩]) := by
  refine ⟨by simp [h.1], fun j hj => ?_⟩
  by_cases e : j.1 = k
  · exact List.mem_append.2 (.inr (by simp [Fin.ext_iff, e]))
  · exact List.mem_append.2 (.inl (h.2 j (by omega)))
theorem Upto.all {pre : List (Fin 4096)} (h : Upto 4096 pre) (j : Fin 4096) : j ∈ pre := h.2 j j.2

def spotArgs (x : Fin 4096) : Array Value := #[.int .i64 (x.1 : Int), .complex .f64 (F (px x.1)) (F (py x.1))]

set_option maxRecDepth 100000 in
set_option maxHeartbeats 2000000 in
theorem walk1_in (Fe : Fence) (n : Nat) (h12 : Fe.fn 12) (hro : Fe.round = none) (l : Nat) (J Jx : List (Fin 4096) → World → Prop) (Kp : World → World → Prop)
    (hY : ∀ pre (x : Fin 4096) W, J pre W → pre.length < 4097 → YieldAt Fe (n - 1) Try.prog l #[.int .i64 (x.1 : Int), .complex .f64 (F (px x.1)) (F (py x.1))] W fun e W' =>
      (e = .returned (.bool true) ∧ J (pre ++ [x]) W' ∧ Kp W W') ∨ (e = .returned (.bool false) ∧ Jx (pre ++ [x]) W'))
    (hn : 1 ≤ n) (W : World) (h0 : J [] W) :
    CallsIn Fe n Try.prog 12 #[.func (.yield l) #[] #[]] W fun e W' => (∃ v, e = .returned v) ∧
      ((∃ ys, (∀ j : Fin 4096, j ∈ ys) ∧ J ys W') ∨ (∃ pre : List (Fin 4096), True ∧ Jx pre W')) := by
  refine callsIn_of_wp Try.func12 rfl h12 ?_ hro
  simp only [Try.ntmps12, List.size_toArray, List.length_cons, List.length_nil, Nat.reduceAdd, Nat.reduceSub, Array.replicate_succ, Array.replicate_zero, List.push_toArray, List.append_toArray, List.nil_append, List.cons_append]
  gi_wp2
  gi_loopw [2, 3, 4, 5] (fun vn vz vs vl wr => ∃ (L k : Nat) (pre : List (Fin 4096)), vl = .int .i64 L ∧ vn = .int .i64 k ∧ vz = .complex .f64 (F (px k)) (F (py k)) ∧ vs = .complex .f64 (sre (2 * L)) (sim (2 * L)) ∧
      1 ≤ L ∧ k ≤ 4096 ∧ lg k = 2 * L ∧ ix k = 0 ∧ Upto k pre ∧ J pre wr)
    (fun _ _ _ vl _ => 70 - (intOf vl).toNat)
  case atStart => exact ⟨1, 0, [], rfl, rfl, by kernel_rfl, by kernel_rfl, by omega, by omega, rfl, rfl, Upto.zero, h0⟩
  case round =>
    obtain ⟨L, k, pre, rfl, rfl, rfl, rfl, hL, hk, hlg, hix, hU, hJ⟩ := hrel
    obtain ⟨wo, rfl⟩ : ∃ wo : World, wo = wr := ⟨_, rfl⟩
    have hl2 := (good_at hk).l2
    gi_wp2
    gi_loopw [2, 3, 4, 8] (fun vn vz vs vh wr => ∃ (h k : Nat) (pre : List (Fin 4096)), vh = .int .i64 h ∧ vn = .int .i64 k ∧ vz = .complex .f64 (F (px k)) (F (py k)) ∧ vs = .complex .f64 (sre (2 * L + h)) (sim (2 * L + h)) ∧
        h ≤ 2 ∧ k ≤ 4096 ∧ lg k = 2 * L + h ∧ ix k = 0 ∧ Upto k pre ∧ J pre wr)
      (fun _ _ _ vh _ => 2 - (intOf vh).toNat)
    case atStart => exact ⟨0, k, pre, rfl, rfl, rfl, rfl, by omega, hk, hlg, hix, hU, hJ⟩
    case round =>
      clear hlg hix hU hJ hl2
      obtain ⟨h, k1, pre1, rfl, rfl, rfl, rfl, hh, hk1, hlg1, hix1, hU1, hJ1⟩ := hrel
      have hl2 := (good_at hk1).l2
      have hL2 : L ≤ 64 := by omega
      obtain ⟨wp, rfl⟩ : ∃ wp : World, wp = wr := ⟨_, rfl⟩
      have Hlg1 := Lib.hid hlg1
      have Hix1 := Lib.hid hix1
      clear hlg1 hix1 hl2
      by_cases hlt : h < 2
      · have hdh : decide ((h : Int) < 2) = true := by simp; omega
        gi_wp2
        gi_loopw [2, 3, 11] (fun vn vz vr wr => ∃ (r k : Nat) (pre : List (Fin 4096)), vr = .int .i64 r ∧ vn = .int .i64 k ∧ vz = .complex .f64 (F (px k)) (F (py k)) ∧
            r ≤ L ∧ k ≤ 4096 ∧ (r < L → lg k = 2 * L + h ∧ ix k = r) ∧ (r = L → lg k = 2 * L + h + 1 ∧ ix k = 0) ∧ Upto k pre ∧ J pre wr)
          (fun _ _ vr _ => L - (intOf vr).toNat)
        case atStart => exact ⟨0, k1, pre1, rfl, rfl, rfl, by omega, hk1, fun _ => ⟨Hlg1.out, Hix1.out⟩, fun e => by omega, hU1, hJ1⟩
        case round =>
          clear hU1 hJ1 Hlg1 Hix1
          obtain ⟨r, k2, pre2, rfl, rfl, rfl, hr, hk2, hA, hB, hU2, hJ2⟩ := hrel
          obtain ⟨wq, rfl⟩ : ∃ wq : World, wq = wr := ⟨_, rfl⟩
          by_cases hrl : r < L
          · have HA := Lib.hid (hA hrl)
            clear hA hB
            by_cases hend : k2 < 4096
            · obtain ⟨fn, tmps, assign, body, hy, hR⟩ := hY pre2 ⟨k2, hend⟩ wq hJ2 (by have := hU2.1; omega)
              dsimp only at hy
              have HU := Lib.hid hU2
              clear hU2
              have hs := sum_step hk2
              rw [HA.out.1] at hs
              have hadd := fun t w => run_complex_sum (P := Try.prog) w .add (Or.inl rfl) t .f64 _ _ _ _ _ _ hs
              have HS := Lib.hid hs
              clear hs
              have hdk : decide (4095 < (k2 : Int)) = false := by simp; omega
              gi_wp2
              refine hR.mono ?_
              rintro e W3 (⟨rfl, hJ3, hk3⟩ | ⟨rfl, hJx3⟩)
              · gi_wp2
                go_roundw
                case rel =>
                  have hx := HA.out
                  refine ⟨r + 1, k2 + 1, _, by go_num, by go_num, rfl, by omega, by omega, fun hlt2 => ?_, fun heq => ?_, HU.out.succ hend, hJ3⟩
                  · have := lg_in (k := k2) (by rw [hx.1, hx.2]; omega)
                    exact ⟨this.1.trans hx.1, this.2.trans (by rw [hx.2])⟩
                  · have := lg_out (k := k2) (by rw [hx.1, hx.2]; omega)
                    exact ⟨this.1.trans (by rw [hx.1]), this.2⟩
                case measure => simp [intOf]; omega
              · gi_wp2
                refine bodyPost_ret (results_none rfl _ _ _) rfl ?_
                exact ⟨⟨_, rfl⟩, .inr ⟨_, trivial, hJx3⟩⟩
            · have hdk : decide (4095 < (k2 : Int)) = true := by simp; omega
              gi_wp2
              refine ⟨fun _ h => (by cases h), ?_⟩
              gi_wp2
              refine bodyPost_ret (results_none rfl _ _ _) rfl ?_
              exact ⟨⟨_, rfl⟩, .inl ⟨pre2, fun j => hU2.2 j (by have := j.2; omega), hJ2⟩⟩
          · have HB := Lib.hid (hB (by omega))
            clear hA hB
            have hm := mul_step (leg := 2 * L + h) (by omega) (by omega)
            have hmul := fun t w => run_complex_mul (P := Try.prog) w t _ _ _ _ _ _ hm
            have HM := Lib.hid hm
            clear hm
            gi_wp2
            go_roundw
            case rel => exact ⟨h + 1, k2, pre2, by go_num, rfl, rfl, rfl, by omega, hk2, HB.out.1, HB.out.2, hU2, hJ2⟩
            case measure => simp [intOf]; omega
      · gi_wp2
        go_roundw
        case rel =>
          obtain rfl : h = 2 := by omega
          exact ⟨L + 1, k1, pre1, by go_num, rfl, rfl, rfl, by omega, hk1, Hlg1.out, Hix1.out, hU1, hJ1⟩
        case measure => simp [intOf]; omega

end Go.Proofs.Ytaobbhihjeggiaa
