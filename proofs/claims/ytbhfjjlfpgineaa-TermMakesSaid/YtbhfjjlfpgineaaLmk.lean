/- TermMakes, walked. Conditions: MaxLen holds some number. -/
import Derived.Test.YtbhfjjlfpgineaaPre
namespace Go.Proofs.Ytbhfjjlfpgineaa
open Go.RowKit

set_option maxRecDepth 100000 in
set_option maxHeartbeats 4000000 in
theorem makes_walk {w : World} {ok : Nat → Prop} {A : Option Addr} {l : List Opn} {ln c : Nat} (hx : Opns w ok A l) (hok : ∀ b, ok b → b < w.heap.size) (hln : l.length = ln) (hm : ln ≤ maxLen) (hM : Mx w) :
    Calls Try.prog 3 #[.slice A ln c] w fun e w' => e = .returned (.bool true) ∧ Below w.heap.size w w' := by
  have HX := Lib.hid hx
  have HOK := Lib.hid hok
  have HLN := Lib.hid hln
  have HMX := Lib.hid hM
  have HM := Lib.hid hm
  clear hx hok hln hM hm
  go_enter Try.func3, Try.ntmps3
  go_wp2_with fail
  go_at_call 8
  refine (alive_any HMX.out).mono ?_
  rintro _ w1 ⟨rfl, hb1⟩
  go_wp2_with fail
  go_at_call 9
  refine (new_any w1).mono ?_
  rintro _ w2 ⟨tb, rfl, _, ht2, hb2⟩
  have hbo := both_new (w0 := w) (hb1.size) ht2
  have hb3 : Below w.heap.size w (w2.alloc (.cells #[.slice none 0 0] 29)) := (hb1.trans (hb2.mono hb1.size)).alloc (Nat.le_trans hb1.size hb2.size) _
  have hp := play_any (c := c) hbo hb3.size (HX.out.keep fun b hb => hb3.block b (HOK.out b hb)) HOK.out HLN.out HM.out
  obtain ⟨rb, hrb⟩ : ∃ rb, w2.heap.size = rb := ⟨_, rfl⟩
  rw [hrb] at hp
  obtain ⟨T, hT⟩ : ∃ T, playT l (min 80 ln) = T := ⟨_, rfl⟩
  rw [hT] at hp
  have HP := Lib.hid hp
  have HB3 := Lib.hid hb3
  clear ht2 hb2 hb1 hbo hb3 hp hT
  go_wp2_with fail
  clear hrb
  go_at_call 10
  refine HP.out.mono ?_
  rintro _ w3 ⟨rfl, hbo, hb4⟩
  have HBO := Lib.hid hbo
  have HB := Lib.hid (HB3.out.trans hb4)
  clear HP HB3 hb4 hbo
  obtain ⟨N, hN⟩ : ∃ N, T.length = N := ⟨_, rfl⟩
  have hNm : N ≤ 65535 := by rw [← hN]; exact HBO.out.max
  have HN := Lib.hid hN
  clear hN
  go_wp2_with fail
  go_loopg [5] N (fun G p wr => ∃ i : Nat, p = .int .i64 i ∧ i ≤ N ∧ N - i ≤ G ∧ Hid (Below w.heap.size w wr) ∧ Hid (Both w.heap.size wr tb rb T))
  case atStart => exact ⟨0, rfl, by omega, by omega, HB.out, HBO.out⟩
  case round =>
    obtain ⟨i, rfl, hiN, hgk, hb, hbo⟩ := hrel
    have HGK := Lib.hid hgk
    obtain ⟨A1, c1, k1, _, _, hel⟩ := hbo.out.lists
    rw [HN.out] at k1
    rcases Nat.lt_or_ge i N with hlt | hge
    · have hiT : i < T.length := by rw [HN.out]; exact hlt
      obtain ⟨x, hx⟩ : ∃ x, T[i] = x := ⟨_, rfl⟩
      have hnm := refname_any (i + 1) wr (by omega)
      rw [show (((i + 1 : Nat)) : Int) = (i : Int) + 1 from rfl] at hnm
      have HNM := Lib.hid hnm
      have HXI := Lib.hid hx
      clear hel hnm hx
      go_wp2_with fail
      go_at_call 12
      refine HNM.out.mono ?_
      rintro _ w4 ⟨rfl, hb4⟩
      have HB4 := Lib.hid (hb.out.trans (hb4.mono hb.out.size))
      have HBO4 := Lib.hid (hbo.out.up hb4)
      have hof := HBO4.out.of hiT
      rw [HXI.out] at hof
      have HOF := Lib.hid hof
      clear hb4 hof k1
      go_wp2_with fail
      go_at_call 11
      refine HOF.out.mono ?_
      rintro _ w5 ⟨A5, c5, rfl, hl5, hb5⟩
      have HB5 := Lib.hid (HB4.out.trans (hb5.mono HB4.out.size))
      have HBO5 := Lib.hid (HBO4.out.up hb5)
      have HL5 := Lib.hid hl5
      obtain ⟨A6, c6, k6, q1, q2, hel⟩ := HBO5.out.lists
      obtain ⟨g, A7, c7, rfl, k7, k8, hl7⟩ := hel i hiT
      rw [HXI.out] at k7 k8 hl7
      rw [HN.out] at k6 q1
      have hfit := HBO5.out.good T[i] (List.getElem_mem hiT)
      rw [HXI.out] at hfit
      have hpm : x.2.length ≤ maxLen := by have := hfit.2.2.1; unfold maxLen; omega
      have hli := lists_any (c := c5) (d := c7) HL5.out hl7 hpm
      rw [show decide (x.2 = x.2) = true from by simp] at hli
      obtain ⟨pn, hpn⟩ : ∃ pn, x.2.length = pn := ⟨_, rfl⟩
      obtain ⟨kd, hkd⟩ : ∃ kd, x.1 = kd := ⟨_, rfl⟩
      rw [hpn] at k8 hli ⊢
      rw [hkd] at k7 ⊢
      have HLI := Lib.hid hli
      clear hb5 hl5 hel hl7 hli hfit hpm hpn hkd HOF HNM HXI HL5
      unfold maxLen at q2
      have dk : ((kd : Int) != (kd : Int)) = false := by simp
      go_wp2_with fail
      go_at_call 13
      refine HLI.out.mono ?_
      rintro _ _ ⟨rfl, nq, rfl⟩
      have HB6 := Lib.hid (below_dN HB5.out nq)
      have HBO6 := Lib.hid (HBO5.out.drewN nq)
      clear k6 k7 k8 dk q1 q2
      go_wp2_with fail
      go_roundg (N - (i + 1))
      case measure => have := HGK.out; omega
      case rel => exact ⟨i + 1, rfl, by omega, Nat.le_refl _, HB6.out, HBO6.out⟩
    · obtain rfl : N = i := by omega
      have d0 : ¬ ((N : Int) < (N : Int)) := by omega
      clear hel
      go_wp2_with fail
      go_ret
      exact ⟨rfl, hb.out⟩
end Go.Proofs.Ytbhfjjlfpgineaa
