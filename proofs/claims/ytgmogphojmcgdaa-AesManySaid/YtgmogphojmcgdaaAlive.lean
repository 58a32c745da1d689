/- The document's example, as the laws ask for it. Conditions: none. -/
import Derived.Test.YtgmogphojmcgdaaRefNew
import Derived.Test.YtgmogphojmcgdaaAesKnown
namespace Go.Proofs.Ytgmogphojmcgdaa
open Go.RowKit
/-- A cipher of the code lies at g. -/
def Cip (w : World) (g : Nat) (ks : List UInt8) : Prop := Blk w g 39 (cph (tabS 256) (tabB 256) (fl 240 (kf ks) 240))
theorem Cip.grown {w w' : World} {g : Nat} {ks : List UInt8} (h : Cip w g ks) (hg : w.grownBy w' none) : Cip w' g ks := Blk.grown h hg (by simp)
theorem rks_kf (ks : List UInt8) : rks (kf ks) = rk (kws (kn ks) 60) := by
  funext n i
  exact (rk_kf ks n i).symm
theorem cnew_any (W : World) (k : Fin 32 → UInt8) : Calls Try.prog 8 #[.agg (u8s (k32 k)).toArray] W fun e w' => ∃ g, e = .returned (.pointer (some ⟨g, 0, none⟩)) ∧ Cip w' g (k32 k) ∧ W.grownBy w' none := (new_any W k).mono fun _ _ ⟨g, h1, h2, h3, _⟩ => ⟨g, h1, h2, h3⟩
theorem clock_any {W : World} {g : Nat} {ks : List UInt8} (h : Cip W g ks) (s : State) : Calls Try.prog 9 #[.pointer (some ⟨g, 0, none⟩), .agg (bytesOf s).toArray] W fun e w' => e = .returned (.agg (bytesOf (aesLock (kn ks) s)).toArray) ∧ W.grownBy w' none := by
  have := code_lock h s
  rw [rks_kf] at this
  exact this
theorem cunlock_any {W : World} {g : Nat} {ks : List UInt8} (h : Cip W g ks) (s : State) : Calls Try.prog 12 #[.pointer (some ⟨g, 0, none⟩), .agg (bytesOf s).toArray] W fun e w' => e = .returned (.agg (bytesOf (aesUnlock (kn ks) s)).toArray) ∧ W.grownBy w' none := by
  have := code_unlock h s
  rw [rks_kf] at this
  exact this
/-- The example's key and block. -/
def exKey (i : Nat) : UInt8 := UInt8.ofNat i
def exBl : State := fun j => UInt8.ofNat (j.val * 17)
theorem ex_bl : exBl = ofL exBlock := state_all (by decide +kernel)
theorem ex_key : fl 32 exKey 32 = k32 (fun i => exKey i.val) := by decide
theorem ex_kn : kn (k32 (fun i => exKey i.val)) = List.range 32 := by decide
theorem known0 : (aesLock (kn (k32 (fun i => exKey i.val))) exBl ⟨0, by decide⟩).toNat = 142 ∧ (aesLock (kn (k32 (fun i => exKey i.val))) exBl ⟨15, by decide⟩).toNat = 137 := by
  rw [ex_kn, ex_bl, aes_known]
  decide
theorem run_alloc22 (w : World) : (Instr.alloc 22 true (.tuple #[])).run Try.prog w = .ok (.pointer (some ⟨w.heap.size, 0, none⟩)) (w.alloc (.cells (u8s (fl 32 exKey 0)).toArray 22)) := by kernel_rfl
section
variable {w : World} {ops : Array Oper} {rest : List Oper} {o : Oper} {a : Act} {Q : Exit → Act → World → Prop}
theorem wpList_alloc22 (hgd : o.guard = none) (ho : o.op = .alloc 22)
    (h : ∀ w', Blk w' w.heap.size 22 (u8s (fl 32 exKey 0)) → w.grownBy w' none → w'.heap.size = w.heap.size + 1 → wpList Try.prog ops Q rest (a.put o.dst (.pointer (some ⟨w.heap.size, 0, none⟩))) w') : wpList Try.prog ops Q (o :: rest) a w := by
  refine wpList_plain hgd fun K hK => ?_
  have hrun := run_alloc22 w
  generalize u8s (fl 32 exKey 0) = z at hrun h
  unfold Oper.wp
  simp only [execOp, ho, Sem.run_bind, hrun, Result.andThen_ok, Sem.run_pure]
  exact hK _ _ (h _ (Blk.of_alloc w _ 22) (World.grownBy_alloc w _ none) (World.size_alloc w _))
end
theorem part_again (s t : State) (i : Nat) (h : i < 16) : putS (part (i + 1) s t) i (s ⟨i, h⟩) = part (i + 1) s t := by
  funext j
  unfold putS part
  by_cases e : j.val = i
  · have : j = ⟨i, h⟩ := Fin.ext e
    subst this
    simp
  · simp [e]
theorem half_set (s t : State) (i p : Nat) (hp : p = i / 2) (h : p < 16) : putS (part ((i + 1) / 2) s t) p (s ⟨p, h⟩) = part ((i + 1 + 1) / 2) s t := by
  rcases (show i % 2 = 0 ∨ i % 2 = 1 by omega) with e | e
  · rw [show (i + 1) / 2 = p by omega, show (i + 1 + 1) / 2 = p + 1 by omega]
    exact part_set s t p h
  · rw [show (i + 1) / 2 = p + 1 by omega, show (i + 1 + 1) / 2 = p + 1 by omega]
    exact part_again s t p h
set_option maxRecDepth 100000 in
set_option maxHeartbeats 1600000 in
theorem alive_any (w : World) : Calls Try.prog 7 #[] w fun e w' => e = .returned (.bool true) ∧ w.grownBy w' none := by
  go_enter Try.func7, Try.ntmps7
  go_wp2_with (refine wpList_alloc22 rfl rfl ?_)
  intro w1 hb1 hg1 hz1
  obtain ⟨gk, hgk⟩ : ∃ g, g = w.heap.size := ⟨_, rfl⟩
  rw [← hgk] at hb1 ⊢
  have HK1 := Lib.hid hb1
  have HG1 := Lib.hid hg1
  have hz1' : w1.heap.size = gk + 1 := by omega
  have HZ1 := Lib.hid hz1'
  have HGK := Lib.hid hgk
  clear hb1 hg1 hz1 hgk hz1'
  go_wp2_with (refine wpList_alloc23 rfl rfl ?_)
  intro w2 hb2 hg2 hz2
  obtain ⟨gb, hgb⟩ : ∃ g, g = w1.heap.size := ⟨_, rfl⟩
  rw [← hgb] at hb2 ⊢
  have hb2z : Blk w2 gb 23 (bytesOf (part 0 exBl zeroS)) := by rw [part_zero]; exact hb2
  have hne : gk ≠ gb := by have := HZ1.out; omega
  have HB2 := Lib.hid hb2z
  have HK2 := Lib.hid (HK1.out.grown hg2 (by simp))
  have HG2 := Lib.hid (World.grownBy.trans HG1.out hg2)
  have HWK : Hid (w.heap.size ≤ gk) := Lib.hid (by rw [HGK.out]; exact Nat.le_refl _)
  have HWB : Hid (w.heap.size ≤ gb) := Lib.hid (by have h1 := HZ1.out; have h2 := HGK.out; omega)
  have HNE := Lib.hid hne
  clear hb2 hb2z hg2 hz2 hgb HK1 HG1 hne
  go_wp2_with (fail)
  go_loopw [3] (fun v wr => ∃ i : Nat, i ≤ 32 ∧ v = .int .i64 (i : Int) ∧ Blk wr gk 22 (u8s (fl 32 exKey i)) ∧ Blk wr gb 23 (bytesOf (part ((i + 1) / 2) exBl zeroS)) ∧ w.grownBy wr none) (fun v _ => 32 - (intOf v).toNat)
  case atStart => exact ⟨0, by omega, rfl, HK2.out, HB2.out, HG2.out⟩
  case round =>
    clear HK2 HB2 HG2
    obtain ⟨i, hi, rfl, hk, hb, hg⟩ := hrel
    by_cases hlt : i < 32
    · obtain ⟨p, hp⟩ : ∃ p, p = i / 2 := ⟨_, rfl⟩
      have hp16 : p < 16 := by omega
      have c1 := hk.get i _ (u8s_at _ i (by rw [fl_length]; exact hlt))
      have f1 := hk.frozen i
      have hk2 := hk.set i (.int .u8 ((exKey i).toNat : Int))
      rw [u8s_set, fl_set] at hk2
      have v1 : ((exKey i).toNat : Int) = (i : Int) := by
        unfold exKey
        rw [UInt8.toNat_ofNat', Nat.mod_eq_of_lt (by omega)]
      have v2 : ((exBl ⟨p, hp16⟩).toNat : Int) = (p : Int) * 17 := by
        unfold exBl
        rw [UInt8.toNat_ofNat', Nat.mod_eq_of_lt (by show p * 17 < 256; omega)]
        push_cast
        rfl
      rw [v1] at hk2
      have hb2 : Blk (wr.setCell ⟨gk, i, none⟩ (.int .u8 (i : Int))) gb 23 (bytesOf (part ((i + 1) / 2) exBl zeroS)) := hb.grown (grown_set _ _ _ _) (fun e => HNE.out (Option.some.inj e).symm)
      have c2 := hb2.get p _ (bytesOf_get _ p hp16)
      have f2 := hb2.frozen p
      have hb3 := hb2.set p (.int .u8 ((exBl ⟨p, hp16⟩).toNat : Int))
      rw [bytesOf_set, half_set _ _ i p hp hp16, v2] at hb3
      have hk3 := hk2.grown (grown_set _ gb p (.int .u8 ((p : Int) * 17))) (fun e => HNE.out (Option.some.inj e))
      have hg3 : w.grownBy ((wr.setCell ⟨gk, i, none⟩ (.int .u8 (i : Int))).setCell ⟨gb, p, none⟩ (.int .u8 ((p : Int) * 17))) none :=
        World.grownBy.andThen (World.grownBy.andThen hg (grown_set _ _ _ _) (by rintro _ ⟨⟩; exact .inl HWK.out)) (grown_set _ _ _ _) (by rintro _ ⟨⟩; exact .inl HWB.out)
      generalize (part ((i + 1) / 2) exBl zeroS) ⟨p, hp16⟩ = old at c2
      have d1 : (i : Int).tdiv 2 = (p : Int) := by rw [Int.tdiv_eq_ediv_of_nonneg (by omega)]; omega
      have d2 : (i : Int) / 2 = (p : Int) := by omega
      have d3 := i64_keep p (by omega)
      have d4 : (p : Int) < 16 := by omega
      have d5 : IntKind.u8.wrap (i : Int) = (i : Int) := by rw [IntKind.wrap_u8]; omega
      have d6 : IntKind.i64.wrap ((p : Int) * 17) = (p : Int) * 17 := by rw [IntKind.wrap_i64]; omega
      have d7 : IntKind.u8.wrap ((p : Int) * 17) = (p : Int) * 17 := by rw [IntKind.wrap_u8]; omega
      have HK := Lib.hid hk3
      have HB := Lib.hid hb3
      have HG := Lib.hid hg3
      clear hk hb hg hk2 hb2 hb3 hk3 hg3 v1 v2 hp
      go_wp2
      go_roundw
      case rel => exact ⟨i + 1, by omega, by go_num, HK.out, HB.out, HG.out⟩
      case measure => simp [intOf]; omega
    · have ei : i = 32 := by omega
      subst ei
      rw [ex_key] at hk
      have hb' : Blk wr gb 23 (bytesOf exBl) := by
        have h : part ((32 + 1) / 2) exBl zeroS = exBl := part_all _ _
        rw [h] at hb
        exact hb
      have HK := Lib.hid hk
      have HB := Lib.hid hb'
      have HG := Lib.hid hg
      clear hk hb hb' hg hlt hi
      obtain ⟨L, hL⟩ : ∃ L, L = aesLock (kn (k32 fun i => exKey i.val)) exBl := ⟨_, rfl⟩
      have hkn := known0
      rw [← hL] at hkn
      have HL := Lib.hid hL
      have HKN := Lib.hid hkn
      clear hL hkn
      go_wp2_with (first
        | (refine wpList_load_mid rfl 22 _ rfl gk 0 rfl (u8s (k32 fun i => exKey i.val)) _ (range_blk HK.out) Try.underlying22 rfl (by rw [size22, u8s_length, k32_length]) ?_)
        | (go_at_call 8
           refine (cnew_any wr _).mono ?_
           rintro _ w3 ⟨g, rfl, hc3, hg3⟩
           have HC3 := Lib.hid hc3
           have HG3 := Lib.hid hg3
           clear hc3 hg3)
        | (refine wpList_load_mid rfl 23 _ rfl gb 0 rfl (bytesOf exBl) _ (range_blk (HB.out.grown HG3.out (by simp))) Try.underlying23 rfl (bytes_size' _) ?_)
        | (go_at_call 9
           refine (clock_any HC3.out exBl).mono ?_
           rintro _ w4 ⟨rfl, hg4⟩
           rw [← HL.out]
           have HG4 := Lib.hid hg4
           clear hg4)
        | (refine wpList_alloc23 rfl rfl ?_
           intro w5 hb5 hg5 hz5
           obtain ⟨gx, hgx⟩ : ∃ g, g = w4.heap.size := ⟨_, rfl⟩
           rw [← hgx] at hb5 ⊢
           have HB5 := Lib.hid hb5
           have HG5 := Lib.hid hg5
           have HGX : Hid (w4.heap.size ≤ gx) := Lib.hid (Nat.le_of_eq hgx.symm)
           clear hb5 hg5 hz5 hgx)
        | (refine wpList_store_row rfl 23 _ _ rfl gx (bytesOf L).toArray rfl rfl 23 _ HB5.out (bytes_size _) (bytes_same _ _) (all_oneCell_toArray (bytesOf_one _)) ?_
           obtain ⟨w6, hw6⟩ : ∃ w6, w6 = w5.setRow gx (bytesOf L).toArray := ⟨_, rfl⟩
           have hb6 : Blk w6 gx 23 (bytesOf L) := by rw [hw6]; exact Blk.setRow HB5.out
           have c0 := hb6.get 0 _ (bytesOf_get L 0 (by decide))
           have c15 := hb6.get 15 _ (bytesOf_get L 15 (by decide))
           rw [HKN.out.1] at c0
           rw [HKN.out.2] at c15
           have hg6 : w4.grownBy w6 none := by rw [hw6]; exact World.grownBy.andThen HG5.out (grown_setRow _ _ _) (by rintro _ ⟨⟩; exact .inl HGX.out)
           have HG6 := Lib.hid (World.grownBy.trans HG.out (World.grownBy.trans HG3.out (World.grownBy.trans HG4.out hg6)))
           rw [← hw6]
           clear hw6 hb6 hg6))
      go_ret
      exact ⟨rfl, HG6.out⟩
end Go.Proofs.Ytgmogphojmcgdaa
