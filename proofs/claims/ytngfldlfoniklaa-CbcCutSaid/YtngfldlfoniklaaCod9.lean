/- A block is unlocked by the code. Conditions: a cipher lies there. -/
import Derived.Test.YtngfldlfoniklaaCod8
namespace Go.Proofs.Ytngfldlfoniklaa
open Go.RowKit
set_option maxRecDepth 100000 in
set_option maxHeartbeats 3200000 in
theorem code_unlock {W : World} {g : Nat} {f : Nat → UInt8} (hb : Blk W g 49 (cph (tabS 256) (tabB 256) (fl 240 f 240))) (s : State) :
    Calls Try.prog 21 #[.pointer (some ⟨g, 0, none⟩), .agg (bytesOf s).toArray] W fun e w' => e = .returned (.agg (bytesOf (unlockS (rks f) s)).toArray) ∧ W.grownBy w' none := by
  obtain ⟨C, hC⟩ : ∃ C, C = cph (tabS 256) (tabB 256) (fl 240 f 240) := ⟨_, rfl⟩
  rw [← hC] at hb
  obtain ⟨s1, hs1⟩ : ∃ t, t = keyS (rks f 14) s := ⟨_, rfl⟩
  obtain ⟨s2, hs2⟩ : ∃ t, t = unsubS (unrowS s1) := ⟨_, rfl⟩
  obtain ⟨R, hR⟩ : ∃ t, t = unlockS (rks f) s := ⟨_, rfl⟩
  have hr : unrounds (rks f) 13 s2 = R := by rw [hR, hs2, hs1]; rfl
  rw [← hR]
  have HR := Lib.hid hr
  have HS1 := Lib.hid hs1
  have HS2 := Lib.hid hs2
  clear hr hs1 hs2 hR
  have hgl := hb.lt
  have HB := Lib.hid hb
  clear hb
  go_enter Try.func21, Try.ntmps21
  go_wp2_with (refine wpList_box23 rfl _ s rfl rfl ?_)
  intro w2 hb2 hg2 hz2
  go_wp2_with (refine wpList_alloc23 rfl rfl ?_)
  intro w3 hb3 hg3 hz3
  obtain ⟨gb, hgb⟩ : ∃ g, g = W.heap.size := ⟨_, rfl⟩
  obtain ⟨go, hgo⟩ : ∃ g, g = W.heap.size + 1 := ⟨_, rfl⟩
  rw [← hgo, ← hgb]
  rw [← hgb] at hb2
  rw [← hgo] at hb3
  have n1 : g ≠ gb := by omega
  have n2 : go ≠ gb := by omega
  have hw : W.heap.size ≤ gb := by omega
  have hwo : W.heap.size ≤ go := by omega
  have HL3 : Hid (Lk W g gb go C s w3) := Lib.hid ⟨HB.out.grown (World.grownBy.trans hg2 hg3) (by simp), hb2.grown hg3 (by simp), hb3, World.grownBy.trans hg2 hg3⟩
  have HADD : Hid (∀ (V : World) (t : State) (n : Nat), n ≤ 14 → Lk W g gb go C t V → Calls Try.prog 27 #[.pointer (some ⟨g, 0, none⟩), .pointer (some ⟨gb, 0, none⟩), .int .i64 (n : Int)] V fun e w' => e = .returned (.tuple #[]) ∧ Lk W g gb go C (keyS (rks f n) t) w') := Lib.hid fun V t n hn h =>
    (add_any (hC ▸ h.1) (tabS_length _) (tabB_length _) h.2.1 n1 n hn).mono fun e w' ⟨h1, h2, h3, _⟩ => ⟨h1, h.on h3 h2 n1 n2 hw⟩
  have HCH : Hid (∀ (V : World) (t : State), Lk W g gb go C t V → Calls Try.prog 33 #[.pointer (some ⟨g, 0, none⟩), .agg (bytesOf t).toArray] V fun e w' => e = .returned (.agg (bytesOf (unsubS (unrowS t))).toArray) ∧ Lk W g gb go C t w') := Lib.hid fun V t h =>
    (restore_any (hC ▸ h.1) (tabS_length _) t).mono fun e w' ⟨h1, h2⟩ => ⟨h1, h.new h2⟩
  have HMX : Hid (∀ (V : World) (t : State), Lk W g gb go C t V → Calls Try.prog 34 #[.pointer (some ⟨gb, 0, none⟩)] V fun e w' => e = .returned (.tuple #[]) ∧ Lk W g gb go C (unmixS t) w') := Lib.hid fun V t h =>
    (unmix_any h.2.1).mono fun e w' ⟨h1, h2⟩ => ⟨h1, h.on h2.2.1 h2.1 n1 n2 hw⟩
  have N1 := Lib.hid n1
  have N2 := Lib.hid n2
  have HW := Lib.hid hw
  have HWO := Lib.hid hwo
  clear hb2 hg2 hz2 hb3 hg3 hz3 hgb hgo HB hgl n1 n2 hw hwo hC
  go_wp2_with (first
    | (go_at_call 27; refine (HADD.out w3 s 14 (Nat.le_refl _) HL3.out).mono ?_; rintro _ w4 ⟨rfl, h4⟩; rw [← HS1.out] at h4)
    | (refine wpList_load_mid rfl 23 _ rfl gb 0 rfl (bytesOf s1) _ (bytesOf_range h4.2.1) Try.underlying23 rfl (bytes_size' s1) ?_)
    | (go_at_call 33; refine (HCH.out w4 s1 h4).mono ?_; rintro _ w5 ⟨rfl, h5⟩; rw [← HS2.out])
    | (refine wpList_store_row rfl 23 _ _ rfl gb (bytesOf s2).toArray rfl rfl 23 _ h5.2.1 (bytes_size _) (bytes_same _ _) (all_oneCell_toArray (bytesOf_one _)) ?_))
  have HL5 := Lib.hid (h5.row s2 N1.out N2.out HW.out)
  obtain ⟨w6, hw6⟩ : ∃ w6, w6 = w5.setRow gb (bytesOf s2).toArray := ⟨_, rfl⟩
  rw [← hw6] at HL5 ⊢
  clear h4 h5 hw6 HL3 HS1 HS2
  go_wp2_with (fail)
  go_loopw [5] (fun v wr => ∃ n : Nat, n ≤ 13 ∧ v = .int .i64 (n : Int) ∧ ∃ t, unrounds (rks f) n t = R ∧ Lk W g gb go C t wr) (fun v _ => (intOf v).toNat)
  case atStart => exact ⟨13, by omega, rfl, s2, HR.out, HL5.out⟩
  case round =>
    clear HL5 HR
    obtain ⟨n, hn, rfl, t, hr, h⟩ := hrel
    by_cases hlt : 0 < n
    · obtain ⟨t1, ht1⟩ : ∃ u, u = keyS (rks f n) t := ⟨_, rfl⟩
      obtain ⟨t2, ht2⟩ : ∃ u, u = unmixS t1 := ⟨_, rfl⟩
      obtain ⟨t3, ht3⟩ : ∃ u, u = unsubS (unrowS t2) := ⟨_, rfl⟩
      have hnext : unrounds (rks f) (n - 1) t3 = R := by
        rw [ht3, ht2, ht1, ← hr]
        obtain ⟨m, rfl⟩ : ∃ m, n = m + 1 := ⟨n - 1, by omega⟩
        rfl
      have HN := Lib.hid hnext
      have HL := Lib.hid h
      have HT1 := Lib.hid ht1
      have HT2 := Lib.hid ht2
      have HT3 := Lib.hid ht3
      clear h hnext ht1 ht2 ht3 hr
      go_wp2_with (first
        | (go_at_call 27; refine (HADD.out wr t n (by omega) HL.out).mono ?_; rintro _ w7 ⟨rfl, h7⟩; rw [← HT1.out] at h7)
        | (go_at_call 34; refine (HMX.out w7 t1 h7).mono ?_; rintro _ w8 ⟨rfl, h8⟩; rw [← HT2.out] at h8)
        | (refine wpList_load_mid rfl 23 _ rfl gb 0 rfl (bytesOf t2) _ (bytesOf_range h8.2.1) Try.underlying23 rfl (bytes_size' t2) ?_)
        | (go_at_call 33; refine (HCH.out w8 t2 h8).mono ?_; rintro _ w9 ⟨rfl, h9⟩; rw [← HT3.out])
        | (refine wpList_store_row rfl 23 _ _ rfl gb (bytesOf t3).toArray rfl rfl 23 _ h9.2.1 (bytes_size _) (bytes_same _ _) (all_oneCell_toArray (bytesOf_one _)) ?_))
      have H9 := Lib.hid (h9.row t3 N1.out N2.out HW.out)
      clear h7 h8 h9
      go_roundw
      case rel => exact ⟨n - 1, by omega, by go_num, t3, HN.out, H9.out⟩
      case measure => simp [intOf]; omega
    · have en : n = 0 := by omega
      subst en
      have hr' : R = keyS (rks f 0) t := hr.symm
      have HL := Lib.hid h
      have HN := Lib.hid hr'
      clear h hr hr' hlt hn
      go_wp2_with (first
        | (go_at_call 27; refine (HADD.out wr t 0 (by omega) HL.out).mono ?_; rintro _ w7 ⟨rfl, h7⟩; rw [← HN.out] at h7)
        | (refine wpList_load_mid rfl 23 _ rfl gb 0 rfl (bytesOf R) _ (bytesOf_range h7.2.1) Try.underlying23 rfl (bytes_size' _) ?_)
        | (refine wpList_store_row rfl 23 _ _ rfl go (bytesOf R).toArray rfl rfl 23 _ h7.2.2.1 (bytes_size _) (bytes_same _ _) (all_oneCell_toArray (bytesOf_one _)) ?_))
      exact bodyPost_ret (results_cell_row rfl _ _ go 23 (bytesOf R).toArray (0, 0) _ rfl (setRow_heap w7 go _ _ 23 (0, 0) h7.2.2.1) Try.underlying23 rfl (bytes_size _)) rfl ⟨rfl, World.grownBy.andThen h7.2.2.2 (grown_setRow _ _ _) (by rintro _ ⟨⟩; exact .inl HWO.out)⟩
end Go.Proofs.Ytngfldlfoniklaa
