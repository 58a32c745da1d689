/- A block is locked by the code. Conditions: a cipher lies there. A block is unlocked by the code. Conditions: a cipher lies there. The bytes of the round keys, one behind the other: how each comes of those ahead of it. Conditions: the key has 32 bytes. -/
import Derived.Test.YtkbffponemihoaaGreatDoorCe
import Derived.Test.YtkbffponemihoaaGreatDoorCd
namespace Go.Proofs.YtkbffponemihoaaGreatDoor.C
open Go.RowKit
/-- A cipher, a block under way, and the answer's place. -/
def Lk (W : World) (g gb go : Nat) (C : List Value) (s : State) (V : World) : Prop := Blk V g 107 C ∧ Blk V gb 48 (bytesOf s) ∧ Blk V go 48 (bytesOf zeroS) ∧ W.grownBy V none
section
variable {W V V' : World} {g gb go : Nat} {C : List Value} {s t : State}
theorem Lk.on (h : Lk W g gb go C s V) (hg : V.grownBy V' (some gb)) (hb : Blk V' gb 48 (bytesOf t)) (n1 : g ≠ gb) (n2 : go ≠ gb) (hw : W.heap.size ≤ gb) : Lk W g gb go C t V' :=
  ⟨h.1.grown hg (fun e => n1 (Option.some.inj e)), hb, h.2.2.1.grown hg (fun e => n2 (Option.some.inj e)), World.grownBy.andThen h.2.2.2 hg (by rintro _ ⟨⟩; exact .inl hw)⟩
theorem Lk.new (h : Lk W g gb go C s V) (hg : V.grownBy V' none) : Lk W g gb go C s V' :=
  ⟨h.1.grown hg (by simp), h.2.1.grown hg (by simp), h.2.2.1.grown hg (by simp), World.grownBy.trans h.2.2.2 hg⟩
theorem Lk.row (h : Lk W g gb go C s V) (t : State) (n1 : g ≠ gb) (n2 : go ≠ gb) (hw : W.heap.size ≤ gb) : Lk W g gb go C t (V.setRow gb (bytesOf t).toArray) :=
  h.on (grown_setRow _ _ _) (Blk.setRow h.2.1) n1 n2 hw
end
theorem bytes_size (s : State) : (Tryz.prog.info? 48).map (·.size) = some (bytesOf s).toArray.size := by rw [size23, List.size_toArray, bytesOf_length]
theorem bytes_size' (s : State) : (Tryz.prog.info? 48).map (·.size) = some (bytesOf s).length := by rw [size23, bytesOf_length]
theorem bytes_same (s t : State) : (bytesOf t).toArray.size = (bytesOf s).toArray.size := by simp [bytesOf_length]
/-- The round keys out of the bytes. -/
def rks (f : Nat → UInt8) (n : Nat) : State := fun i => f (16 * n + i.val)
set_option maxRecDepth 100000 in
set_option maxHeartbeats 3200000 in
theorem code_lock {W : World} {g : Nat} {f : Nat → UInt8} (hb : Blk W g 107 (cph (tabS 256) (tabB 256) (fl 240 f 240))) (s : State) :
    Calls Tryz.prog 48 #[.pointer (some ⟨g, 0, none⟩), .agg (bytesOf s).toArray] W fun e w' => e = .returned (.agg (bytesOf (lockS (rks f) s)).toArray) ∧ W.grownBy w' none := by
  obtain ⟨C, hC⟩ : ∃ C, C = cph (tabS 256) (tabB 256) (fl 240 f 240) := ⟨_, rfl⟩
  rw [← hC] at hb
  have hgl := hb.lt
  have HB := Lib.hid hb
  clear hb
  go_enter Tryz.func48, Tryz.ntmps48
  go_wp2_with (refine wpList_box23 rfl _ s rfl rfl ?_)
  intro w2 hb2 hg2 hz2
  go_wp2_with (refine wpList_alloc23 rfl rfl ?_)
  intro w3 hb3 hg3 hz3
  obtain ⟨gb, hgb⟩ : ∃ g, g = W.heap.size := ⟨_, rfl⟩
  obtain ⟨go, hgo⟩ : ∃ g, g = W.heap.size + 1 := ⟨_, rfl⟩
  rw [← hgo, ← hgb]
  rw [← hgb] at hb2
  rw [← hgo] at hb3
  have n1 : g ≠ gb := by omega
  have n2 : go ≠ gb := by omega
  have hw : W.heap.size ≤ gb := by omega
  have hwo : W.heap.size ≤ go := by omega
  have HL3 : Hid (Lk W g gb go C s w3) := Lib.hid ⟨HB.out.grown (World.grownBy.trans hg2 hg3) (by simp), hb2.grown hg3 (by simp), hb3, World.grownBy.trans hg2 hg3⟩
  have HADD : Hid (∀ (V : World) (t : State) (n : Nat), n ≤ 14 → Lk W g gb go C t V → Calls Tryz.prog 68 #[.pointer (some ⟨g, 0, none⟩), .pointer (some ⟨gb, 0, none⟩), .int .i64 (n : Int)] V fun e w' => e = .returned (.tuple #[]) ∧ Lk W g gb go C (keyS (rks f n) t) w') := Lib.hid fun V t n hn h =>
    (add_any (hC ▸ h.1) (tabS_length _) (tabB_length _) h.2.1 n1 n hn).mono fun e w' ⟨h1, h2, h3, _⟩ => ⟨h1, h.on h3 h2 n1 n2 hw⟩
  have HCH : Hid (∀ (V : World) (t : State), Lk W g gb go C t V → Calls Tryz.prog 69 #[.pointer (some ⟨g, 0, none⟩), .agg (bytesOf t).toArray] V fun e w' => e = .returned (.agg (bytesOf (rowS (subS t))).toArray) ∧ Lk W g gb go C t w') := Lib.hid fun V t h =>
    (change_any (hC ▸ h.1) t).mono fun e w' ⟨h1, h2⟩ => ⟨h1, h.new h2⟩
  have HMX : Hid (∀ (V : World) (t : State), Lk W g gb go C t V → Calls Tryz.prog 70 #[.pointer (some ⟨gb, 0, none⟩)] V fun e w' => e = .returned (.tuple #[]) ∧ Lk W g gb go C (mixS t) w') := Lib.hid fun V t h =>
    (mix_any h.2.1).mono fun e w' ⟨h1, h2⟩ => ⟨h1, h.on h2.2.1 h2.1 n1 n2 hw⟩
  have N1 := Lib.hid n1
  have N2 := Lib.hid n2
  have HW := Lib.hid hw
  have HWO := Lib.hid hwo
  clear hb2 hg2 hz2 hb3 hg3 hz3 hgb hgo HB hgl n1 n2 hw hwo hC
  go_wp2_with (go_at_call 68; refine (HADD.out w3 s 0 (by omega) HL3.out).mono ?_; rintro _ w4 ⟨rfl, h4⟩)
  have HL4 := Lib.hid h4
  clear h4 HL3
  go_wp2_with (fail)
  go_loopw [5] (fun v wr => ∃ n : Nat, 1 ≤ n ∧ n ≤ 14 ∧ v = .int .i64 (n : Int) ∧ Lk W g gb go C (rounds (rks f) s (n - 1)) wr) (fun v _ => 14 - (intOf v).toNat)
  case atStart => exact ⟨1, by omega, by omega, rfl, HL4.out⟩
  case round =>
    clear HL4
    obtain ⟨n, hn1, hn, rfl, h⟩ := hrel
    by_cases hlt : n < 14
    · obtain ⟨t, ht⟩ : ∃ t, t = rounds (rks f) s (n - 1) := ⟨_, rfl⟩
      have hnext : rounds (rks f) s n = keyS (rks f n) (mixS (rowS (subS t))) := by
        rw [ht]
        obtain ⟨m, rfl⟩ : ∃ m, n = m + 1 := ⟨n - 1, by omega⟩
        rfl
      rw [← ht] at h
      have HN := Lib.hid hnext
      have HL := Lib.hid h
      clear h hnext ht
      go_wp2_with (first
        | (refine wpList_load_mid rfl 48 _ rfl gb 0 rfl (bytesOf t) _ (bytesOf_range HL.out.2.1) Tryz.underlying48 rfl (bytes_size' t) ?_)
        | (go_at_call 69; refine (HCH.out wr t HL.out).mono ?_; rintro _ w5 ⟨rfl, h5⟩)
        | (refine wpList_store_row rfl 48 _ _ rfl gb (bytesOf (rowS (subS t))).toArray rfl rfl 48 _ h5.2.1 (bytes_size _) (bytes_same _ _) (all_oneCell_toArray (bytesOf_one _)) ?_)
        | (go_at_call 70; refine (HMX.out _ _ (h5.row (rowS (subS t)) N1.out N2.out HW.out)).mono ?_; rintro _ w6 ⟨rfl, h6⟩)
        | (go_at_call 68; refine (HADD.out w6 _ n hn h6).mono ?_; rintro _ w7 ⟨rfl, h7⟩))
      rw [← HN.out] at h7
      have H7 := Lib.hid h7
      clear h5 h6 h7
      go_roundw
      case rel => exact ⟨n + 1, by omega, by omega, by go_num, by rw [Nat.add_sub_cancel]; exact H7.out⟩
      case measure => simp [intOf]; omega
    · have en : n = 14 := by omega
      subst en
      obtain ⟨t, ht⟩ : ∃ t, t = rounds (rks f) s 13 := ⟨_, rfl⟩
      have hnext : lockS (rks f) s = keyS (rks f 14) (rowS (subS t)) := by
        rw [ht]; rfl
      have h' : Lk W g gb go C t wr := by rw [ht]; exact h
      have HN := Lib.hid hnext
      have HL := Lib.hid h'
      clear h h' hnext ht hlt hn hn1
      go_wp2_with (first
        | (refine wpList_load_mid rfl 48 _ rfl gb 0 rfl (bytesOf t) _ (bytesOf_range HL.out.2.1) Tryz.underlying48 rfl (bytes_size' t) ?_)
        | (go_at_call 69; refine (HCH.out wr t HL.out).mono ?_; rintro _ w5 ⟨rfl, h5⟩)
        | (refine wpList_store_row rfl 48 _ _ rfl gb (bytesOf (rowS (subS t))).toArray rfl rfl 48 _ h5.2.1 (bytes_size _) (bytes_same _ _) (all_oneCell_toArray (bytesOf_one _)) ?_)
        | (go_at_call 68; refine (HADD.out _ _ 14 (Nat.le_refl _) (h5.row (rowS (subS t)) N1.out N2.out HW.out)).mono ?_; rintro _ w7 ⟨rfl, h7⟩; rw [← HN.out] at h7)
        | (refine wpList_load_mid rfl 48 _ rfl gb 0 rfl (bytesOf (lockS (rks f) s)) _ (bytesOf_range h7.2.1) Tryz.underlying48 rfl (bytes_size' _) ?_)
        | (refine wpList_store_row rfl 48 _ _ rfl go (bytesOf (lockS (rks f) s)).toArray rfl rfl 48 _ h7.2.2.1 (bytes_size _) (bytes_same _ _) (all_oneCell_toArray (bytesOf_one _)) ?_))
      exact bodyPost_ret (results_cell_row rfl _ _ go 48 (bytesOf (lockS (rks f) s)).toArray (0, 0) _ rfl (setRow_heap w7 go _ _ 48 (0, 0) h7.2.2.1) Tryz.underlying48 rfl (bytes_size _)) rfl ⟨rfl, World.grownBy.andThen h7.2.2.2 (grown_setRow _ _ _) (by rintro _ ⟨⟩; exact .inl HWO.out)⟩
open Go.RowKit
set_option maxRecDepth 100000 in
set_option maxHeartbeats 3200000 in
theorem code_unlock {W : World} {g : Nat} {f : Nat → UInt8} (hb : Blk W g 107 (cph (tabS 256) (tabB 256) (fl 240 f 240))) (s : State) :
    Calls Tryz.prog 60 #[.pointer (some ⟨g, 0, none⟩), .agg (bytesOf s).toArray] W fun e w' => e = .returned (.agg (bytesOf (unlockS (rks f) s)).toArray) ∧ W.grownBy w' none := by
  obtain ⟨C, hC⟩ : ∃ C, C = cph (tabS 256) (tabB 256) (fl 240 f 240) := ⟨_, rfl⟩
  rw [← hC] at hb
  obtain ⟨s1, hs1⟩ : ∃ t, t = keyS (rks f 14) s := ⟨_, rfl⟩
  obtain ⟨s2, hs2⟩ : ∃ t, t = unsubS (unrowS s1) := ⟨_, rfl⟩
  obtain ⟨R, hR⟩ : ∃ t, t = unlockS (rks f) s := ⟨_, rfl⟩
  have hr : unrounds (rks f) 13 s2 = R := by rw [hR, hs2, hs1]; rfl
  rw [← hR]
  have HR := Lib.hid hr
  have HS1 := Lib.hid hs1
  have HS2 := Lib.hid hs2
  clear hr hs1 hs2 hR
  have hgl := hb.lt
  have HB := Lib.hid hb
  clear hb
  go_enter Tryz.func60, Tryz.ntmps60
  go_wp2_with (refine wpList_box23 rfl _ s rfl rfl ?_)
  intro w2 hb2 hg2 hz2
  go_wp2_with (refine wpList_alloc23 rfl rfl ?_)
  intro w3 hb3 hg3 hz3
  obtain ⟨gb, hgb⟩ : ∃ g, g = W.heap.size := ⟨_, rfl⟩
  obtain ⟨go, hgo⟩ : ∃ g, g = W.heap.size + 1 := ⟨_, rfl⟩
  rw [← hgo, ← hgb]
  rw [← hgb] at hb2
  rw [← hgo] at hb3
  have n1 : g ≠ gb := by omega
  have n2 : go ≠ gb := by omega
  have hw : W.heap.size ≤ gb := by omega
  have hwo : W.heap.size ≤ go := by omega
  have HL3 : Hid (Lk W g gb go C s w3) := Lib.hid ⟨HB.out.grown (World.grownBy.trans hg2 hg3) (by simp), hb2.grown hg3 (by simp), hb3, World.grownBy.trans hg2 hg3⟩
  have HADD : Hid (∀ (V : World) (t : State) (n : Nat), n ≤ 14 → Lk W g gb go C t V → Calls Tryz.prog 68 #[.pointer (some ⟨g, 0, none⟩), .pointer (some ⟨gb, 0, none⟩), .int .i64 (n : Int)] V fun e w' => e = .returned (.tuple #[]) ∧ Lk W g gb go C (keyS (rks f n) t) w') := Lib.hid fun V t n hn h =>
    (add_any (hC ▸ h.1) (tabS_length _) (tabB_length _) h.2.1 n1 n hn).mono fun e w' ⟨h1, h2, h3, _⟩ => ⟨h1, h.on h3 h2 n1 n2 hw⟩
  have HCH : Hid (∀ (V : World) (t : State), Lk W g gb go C t V → Calls Tryz.prog 78 #[.pointer (some ⟨g, 0, none⟩), .agg (bytesOf t).toArray] V fun e w' => e = .returned (.agg (bytesOf (unsubS (unrowS t))).toArray) ∧ Lk W g gb go C t w') := Lib.hid fun V t h =>
    (restore_any (hC ▸ h.1) (tabS_length _) t).mono fun e w' ⟨h1, h2⟩ => ⟨h1, h.new h2⟩
  have HMX : Hid (∀ (V : World) (t : State), Lk W g gb go C t V → Calls Tryz.prog 79 #[.pointer (some ⟨gb, 0, none⟩)] V fun e w' => e = .returned (.tuple #[]) ∧ Lk W g gb go C (unmixS t) w') := Lib.hid fun V t h =>
    (unmix_any h.2.1).mono fun e w' ⟨h1, h2⟩ => ⟨h1, h.on h2.2.1 h2.1 n1 n2 hw⟩
  have N1 := Lib.hid n1
  have N2 := Lib.hid n2
  have HW := Lib.hid hw
  have HWO := Lib.hid hwo
  clear hb2 hg2 hz2 hb3 hg3 hz3 hgb hgo HB hgl n1 n2 hw hwo hC
  go_wp2_with (first
    | (go_at_call 68; refine (HADD.out w3 s 14 (Nat.le_refl _) HL3.out).mono ?_; rintro _ w4 ⟨rfl, h4⟩; rw [← HS1.out] at h4)
    | (refine wpList_load_mid rfl 48 _ rfl gb 0 rfl (bytesOf s1) _ (bytesOf_range h4.2.1) Tryz.underlying48 rfl (bytes_size' s1) ?_)
    | (go_at_call 78; refine (HCH.out w4 s1 h4).mono ?_; rintro _ w5 ⟨rfl, h5⟩; rw [← HS2.out])
    | (refine wpList_store_row rfl 48 _ _ rfl gb (bytesOf s2).toArray rfl rfl 48 _ h5.2.1 (bytes_size _) (bytes_same _ _) (all_oneCell_toArray (bytesOf_one _)) ?_))
  have HL5 := Lib.hid (h5.row s2 N1.out N2.out HW.out)
  obtain ⟨w6, hw6⟩ : ∃ w6, w6 = w5.setRow gb (bytesOf s2).toArray := ⟨_, rfl⟩
  rw [← hw6] at HL5 ⊢
  clear h4 h5 hw6 HL3 HS1 HS2
  go_wp2_with (fail)
  go_loopw [5] (fun v wr => ∃ n : Nat, n ≤ 13 ∧ v = .int .i64 (n : Int) ∧ ∃ t, unrounds (rks f) n t = R ∧ Lk W g gb go C t wr) (fun v _ => (intOf v).toNat)
  case atStart => exact ⟨13, by omega, rfl, s2, HR.out, HL5.out⟩
  case round =>
    clear HL5 HR
    obtain ⟨n, hn, rfl, t, hr, h⟩ := hrel
    by_cases hlt : 0 < n
    · obtain ⟨t1, ht1⟩ : ∃ u, u = keyS (rks f n) t := ⟨_, rfl⟩
      obtain ⟨t2, ht2⟩ : ∃ u, u = unmixS t1 := ⟨_, rfl⟩
      obtain ⟨t3, ht3⟩ : ∃ u, u = unsubS (unrowS t2) := ⟨_, rfl⟩
      have hnext : unrounds (rks f) (n - 1) t3 = R := by
        rw [ht3, ht2, ht1, ← hr]
        obtain ⟨m, rfl⟩ : ∃ m, n = m + 1 := ⟨n - 1, by omega⟩
        rfl
      have HN := Lib.hid hnext
      have HL := Lib.hid h
      have HT1 := Lib.hid ht1
      have HT2 := Lib.hid ht2
      have HT3 := Lib.hid ht3
      clear h hnext ht1 ht2 ht3 hr
      go_wp2_with (first
        | (go_at_call 68; refine (HADD.out wr t n (by omega) HL.out).mono ?_; rintro _ w7 ⟨rfl, h7⟩; rw [← HT1.out] at h7)
        | (go_at_call 79; refine (HMX.out w7 t1 h7).mono ?_; rintro _ w8 ⟨rfl, h8⟩; rw [← HT2.out] at h8)
        | (refine wpList_load_mid rfl 48 _ rfl gb 0 rfl (bytesOf t2) _ (bytesOf_range h8.2.1) Tryz.underlying48 rfl (bytes_size' t2) ?_)
        | (go_at_call 78; refine (HCH.out w8 t2 h8).mono ?_; rintro _ w9 ⟨rfl, h9⟩; rw [← HT3.out])
        | (refine wpList_store_row rfl 48 _ _ rfl gb (bytesOf t3).toArray rfl rfl 48 _ h9.2.1 (bytes_size _) (bytes_same _ _) (all_oneCell_toArray (bytesOf_one _)) ?_))
      have H9 := Lib.hid (h9.row t3 N1.out N2.out HW.out)
      clear h7 h8 h9
      go_roundw
      case rel => exact ⟨n - 1, by omega, by go_num, t3, HN.out, H9.out⟩
      case measure => simp [intOf]; omega
    · have en : n = 0 := by omega
      subst en
      have hr' : R = keyS (rks f 0) t := hr.symm
      have HL := Lib.hid h
      have HN := Lib.hid hr'
      clear h hr hr' hlt hn
      go_wp2_with (first
        | (go_at_call 68; refine (HADD.out wr t 0 (by omega) HL.out).mono ?_; rintro _ w7 ⟨rfl, h7⟩; rw [← HN.out] at h7)
        | (refine wpList_load_mid rfl 48 _ rfl gb 0 rfl (bytesOf R) _ (bytesOf_range h7.2.1) Tryz.underlying48 rfl (bytes_size' _) ?_)
        | (refine wpList_store_row rfl 48 _ _ rfl go (bytesOf R).toArray rfl rfl 48 _ h7.2.2.1 (bytes_size _) (bytes_same _ _) (all_oneCell_toArray (bytesOf_one _)) ?_))
      exact bodyPost_ret (results_cell_row rfl _ _ go 48 (bytesOf R).toArray (0, 0) _ rfl (setRow_heap w7 go _ _ 48 (0, 0) h7.2.2.1) Tryz.underlying48 rfl (bytes_size _)) rfl ⟨rfl, World.grownBy.andThen h7.2.2.2 (grown_setRow _ _ _) (by rintro _ ⟨⟩; exact .inl HWO.out)⟩
/-- A key's bytes as numbers. -/
def kn (ks : List UInt8) : List Nat := ks.map UInt8.toNat
theorem kn_get (ks : List UInt8) (j : Nat) : (kn ks).getD j 0 = (ks.getD j 0).toNat := by
  unfold kn
  rw [List.getD_eq_getElem?_getD, List.getD_eq_getElem?_getD, List.getElem?_map]
  cases ks[j]? <;> rfl
theorem kn_lt (ks : List UInt8) (j : Nat) : (kn ks).getD j 0 < 256 := by rw [kn_get]; exact UInt8.toNat_lt _
/-- Byte j of the words. -/
def kf (ks : List UInt8) (j : Nat) : UInt8 := UInt8.ofNat (wb (kws (kn ks) 60) (j / 4) (j % 4))
theorem wb_lt (ks : List UInt8) (n r : Nat) : wb (kws (kn ks) 60) n r < 256 := kws_lt _ (kn_lt ks) 60 (by omega) n r
theorem rk_kf (ks : List UInt8) (n : Nat) (i : Fin 16) : rk (kws (kn ks) 60) n i = kf ks (16 * n + i.val) := by
  unfold rk kf
  rw [show (16 * n + i.val) / 4 = 4 * n + i.val / 4 by omega, show (16 * n + i.val) % 4 = i.val % 4 by omega]
theorem kf_first (ks : List UInt8) (j : Nat) (h : j < 32) : kf ks j = ks.getD j 0 := by
  unfold kf
  rw [wb_kws _ 60 _ _ (by omega)]
  have h8 : j / 4 < 8 := by omega
  unfold nw
  rw [if_pos h8]
  have e : ∀ k, k < 4 → ([(kn ks).getD (4 * (j / 4)) 0, (kn ks).getD (4 * (j / 4) + 1) 0, (kn ks).getD (4 * (j / 4) + 2) 0, (kn ks).getD (4 * (j / 4) + 3) 0] : List Nat).getD k 0 = (kn ks).getD (4 * (j / 4) + k) 0 := fun k hk => by
    obtain rfl | rfl | rfl | rfl : k = 0 ∨ k = 1 ∨ k = 2 ∨ k = 3 := by omega
    all_goals rfl
  rw [e _ (Nat.mod_lt _ (by omega)), show 4 * (j / 4) + j % 4 = j by omega, kn_get, UInt8.ofNat_toNat]
theorem ofNat_xor (a b : Nat) (ha : a < 256) (hb : b < 256) : UInt8.ofNat (a ^^^ b) = UInt8.ofNat a ^^^ UInt8.ofNat b := by
  apply UInt8.toNat_inj.1
  rw [UInt8.toNat_xor, UInt8.toNat_ofNat', UInt8.toNat_ofNat', UInt8.toNat_ofNat', Nat.mod_eq_of_lt ha, Nat.mod_eq_of_lt hb, Nat.mod_eq_of_lt (xor_lt _ _ ha hb)]
theorem sb_ofNat (n : Nat) (h : n < 256) : UInt8.ofNat (sbox n) = sb (UInt8.ofNat n) := by
  unfold sb
  rw [UInt8.toNat_ofNat', Nat.mod_eq_of_lt h]
/-- x to the q. -/
def pwb (q : Nat) : UInt8 := UInt8.ofNat (pw q)
theorem pwb_next : ∀ q, q < 7 → xt (pwb q) = pwb (q + 1) := by decide +kernel
/-- What the word ahead of word i is turned into. -/
def kt (ks : List UInt8) (i k : Nat) : UInt8 :=
  if i % 8 = 0 then (if k = 0 then sb (kf ks (4 * (i - 1) + 1)) ^^^ pwb (i / 8 - 1) else sb (kf ks (4 * (i - 1) + (k + 1) % 4)))
  else if i % 8 = 4 then sb (kf ks (4 * (i - 1) + k)) else kf ks (4 * (i - 1) + k)
theorem wb_old (key : List Nat) (i j r : Nat) (h : j < i) (hi : i ≤ 60) : wb (kws key i) j r = wb (kws key 60) j r := by
  unfold wb
  have := kws_old key i j h (60 - i)
  rw [show i + (60 - i) = 60 by omega] at this
  rw [this]
theorem kf_word (ks : List UInt8) (n k : Nat) (hk : k < 4) : kf ks (4 * n + k) = UInt8.ofNat (wb (kws (kn ks) 60) n k) := by
  unfold kf
  rw [show (4 * n + k) / 4 = n by omega, show (4 * n + k) % 4 = k by omega]
theorem kt_tw (ks : List UInt8) (i k : Nat) (h8 : 8 ≤ i) (hi : i < 60) (hk : k < 4) : UInt8.ofNat (tw (kws (kn ks) i) i k) = kt ks i k ∧ tw (kws (kn ks) i) i k < 256 := by
  unfold tw kt
  have o : ∀ r, wb (kws (kn ks) i) (i - 1) r = wb (kws (kn ks) 60) (i - 1) r := fun r => wb_old _ _ _ _ (by omega) (by omega)
  simp only [o]
  have w1 := wb_lt ks (i - 1) 1
  have w2 := wb_lt ks (i - 1) ((k + 1) % 4)
  have w3 := wb_lt ks (i - 1) k
  split
  · split
    · rw [ofNat_xor _ _ (sbox_lt _ w1) (pw_lt _ (by omega)), sb_ofNat _ w1, kf_word ks _ 1 (by omega)]
      exact ⟨rfl, xor_lt _ _ (sbox_lt _ w1) (pw_lt _ (by omega))⟩
    · rw [sb_ofNat _ w2, kf_word ks _ _ (Nat.mod_lt _ (by omega))]
      exact ⟨rfl, sbox_lt _ w2⟩
  · split
    · rw [sb_ofNat _ w3, kf_word ks _ _ hk]
      exact ⟨rfl, sbox_lt _ w3⟩
    · rw [kf_word ks _ _ hk]
      exact ⟨rfl, w3⟩
theorem kf_next (ks : List UInt8) (i k : Nat) (h8 : 8 ≤ i) (hi : i < 60) (hk : k < 4) : kf ks (4 * i + k) = kf ks (4 * i + k - 32) ^^^ kt ks i k := by
  obtain ⟨h1, h2⟩ := kt_tw ks i k h8 hi hk
  rw [← h1, show 4 * i + k - 32 = 4 * (i - 8) + k by omega, kf_word ks _ _ hk, kf_word ks _ _ hk, wb_kws _ 60 i k (by omega), UInt8.xor_comm, ← ofNat_xor _ _ h2 (wb_lt _ _ _), ← wb_old _ i (i - 8) k (by omega) (by omega)]
  unfold nw
  rw [if_neg (by omega)]
  congr 1
  obtain rfl | rfl | rfl | rfl : k = 0 ∨ k = 1 ∨ k = 2 ∨ k = 3 := by omega
  all_goals rfl
end Go.Proofs.YtkbffponemihoaaGreatDoor.C
