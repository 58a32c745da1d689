/- A block is locked by the code. Conditions: a cipher lies there. -/
import Derived.Test.YtngfldlfoniklaaCod7
namespace Go.Proofs.Ytngfldlfoniklaa
open Go.RowKit
/-- A cipher, a block under way, and the answer's place. -/
def Lk (W : World) (g gb go : Nat) (C : List Value) (s : State) (V : World) : Prop := Blk V g 49 C ∧ Blk V gb 23 (bytesOf s) ∧ Blk V go 23 (bytesOf zeroS) ∧ W.grownBy V none
section
variable {W V V' : World} {g gb go : Nat} {C : List Value} {s t : State}
theorem Lk.on (h : Lk W g gb go C s V) (hg : V.grownBy V' (some gb)) (hb : Blk V' gb 23 (bytesOf t)) (n1 : g ≠ gb) (n2 : go ≠ gb) (hw : W.heap.size ≤ gb) : Lk W g gb go C t V' :=
  ⟨h.1.grown hg (fun e => n1 (Option.some.inj e)), hb, h.2.2.1.grown hg (fun e => n2 (Option.some.inj e)), World.grownBy.andThen h.2.2.2 hg (by rintro _ ⟨⟩; exact .inl hw)⟩
theorem Lk.new (h : Lk W g gb go C s V) (hg : V.grownBy V' none) : Lk W g gb go C s V' :=
  ⟨h.1.grown hg (by simp), h.2.1.grown hg (by simp), h.2.2.1.grown hg (by simp), World.grownBy.trans h.2.2.2 hg⟩
theorem Lk.row (h : Lk W g gb go C s V) (t : State) (n1 : g ≠ gb) (n2 : go ≠ gb) (hw : W.heap.size ≤ gb) : Lk W g gb go C t (V.setRow gb (bytesOf t).toArray) :=
  h.on (grown_setRow _ _ _) (Blk.setRow h.2.1) n1 n2 hw
end
theorem bytes_size (s : State) : (Try.prog.info? 23).map (·.size) = some (bytesOf s).toArray.size := by rw [size23, List.size_toArray, bytesOf_length]
theorem bytes_size' (s : State) : (Try.prog.info? 23).map (·.size) = some (bytesOf s).length := by rw [size23, bytesOf_length]
theorem bytes_same (s t : State) : (bytesOf t).toArray.size = (bytesOf s).toArray.size := by simp [bytesOf_length]
/-- The round keys out of the bytes. -/
def rks (f : Nat → UInt8) (n : Nat) : State := fun i => f (16 * n + i.val)
set_option maxRecDepth 100000 in
set_option maxHeartbeats 3200000 in
theorem code_lock {W : World} {g : Nat} {f : Nat → UInt8} (hb : Blk W g 49 (cph (tabS 256) (tabB 256) (fl 240 f 240))) (s : State) :
    Calls Try.prog 17 #[.pointer (some ⟨g, 0, none⟩), .agg (bytesOf s).toArray] W fun e w' => e = .returned (.agg (bytesOf (lockS (rks f) s)).toArray) ∧ W.grownBy w' none := by
  obtain ⟨C, hC⟩ : ∃ C, C = cph (tabS 256) (tabB 256) (fl 240 f 240) := ⟨_, rfl⟩
  rw [← hC] at hb
  have hgl := hb.lt
  have HB := Lib.hid hb
  clear hb
  go_enter Try.func17, Try.ntmps17
  go_wp2_with (refine wpList_box23 rfl _ s rfl rfl ?_)
  intro w2 hb2 hg2 hz2
  go_wp2_with (refine wpList_alloc23 rfl rfl ?_)
  intro w3 hb3 hg3 hz3
  obtain ⟨gb, hgb⟩ : ∃ g, g = W.heap.size := ⟨_, rfl⟩
  obtain ⟨go, hgo⟩ : ∃ g, g = W.heap.size + 1 := ⟨_, rfl⟩
  rw [← hgo, ← hgb]
  rw [← hgb] at hb2
  rw [← hgo] at hb3
  have n1 : g ≠ gb := by omega
  have n2 : go ≠ gb := by omega
  have hw : W.heap.size ≤ gb := by omega
  have hwo : W.heap.size ≤ go := by omega
  have HL3 : Hid (Lk W g gb go C s w3) := Lib.hid ⟨HB.out.grown (World.grownBy.trans hg2 hg3) (by simp), hb2.grown hg3 (by simp), hb3, World.grownBy.trans hg2 hg3⟩
  have HADD : Hid (∀ (V : World) (t : State) (n : Nat), n ≤ 14 → Lk W g gb go C t V → Calls Try.prog 27 #[.pointer (some ⟨g, 0, none⟩), .pointer (some ⟨gb, 0, none⟩), .int .i64 (n : Int)] V fun e w' => e = .returned (.tuple #[]) ∧ Lk W g gb go C (keyS (rks f n) t) w') := Lib.hid fun V t n hn h =>
    (add_any (hC ▸ h.1) (tabS_length _) (tabB_length _) h.2.1 n1 n hn).mono fun e w' ⟨h1, h2, h3, _⟩ => ⟨h1, h.on h3 h2 n1 n2 hw⟩
  have HCH : Hid (∀ (V : World) (t : State), Lk W g gb go C t V → Calls Try.prog 28 #[.pointer (some ⟨g, 0, none⟩), .agg (bytesOf t).toArray] V fun e w' => e = .returned (.agg (bytesOf (rowS (subS t))).toArray) ∧ Lk W g gb go C t w') := Lib.hid fun V t h =>
    (change_any (hC ▸ h.1) t).mono fun e w' ⟨h1, h2⟩ => ⟨h1, h.new h2⟩
  have HMX : Hid (∀ (V : World) (t : State), Lk W g gb go C t V → Calls Try.prog 29 #[.pointer (some ⟨gb, 0, none⟩)] V fun e w' => e = .returned (.tuple #[]) ∧ Lk W g gb go C (mixS t) w') := Lib.hid fun V t h =>
    (mix_any h.2.1).mono fun e w' ⟨h1, h2⟩ => ⟨h1, h.on h2.2.1 h2.1 n1 n2 hw⟩
  have N1 := Lib.hid n1
  have N2 := Lib.hid n2
  have HW := Lib.hid hw
  have HWO := Lib.hid hwo
  clear hb2 hg2 hz2 hb3 hg3 hz3 hgb hgo HB hgl n1 n2 hw hwo hC
  go_wp2_with (go_at_call 27; refine (HADD.out w3 s 0 (by omega) HL3.out).mono ?_; rintro _ w4 ⟨rfl, h4⟩)
  have HL4 := Lib.hid h4
  clear h4 HL3
  go_wp2_with (fail)
  go_loopw [5] (fun v wr => ∃ n : Nat, 1 ≤ n ∧ n ≤ 14 ∧ v = .int .i64 (n : Int) ∧ Lk W g gb go C (rounds (rks f) s (n - 1)) wr) (fun v _ => 14 - (intOf v).toNat)
  case atStart => exact ⟨1, by omega, by omega, rfl, HL4.out⟩
  case round =>
    clear HL4
    obtain ⟨n, hn1, hn, rfl, h⟩ := hrel
    by_cases hlt : n < 14
    · obtain ⟨t, ht⟩ : ∃ t, t = rounds (rks f) s (n - 1) := ⟨_, rfl⟩
      have hnext : rounds (rks f) s n = keyS (rks f n) (mixS (rowS (subS t))) := by
        rw [ht]
        obtain ⟨m, rfl⟩ : ∃ m, n = m + 1 := ⟨n - 1, by omega⟩
        rfl
      rw [← ht] at h
      have HN := Lib.hid hnext
      have HL := Lib.hid h
      clear h hnext ht
      go_wp2_with (first
        | (refine wpList_load_mid rfl 23 _ rfl gb 0 rfl (bytesOf t) _ (bytesOf_range HL.out.2.1) Try.underlying23 rfl (bytes_size' t) ?_)
        | (go_at_call 28; refine (HCH.out wr t HL.out).mono ?_; rintro _ w5 ⟨rfl, h5⟩)
        | (refine wpList_store_row rfl 23 _ _ rfl gb (bytesOf (rowS (subS t))).toArray rfl rfl 23 _ h5.2.1 (bytes_size _) (bytes_same _ _) (all_oneCell_toArray (bytesOf_one _)) ?_)
        | (go_at_call 29; refine (HMX.out _ _ (h5.row (rowS (subS t)) N1.out N2.out HW.out)).mono ?_; rintro _ w6 ⟨rfl, h6⟩)
        | (go_at_call 27; refine (HADD.out w6 _ n hn h6).mono ?_; rintro _ w7 ⟨rfl, h7⟩))
      rw [← HN.out] at h7
      have H7 := Lib.hid h7
      clear h5 h6 h7
      go_roundw
      case rel => exact ⟨n + 1, by omega, by omega, by go_num, by rw [Nat.add_sub_cancel]; exact H7.out⟩
      case measure => simp [intOf]; omega
    · have en : n = 14 := by omega
      subst en
      obtain ⟨t, ht⟩ : ∃ t, t = rounds (rks f) s 13 := ⟨_, rfl⟩
      have hnext : lockS (rks f) s = keyS (rks f 14) (rowS (subS t)) := by
        rw [ht]; rfl
      have h' : Lk W g gb go C t wr := by rw [ht]; exact h
      have HN := Lib.hid hnext
      have HL := Lib.hid h'
      clear h h' hnext ht hlt hn hn1
      go_wp2_with (first
        | (refine wpList_load_mid rfl 23 _ rfl gb 0 rfl (bytesOf t) _ (bytesOf_range HL.out.2.1) Try.underlying23 rfl (bytes_size' t) ?_)
        | (go_at_call 28; refine (HCH.out wr t HL.out).mono ?_; rintro _ w5 ⟨rfl, h5⟩)
        | (refine wpList_store_row rfl 23 _ _ rfl gb (bytesOf (rowS (subS t))).toArray rfl rfl 23 _ h5.2.1 (bytes_size _) (bytes_same _ _) (all_oneCell_toArray (bytesOf_one _)) ?_)
        | (go_at_call 27; refine (HADD.out _ _ 14 (Nat.le_refl _) (h5.row (rowS (subS t)) N1.out N2.out HW.out)).mono ?_; rintro _ w7 ⟨rfl, h7⟩; rw [← HN.out] at h7)
        | (refine wpList_load_mid rfl 23 _ rfl gb 0 rfl (bytesOf (lockS (rks f) s)) _ (bytesOf_range h7.2.1) Try.underlying23 rfl (bytes_size' _) ?_)
        | (refine wpList_store_row rfl 23 _ _ rfl go (bytesOf (lockS (rks f) s)).toArray rfl rfl 23 _ h7.2.2.1 (bytes_size _) (bytes_same _ _) (all_oneCell_toArray (bytesOf_one _)) ?_))
      exact bodyPost_ret (results_cell_row rfl _ _ go 23 (bytesOf (lockS (rks f) s)).toArray (0, 0) _ rfl (setRow_heap w7 go _ _ 23 (0, 0) h7.2.2.1) Try.underlying23 rfl (bytes_size _)) rfl ⟨rfl, World.grownBy.andThen h7.2.2.2 (grown_setRow _ _ _) (by rintro _ ⟨⟩; exact .inl HWO.out)⟩
end Go.Proofs.Ytngfldlfoniklaa
