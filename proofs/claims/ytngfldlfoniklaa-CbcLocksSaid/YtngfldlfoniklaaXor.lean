/- The code's xor of two blocks. Conditions: none. -/
import Derived.Test.YtngfldlfoniklaaFill
namespace Go.Proofs.Ytngfldlfoniklaa
open Go.RowKit
set_option maxRecDepth 100000 in
set_option maxHeartbeats 1600000 in
theorem xor_any (w : World) (s t : State) : Calls Try.prog 18 #[.agg (bytesOf s).toArray, .agg (bytesOf t).toArray] w fun e w' => e = .returned (.agg (bytesOf (keyS t s)).toArray) ∧ w.grownBy w' none := by
  obtain ⟨T, hT⟩ : ∃ T, T = keyS t s := ⟨_, rfl⟩
  rw [← hT]
  have HT := Lib.hid hT
  clear hT
  go_enter Try.func18, Try.ntmps18
  go_wp2_with (refine wpList_box23 rfl _ s rfl rfl ?_)
  intro w1 hb1 hg1 hz1
  go_wp2_with (refine wpList_box23 rfl _ t rfl rfl ?_)
  intro w2 hb2 hg2 hz2
  go_wp2_with (refine wpList_alloc23 rfl rfl ?_)
  intro w3 hb3 hg3 hz3
  obtain ⟨ga, hga⟩ : ∃ g, g = w.heap.size := ⟨_, rfl⟩
  obtain ⟨gb, hgb⟩ : ∃ g, g = w.heap.size + 1 := ⟨_, rfl⟩
  obtain ⟨go, hgo⟩ : ∃ g, g = w.heap.size + 1 + 1 := ⟨_, rfl⟩
  rw [← hgo, ← hgb, ← hga]
  rw [← hga] at hb1
  rw [← hgb] at hb2
  rw [← hgo] at hb3
  have HA : Hid (Blk w3 ga 23 (bytesOf s)) := Lib.hid ((hb1.grown hg2 (by simp)).grown hg3 (by simp))
  have HB : Hid (Blk w3 gb 23 (bytesOf t)) := Lib.hid (hb2.grown hg3 (by simp))
  have HO : Hid (Blk w3 go 23 (bytesOf fun _ => 0)) := Lib.hid hb3
  have HG : Hid (w.grownBy w3 none) := Lib.hid (World.grownBy.trans (World.grownBy.trans hg1 hg2) hg3)
  have HAO : Hid (go ≠ ga) := Lib.hid (by omega)
  have HWA : Hid (w.heap.size ≤ ga) := Lib.hid (by omega)
  have HWO : Hid (w.heap.size ≤ go) := Lib.hid (by omega)
  clear hb1 hg1 hz1 hb2 hg2 hz2 hb3 hg3 hz3 hga hgb hgo
  go_wp2_with (refine wpList_load_mid rfl 23 _ rfl gb 0 rfl (bytesOf t) _ (range_blk HB.out) Try.underlying23 rfl (bytes_size' t) ?_)
  clear HB
  go_loopw [5, 6, 8] (fun _ _ v wr => ∃ i : Nat, i ≤ 16 ∧ v = .int .i64 (i : Int) ∧ Blk wr ga 23 (bytesOf (part i T s)) ∧ w3.grownBy wr (some ga)) (fun _ _ v _ => 16 - (intOf v).toNat)
  case atStart => exact ⟨0, Nat.zero_le _, rfl, by rw [part_zero]; exact HA.out, World.grownBy.refl _ _⟩
  case round =>
    clear HA
    obtain ⟨i, hi, rfl, hb, hg⟩ := hrel
    by_cases hlt : i < 16
    · have e1 : (i : Int) < 16 := by omega
      have c0 := idx23 t i hlt
      have c2 := hb.get i _ (bytesOf_get _ i hlt)
      rw [part_at] at c2
      have hf := hb.frozen i
      have hx : bits .xor .u8 ((s ⟨i, hlt⟩).toNat : Int) ((t ⟨i, hlt⟩).toNat : Int) = ((T ⟨i, hlt⟩).toNat : Int) := by
        rw [b_xor, HT.out]; rfl
      have hset := bytesOf_set (part i T s) i (T ⟨i, hlt⟩)
      rw [part_set] at hset
      have hb2 := (hb.set i (.int .u8 ((T ⟨i, hlt⟩).toNat : Int))).to hset
      have HB2 := Lib.hid hb2
      have HG2 := Lib.hid hg
      clear hb hg hset hb2
      obtain ⟨y, hy⟩ : ∃ y, y = t ⟨i, hlt⟩ := ⟨_, rfl⟩
      obtain ⟨x, hx'⟩ : ∃ x, x = s ⟨i, hlt⟩ := ⟨_, rfl⟩
      obtain ⟨z, hz⟩ : ∃ z, z = T ⟨i, hlt⟩ := ⟨_, rfl⟩
      rw [← hy] at c0 hx
      rw [← hx'] at c2 hx
      rw [← hz] at hx HB2
      clear hy hx' hz
      go_wp2_with (fail)
      exact ⟨⟨i + 1, by omega, by go_num, HB2.out, World.grownBy.trans HG2.out (grown_set wr ga i _)⟩, by simp [intOf]; omega⟩
    · have ei : i = 16 := by omega
      subst ei
      rw [part_all] at hb
      have HB2 := Lib.hid hb
      have HO2 := Lib.hid (HO.out.grown hg (fun e => HAO.out (Option.some.inj e)))
      have HG2 : Hid (w.grownBy wr none) := Lib.hid (World.grownBy.andThen HG.out hg (by rintro _ ⟨⟩; exact .inl HWA.out))
      clear hb hg hlt hi HO
      go_wp2_with (first
        | (refine wpList_load_mid rfl 23 _ rfl ga 0 rfl (bytesOf T) _ (range_blk HB2.out) Try.underlying23 rfl (bytes_size' T) ?_)
        | (refine wpList_store_row rfl 23 _ _ rfl go (bytesOf T).toArray rfl rfl 23 _ HO2.out (bytes_size _) (bytes_same _ _) (all_oneCell_toArray (bytesOf_one _)) ?_))
      exact bodyPost_ret (results_cell_row rfl _ _ go 23 (bytesOf T).toArray (0, 0) _ rfl (setRow_heap wr go _ _ 23 (0, 0) HO2.out) Try.underlying23 rfl (bytes_size _)) rfl ⟨rfl, World.grownBy.andThen HG2.out (grown_setRow _ _ _) (by rintro _ ⟨⟩; exact .inl HWO.out)⟩
end Go.Proofs.Ytngfldlfoniklaa
