/- Each byte through S, and the rows turned; and the contrary of it. Conditions: the tables lie in the cipher's block. -/
import Derived.Test.YtngfldlfoniklaaCod3
namespace Go.Proofs.Ytngfldlfoniklaa
open Go.RowKit
theorem change_at (s : State) (i : Nat) (h : i < 16) (h2 : 5 * i % 16 < 16) : rowS (subS s) ⟨i, h⟩ = sb (s ⟨5 * i % 16, h2⟩) := by
  unfold rowS subS rowFrom
  congr 2
  apply Fin.ext
  show (i + 4 * (i % 4)) % 16 = 5 * i % 16
  omega
def zeroS : State := fun _ => 0
set_option maxRecDepth 100000 in
set_option maxHeartbeats 1600000 in
theorem change_any {W : World} {g : Nat} {B K : List UInt8} (hb : Blk W g 49 (cph (tabS 256) B K)) (s : State) :
    Calls Try.prog 28 #[.pointer (some ⟨g, 0, none⟩), .agg (bytesOf s).toArray] W fun e w' => e = .returned (.agg (bytesOf (rowS (subS s))).toArray) ∧ W.grownBy w' none := by
  obtain ⟨T, hT⟩ : ∃ T, T = rowS (subS s) := ⟨_, rfl⟩
  rw [← hT]
  have hgl := hb.lt
  have HB := Lib.hid hb
  have HT := Lib.hid hT
  clear hb hT
  go_enter Try.func28, Try.ntmps28
  go_wp2_with (refine wpList_box23 rfl _ s rfl rfl ?_)
  intro w2 hb2 hg2 hz2
  go_wp2_with (refine wpList_alloc23 rfl rfl ?_)
  intro w3 hb3 hg3 hz3
  obtain ⟨gi, hgi⟩ : ∃ g, g = W.heap.size := ⟨_, rfl⟩
  obtain ⟨go, hgo⟩ : ∃ g, g = W.heap.size + 1 := ⟨_, rfl⟩
  rw [← hgo, ← hgi]
  rw [← hgi] at hb2
  rw [← hgo] at hb3
  have hb3z : Blk w3 go 23 (bytesOf (part 0 T zeroS)) := by rw [part_zero]; exact hb3
  have n1 : gi ≠ go := by omega
  have n2 : g ≠ go := by omega
  have HW : Hid (W.heap.size ≤ go) := Lib.hid (by omega)
  have hg23 := World.grownBy.trans hg2 hg3
  have HI := Lib.hid (hb2.grown hg3 (by simp))
  have HO := Lib.hid hb3z
  have HC := Lib.hid (HB.out.grown hg23 (by simp))
  have HG := Lib.hid hg23
  clear hb2 hg2 hz2 hb3 hb3z hg3 hz3 hgi hgo hg23 HB hgl
  go_wp2_with (fail)
  go_loopw [6] (fun v wr => ∃ i : Nat, i ≤ 16 ∧ v = .int .i64 (i : Int) ∧ Blk wr go 23 (bytesOf (part i T zeroS)) ∧ w3.grownBy wr (some go)) (fun v _ => 16 - (intOf v).toNat)
  case atStart => exact ⟨0, by omega, rfl, HO.out, World.grownBy.refl _ _⟩
  case round =>
    clear HO
    obtain ⟨i, hi, rfl, hb, hg⟩ := hrel
    by_cases hlt : i < 16
    · obtain ⟨q, hq⟩ : ∃ q, q = 5 * i % 16 := ⟨_, rfl⟩
      have hq16 : q < 16 := by omega
      have hi2 := HI.out.grown hg (fun e => n1 (Option.some.inj e))
      have hc2 := HC.out.grown hg (fun e => n2 (Option.some.inj e))
      have c1 := hi2.get q _ (bytesOf_get _ q hq16)
      have hval : T ⟨i, hlt⟩ = sb (s ⟨q, hq16⟩) := by
        rw [HT.out, change_at s i hlt (by omega)]
        congr 2
        exact Fin.ext hq.symm
      have hset := bytesOf_set (part i T zeroS) i (T ⟨i, hlt⟩)
      rw [part_set] at hset
      have hb2 := (hb.set i (.int .u8 ((T ⟨i, hlt⟩).toNat : Int))).to hset
      obtain ⟨x, hx⟩ : ∃ x, x = s ⟨q, hq16⟩ := ⟨_, rfl⟩
      rw [← hx] at c1 hval
      have hx256 := x.toNat_lt
      have c2 := hc2.get x.toNat _ (cph_getS (tabS 256) B K x.toNat (by rw [tabS_length]; exact hx256))
      rw [tabS_get, ← hval] at c2
      obtain ⟨z, hz⟩ : ∃ z, z = T ⟨i, hlt⟩ := ⟨_, rfl⟩
      rw [← hz] at c2 hb2
      have c3 := hb.get i _ (bytesOf_get _ i hlt)
      have hf := hb.frozen i
      have d1 : IntKind.i64.wrap (5 * (i : Int)) = 5 * (i : Int) := by rw [IntKind.wrap_i64]; omega
      have d2 : (5 * (i : Int)).tmod 16 = (q : Int) := by rw [Int.tmod_eq_emod_of_nonneg (by omega)]; omega
      have d3 : 5 * (i : Int) % 16 = (q : Int) := by omega
      have d4 : IntKind.i64.wrap (q : Int) = (q : Int) := i64_keep q (by omega)
      have d5 : (q : Int) < 16 := by omega
      have d6 : (x.toNat : Int) < 256 := by omega
      have HB2 := Lib.hid hb2
      have HG2 := Lib.hid hg
      clear hi2 hc2 hset hb2 hb hg hx hz hval hq
      go_wp2_with (fail)
      refine wp_region_still_tail 12 (by kernel_rfl) (by kernel_rfl) ?_
      change wpStill _ _ wr.drew (fun a' => wpList _ _ _ _ a' wr.drew) _ _
      simp only [List.take_succ_cons, List.take_zero, List.drop_succ_cons, List.drop_zero]
      repeat still_step
      refine wpStill_nil ?_
      clear d1 d2 d3 d4 d5 d6 c1 c2
      go_wp2
      go_roundw
      case rel => exact ⟨i + 1, by omega, by go_num, HB2.out.keep rfl, World.grownBy.trans (grown_drew HG2.out) (grown_set wr.drew go i _)⟩
      case measure => simp [intOf]; omega
    · have ei : i = 16 := by omega
      subst ei
      rw [part_all] at hb
      have HO := Lib.hid hb
      have HR := Lib.hid (bytesOf_range hb)
      have HG2 := Lib.hid hg
      clear hb hg hlt hi
      go_wp2_with (first | (refine wpList_load_mid rfl 23 _ rfl go 0 rfl (bytesOf T) _ HR.out Try.underlying23 rfl (by rw [size23, bytesOf_length]) ?_) | (refine wpList_store_row rfl 23 _ _ rfl go (bytesOf T).toArray rfl rfl 23 _ HO.out ?_ ?_ ?_ ?_))
      · rw [size23, List.size_toArray, bytesOf_length]
      · rfl
      · exact all_oneCell_toArray (bytesOf_one _)
      · exact bodyPost_ret (results_cell_row rfl _ _ go 23 (bytesOf T).toArray (0, 0) _ rfl (setRow_heap wr go _ _ 23 (0, 0) HO.out) Try.underlying23 rfl (by rw [size23, List.size_toArray, bytesOf_length])) rfl ⟨rfl, World.grownBy.andThen HG.out (World.grownBy.trans HG2.out (grown_setRow _ _ _)) (by rintro _ ⟨⟩; exact .inl HW.out)⟩
end Go.Proofs.Ytngfldlfoniklaa
