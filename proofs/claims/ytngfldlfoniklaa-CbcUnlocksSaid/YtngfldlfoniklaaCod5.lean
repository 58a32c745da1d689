/- Each byte through the contrary of S, and the rows turned back. Conditions: the tables lie in the cipher's block. -/
import Derived.Test.YtngfldlfoniklaaCod4
namespace Go.Proofs.Ytngfldlfoniklaa
open Go.RowKit
theorem restore_at (s : State) (i : Nat) (h : i < 16) (h2 : 5 * i % 16 < 16) : unsubS (unrowS s) ⟨5 * i % 16, h2⟩ = usb (s ⟨i, h⟩) := by
  unfold unsubS unrowS rowTo
  congr 2
  apply Fin.ext
  show (5 * i % 16 + 12 * (5 * i % 16 % 4)) % 16 = i
  omega
/-- The bytes that i bytes give. -/
def partR (i : Nat) (s t : State) : State := fun j => if 13 * j.val % 16 < i then s j else t j
theorem partR_zero (s t : State) : partR 0 s t = t := by funext j; simp [partR]
theorem partR_all (s t : State) : partR 16 s t = s := by funext j; simp [partR, Nat.mod_lt]
theorem partR_set (s t : State) (i : Nat) (h : i < 16) (h2 : 5 * i % 16 < 16) : putS (partR i s t) (5 * i % 16) (s ⟨5 * i % 16, h2⟩) = partR (i + 1) s t := by
  funext j
  have hj := j.isLt
  unfold putS partR
  by_cases e : j.val = 5 * i % 16
  · have : j = ⟨5 * i % 16, h2⟩ := Fin.ext e
    have h3 : 13 * (5 * i % 16) % 16 < i + 1 := by omega
    subst this
    show (if 5 * i % 16 = 5 * i % 16 then _ else _) = if 13 * (5 * i % 16) % 16 < i + 1 then _ else _
    rw [if_pos rfl, if_pos h3]
  · have h3 : ¬ 13 * j.val % 16 = i := by omega
    have : (13 * j.val % 16 < i + 1) = (13 * j.val % 16 < i) := by simp; omega
    simp [e, this]
theorem idx23 (s : State) (i : Nat) (h : i < 16) (w : World) : (Instr.index 23 (.agg (bytesOf s).toArray) (.int .i64 (i : Int))).run Try.prog w = .ok (.int .u8 ((s ⟨i, h⟩).toNat : Int)) w := by
  obtain rfl | rfl | rfl | rfl | rfl | rfl | rfl | rfl | rfl | rfl | rfl | rfl | rfl | rfl | rfl | rfl : i = 0 ∨ i = 1 ∨ i = 2 ∨ i = 3 ∨ i = 4 ∨ i = 5 ∨ i = 6 ∨ i = 7 ∨ i = 8 ∨ i = 9 ∨ i = 10 ∨ i = 11 ∨ i = 12 ∨ i = 13 ∨ i = 14 ∨ i = 15 := by omega
  all_goals kernel_rfl
set_option maxRecDepth 100000 in
set_option maxHeartbeats 1600000 in
theorem restore_any {W : World} {g : Nat} {S K : List UInt8} (hb : Blk W g 49 (cph S (tabB 256) K)) (hS : S.length = 256) (s : State) :
    Calls Try.prog 33 #[.pointer (some ⟨g, 0, none⟩), .agg (bytesOf s).toArray] W fun e w' => e = .returned (.agg (bytesOf (unsubS (unrowS s))).toArray) ∧ W.grownBy w' none := by
  obtain ⟨T, hT⟩ : ∃ T, T = unsubS (unrowS s) := ⟨_, rfl⟩
  rw [← hT]
  have hgl := hb.lt
  have HB := Lib.hid hb
  have HT := Lib.hid hT
  clear hb hT
  go_enter Try.func33, Try.ntmps33
  go_wp2_with (refine wpList_box23 rfl _ s rfl rfl ?_)
  intro w2 hb2 hg2 hz2
  go_wp2_with (refine wpList_alloc23 rfl rfl ?_)
  intro w3 hb3 hg3 hz3
  obtain ⟨gi, hgi⟩ : ∃ g, g = W.heap.size := ⟨_, rfl⟩
  obtain ⟨go, hgo⟩ : ∃ g, g = W.heap.size + 1 := ⟨_, rfl⟩
  rw [← hgo, ← hgi]
  rw [← hgi] at hb2
  rw [← hgo] at hb3
  have hb3z : Blk w3 go 23 (bytesOf (partR 0 T zeroS)) := by rw [partR_zero]; exact hb3
  have n1 : gi ≠ go := by omega
  have n2 : g ≠ go := by omega
  have HW : Hid (W.heap.size ≤ go) := Lib.hid (by omega)
  have hg23 := World.grownBy.trans hg2 hg3
  have HI := Lib.hid (hb2.grown hg3 (by simp))
  have HO := Lib.hid hb3z
  have HC := Lib.hid (HB.out.grown hg23 (by simp))
  have HG := Lib.hid hg23
  clear hb2 hg2 hz2 hb3 hb3z hg3 hz3 hgi hgo hg23 HB hgl
  go_wp2_with (refine wpList_load_mid rfl 23 _ rfl gi 0 rfl (bytesOf s) _ (bytesOf_range HI.out) Try.underlying23 rfl (by rw [size23, bytesOf_length]) ?_)
  go_loopw [8] (fun v wr => ∃ i : Nat, i ≤ 16 ∧ v = .int .i64 (i : Int) ∧ Blk wr go 23 (bytesOf (partR i T zeroS)) ∧ w3.grownBy wr (some go)) (fun v _ => 16 - (intOf v).toNat)
  case atStart => exact ⟨0, by omega, rfl, HO.out, World.grownBy.refl _ _⟩
  case round =>
    clear HO
    obtain ⟨i, hi, rfl, hb, hg⟩ := hrel
    by_cases hlt : i < 16
    · have hq16 : 5 * i % 16 < 16 := by omega
      have hc2 := HC.out.grown hg (fun e => n2 (Option.some.inj e))
      have c1 := idx23 s i hlt
      have hval : T ⟨5 * i % 16, hq16⟩ = usb (s ⟨i, hlt⟩) := by
        rw [HT.out, restore_at s i hlt hq16]
      have hset := bytesOf_set (partR i T zeroS) (5 * i % 16) (T ⟨5 * i % 16, hq16⟩)
      rw [partR_set T zeroS i hlt] at hset
      have hb2 := (hb.set (5 * i % 16) (.int .u8 ((T ⟨5 * i % 16, hq16⟩).toNat : Int))).to hset
      have c3 := hb.get (5 * i % 16) _ (bytesOf_get _ (5 * i % 16) hq16)
      have hf := hb.frozen (5 * i % 16)
      have d2 : (5 * (i : Int)).tmod 16 = ((5 * i % 16 : Nat) : Int) := by rw [Int.tmod_eq_emod_of_nonneg (by omega)]; omega
      have d3 : 5 * (i : Int) % 16 = ((5 * i % 16 : Nat) : Int) := by omega
      obtain ⟨x, hx⟩ : ∃ x, x = s ⟨i, hlt⟩ := ⟨_, rfl⟩
      rw [← hx] at c1 hval
      have hx256 := x.toNat_lt
      have c2 := hc2.get (256 + x.toNat) _ (cph_getB S (tabB 256) K x.toNat hS (by rw [tabB_length]; exact hx256))
      rw [tabB_get, ← hval] at c2
      obtain ⟨z, hz⟩ : ∃ z, z = T ⟨5 * i % 16, hq16⟩ := ⟨_, rfl⟩
      rw [← hz] at c2 hb2
      generalize (partR i T zeroS) ⟨5 * i % 16, hq16⟩ = old at c3
      clear hset hval hz
      generalize 5 * i % 16 = q at hq16 hb2 c3 hf d2 d3
      have d1 : IntKind.i64.wrap (5 * (i : Int)) = 5 * (i : Int) := by rw [IntKind.wrap_i64]; omega
      have d4 : IntKind.i64.wrap (q : Int) = (q : Int) := i64_keep q (by omega)
      have d5 : (q : Int) < 16 := by omega
      have d6 : (x.toNat : Int) < 256 := by omega
      have HB2 := Lib.hid hb2
      have HG2 := Lib.hid hg
      clear hc2 hb2 hb hg hx
      go_wp2
      go_roundw
      case rel => exact ⟨i + 1, by omega, by go_num, HB2.out, World.grownBy.trans HG2.out (grown_set wr go q _)⟩
      case measure => simp [intOf]; omega
    · have ei : i = 16 := by omega
      subst ei
      rw [partR_all] at hb
      have HO := Lib.hid hb
      have HR := Lib.hid (bytesOf_range hb)
      have HG2 := Lib.hid hg
      clear hb hg hlt hi
      go_wp2_with (first | (refine wpList_load_mid rfl 23 _ rfl go 0 rfl (bytesOf T) _ HR.out Try.underlying23 rfl (by rw [size23, bytesOf_length]) ?_) | (refine wpList_store_row rfl 23 _ _ rfl go (bytesOf T).toArray rfl rfl 23 _ HO.out ?_ ?_ ?_ ?_))
      · rw [size23, List.size_toArray, bytesOf_length]
      · rfl
      · exact all_oneCell_toArray (bytesOf_one _)
      · exact bodyPost_ret (results_cell_row rfl _ _ go 23 (bytesOf T).toArray (0, 0) _ rfl (setRow_heap wr go _ _ 23 (0, 0) HO.out) Try.underlying23 rfl (by rw [size23, List.size_toArray, bytesOf_length])) rfl ⟨rfl, World.grownBy.andThen HG.out (World.grownBy.trans HG2.out (grown_setRow _ _ _)) (by rintro _ ⟨⟩; exact .inl HW.out)⟩
end Go.Proofs.Ytngfldlfoniklaa
