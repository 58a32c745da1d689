/- A round key is taken into a block. Conditions: the round keys lie in the cipher's block. -/
import Derived.Test.YtngfldlfoniklaaCod2
namespace Go.Proofs.Ytngfldlfoniklaa
open Go.RowKit
/-- One byte of a state is another one. -/
def putS (s : State) (i : Nat) (x : UInt8) : State := fun j => if j.val = i then x else s j
theorem bytesOf_set (s : State) (i : Nat) (x : UInt8) : (bytesOf s).set i (.int .u8 (x.toNat : Int)) = bytesOf (putS s i x) := by
  apply List.ext_getElem?
  intro q
  by_cases hq : q < 16
  · rw [List.getElem?_set, bytesOf_length, bytesOf_get _ q hq, bytesOf_get (putS s i x) q hq]
    unfold putS
    by_cases e : i = q
    · subst e; simp [hq]
    · have e2 : ¬ q = i := fun h => e h.symm
      simp [e, e2]
  · rw [List.getElem?_eq_none (by rw [List.length_set, bytesOf_length]; omega), List.getElem?_eq_none (by rw [bytesOf_length]; omega)]
/-- The first i bytes of one state, the others of another. -/
def part (i : Nat) (s t : State) : State := fun j => if j.val < i then s j else t j
theorem part_zero (s t : State) : part 0 s t = t := by funext j; simp [part]
theorem part_all (s t : State) : part 16 s t = s := by funext j; simp [part, j.isLt]
theorem part_at (s t : State) (i : Nat) (h : i < 16) : part i s t ⟨i, h⟩ = t ⟨i, h⟩ := by simp [part]
theorem part_set (s t : State) (i : Nat) (h : i < 16) : putS (part i s t) i (s ⟨i, h⟩) = part (i + 1) s t := by
  funext j
  unfold putS part
  by_cases e : j.val = i
  · have : j = ⟨i, h⟩ := Fin.ext e
    subst this
    simp
  · have : (j.val < i + 1) = (j.val < i) := by simp; omega
    simp [e, this]
set_option maxRecDepth 100000 in
set_option maxHeartbeats 1600000 in
theorem add_any {W : World} {g gb : Nat} {S B : List UInt8} {f : Nat → UInt8} {s : State} (hb : Blk W g 49 (cph S B (fl 240 f 240))) (hS : S.length = 256) (hB : B.length = 256) (hs : Blk W gb 23 (bytesOf s)) (hne : g ≠ gb) (k : Nat) (hk : k ≤ 14) :
    Calls Try.prog 27 #[.pointer (some ⟨g, 0, none⟩), .pointer (some ⟨gb, 0, none⟩), .int .i64 (k : Int)] W fun e w' => e = .returned (.tuple #[]) ∧ Blk w' gb 23 (bytesOf (keyS (fun i => f (16 * k + i.val)) s)) ∧ W.grownBy w' (some gb) ∧ w'.heap.size = W.heap.size := by
  obtain ⟨T, hT⟩ : ∃ T, T = keyS (fun i => f (16 * k + i.val)) s := ⟨_, rfl⟩
  rw [← hT]
  have HT := Lib.hid hT
  have HB := Lib.hid hb
  have HSL := Lib.hid hS
  have HBL := Lib.hid hB
  have HSS := Lib.hid hs
  obtain ⟨a, ha⟩ : ∃ a, a = 16 * k := ⟨_, rfl⟩
  have d1 : IntKind.i64.wrap ((k : Int) * 16) = (a : Int) := by rw [IntKind.wrap_i64]; omega
  obtain ⟨e, he⟩ : ∃ e, e = 16 * k + 16 := ⟨_, rfl⟩
  have d2 : IntKind.i64.wrap ((k : Int) + 1) = (k : Int) + 1 := by rw [IntKind.wrap_i64]; omega
  have d3 : IntKind.i64.wrap (((k : Int) + 1) * 16) = (e : Int) := by rw [IntKind.wrap_i64]; omega
  have d4 : (k : Int) * 16 = (a : Int) := by omega
  have d5 : ((k : Int) + 1) * 16 = (e : Int) := by omega
  have d6 : (a : Int) ≤ (e : Int) := by omega
  have d7 : (e : Int) ≤ 240 := by omega
  have d8 : e - a = 16 := by omega
  have d9 : ¬ 240 = a := by omega
  have HA := Lib.hid ha
  clear hT hb hS hB hs ha he
  go_enter Try.func27, Try.ntmps27
  go_wp2_with (fail)
  clear d1 d2 d3 d4 d5 d6 d7 d8 d9
  go_loopw [18] (fun v wr => ∃ i : Nat, i ≤ 16 ∧ v = .int .i64 (i : Int) ∧ Blk wr gb 23 (bytesOf (part i T s)) ∧ W.grownBy wr (some gb) ∧ wr.heap.size = W.heap.size) (fun v _ => 16 - (intOf v).toNat)
  case atStart => exact ⟨0, by omega, rfl, by rw [part_zero]; exact HSS.out, World.grownBy.refl _ _, rfl⟩
  case round =>
    clear HSS
    obtain ⟨i, hi, rfl, hb, hg, hz⟩ := hrel
    by_cases hlt : i < 16
    · have hB := HB.out.grown hg (fun e => hne (Option.some.inj e))
      have c1 := hB.get (512 + (a + i)) _ (cph_getK S B (fl 240 f 240) (a + i) HSL.out HBL.out (by rw [fl_length, HA.out]; omega))
      rw [fl_get 240 f 240 (a + i) (by rw [HA.out]; omega) (by rw [HA.out]; omega), ← Nat.add_assoc] at c1
      have c2 := hb.get i _ (bytesOf_get _ i hlt)
      rw [part_at] at c2
      have hf := hb.frozen i
      have hx : bits .xor .u8 ((s ⟨i, hlt⟩).toNat : Int) ((f (a + i)).toNat : Int) = ((T ⟨i, hlt⟩).toNat : Int) := by
        rw [b_xor, HT.out, HA.out]; rfl
      have hset := bytesOf_set (part i T s) i (T ⟨i, hlt⟩)
      rw [part_set] at hset
      have hb2 := (hb.set i (.int .u8 ((T ⟨i, hlt⟩).toNat : Int))).to hset
      have HB2 := Lib.hid hb2
      have HG := Lib.hid hg
      have HZ := Lib.hid hz
      clear hB hb hg hz hset hb2
      obtain ⟨y, hy⟩ : ∃ y, y = f (a + i) := ⟨_, rfl⟩
      obtain ⟨x, hx'⟩ : ∃ x, x = s ⟨i, hlt⟩ := ⟨_, rfl⟩
      obtain ⟨z, hz⟩ : ∃ z, z = T ⟨i, hlt⟩ := ⟨_, rfl⟩
      rw [← hy] at c1 hx
      rw [← hx'] at c2 hx
      rw [← hz] at hx HB2
      clear hy hx' hz
      go_wp2_with (fail)
      refine wp_region_still_tail 9 (by kernel_rfl) (by kernel_rfl) ?_
      change wpStill _ _ wr.drew (fun a' => wpList _ _ _ _ a' wr.drew) _ _
      simp only [List.take_succ_cons, List.take_zero, List.drop_succ_cons, List.drop_zero]
      repeat still_step
      refine wpStill_nil ?_
      go_wp2
      go_roundw
      case rel => exact ⟨i + 1, by omega, by go_num, HB2.out.keep rfl, World.grownBy.trans (grown_drew HG.out) (grown_set wr.drew gb i _), (size_set _ _ _).trans HZ.out⟩
      case measure => simp [intOf]; omega
    · have ei : i = 16 := by omega
      subst ei
      rw [part_all] at hb
      have HB2 := Lib.hid hb
      have HG := Lib.hid hg
      have HZ := Lib.hid hz
      clear hb hg hz hlt hi
      go_wp2
      go_end0
      exact ⟨rfl, HB2.out, HG.out, HZ.out⟩
end Go.Proofs.Ytngfldlfoniklaa
