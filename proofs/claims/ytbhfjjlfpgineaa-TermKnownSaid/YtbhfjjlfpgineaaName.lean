/- name, and the reference's Name, write a number's name. Conditions: the number has room in four bytes. -/
import Derived.Test.YtbhfjjlfpgineaaArr
import Derived.Test.YtbhfjjlfpgineaaJoin
import Derived.Deep.RegionHeld3
namespace Go.Proofs.Ytbhfjjlfpgineaa
open Go.RowKit

/-- The name of n is told; nothing old has turned. -/
def NameE (w : World) (n : Nat) (e : Ending) (w' : World) : Prop := e = .returned (.agg (u8s (nm n)).toArray) ∧ Below w.heap.size w w'
theorem z32_cut : z32 = [] ++ List.replicate 4 0 ++ List.replicate 28 0 := by decide
theorem z32_cut2 : mark ++ List.replicate 4 (0 : UInt8) ++ List.replicate 24 0 = mark ++ [0, 0, 0, 0, 0, 0, 0, 0, 0, 0, 0, 0, 0, 0, 0, 0, 0, 0, 0, 0, 0, 0, 0, 0, 0, 0, 0, 0] := by decide
theorem mark_str : (⟨#[116, 101, 114, 109]⟩ : ByteArray) = ⟨mark.toArray⟩ := rfl

set_option maxRecDepth 100000 in
set_option maxHeartbeats 1000000 in
theorem name_any (n : Nat) (w : World) (hn : n < 4294967296) : Calls Try.prog 31 #[.int .i64 n] w (NameE w n) := by
  have HP := Lib.hid (fun W => put_yes n 4 W (by omega) (by omega) (by show n < 256 ^ 4; omega))
  have c1 : IntKind.u64.wrap (n : Int) = (n : Int) := IntWalk.u64_in _ (by omega)
  go_enter Try.func31, Try.ntmps31
  go_wp2_with (refine wpList_alloc32 i49 rfl rfl ?_)
  intro w1 hk1 hb1 hz1
  rw [z32_cut] at hk1
  have K1 := Lib.hid hk1
  clear hk1
  have Z1 := Lib.hid hz1
  clear hz1
  go_wp2_with fail
  go_at_call 44
  refine (HP.out _).mono ?_
  rintro e w2 ⟨A, c, rfl, h1, h2, h3, h4⟩
  have hb2 : Below w.heap.size w w2 := hb1.trans (h4.mono hb1.size)
  have K2 : Hid (Arr w2 49 w.heap.size ([] ++ List.replicate 4 0 ++ List.replicate 28 0)) := (h4.block _ (by have := Z1.out; omega)).trans K1.out
  rw [be_length] at *
  clear K1
  go_wp2_with (refine wpList_copy_text (t := mark) rfl _ _ 41 rfl Try.underlying41 w.heap.size 0 32 32 rfl rfl [] _ _ K2.out rfl rfl ?c2 w.heap.size (Nat.le_refl _) ?_)
  case c2 => simp [mark]
  intro w3 hk3 hb3 ho3 hz3
  have K3 : Hid (Arr w3 49 w.heap.size (mark ++ List.replicate 4 0 ++ List.replicate 24 0)) := by
    rw [z32_cut2]
    exact hk3.out
  have X3 : Hid (Byt w3 (fun b => w1.heap.size ≤ b ∧ b < w2.heap.size) A (be 4 n)) := h3.keep fun b hb => ho3 b (by have := Z1.out; omega)
  have hb3' := hb2.trans hb3
  clear hk3 K2 h3
  go_wp2_with (refine wpList_copy_byt rfl _ _ 41 41 rfl Try.underlying41 w.heap.size 4 28 28 _ A 4 c (be 4 n) X3.out (be_length 4 n) rfl rfl mark _ _ K3.out rfl rfl (by omega) (by omega) w.heap.size (Nat.le_refl _) ?_)
  intro w4 hk4 hb4 ho4 hz4
  have K4 : Hid (Arr w4 49 w.heap.size (nm n)) := hk4.out
  have hb4' := hb3'.trans hb4
  clear hk4
  go_wp2_with (first | (refine wpList_load32 i49 rfl (.tmp 2) rfl w.heap.size rfl (nm n) K4.out (nm_length n) ?_) | (refine wpList_store32 i49 rfl _ _ rfl w.heap.size (nm n) (nm n) rfl rfl K4.out (nm_length n) (nm_length n) w.heap.size (Nat.le_refl _) ?_))
  intro w5 hk5 hb5 ho5 hz5
  have hb5' := hb4'.trans hb5
  go_wp2
  exact bodyPost_ret (results_one i49 rfl _ _ w.heap.size (nm n) rfl hk5 (nm_length n)) rfl ⟨rfl, hb5'⟩
theorem src_of {w : World} {ok : Nat → Prop} {A : Option Addr} {xs : List UInt8} (h : Byt w ok A xs) (h0 : 0 < xs.length) : ∃ ad, A = some ad ∧ ∀ j v, (u8s xs)[j]? = some v → w.cell? (ad.add j) = some v := by
  obtain ⟨ad, e, _, hc⟩ := h.some_ h0
  refine ⟨ad, e, fun j v hv => ?_⟩
  obtain ⟨hj, rfl⟩ := u8s_get xs j v hv
  exact hc j hj
theorem splice_name (n : Nat) : splice (u8s (mark ++ List.replicate 4 0 ++ List.replicate 24 0)) 4 (u8s (be 4 n)) = u8s (nm n) := by
  have hl : (u8s (be 4 n)).length = 4 := by rw [u8s_length, be_length]
  unfold splice nm
  rw [hl, u8s_append, u8s_append, u8s_append, u8s_append]
  rfl
theorem num_any4 (n : Nat) (w : World) (hn : n < 4294967296) : Calls Try.prog 28 #[.int .i64 n, .int .i64 4] w (NewN w (be 4 n) 4) := by
  have c1 : IntKind.u64.wrap (n : Int) = (n : Int) := IntWalk.u64_in _ (by omega)
  go_enter Try.func28, Try.ntmps28
  go_wp2_with fail
  go_at_call 42
  refine (refput_any n 4 _ (by omega) (by omega) (by omega)).mono ?_
  rintro e w1 (⟨_, A, c, rfl, h1, h2, h3, h4⟩ | ⟨h, _⟩)
  · go_wp2
    go_ret
    rw [be_length] at *
    exact ⟨A, c, rfl, h1, h2, h3, h4⟩
  · omega

set_option maxRecDepth 100000 in
set_option maxHeartbeats 1000000 in
theorem refname_any (n : Nat) (w : World) (hn : n < 4294967296) : Calls Try.prog 12 #[.int .i64 n] w (NameE w n) := by
  have HP := Lib.hid (fun W => num_any4 n W hn)
  go_enter Try.func12, Try.ntmps12
  go_wp2_with (refine wpList_alloc32 i34 rfl rfl ?_)
  intro w1 hk1 hb1 hz1
  have Z1 := Lib.hid hz1
  have K1 := Lib.hid hk1
  clear hk1 hz1
  go_wp2_with (refine wpList_alloc32 i34 rfl rfl ?_)
  intro w2 hk2 hb2 hz2
  have hb2' : Below w.heap.size w w2 := hb1.trans (hb2.mono hb1.size)
  have K1' : Hid (Arr w2 34 w.heap.size z32) := (hb2.block _ (by have := Z1.out; omega)).trans K1.out
  rw [z32_cut] at hk2
  have K2 := Lib.hid hk2
  have Z2 := Lib.hid hz2
  clear hk2 K1 hz2
  go_wp2_with (refine wpList_copy_text (t := mark) rfl _ _ 41 rfl Try.underlying41 w1.heap.size 0 32 32 rfl rfl [] _ _ K2.out rfl rfl ?c2 w1.heap.size (Nat.le_refl _) ?_)
  case c2 => simp [mark]
  intro w3 hk3 hb3 ho3 hz3
  have K3 : Hid (Arr w3 34 w1.heap.size (mark ++ List.replicate 4 0 ++ List.replicate 24 0)) := by
    rw [z32_cut2]
    exact hk3.out
  have hb3' : Below w.heap.size w w3 := hb2'.trans (hb3.mono hb1.size)
  have K3' : Hid (Arr w3 34 w.heap.size z32) := (ho3 _ (by have := Z1.out; omega)).trans K1'.out
  clear hk3 K2 K1'
  go_wp2_with fail
  go_region_held3 (fun _ => True) (exact trivial) (first
    | (go_at_call 28; refine (HP.out _).mono ?_; rintro e w4 ⟨A, c, rfl, h41, h42, h43, h44⟩; have K4 := Lib.hid (Arr.keep K3.out (h44.block _ (Arr.lt K3.out))); have X4 := Lib.hid (src_of h43 (by rw [be_length]; omega)); have hb4 : Below w.heap.size w w4 := hb3'.drew.trans (h44.mono hb3'.size); have K4' : Hid (Arr w4 34 w.heap.size z32) := (h44.block _ (Arr.lt K3'.out)).trans K3'.out)
    | ((refine step_copy_splice rfl _ _ 41 41 (by rfl) 5 Try.underlying41 (by kernel_rfl) _ _ 28 28 4 _ (by rfl) (by rfl) w1.heap.size 4 _ 34 K4.out (u8s (be 4 n)) rfl (fun _ => ⟨rfl, X4.out⟩) (by rw [u8s_length, be_length]; decide) (u8s_one _) w1.heap.size w4 (Below.refl _ _) (Nat.le_refl _) ?_); intro w5 hk5 hb5)
    | fail)
  have hb5' : Below w.heap.size w w5 := hb4.trans (hb5.mono (by have := Z1.out; omega))
  have K5' : Hid (Arr w5 34 w.heap.size z32) := (hb5.block _ (by have := Z1.out; omega)).trans K4'.out
  have K5 : Hid (Arr w5 34 w1.heap.size (nm n)) := by
    have h := hk5.out
    rw [splice_name] at h
    exact h
  clear hk5 K4' X4 K4 K3 K3' h43 h44
  go_wp2_with (first | (refine wpList_load32 i34 rfl (.tmp 3) rfl w1.heap.size rfl (nm n) K5.out (nm_length n) ?_) | (refine wpList_store32 i34 rfl _ _ rfl w.heap.size z32 (nm n) rfl rfl K5'.out z32_length (nm_length n) w.heap.size (Nat.le_refl _) ?_))
  intro w6 hk6 hb6 ho6 hz6
  have hb6' := hb5'.trans hb6
  go_wp2
  exact bodyPost_ret (results_one i34 rfl _ _ w.heap.size (nm n) rfl hk6 (nm_length n)) rfl ⟨rfl, hb6'⟩
end Go.Proofs.Ytbhfjjlfpgineaa
