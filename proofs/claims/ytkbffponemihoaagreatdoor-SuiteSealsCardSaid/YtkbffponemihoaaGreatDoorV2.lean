/- The free suite's small calls: the parts of a name, bytes compared, a name and bytes 0. Conditions: no more than 3,000 bytes. -/
import Derived.Test.YtkbffponemihoaaGreatDoorU3
import Derived.Test.YtkbffponemihoaaGreatDoorV1
namespace Go.Proofs.YtkbffponemihoaaGreatDoor
open Go.RowKit T
theorem equal_any {w : World} {ok ok' : Nat → Prop} {A B : Option Addr} {xs ys : List UInt8} {c d n m : Nat} (ha : Byt w ok A xs) (hb : Byt w ok' B ys) (hn : xs.length = n) (hm : ys.length = m) :
    Calls Tryz.prog 43 #[.slice A n c, .slice B m d] w fun e w' => e = .returned (.bool (decide (xs = ys))) ∧ w = w' := by
  subst hn hm
  have r1 := ha.str c
  have r2 := hb.str d
  go_enter Tryz.func43, Tryz.ntmps43
  go_wp2
  go_ret
  exact ⟨bool_end (by rw [Bool.eq_iff_iff]; simp), rfl⟩
/-- The parts of a name, in new memory; or none. -/
def PartsE (w : World) (r : Option (List (List UInt8))) (e : Ending) (w' : World) : Prop :=
  Below w.heap.size w w' ∧ ((r = none ∧ e = .returned (.slice none 0 0)) ∨
    ∃ a s A c, r = some [a, s] ∧ e = .returned (.slice (some A) 2 c) ∧ Lst w' (fun b => w.heap.size ≤ b ∧ b < w'.heap.size) (some A) [a, s])
theorem PartsE.no {w w' : World} {r : Option (List (List UInt8))} (hb : Below w.heap.size w w') (h : r = none) : PartsE w r (.returned (.slice none 0 0)) w' := ⟨hb, .inl ⟨h, rfl⟩⟩
theorem PartsE.yes {w w' : World} {r : Option (List (List UInt8))} {ps : List (List UInt8)} {A : Option Addr} {c : Nat} (hb : Below w.heap.size w w') (h : r = some ps) (hl : ps.length = 2) (hL : Lst w' (fun b => w.heap.size ≤ b ∧ b < w'.heap.size) A ps) : PartsE w r (.returned (.slice A 2 c)) w' := by
  match ps, hl with
  | [a, s], _ =>
    obtain ⟨ad, _, _, rfl, _⟩ := hL 0 (by simp)
    exact ⟨hb, .inr ⟨a, s, ad, c, h, rfl, hL⟩⟩
set_option maxRecDepth 100000 in
set_option maxHeartbeats 2000000 in
theorem parts_any {w : World} {ok : Nat → Prop} {tb : Nat} {T : List Trm} {ks : List UInt8} (h : Tbl w ok tb T) (hl : ks.length = 32) :
    Calls Tryz.prog 42 #[sui (some ⟨tb, 0, none⟩), .agg (u8s ks).toArray, .int .i64 8, .int .i64 2] w (PartsE w (found T ks)) := by
  have HL := Lib.hid hl
  clear hl
  have hg0 := World.grownBy_alloc w (.cells #[.pointer (some ⟨tb, 0, none⟩)] 27) none
  have hb0 : C.Blk (w.alloc (.cells #[.pointer (some ⟨tb, 0, none⟩)] 27)) w.heap.size 27 [.pointer (some ⟨tb, 0, none⟩)] := C.Blk.of_alloc w _ 27
  have HG0 := Lib.hid (grown_below hg0)
  have HB0 := Lib.hid hb0
  clear hg0 hb0
  unfold sui
  go_enter Tryz.func42, Tryz.ntmps42
  go_wp2_with (refine wpList_box32 i49 rfl _ rfl ks rfl HL.out ?_)
  intro w1 k1 b1 z1
  have hb1 : C.Blk w1 w.heap.size 27 [.pointer (some ⟨tb, 0, none⟩)] := HB0.out.keep (b1.block _ (Nat.lt_succ_self _))
  have hc1 : w1.cell? ⟨w.heap.size, 0, none⟩ = some (.pointer (some ⟨tb, 0, none⟩)) := hb1.get 0 _ rfl
  have B1 := Lib.hid (HG0.out.trans (b1.mono (Nat.le_succ _)))
  obtain ⟨n, hn⟩ : ∃ n, num ks (T.length + 1) = n := ⟨_, rfl⟩
  have ho := of_any (h.below B1.out) HL.out
  rw [hn] at ho
  have HNN := Lib.hid hn
  clear hn
  clear hb1 b1 z1 HG0 HB0
  go_wp2_with (refine wpList_load32 i49 rfl _ rfl (w.heap.size + 1) rfl ks k1.out HL.out ?_)
  go_at_call 62
  refine ho.mono ?_
  rintro _ w2 ⟨b2, h2⟩
  have B2 := Lib.hid (B1.out.trans (b2.mono B1.out.size))
  have SZ := Lib.hid B1.out.size
  clear ho b2 k1 hc1 h B1
  rcases h2 with ⟨hz, rfl⟩ | ⟨hj, A, c, hp, rfl, hL⟩
  · have HF := Lib.hid (found_zero (HNN.out.trans hz))
    clear hz
    go_wp2
    go_ret
    exact PartsE.no B2.out HF.out
  · have hf0 := fun hx => found_no HNN.out hj hx
    have hf1 := found_yes HNN.out hp hj
    obtain ⟨x, hx⟩ : ∃ x, T[n - 1] = x := ⟨_, rfl⟩
    rw [hx] at hL hf0 hf1 ⊢
    have HL2 : Hid (Lst w2 (fun b => w.heap.size ≤ b ∧ b < w2.heap.size) A x.2) := hL.imp fun b hb => ⟨Nat.le_trans SZ.out hb.1, hb.2⟩
    clear hL hp SZ hx hj
    obtain ⟨k, ps⟩ := x
    by_cases h8 : k = 8
    · subst h8
      obtain ⟨m, hm⟩ : ∃ m, m = ps.length := ⟨_, rfl⟩
      by_cases h2 : m = 2
      · have HF := Lib.hid (hf1 rfl (hm.symm.trans h2))
        have HM := Lib.hid (hm.symm.trans h2)
        clear hf0 hf1 hm h2 m
        have e2 : ((8, ps) : Trm).2.length = 2 := HM.out
        rw [e2]
        clear e2
        go_wp2
        go_ret
        exact PartsE.yes B2.out HF.out HM.out HL2.out
      · have HF := Lib.hid (hf0 fun hx => h2 (hm.trans hx.2))
        have e2 : ((8, ps) : Trm).2.length = m := hm.symm
        rw [e2]
        have d2 : ((m : Int) == 2) = false := by rw [beq_eq_false_iff_ne]; omega
        clear hf0 hf1 hm h2 e2
        go_wp2
        go_ret
        exact PartsE.no B2.out HF.out
    · have HF := Lib.hid (hf0 fun hx => h8 hx.1)
      have d1 : ((k : Int) == 8) = false := by rw [beq_eq_false_iff_ne]; omega
      clear hf0 hf1 h8
      go_wp2
      go_ret
      exact PartsE.no B2.out HF.out
theorem lay_pad (ks : List UInt8) (hl : ks.length = 32) (n : Nat) (hn : 32 ≤ n) : C.lay ks (zz n) = pad ks n := by
  unfold C.lay pad zz
  rw [List.take_of_length_le (by simp; omega), List.drop_replicate, hl]
set_option maxRecDepth 100000 in
set_option maxHeartbeats 2000000 in
theorem filled_any {w : World} {ok : Nat → Prop} {A : Option Addr} {ks b : List UInt8} {n c : Nat} (hl : ks.length = 32) (hx : Byt w ok A b) (hok : ∀ g, ok g → g < w.heap.size) (hn : b.length = n) (h32 : 32 ≤ n) (hm : n ≤ 100000) :
    Calls Tryz.prog 44 #[.agg (u8s ks).toArray, .slice A n c] w fun e w' => e = .returned (.bool (decide (b = pad ks n))) ∧ w.grownBy w' none := by
  obtain ⟨i0, hi, hz0, hz1, hz2⟩ := info_parts Tryz.info5
  have HL := Lib.hid hl
  have HX := Lib.hid hx
  have HO := Lib.hid hok
  have HN := Lib.hid hn
  clear hl hx hok hn
  go_enter Tryz.func44, Tryz.ntmps44
  go_wp2_with (refine wpList_box32 i49 rfl _ rfl ks rfl HL.out ?_)
  intro w1 k1 b1 z1
  have K1 : Hid (Arr w1 40 w.heap.size ks) := k1
  have G1 := Lib.hid (below_grown b1)
  have Z1 := Lib.hid z1
  clear k1 b1 z1
  go_wp2_with (with_reducible refine wpList_make_full _ rfl _ _ 23 rfl w1.heap.size 5 i0 (.int .u8 0) 1 Tryz.underlying23 hi hz0 hz1 .i64 .i64 _ _ n rfl rfl rfl rfl ?c1 ?c2 ?c3 ?_)
  case c1 => rw [hz2]; omega
  case c2 => unfold maxLen; omega
  case c3 => exact Nat.le_refl _
  intro w2 hown g2
  rw [C.made_u8] at hown
  have hb2 : C.Blk w2 w1.heap.size 5 (u8s (zz n)) := C.Blk.of_owns_e hown
  have HB2 := Lib.hid hb2
  have K2 := Lib.hid (Arr.byt (ok := fun b => b < w2.heap.size) (K1.out.keep (g2.block _ K1.out.lt (by simp))) (Nat.lt_of_lt_of_le K1.out.lt g2.size))
  have G2 := Lib.hid (World.grownBy.trans G1.out g2)
  have NE : Hid (w.heap.size ≤ w1.heap.size) := G1.out.size
  clear hown hb2 g2 K1 G1 Z1
  have hbb : C.Blk w2 w1.heap.size 5 ([] ++ C.u8s (zz n) ++ []) := by
    rw [List.nil_append, List.append_nil]
    exact HB2.out
  have hkk : C.Byt w2 (fun b => b < w2.heap.size) (some ⟨w.heap.size, 0, none⟩) ks := K2.out
  have hmm : Nat.min ks.length (zz n).length = 32 := by
    rw [HL.out, zz_length]
    exact Nat.min_eq_left h32
  have HBB := Lib.hid hbb
  have HKK := Lib.hid hkk
  have HMM := Lib.hid hmm
  clear hbb hkk hmm
  go_wp2_with (refine C.wpList_copy_blk rfl _ _ rfl w1.heap.size 0 n n 32 32 (some ⟨w.heap.size, 0, none⟩) ks (zz n) rfl rfl HL.out (zz_length n) 5 [] [] HBB.out rfl (fun b => b < w2.heap.size) HKK.out 32 HMM.out ?_)
  intro w3 k3 g3 z3
  have hk3 : C.Blk w3 w1.heap.size 5 (u8s (pad ks n)) := by
    have h : C.Blk w3 w1.heap.size 5 (C.u8s (C.lay ks (zz n))) := C.Blk.to k3 (by simp)
    rw [lay_pad ks HL.out n h32] at h
    exact h
  have G3 := Lib.hid (World.grownBy.andThen G2.out g3 (by rintro _ ⟨⟩; exact .inl NE.out))
  have hk4 : Byt w3 (fun b => b = w1.heap.size) (some ⟨w1.heap.size, 0, none⟩) (pad ks n) := C.byt_blk hk3
  have he := equal_any (c := c) (d := n) ((HX.out.grown G3.out fun b hb => ⟨HO.out b hb, by simp⟩)) hk4 HN.out (pad_length HL.out h32)
  clear k3 g3 z3 hk3 HB2 K2 G2 NE HBB HKK HMM
  go_wp2_with fail
  go_at_call 43
  refine he.mono ?_
  rintro _ w4 ⟨rfl, rfl⟩
  clear he
  go_wp2
  go_ret
  exact ⟨rfl, G3.out⟩
end Go.Proofs.YtkbffponemihoaaGreatDoor
