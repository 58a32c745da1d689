/- The reference's Open: how it ends, and where it ends ahead of the records. Conditions: at most 10^6 writes wait. -/
import Derived.Test.YtonpcenjipigpaaGreatZ43
namespace Go.Proofs.YtonpcenjipigpaaGreat
open Go.RowKit
/-- What lies in the middle of blocks, whether more of them are taken or not. -/
theorem secs_mid {B : List UInt8} {i M K n : Nat} (h : 8 + n ≤ 64 * M) (hK : M ≤ K) : ((secs B i M).drop 8).take n = ((secs B i K).drop 8).take n := by
  unfold secs
  rw [List.drop_take, List.drop_take, List.take_take, List.take_take, Nat.min_eq_left (by omega), Nat.min_eq_left (by omega)]
theorem recB_take8 (e k : Nat) (p : List UInt8) : (recB e k p).take 8 = frontB e k p := by
  unfold recB fillB
  rw [List.append_assoc, List.take_left' (frontB_length e k p)]
/-- The halves' headers told at once. -/
theorem findL_two (B : List UInt8) (nh : Nat) {t0 a0 c0 n0 t1 a1 c1 n1 : Nat} (h0 : headT (blk B 0) nh = (t0, a0, c0, n0)) (h1 : headT (blk B nh) nh = (t1, a1, c1, n1)) :
    findL B nh 2 0 (false, 0, 0, 0, 0) = if headK t0 < 0 ∨ headK t1 < 0 then none else if headK t0 + headK t1 = 0 then some (false, 0, 0, 0, 0)
      else if headK t0 + headK t1 = 2 ∧ a0 = a1 then none else if headK t0 = 0 ∨ (headK t1 = 1 ∧ a0 < a1) then some (true, 1, a1, c1, n1) else some (true, 0, a0, c0, n0) := by
  have e0 := headT_err (blk B 0) nh
  have e1 := headT_err (blk B nh) nh
  rw [h0] at e0
  rw [h1] at e1
  simp only [findL, Nat.zero_mul, Nat.one_mul, Nat.zero_add, h0, h1]
  dsimp only at e0 e1
  rcases e0 with rfl | rfl | rfl <;> rcases e1 with rfl | rfl | rfl <;> simp [headK]
  by_cases h : a0 = a1
  · subst h; simp
  · have h' : ¬ a1 = a0 := fun e => h e.symm
    simp [h, h']
    by_cases h2 : a0 < a1 <;> simp [h2]
theorem headK_cases {b : List UInt8} {nh t a c n : Nat} (h : headT b nh = (t, a, c, n)) : (headK t = -1 ∧ t = 160) ∨ (headK t = 0 ∧ t = 2) ∨ (headK t = 1 ∧ t = 0) := by
  have e0 := headT_err b nh
  rw [h] at e0
  dsimp only at e0
  rcases e0 with rfl | rfl | rfl <;> simp [headK]
theorem headT_two {b : List UInt8} {nh a c n : Nat} (h : headT b nh = (2, a, c, n)) : a = 0 ∧ c = 0 ∧ n = 0 := by
  unfold headT at h
  split at h
  · simp at h; omega
  · split at h <;> simp at h
/-- How opening ends. -/
def ROpenE (w : World) (foot : Nat → Prop) (dp : Nat) (t : Nat × St × Option Ste) (r : Ending) (w' : World) : Prop :=
  ∃ f', RDsk w' f' dp t.2.1 ∧ (∀ k, f' k → foot k ∨ (w.heap.size ≤ k ∧ k < w'.heap.size)) ∧ Md foot w w' ∧
    match t.2.2 with
    | none => ∃ v, r = .returned (.tuple #[v, .int .i64 (t.1 : Int)])
    | some u => ∃ sp fs, r = .returned (.tuple #[.pointer (some ⟨sp, 0, none⟩), .int .i64 (t.1 : Int)]) ∧ RStm w' fs sp dp u t.2.1.dead ∧ (∀ k, fs k → w.heap.size ≤ k ∧ ¬ f' k) ∧ w.heap.size ≤ sp ∧ ¬ f' sp
theorem ropenE_none {w w' : World} {foot : Nat → Prop} {dp e : Nat} {s : St} {t : Nat × St × Option Ste} (ht : t = (e, s, none)) (hd : RDsk w' foot dp s) (hm : Md foot w w') (v : Value) : ROpenE w foot dp t (.returned (.tuple #[v, .int .i64 (e : Int)])) w' := by
  subst ht
  exact ⟨foot, hd, fun _ hk => .inl hk, hm, v, rfl⟩
set_option maxRecDepth 100000 in
set_option maxHeartbeats 4000000 in
theorem ropen_few {foot : Nat → Prop} {w : World} {dp : Nat} {s : St} (hd : RDsk w foot dp s) (h4 : s.n < 4) : Calls Tryz.prog 10 #[.pointer (some ⟨dp, 0, none⟩)] w (ROpenE w foot dp s.openT) := by
  have hT : s.openT = (1, s, none) := by rw [St.openT, if_pos h4]
  have h4I : decide (((s.n : Nat) : Int) < 4) = true := decide_eq_true (by omega)
  have HT := Lib.hid hT
  have HD := Lib.hid hd
  have c0 := hd.cn
  clear hT hd
  go_enter Tryz.func10, Tryz.ntmps10
  go_wp2
  go_ret2
  exact ropenE_none HT.out HD.out (Md.refl _ _) _
set_option maxRecDepth 100000 in
set_option maxHeartbeats 4000000 in
theorem ropen_dead {foot : Nat → Prop} {w : World} {dp : Nat} {s : St} (hd : RDsk w foot dp s) (h4 : ¬ s.n < 4) (hn4 : s.n ≤ 4096) (hdd : s.dead = true) : Calls Tryz.prog 10 #[.pointer (some ⟨dp, 0, none⟩)] w (ROpenE w foot dp s.openT) := by
  have hT : s.openT = (150, s, none) := by rw [St.openT, if_neg h4, if_pos hdd]
  have h4I : decide (((s.n : Nat) : Int) < 4) = false := decide_eq_false (by omega)
  have HT := Lib.hid hT
  have HD := Lib.hid hd
  have c0 := hd.cn
  have r0 : Calls Tryz.prog 32 #[.pointer (some ⟨dp, 0, none⟩), .int .i64 0] w _ := rread_dead hd (i := 0) (by omega) hdd
  obtain ⟨nh, hnh⟩ : ∃ nh, nh = s.n / 2 := ⟨_, rfl⟩
  have r1 := rread_dead hd (i := nh) (by omega) hdd
  obtain ⟨N, hN⟩ : ∃ N, N = s.n := ⟨_, rfl⟩
  rw [← hN] at c0 hnh h4I h4 hn4
  have hnI : (N : Int) / 2 = (nh : Int) := by omega
  have hnW : IntKind.i64.wrap (N : Int) = (N : Int) := IntWalk.i64_in _ (by omega)
  clear hT hd hnh hN
  go_enter Tryz.func10, Tryz.ntmps10
  go_wp2_with (first
    | (go_at_call 32; (with_reducible refine r0.mono ?_); rintro _ _ ⟨rfl, rfl⟩)
    | (go_at_call 32; (with_reducible refine r1.mono ?_); rintro _ _ ⟨rfl, rfl⟩)
    | fail)
  go_ret2
  exact ropenE_none HT.out HD.out (Md.refl _ _) _
-- HEADS
set_option maxRecDepth 100000 in
set_option maxHeartbeats 8000000 in
theorem ropen_wrong0 {foot : Nat → Prop} {w : World} {dp : Nat} {s : St} (hd : RDsk w foot dp s) (h4 : ¬ s.n < 4) (hn4 : s.n ≤ 4096) (hdd : s.dead = false) (hL : s.L.length ≤ 1000000) {a0 c0 n0 a1 c1 n1 : Nat} {t1 : Nat} (h0 : headT (blk s.img 0) (s.n / 2) = (160, a0, c0, n0)) (h1 : headT (blk s.img (s.n / 2)) (s.n / 2) = (t1, a1, c1, n1)) : Calls Tryz.prog 10 #[.pointer (some ⟨dp, 0, none⟩)] w (ROpenE w foot dp s.openT) := by
  have hil : s.img.length = 64 * s.n := redo_length hd.ok.2.2.2.1 hd.ok.2.2.1
  have hnn := hd.ok.2.1
  have hT : s.openT = (160, s, none) := by
    rw [St.openT, if_neg h4, if_neg (by rw [hdd]; decide), findL_two _ _ h0 h1, if_pos (.inl (by simp [headK]))]
  obtain ⟨B, hB⟩ : ∃ B, B = s.img := ⟨_, rfl⟩
  obtain ⟨nh, hnh⟩ : ∃ nh, nh = s.n / 2 := ⟨_, rfl⟩
  obtain ⟨n, hN⟩ : ∃ n, n = s.n := ⟨_, rfl⟩
  rw [← hnh] at h0 h1
  rw [← hB] at h0 h1 hil
  rw [← hN] at hnn hnh h4 hn4 hil
  have c0_ := hd.cn
  rw [← hN] at c0_
  have r0 : Calls Tryz.prog 32 #[.pointer (some ⟨dp, 0, none⟩), .int .i64 0] w _ := rread_yes hd (by omega) (i := 0) (by omega) hdd
  have kR : Hid (∀ (W : World) (i : Nat), w.grownBy W none → i < n → Calls Tryz.prog 32 #[.pointer (some ⟨dp, 0, none⟩), .int .i64 (i : Int)] W (ReadR W (blk B i))) := Lib.hid fun W i hW hi => by
    have := rread_yes (hd.grown hW) (by omega) (i := i) (by omega) hdd
    rw [← show s.img = redo s.K s.L from rfl, ← hB] at this
    exact this
  rw [← show s.img = redo s.K s.L from rfl, ← hB] at r0
  obtain ⟨v0, hv0⟩ : ∃ v : Int, v = -1 := ⟨_, rfl⟩
  obtain ⟨v1, hv1⟩ : ∃ v : Int, v = headK t1 := ⟨_, rfl⟩
  have kH0 : Hid (∀ (W : World) (g cp : Nat), Byt W (fun k => k = g) (some ⟨g, 0, none⟩) (blk B 0) → g < W.heap.size → 64 ≤ cp → cp ≤ maxLen → Calls Tryz.prog 33 #[.slice (some ⟨g, 0, none⟩) 64 cp, .int .i64 (nh : Int)] W fun e w' => e = .returned (.tuple #[.int .u64 (a0 : Int), .int .i64 (c0 : Int), .int .i64 (n0 : Int), .int .i64 v0]) ∧ Below W.heap.size W w') := Lib.hid fun W g cp y1 y2 y3 y4 => by
    have := rhead_any (h := nh) y1 y2 (blk_length hil (by omega)) y3 y4 (by omega)
    rw [h0] at this
    rw [hv0]
    exact this
  have kH1 : Hid (∀ (W : World) (g cp : Nat), Byt W (fun k => k = g) (some ⟨g, 0, none⟩) (blk B nh) → g < W.heap.size → 64 ≤ cp → cp ≤ maxLen → Calls Tryz.prog 33 #[.slice (some ⟨g, 0, none⟩) 64 cp, .int .i64 (nh : Int)] W fun e w' => e = .returned (.tuple #[.int .u64 (a1 : Int), .int .i64 (c1 : Int), .int .i64 (n1 : Int), .int .i64 v1]) ∧ Below W.heap.size W w') := Lib.hid fun W g cp y1 y2 y3 y4 => by
    have := rhead_any (h := nh) y1 y2 (blk_length hil (by omega)) y3 y4 (by omega)
    rw [h1] at this
    rw [hv1]
    exact this
  obtain ⟨T, hTT⟩ : ∃ T, T = s.openT := ⟨_, rfl⟩
  rw [← hTT] at hT ⊢
  have HT := Lib.hid hT
  have HD := Lib.hid hd
  have HIL := Lib.hid hil
  have hnI : (n : Int) / 2 = (nh : Int) := by omega
  have h4I : decide ((n : Int) < 4) = false := decide_eq_false (by omega)
  have hd0 : decide (v0 < 0) = true := decide_eq_true (by omega)
  clear hT hd hnh hN h0 h1 hB hil hTT
  clear hv0 hv1
  go_enter Tryz.func10, Tryz.ntmps10
  go_wp2_with (first
    | (go_at_call 32; (with_reducible refine r0.mono ?_); rintro _ w1 ⟨g1, l1, rfl, m1, e1, y1, hg1, u1, x1⟩
       have r1 := kR.out w1 nh hg1 (by omega)
       clear r0)
    | (go_at_call 32; (with_reducible refine r1.mono ?_); rintro _ w2 ⟨g2, l2, rfl, m2, e2, y2, hg2, u2, x2⟩
       have k0 := kH0.out w2 g1 l1 (y1.keep fun b hb => hg2.block b (by omega) (by simp)) (Nat.lt_of_lt_of_le x1 hg2.size) m1 u1
       have hg12 := hg1.trans hg2
       clear r1 y1 hg2)
    | (go_at_call 33; (with_reducible refine k0.mono ?_); rintro _ w3 ⟨rfl, b3⟩
       have k1 := kH1.out w3 g2 l2 (y2.keep fun b hb => b3.block b (by omega)) (Nat.lt_of_lt_of_le x2 b3.size) m2 u2
       have hg13 := hg12.trans (grown_of_below b3)
       clear k0 y2 b3)
    | (go_at_call 33; (with_reducible refine k1.mono ?_); rintro _ w4 ⟨rfl, b4⟩
       have hg14 := hg13.trans (grown_of_below b4)
       clear k1 b4)
    | fail)
  go_ret2
  exact ropenE_none HT.out (HD.out.grown hg14) (Md.of_grown hg14 (by simp)) _
set_option maxRecDepth 100000 in
set_option maxHeartbeats 8000000 in
theorem ropen_wrong1 {foot : Nat → Prop} {w : World} {dp : Nat} {s : St} (hd : RDsk w foot dp s) (h4 : ¬ s.n < 4) (hn4 : s.n ≤ 4096) (hdd : s.dead = false) (hL : s.L.length ≤ 1000000) {a0 c0 n0 a1 c1 n1 : Nat} {t0 : Nat} (ht0 : t0 = 2 ∨ t0 = 0) (h0 : headT (blk s.img 0) (s.n / 2) = (t0, a0, c0, n0)) (h1 : headT (blk s.img (s.n / 2)) (s.n / 2) = (160, a1, c1, n1)) : Calls Tryz.prog 10 #[.pointer (some ⟨dp, 0, none⟩)] w (ROpenE w foot dp s.openT) := by
  have hil : s.img.length = 64 * s.n := redo_length hd.ok.2.2.2.1 hd.ok.2.2.1
  have hnn := hd.ok.2.1
  have hT : s.openT = (160, s, none) := by
    rw [St.openT, if_neg h4, if_neg (by rw [hdd]; decide), findL_two _ _ h0 h1, if_pos (.inr (by simp [headK]))]
  obtain ⟨B, hB⟩ : ∃ B, B = s.img := ⟨_, rfl⟩
  obtain ⟨nh, hnh⟩ : ∃ nh, nh = s.n / 2 := ⟨_, rfl⟩
  obtain ⟨n, hN⟩ : ∃ n, n = s.n := ⟨_, rfl⟩
  rw [← hnh] at h0 h1
  rw [← hB] at h0 h1 hil
  rw [← hN] at hnn hnh h4 hn4 hil
  have c0_ := hd.cn
  rw [← hN] at c0_
  have r0 : Calls Tryz.prog 32 #[.pointer (some ⟨dp, 0, none⟩), .int .i64 0] w _ := rread_yes hd (by omega) (i := 0) (by omega) hdd
  have kR : Hid (∀ (W : World) (i : Nat), w.grownBy W none → i < n → Calls Tryz.prog 32 #[.pointer (some ⟨dp, 0, none⟩), .int .i64 (i : Int)] W (ReadR W (blk B i))) := Lib.hid fun W i hW hi => by
    have := rread_yes (hd.grown hW) (by omega) (i := i) (by omega) hdd
    rw [← show s.img = redo s.K s.L from rfl, ← hB] at this
    exact this
  rw [← show s.img = redo s.K s.L from rfl, ← hB] at r0
  obtain ⟨v0, hv0⟩ : ∃ v : Int, v = headK t0 := ⟨_, rfl⟩
  obtain ⟨v1, hv1⟩ : ∃ v : Int, v = -1 := ⟨_, rfl⟩
  have kH0 : Hid (∀ (W : World) (g cp : Nat), Byt W (fun k => k = g) (some ⟨g, 0, none⟩) (blk B 0) → g < W.heap.size → 64 ≤ cp → cp ≤ maxLen → Calls Tryz.prog 33 #[.slice (some ⟨g, 0, none⟩) 64 cp, .int .i64 (nh : Int)] W fun e w' => e = .returned (.tuple #[.int .u64 (a0 : Int), .int .i64 (c0 : Int), .int .i64 (n0 : Int), .int .i64 v0]) ∧ Below W.heap.size W w') := Lib.hid fun W g cp y1 y2 y3 y4 => by
    have := rhead_any (h := nh) y1 y2 (blk_length hil (by omega)) y3 y4 (by omega)
    rw [h0] at this
    rw [hv0]
    exact this
  have kH1 : Hid (∀ (W : World) (g cp : Nat), Byt W (fun k => k = g) (some ⟨g, 0, none⟩) (blk B nh) → g < W.heap.size → 64 ≤ cp → cp ≤ maxLen → Calls Tryz.prog 33 #[.slice (some ⟨g, 0, none⟩) 64 cp, .int .i64 (nh : Int)] W fun e w' => e = .returned (.tuple #[.int .u64 (a1 : Int), .int .i64 (c1 : Int), .int .i64 (n1 : Int), .int .i64 v1]) ∧ Below W.heap.size W w') := Lib.hid fun W g cp y1 y2 y3 y4 => by
    have := rhead_any (h := nh) y1 y2 (blk_length hil (by omega)) y3 y4 (by omega)
    rw [h1] at this
    rw [hv1]
    exact this
  obtain ⟨T, hTT⟩ : ∃ T, T = s.openT := ⟨_, rfl⟩
  rw [← hTT] at hT ⊢
  have HT := Lib.hid hT
  have HD := Lib.hid hd
  have HIL := Lib.hid hil
  have hnI : (n : Int) / 2 = (nh : Int) := by omega
  have h4I : decide ((n : Int) < 4) = false := decide_eq_false (by omega)
  have hd0 : decide (v0 < 0) = false := decide_eq_false (by rcases ht0 with rfl | rfl <;> simp [headK] at hv0 <;> omega)
  have hd1 : decide (v1 < 0) = true := decide_eq_true (by omega)
  clear hT hd hnh hN h0 h1 hB hil hTT
  clear hv0 hv1 ht0
  go_enter Tryz.func10, Tryz.ntmps10
  go_wp2_with (first
    | (go_at_call 32; (with_reducible refine r0.mono ?_); rintro _ w1 ⟨g1, l1, rfl, m1, e1, y1, hg1, u1, x1⟩
       have r1 := kR.out w1 nh hg1 (by omega)
       clear r0)
    | (go_at_call 32; (with_reducible refine r1.mono ?_); rintro _ w2 ⟨g2, l2, rfl, m2, e2, y2, hg2, u2, x2⟩
       have k0 := kH0.out w2 g1 l1 (y1.keep fun b hb => hg2.block b (by omega) (by simp)) (Nat.lt_of_lt_of_le x1 hg2.size) m1 u1
       have hg12 := hg1.trans hg2
       clear r1 y1 hg2)
    | (go_at_call 33; (with_reducible refine k0.mono ?_); rintro _ w3 ⟨rfl, b3⟩
       have k1 := kH1.out w3 g2 l2 (y2.keep fun b hb => b3.block b (by omega)) (Nat.lt_of_lt_of_le x2 b3.size) m2 u2
       have hg13 := hg12.trans (grown_of_below b3)
       clear k0 y2 b3)
    | (go_at_call 33; (with_reducible refine k1.mono ?_); rintro _ w4 ⟨rfl, b4⟩
       have hg14 := hg13.trans (grown_of_below b4)
       clear k1 b4)
    | fail)
  go_ret2
  exact ropenE_none HT.out (HD.out.grown hg14) (Md.of_grown hg14 (by simp)) _
set_option maxRecDepth 100000 in
set_option maxHeartbeats 8000000 in
theorem ropen_equal {foot : Nat → Prop} {w : World} {dp : Nat} {s : St} (hd : RDsk w foot dp s) (h4 : ¬ s.n < 4) (hn4 : s.n ≤ 4096) (hdd : s.dead = false) (hL : s.L.length ≤ 1000000) {a0 c0 n0 a1 c1 n1 : Nat} (h0 : headT (blk s.img 0) (s.n / 2) = (0, a0, c0, n0)) (h1 : headT (blk s.img (s.n / 2)) (s.n / 2) = (0, a1, c1, n1)) (hea : a0 = a1) : Calls Tryz.prog 10 #[.pointer (some ⟨dp, 0, none⟩)] w (ROpenE w foot dp s.openT) := by
  have hil : s.img.length = 64 * s.n := redo_length hd.ok.2.2.2.1 hd.ok.2.2.1
  have hnn := hd.ok.2.1
  have hT : s.openT = (160, s, none) := by
    rw [St.openT, if_neg h4, if_neg (by rw [hdd]; decide), findL_two _ _ h0 h1, if_neg (by simp [headK]), if_neg (by simp [headK]), if_pos ⟨by simp [headK], hea⟩]
  obtain ⟨B, hB⟩ : ∃ B, B = s.img := ⟨_, rfl⟩
  obtain ⟨nh, hnh⟩ : ∃ nh, nh = s.n / 2 := ⟨_, rfl⟩
  obtain ⟨n, hN⟩ : ∃ n, n = s.n := ⟨_, rfl⟩
  rw [← hnh] at h0 h1
  rw [← hB] at h0 h1 hil
  rw [← hN] at hnn hnh h4 hn4 hil
  have c0_ := hd.cn
  rw [← hN] at c0_
  have r0 : Calls Tryz.prog 32 #[.pointer (some ⟨dp, 0, none⟩), .int .i64 0] w _ := rread_yes hd (by omega) (i := 0) (by omega) hdd
  have kR : Hid (∀ (W : World) (i : Nat), w.grownBy W none → i < n → Calls Tryz.prog 32 #[.pointer (some ⟨dp, 0, none⟩), .int .i64 (i : Int)] W (ReadR W (blk B i))) := Lib.hid fun W i hW hi => by
    have := rread_yes (hd.grown hW) (by omega) (i := i) (by omega) hdd
    rw [← show s.img = redo s.K s.L from rfl, ← hB] at this
    exact this
  rw [← show s.img = redo s.K s.L from rfl, ← hB] at r0
  obtain ⟨v0, hv0⟩ : ∃ v : Int, v = 1 := ⟨_, rfl⟩
  obtain ⟨v1, hv1⟩ : ∃ v : Int, v = 1 := ⟨_, rfl⟩
  have kH0 : Hid (∀ (W : World) (g cp : Nat), Byt W (fun k => k = g) (some ⟨g, 0, none⟩) (blk B 0) → g < W.heap.size → 64 ≤ cp → cp ≤ maxLen → Calls Tryz.prog 33 #[.slice (some ⟨g, 0, none⟩) 64 cp, .int .i64 (nh : Int)] W fun e w' => e = .returned (.tuple #[.int .u64 (a0 : Int), .int .i64 (c0 : Int), .int .i64 (n0 : Int), .int .i64 v0]) ∧ Below W.heap.size W w') := Lib.hid fun W g cp y1 y2 y3 y4 => by
    have := rhead_any (h := nh) y1 y2 (blk_length hil (by omega)) y3 y4 (by omega)
    rw [h0] at this
    rw [hv0]
    exact this
  have kH1 : Hid (∀ (W : World) (g cp : Nat), Byt W (fun k => k = g) (some ⟨g, 0, none⟩) (blk B nh) → g < W.heap.size → 64 ≤ cp → cp ≤ maxLen → Calls Tryz.prog 33 #[.slice (some ⟨g, 0, none⟩) 64 cp, .int .i64 (nh : Int)] W fun e w' => e = .returned (.tuple #[.int .u64 (a1 : Int), .int .i64 (c1 : Int), .int .i64 (n1 : Int), .int .i64 v1]) ∧ Below W.heap.size W w') := Lib.hid fun W g cp y1 y2 y3 y4 => by
    have := rhead_any (h := nh) y1 y2 (blk_length hil (by omega)) y3 y4 (by omega)
    rw [h1] at this
    rw [hv1]
    exact this
  obtain ⟨T, hTT⟩ : ∃ T, T = s.openT := ⟨_, rfl⟩
  rw [← hTT] at hT ⊢
  have HT := Lib.hid hT
  have HD := Lib.hid hd
  have HIL := Lib.hid hil
  have hnI : (n : Int) / 2 = (nh : Int) := by omega
  have h4I : decide ((n : Int) < 4) = false := decide_eq_false (by omega)
  clear hT hd hnh hN h0 h1 hB hil hTT
  subst hv0 hv1 hea
  go_enter Tryz.func10, Tryz.ntmps10
  go_wp2_with (first
    | (go_at_call 32; (with_reducible refine r0.mono ?_); rintro _ w1 ⟨g1, l1, rfl, m1, e1, y1, hg1, u1, x1⟩
       have r1 := kR.out w1 nh hg1 (by omega)
       clear r0)
    | (go_at_call 32; (with_reducible refine r1.mono ?_); rintro _ w2 ⟨g2, l2, rfl, m2, e2, y2, hg2, u2, x2⟩
       have k0 := kH0.out w2 g1 l1 (y1.keep fun b hb => hg2.block b (by omega) (by simp)) (Nat.lt_of_lt_of_le x1 hg2.size) m1 u1
       have hg12 := hg1.trans hg2
       clear r1 y1 hg2)
    | (go_at_call 33; (with_reducible refine k0.mono ?_); rintro _ w3 ⟨rfl, b3⟩
       have k1 := kH1.out w3 g2 l2 (y2.keep fun b hb => b3.block b (by omega)) (Nat.lt_of_lt_of_le x2 b3.size) m2 u2
       have hg13 := hg12.trans (grown_of_below b3)
       clear k0 y2 b3)
    | (go_at_call 33; (with_reducible refine k1.mono ?_); rintro _ w4 ⟨rfl, b4⟩
       have hg14 := hg13.trans (grown_of_below b4)
       clear k1 b4)
    | fail)
  go_ret2
  exact ropenE_none HT.out ((HD.out.grown hg14).grown (World.grownBy_alloc _ _ _)) (Md.of_grown (hg14.trans (World.grownBy_alloc _ _ _)) (by simp)) _
set_option maxRecDepth 100000 in
set_option maxHeartbeats 8000000 in
theorem ropen_begin {foot : Nat → Prop} {w : World} {dp : Nat} {s : St} (hd : RDsk w foot dp s) (h4 : ¬ s.n < 4) (hn4 : s.n ≤ 4096) (hdd : s.dead = false) (hL : s.L.length ≤ 1000000) {a0 c0 n0 a1 c1 n1 : Nat} (h0 : headT (blk s.img 0) (s.n / 2) = (2, a0, c0, n0)) (h1 : headT (blk s.img (s.n / 2)) (s.n / 2) = (2, a1, c1, n1)) : Calls Tryz.prog 10 #[.pointer (some ⟨dp, 0, none⟩)] w (ROpenE w foot dp s.openT) := by
  have hil : s.img.length = 64 * s.n := redo_length hd.ok.2.2.2.1 hd.ok.2.2.1
  have hnn := hd.ok.2.1
  obtain ⟨hdr, hhr⟩ : ∃ hdr, hdr = hdrB 1 0 1 := ⟨_, rfl⟩
  have hT : s.openT = if (s.sealed 0 (hdrB 1 0 1)).1 = 0 then (0, (s.sealed 0 (hdrB 1 0 1)).2, some ⟨0, 1, 0, 1, []⟩) else ((s.sealed 0 (hdrB 1 0 1)).1, (s.sealed 0 (hdrB 1 0 1)).2, none) := by
    rw [St.openT, if_neg h4, if_neg (by rw [hdd]; decide), findL_two _ _ h0 h1, if_neg (by simp [headK]), if_pos (by simp [headK])]
  rw [← hhr] at hT
  obtain ⟨B, hB⟩ : ∃ B, B = s.img := ⟨_, rfl⟩
  obtain ⟨nh, hnh⟩ : ∃ nh, nh = s.n / 2 := ⟨_, rfl⟩
  obtain ⟨n, hN⟩ : ∃ n, n = s.n := ⟨_, rfl⟩
  rw [← hnh] at h0 h1
  rw [← hB] at h0 h1 hil
  rw [← hN] at hnn hnh h4 hn4 hil
  have c0_ := hd.cn
  rw [← hN] at c0_
  have r0 : Calls Tryz.prog 32 #[.pointer (some ⟨dp, 0, none⟩), .int .i64 0] w _ := rread_yes hd (by omega) (i := 0) (by omega) hdd
  have kR : Hid (∀ (W : World) (i : Nat), w.grownBy W none → i < n → Calls Tryz.prog 32 #[.pointer (some ⟨dp, 0, none⟩), .int .i64 (i : Int)] W (ReadR W (blk B i))) := Lib.hid fun W i hW hi => by
    have := rread_yes (hd.grown hW) (by omega) (i := i) (by omega) hdd
    rw [← show s.img = redo s.K s.L from rfl, ← hB] at this
    exact this
  rw [← show s.img = redo s.K s.L from rfl, ← hB] at r0
  obtain ⟨v0, hv0⟩ : ∃ v : Int, v = 0 := ⟨_, rfl⟩
  obtain ⟨v1, hv1⟩ : ∃ v : Int, v = 0 := ⟨_, rfl⟩
  have kH0 : Hid (∀ (W : World) (g cp : Nat), Byt W (fun k => k = g) (some ⟨g, 0, none⟩) (blk B 0) → g < W.heap.size → 64 ≤ cp → cp ≤ maxLen → Calls Tryz.prog 33 #[.slice (some ⟨g, 0, none⟩) 64 cp, .int .i64 (nh : Int)] W fun e w' => e = .returned (.tuple #[.int .u64 (a0 : Int), .int .i64 (c0 : Int), .int .i64 (n0 : Int), .int .i64 v0]) ∧ Below W.heap.size W w') := Lib.hid fun W g cp y1 y2 y3 y4 => by
    have := rhead_any (h := nh) y1 y2 (blk_length hil (by omega)) y3 y4 (by omega)
    rw [h0] at this
    rw [hv0]
    exact this
  have kH1 : Hid (∀ (W : World) (g cp : Nat), Byt W (fun k => k = g) (some ⟨g, 0, none⟩) (blk B nh) → g < W.heap.size → 64 ≤ cp → cp ≤ maxLen → Calls Tryz.prog 33 #[.slice (some ⟨g, 0, none⟩) 64 cp, .int .i64 (nh : Int)] W fun e w' => e = .returned (.tuple #[.int .u64 (a1 : Int), .int .i64 (c1 : Int), .int .i64 (n1 : Int), .int .i64 v1]) ∧ Below W.heap.size W w') := Lib.hid fun W g cp y1 y2 y3 y4 => by
    have := rhead_any (h := nh) y1 y2 (blk_length hil (by omega)) y3 y4 (by omega)
    rw [h1] at this
    rw [hv1]
    exact this
  obtain ⟨T, hTT⟩ : ∃ T, T = s.openT := ⟨_, rfl⟩
  rw [← hTT] at hT ⊢
  have HT := Lib.hid hT
  have HD := Lib.hid hd
  have HIL := Lib.hid hil
  have hnI : (n : Int) / 2 = (nh : Int) := by omega
  have h4I : decide ((n : Int) < 4) = false := decide_eq_false (by omega)
  have hhl : hdr.length = 64 := by rw [hhr]; exact hdrB_length _ _ _
  have kHd : Hid (∀ W, Calls Tryz.prog 34 #[.int .u64 1, .int .i64 0, .int .i64 1] W (OwnB W hdr)) := Lib.hid fun W => by
    rw [hhr]
    exact refHead_any 1 0 1 W (by decide) (by decide) (by decide)
  obtain ⟨s1, hs1⟩ : ∃ s1, s1 = s.wrote 0 hdr := ⟨_, rfl⟩
  obtain ⟨q1, hq1⟩ : ∃ q, q = s.wroteE := ⟨_, rfl⟩
  have kW : Hid (∀ (W : World) (g cp : Nat) (ok : Nat → Prop), w.grownBy W none → Byt W ok (some ⟨g, 0, none⟩) hdr → (∀ k, ok k → k < W.heap.size ∧ ¬ foot k) → Calls Tryz.prog 25 #[.pointer (some ⟨dp, 0, none⟩), .int .i64 0, .slice (some ⟨g, 0, none⟩) 64 cp] W fun e w' => e = .returned (.int .i64 (q1 : Int)) ∧ NxtR W foot dp s1 w') := Lib.hid fun W g cp ok hW hy hok => by
    have := rwrite_both (c := cp) (hd.grown hW) (i := 0) (by omega) hy hhl hok (by omega)
    rw [← hs1, ← hq1] at this
    exact this
  have hsl : s.sealed 0 hdr = if q1 = 0 then (s1.keptE, s1.synced) else (150, s1) := by rw [St.sealed, ← hq1, ← hs1]
  have hL1 : s1.L.length ≤ 1048576 := by
    have h1 := (St.laid_n [hdr] s 0).2
    rw [hs1]
    unfold St.wrote
    split
    · simp [St.write, St.burn]; omega
    · simp [St.burn]; omega
  have HSL := Lib.hid hsl
  have HL1 := Lib.hid hL1
  have HHL := Lib.hid hhl
  have HFL := Lib.hid hd.lt
  clear hT hd hnh hN h0 h1 hB hil hTT
  subst hv0 hv1
  clear hs1 hhr hsl hL1 hhl
  by_cases hq0 : q1 = 0
  · have hsl2 : s.sealed 0 hdr = (s1.keptE, s1.synced) := by rw [HSL.out, if_pos hq0]
    rw [hsl2] at HT
    subst hq0
    obtain ⟨q2, hq2⟩ : ∃ q, q = s1.keptE := ⟨_, rfl⟩
    have hE2 : s1.syncE = (q2 : Int) := by rw [hq2]; unfold St.syncE St.keptE; cases s1.goes <;> rfl
    have hdead : q2 = 0 → s1.synced.dead = false := fun h => by
      rw [hq2] at h
      unfold St.keptE at h
      unfold St.synced
      cases hgo : s1.goes with
      | false => rw [hgo] at h; simp at h
      | true =>
        simp only [if_true]
        show (s1.dead || s1.f == 0) = false
        unfold St.goes at hgo
        simpa using hgo
    rw [← hq2] at HT
    have HDE := Lib.hid hdead
    have HE2 := Lib.hid hE2
    clear hq2 hsl2 hdead hE2 hq1
    by_cases hq20 : q2 = 0
    · have hTr : Hid (T = (0, s1.synced, some ⟨0, 1, 0, 1, []⟩)) := Lib.hid (by rw [HT.out, if_pos hq20])
      have HDD := Lib.hid (HDE.out hq20)
      subst hq20
      clear HDE HT
      go_enter Tryz.func10, Tryz.ntmps10
      go_wp2_with (first
      | (go_at_call 32; (with_reducible refine r0.mono ?_); rintro _ w1 ⟨g1, l1, rfl, m1, e1, y1, hg1, u1, x1⟩
         have r1 := kR.out w1 nh hg1 (by omega)
         clear r0)
      | (go_at_call 32; (with_reducible refine r1.mono ?_); rintro _ w2 ⟨g2, l2, rfl, m2, e2, y2, hg2, u2, x2⟩
         have k0 := kH0.out w2 g1 l1 (y1.keep fun b hb => hg2.block b (by omega) (by simp)) (Nat.lt_of_lt_of_le x1 hg2.size) m1 u1
         have hg12 := hg1.trans hg2
         clear r1 y1 hg2)
      | (go_at_call 33; (with_reducible refine k0.mono ?_); rintro _ w3 ⟨rfl, b3⟩
         have k1 := kH1.out w3 g2 l2 (y2.keep fun b hb => b3.block b (by omega)) (Nat.lt_of_lt_of_le x2 b3.size) m2 u2
         have hg13 := hg12.trans (grown_of_below b3)
         clear k0 y2 b3)
      | (go_at_call 33; (with_reducible refine k1.mono ?_); rintro _ w4 ⟨rfl, b4⟩
         have hg14 := hg13.trans (grown_of_below b4)
         clear k1 b4)
      | (go_at_call 34; (with_reducible refine (kHd.out _).mono ?_); rintro _ w6 ⟨v6, rfl, n6, b6⟩
         rw [HHL.out] at n6
         obtain ⟨g6, l6, rfl, m6, u6, y6⟩ := own_new n6 (by omega)
         have hb5 : Blk (w4.alloc (.cells (rscells dp 0 1 0 1 (.slice none 0 0) false).toArray 51)) w4.heap.size 51 (rscells dp 0 1 0 1 (.slice none 0 0) false) := Blk.of_alloc w4 _ 51
         have hg5 := hg14.trans (World.grownBy_alloc w4 (.cells (rscells dp 0 1 0 1 (.slice none 0 0) false).toArray 51) none)
         have hg6 := hg5.trans (grown_of_below b6)
         have kw := kW.out w6 g6 l6 _ hg6 y6 (fun k hk => ⟨hk.2, fun hf => by have h3 := HFL.out k hf; have h4 : w.heap.size ≤ k := Nat.le_trans hg5.size hk.1; omega⟩))
      | (go_at_call 25; (with_reducible refine kw.mono ?_); rintro _ w7 ⟨rfl, f7, hd7, hf7, hm7⟩
         have ks := rsync_any hd7 HL1.out
         rw [HE2.out] at ks)
      | (go_at_call 27; (with_reducible refine ks.mono ?_); rintro _ w8 ⟨rfl, hd8, hm8⟩)
      | fail)
      go_ret2
      rw [hTr.out]
      have h6s := hg6.size
      have h5s := hg14.size
      have hff : ∀ k, f7 k → foot k ∨ (w.heap.size ≤ k ∧ k < w8.heap.size) := fun k hk => (hf7 k hk).imp id fun h => ⟨Nat.le_trans h6s h.1, Nat.lt_of_lt_of_le h.2 hm8.size⟩
      have hmm : Md foot w w8 := ((Md.of_grown hg6 (by simp)).trans hm7).trans_ext hm8 fun k hk => (hf7 k hk).imp id fun h => ⟨Nat.le_trans h6s h.1, h.2⟩
      have hnf : ¬ foot w4.heap.size := fun h => by have := HFL.out _ h; omega
      have hnf7 : ¬ f7 w4.heap.size := fun h => by
        rcases hf7 _ h with h1 | h1
        · exact hnf h1
        · have h3 := Nat.lt_of_lt_of_le hb5.lt b6.size; omega
      refine ⟨f7, hd8, hff, hmm, w4.heap.size, fun _ => False, rfl, ?_, fun _ h => h.elim, hg14.size, hnf7⟩
      show RStm w8 _ w4.heap.size dp ⟨0, 1, 0, 1, []⟩ s1.synced.dead
      rw [HDD.out]
      exact ⟨none, 0, hb5.keep ((hm8.block _ (Nat.lt_of_lt_of_le (Nat.lt_of_lt_of_le hb5.lt b6.size) hm7.size) hnf7).trans ((hm7.block _ (Nat.lt_of_lt_of_le hb5.lt b6.size) hnf).trans (b6.block _ hb5.lt))), Chs.nil, fun h => h, fun _ h => h.elim⟩
    · have hTr : Hid (T = (q2, s1.synced, none)) := Lib.hid (by rw [HT.out, if_neg hq20])
      have hq2I : ¬ (q2 : Int) = 0 := by omega
      have hq150 : Hid (q2 = 150) := Lib.hid (by
        have := HE2.out
        unfold St.syncE at this
        split at this <;> omega)
      clear hq20 HDE HT
      go_enter Tryz.func10, Tryz.ntmps10
      go_wp2_with (first
      | (go_at_call 32; (with_reducible refine r0.mono ?_); rintro _ w1 ⟨g1, l1, rfl, m1, e1, y1, hg1, u1, x1⟩
         have r1 := kR.out w1 nh hg1 (by omega)
         clear r0)
      | (go_at_call 32; (with_reducible refine r1.mono ?_); rintro _ w2 ⟨g2, l2, rfl, m2, e2, y2, hg2, u2, x2⟩
         have k0 := kH0.out w2 g1 l1 (y1.keep fun b hb => hg2.block b (by omega) (by simp)) (Nat.lt_of_lt_of_le x1 hg2.size) m1 u1
         have hg12 := hg1.trans hg2
         clear r1 y1 hg2)
      | (go_at_call 33; (with_reducible refine k0.mono ?_); rintro _ w3 ⟨rfl, b3⟩
         have k1 := kH1.out w3 g2 l2 (y2.keep fun b hb => b3.block b (by omega)) (Nat.lt_of_lt_of_le x2 b3.size) m2 u2
         have hg13 := hg12.trans (grown_of_below b3)
         clear k0 y2 b3)
      | (go_at_call 33; (with_reducible refine k1.mono ?_); rintro _ w4 ⟨rfl, b4⟩
         have hg14 := hg13.trans (grown_of_below b4)
         clear k1 b4)
      | (go_at_call 34; (with_reducible refine (kHd.out _).mono ?_); rintro _ w6 ⟨v6, rfl, n6, b6⟩
         rw [HHL.out] at n6
         obtain ⟨g6, l6, rfl, m6, u6, y6⟩ := own_new n6 (by omega)
         have hb5 : Blk (w4.alloc (.cells (rscells dp 0 1 0 1 (.slice none 0 0) false).toArray 51)) w4.heap.size 51 (rscells dp 0 1 0 1 (.slice none 0 0) false) := Blk.of_alloc w4 _ 51
         have hg5 := hg14.trans (World.grownBy_alloc w4 (.cells (rscells dp 0 1 0 1 (.slice none 0 0) false).toArray 51) none)
         have hg6 := hg5.trans (grown_of_below b6)
         have kw := kW.out w6 g6 l6 _ hg6 y6 (fun k hk => ⟨hk.2, fun hf => by have h3 := HFL.out k hf; have h4 : w.heap.size ≤ k := Nat.le_trans hg5.size hk.1; omega⟩))
      | (go_at_call 25; (with_reducible refine kw.mono ?_); rintro _ w7 ⟨rfl, f7, hd7, hf7, hm7⟩
         have ks := rsync_any hd7 HL1.out
         rw [HE2.out] at ks)
      | (go_at_call 27; (with_reducible refine ks.mono ?_); rintro _ w8 ⟨rfl, hd8, hm8⟩)
      | fail)
      go_ret2
      rw [hTr.out]
      have h6s := hg6.size
      have h5s := hg14.size
      have hff : ∀ k, f7 k → foot k ∨ (w.heap.size ≤ k ∧ k < w8.heap.size) := fun k hk => (hf7 k hk).imp id fun h => ⟨Nat.le_trans h6s h.1, Nat.lt_of_lt_of_le h.2 hm8.size⟩
      have hmm : Md foot w w8 := ((Md.of_grown hg6 (by simp)).trans hm7).trans_ext hm8 fun k hk => (hf7 k hk).imp id fun h => ⟨Nat.le_trans h6s h.1, h.2⟩
      have hnf : ¬ foot w4.heap.size := fun h => by have := HFL.out _ h; omega
      have hnf7 : ¬ f7 w4.heap.size := fun h => by
        rcases hf7 _ h with h1 | h1
        · exact hnf h1
        · have h3 := Nat.lt_of_lt_of_le hb5.lt b6.size; omega
      refine ⟨f7, hd8, hff, hmm, .pointer none, ?_⟩
      show Ending.returned (.tuple #[_, .int .i64 150]) = .returned (.tuple #[_, .int .i64 ((q2 : Nat) : Int)])
      rw [hq150.out]
      rfl
  · have hTr : Hid (T = (150, s1, none)) := Lib.hid (by rw [HT.out, HSL.out, if_neg hq0, if_neg (by simp)])
    have hqI : ¬ (q1 : Int) = 0 := by omega
    clear hq0 hq1 HT HSL
    go_enter Tryz.func10, Tryz.ntmps10
    go_wp2_with (first
    | (go_at_call 32; (with_reducible refine r0.mono ?_); rintro _ w1 ⟨g1, l1, rfl, m1, e1, y1, hg1, u1, x1⟩
       have r1 := kR.out w1 nh hg1 (by omega)
       clear r0)
    | (go_at_call 32; (with_reducible refine r1.mono ?_); rintro _ w2 ⟨g2, l2, rfl, m2, e2, y2, hg2, u2, x2⟩
       have k0 := kH0.out w2 g1 l1 (y1.keep fun b hb => hg2.block b (by omega) (by simp)) (Nat.lt_of_lt_of_le x1 hg2.size) m1 u1
       have hg12 := hg1.trans hg2
       clear r1 y1 hg2)
    | (go_at_call 33; (with_reducible refine k0.mono ?_); rintro _ w3 ⟨rfl, b3⟩
       have k1 := kH1.out w3 g2 l2 (y2.keep fun b hb => b3.block b (by omega)) (Nat.lt_of_lt_of_le x2 b3.size) m2 u2
       have hg13 := hg12.trans (grown_of_below b3)
       clear k0 y2 b3)
    | (go_at_call 33; (with_reducible refine k1.mono ?_); rintro _ w4 ⟨rfl, b4⟩
       have hg14 := hg13.trans (grown_of_below b4)
       clear k1 b4)
    | (go_at_call 34; (with_reducible refine (kHd.out _).mono ?_); rintro _ w6 ⟨v6, rfl, n6, b6⟩
       rw [HHL.out] at n6
       obtain ⟨g6, l6, rfl, m6, u6, y6⟩ := own_new n6 (by omega)
       have hg5 := hg14.trans (World.grownBy_alloc w4 (.cells (rscells dp 0 1 0 1 (.slice none 0 0) false).toArray 51) none)
       have hg6 := hg5.trans (grown_of_below b6)
       have kw := kW.out w6 g6 l6 _ hg6 y6 (fun k hk => ⟨hk.2, fun hf => by have h3 := HFL.out k hf; have h4 : w.heap.size ≤ k := Nat.le_trans hg5.size hk.1; omega⟩))
    | (go_at_call 25; (with_reducible refine kw.mono ?_); rintro _ w7 ⟨rfl, f7, hd7, hf7, hm7⟩)
    | fail)
    go_ret2
    rw [hTr.out]
    have h6s := hg6.size
    refine ⟨f7, hd7, fun k hk => (hf7 k hk).imp id fun h => ⟨Nat.le_trans h6s h.1, h.2⟩, (Md.of_grown hg6 (by simp)).trans hm7, .pointer none, rfl⟩
end Go.Proofs.YtonpcenjipigpaaGreat
