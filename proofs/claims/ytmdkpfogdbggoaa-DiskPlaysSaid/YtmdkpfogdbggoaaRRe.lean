/- The reference's Read. Conditions: at most 2^20 writes wait. -/
import Derived.Test.YtmdkpfogdbggoaaRKe
namespace Go.Proofs.Ytmdkpfogdbggoaa
open Go.RowKit
/-- What the reference's Read answers of a block. -/
def ReadR (w : World) (b : List UInt8) (e : Ending) (w' : World) : Prop :=
  ∃ g c, e = .returned (.tuple #[.slice (some ⟨g, 0, none⟩) 64 c, .int .i64 0]) ∧ Byt w' (fun k => k = g) (some ⟨g, 0, none⟩) b ∧ w.grownBy w' none
section
variable {foot : Nat → Prop} {w : World} {p : Nat} {s : St}
theorem rread_no (h : RDsk w foot p s) {a : Int} (ha : ¬ (0 ≤ a ∧ a < (s.n : Int))) : Calls Try.prog 17 #[.pointer (some ⟨p, 0, none⟩), .int .i64 a] w fun e w' => e = .returned (.tuple #[.slice none 0 0, .int .i64 1]) ∧ w = w' := by
  obtain ⟨gk, Av, Bv, vs, h1, h2, h3, h4, h5, h6, h7⟩ := h
  have c0 : w.cell? ⟨p, 0, none⟩ = some (.int .i64 (s.n : Int)) := h1.get 0 _ rfl
  clear h1 h2 h3 h4 h5 h6 h7
  by_cases h0 : a < 0
  · have d1 : decide (a < 0) = true := by simpa using h0
    go_enter Try.func17, Try.ntmps17
    go_wp2
    go_ret2
    exact ⟨rfl, rfl⟩
  · have d1 : decide (a < 0) = false := by simpa using h0
    have d2 : decide ((s.n : Int) ≤ a) = true := by simp; omega
    clear ha
    go_enter Try.func17, Try.ntmps17
    go_wp2
    go_ret2
    exact ⟨rfl, rfl⟩
theorem rread_dead (h : RDsk w foot p s) {i : Nat} (hi : i < s.n) (hd : s.dead = true) : Calls Try.prog 17 #[.pointer (some ⟨p, 0, none⟩), .int .i64 (i : Int)] w fun e w' => e = .returned (.tuple #[.slice none 0 0, .int .i64 150]) ∧ w = w' := by
  obtain ⟨gk, Av, Bv, vs, h1, h2, h3, h4, h5, h6, h7⟩ := h
  have c0 : w.cell? ⟨p, 0, none⟩ = some (.int .i64 (s.n : Int)) := h1.get 0 _ rfl
  have c5 : w.cell? ⟨p, 5, none⟩ = some (.bool s.dead) := h1.get 5 _ rfl
  rw [hd] at c5
  have d1 : decide ((i : Int) < 0) = false := by simp
  have d2 : decide (s.n ≤ i) = false := by simp; omega
  clear h1 h2 h3 h4 h5 h6 h7 hd hi
  go_enter Try.func17, Try.ntmps17
  go_wp2
  go_ret2
  exact ⟨rfl, rfl⟩
set_option maxRecDepth 100000 in
set_option maxHeartbeats 4000000 in
theorem rread_yes (h : RDsk w foot p s) (hL : s.L.length ≤ 1048576) {i : Nat} (hi : i < s.n) (hd : s.dead = false) : Calls Try.prog 17 #[.pointer (some ⟨p, 0, none⟩), .int .i64 (i : Int)] w (ReadR w (blk (redo s.K s.L) i)) := by
  obtain ⟨gk, Av, Bv, vs, h1, h2, h3, h4, h5, h6, h7⟩ := h
  obtain ⟨Aa, ca, rfl⟩ := own_shape h3
  obtain ⟨Ba, cb, rfl⟩ := own_shape h4
  have c0 : w.cell? ⟨p, 0, none⟩ = some (.int .i64 (s.n : Int)) := h1.get 0 _ rfl
  have c1 : w.cell? ⟨p, 1, none⟩ = some (.slice (some ⟨gk, 0, none⟩) (64 * s.n) (64 * s.n)) := h1.get 1 _ rfl
  have c5 : w.cell? ⟨p, 5, none⟩ = some (.bool s.dead) := h1.get 5 _ rfl
  rw [hd] at c5
  have d1 : decide ((i : Int) < 0) = false := by simp
  have d2 : decide (s.n ≤ i) = false := by simp; omega
  obtain ⟨m, hm⟩ : ∃ m, m = s.L.length := ⟨_, rfl⟩
  rw [← hm] at h1 h3 h4 h5 h6 hL
  have hn4 := h7.2.1
  have hx : Byt w (fun b => b = gk) (some ⟨gk, 64 * i, none⟩) (blk s.K i) := by
    have h2' := h2
    rw [mid_parts s.K i] at h2'
    exact h2'.byt (by rw [u8s_length, List.length_take, h7.2.2.1]; omega)
  have hbl : (blk s.K i).length = 64 := blk_length h7.2.2.1 hi
  have hk64 : IntKind.i64.wrap (64 * (i : Int)) = 64 * (i : Int) := IntWalk.i64_in _ (by omega)
  have hk65 : IntKind.i64.wrap (64 * (i : Int) + 64) = 64 * (i : Int) + 64 := IntWalk.i64_in _ (by omega)
  have q1 : (0 : Int) ≤ 64 * (i : Int) := by omega
  have q2 : 64 * (i : Int) + 64 ≤ 64 * (s.n : Int) := by omega
  have q3 : (64 * (i : Int)).toNat = 64 * i := by omega
  have q4 : (64 * (i : Int) + 64).toNat = 64 * i + 64 := by omega
  have q7 : ¬ s.n = i := by omega
  have q8 : i ≤ s.n := by omega
  obtain ⟨i5, hi5, hz0, hz1, hz2⟩ := info_parts Try.info5
  have HNW : Hid (∀ j u, (u8s (blk s.K i))[j]? = some u → w.cell? ((⟨gk, 64 * i, none⟩ : Addr).add j) = some u) := fun j u hu => by
    obtain ⟨hj, rfl⟩ := u8s_get _ j u hu
    obtain ⟨ad, e, _, hc⟩ := hx j hj
    cases e
    exact hc
  have H1 := Lib.hid h1
  have H3 := Lib.hid h3
  have H4 := Lib.hid h4
  have H5 := Lib.hid h5
  have H6 := Lib.hid h6
  have H7 := Lib.hid h7
  have HM := Lib.hid hm
  have HX := Lib.hid hx
  have HBL := Lib.hid hbl
  have HI := Lib.hid hi
  clear h1 h2 h3 h4 h5 h6 h7 hm hd hx hbl hi
  go_enter Try.func17, Try.ntmps17
  go_wp2_with (first
    | (at_builtin
       refine wpList_append_lies _ rfl _ _ 33 rfl w.heap.size 5 i5 _ 1 1 Try.underlying33 hi5 hz0 hz1 hz2 rfl (by omega) (.slice none 0 0) 0 [] rfl (World.ownsRow_nil _ _ _ _) ⟨gk, 64 * i, none⟩ 64 _ (u8s (blk s.K i)) rfl (by rw [u8s_length, HBL.out]) HNW.out (u8s_one _) (by omega) (by unfold maxLen; omega) (by omega) (Nat.le_refl _) _ rfl ?_
       intro g2 c2 w1 hown hgrow hat hlt)
    | fail)
  have hg1 : w.grownBy w1 none := hgrow
  obtain ⟨g', c', tl, e, hge, hbk, hnc, _⟩ := own_tail hown (by omega)
  simp only [Value.slice.injEq, Option.some.injEq, Addr.mk.injEq, true_and, and_true] at e
  obtain ⟨rfl, rfl⟩ := e
  have HB0 := Lib.hid (show Blk w1 g2 5 (u8s (blk (redo s.K (s.L.take 0)) i) ++ tl) by simpa [redo] using hbk)
  have HG1 := Lib.hid hg1
  have HGE := Lib.hid hge
  clear hown hgrow hat hlt hge hbk hnc hg1 c0 c5 d1 d2 hk64 hk65 q1 q2 q3 q4 q7 q8
  go_loopw [7] (fun vi wr => ∃ k : Nat, k ≤ m ∧ vi = .int .i64 (k : Int) ∧ Blk wr g2 5 (u8s (blk (redo s.K (s.L.take k)) i) ++ tl) ∧ w.grownBy wr none) (fun vi _ => m - (intOf vi).toNat)
  case atStart => exact ⟨0, Nat.zero_le _, rfl, HB0.out, HG1.out⟩
  case round =>
    clear HB0 HG1
    obtain ⟨k, hk, rfl, r1, r2⟩ := hrel
    obtain ⟨wo, rfl⟩ : ∃ wo : World, wo = wr := ⟨_, rfl⟩
    have hp1 : Blk wo p 46 (rcells s.n gk (.slice Aa m ca) (.slice Ba m cb) (max s.f (-1)) s.dead) := H1.out.grown r2 (by simp)
    have c2' : wo.cell? ⟨p, 2, none⟩ = some (.slice Aa m ca) := hp1.get 2 _ rfl
    have c3' : wo.cell? ⟨p, 3, none⟩ = some (.slice Ba m cb) := hp1.get 3 _ rfl
    clear hp1
    by_cases hl1 : k < m
    · have d1 : decide ((k : Int) < (m : Int)) = true := by simp; omega
      have hlL : k < s.L.length := by rw [← HM.out]; exact hl1
      obtain ⟨ga, ca', e, _, _⟩ := H3.out.form (by omega)
      simp only [Value.slice.injEq] at e
      obtain ⟨rfl, -, rfl⟩ := e
      obtain ⟨gb, cb', e, _, _⟩ := H4.out.form (by omega)
      simp only [Value.slice.injEq] at e
      obtain ⟨rfl, -, rfl⟩ := e
      obtain ⟨g, c, v1, v2, v3, v4, v5, v6, v7, v8⟩ := H5.out.2 k hlL
      have a1 : wo.cell? ⟨ga, k, none⟩ = some (.int .i64 (s.L[k].1 : Int)) := by
        have := H3.out.cells (g := ga) rfl k _ (ats_get s.L k hlL)
        rw [Addr.add_mid, Nat.zero_add] at this
        exact (World.cell?_of_block (r2.block ga (H6.out.lt ga (H6.out.av ga rfl).1) (by simp))).trans this
      have a2 : wo.cell? ⟨gb, k, none⟩ = some (.slice (some ⟨g, 0, none⟩) 64 c) := by
        have := H4.out.cells (g := gb) rfl k _ v1
        rw [Addr.add_mid, Nat.zero_add] at this
        exact (World.cell?_of_block (r2.block gb (H6.out.lt gb (H6.out.bv gb rfl).1) (by simp))).trans this
      have hfit := H7.out.2.2.2.1 s.L[k] (List.getElem_mem _)
      have hsrc : Byt wo (fun b => b = g) (some ⟨g, 0, none⟩) s.L[k].2 := v8.grown r2 (by rintro b rfl; exact ⟨H6.out.lt b v3, by simp⟩)
      have hKl : (redo s.K (s.L.take k)).length = 64 * s.n := redo_length (H7.out.2.2.2.1.take _) H7.out.2.2.1
      have hrt := redo_take_succ s.K s.L k hlL
      obtain ⟨K1, hK1⟩ : ∃ K1, K1 = redo s.K (s.L.take k) := ⟨_, rfl⟩
      obtain ⟨at_, hat⟩ : ∃ a, a = s.L[k].1 := ⟨_, rfl⟩
      obtain ⟨bb, hbb⟩ : ∃ b, b = s.L[k].2 := ⟨_, rfl⟩
      rw [← hat, ← hbb, ← hK1] at hrt
      rw [← hK1] at r1 hKl
      rw [← hat] at a1
      rw [← hbb] at hsrc
      rw [← hat, ← hbb] at hfit
      obtain ⟨hf1, hf2⟩ := hfit
      have HSR := Lib.hid hsrc
      have HF2 := Lib.hid hf2
      have HRT := Lib.hid hrt
      have HKL := Lib.hid hKl
      have R1 := Lib.hid r1
      have R2 := Lib.hid r2
      have HB1 : Hid ((blk K1 i).length = 64) := blk_length hKl HI.out
      clear v1 v2 v3 v4 v5 v6 v7 v8 hsrc hKl hrt hK1 hat hbb hf2 r1 r2
      by_cases hai : at_ = i
      · have e1 : ((at_ : Int) == (i : Int)) = true := by simp [hai]
        have e2 : (at_ == i) = true := by simp [hai]
        have HAI := Lib.hid hai
        clear hai
        go_wp2_with (first
          | (refine wpList_copy_blk rfl _ _ rfl g2 0 64 c2 64 c (some ⟨g, 0, none⟩) bb (blk K1 i) rfl rfl HF2.out HB1.out 5 [] tl R1.out rfl (fun b => b = g) HSR.out 64 (by rw [HF2.out, HB1.out]; rfl) ?_
             intro w5 hb5 hg5 hz5
             rw [lay_full (by rw [HF2.out, HB1.out])] at hb5
             have HB5 : Hid (Blk w5 g2 5 (u8s (blk (redo s.K (s.L.take (k + 1))) i) ++ tl)) := by
               rw [HRT.out, HAI.out, blk_put HKL.out HI.out HF2.out]
               exact hb5
             have HG5 : Hid (w.grownBy w5 none) := World.grownBy.andThen R2.out hg5 (by have := HGE.out; rintro j ⟨⟩; exact .inl this)
             clear hb5 hg5 hz5)
          | fail)
        go_roundw
        case rel => exact ⟨k + 1, by omega, by go_num, HB5.out, HG5.out⟩
        case measure => simp [intOf]; omega
      · have e1 : ((at_ : Int) == (i : Int)) = false := by simp; omega
        have e2 : (at_ == i) = false := by simpa using hai
        have hb5 : Blk wo g2 5 (u8s (blk (redo s.K (s.L.take (k + 1))) i) ++ tl) := by
          rw [HRT.out, blk_put_ne HKL.out hf1 HF2.out hai]
          exact R1.out
        have HB5 := Lib.hid hb5
        clear hb5
        go_wp2
        go_roundw
        case rel => exact ⟨k + 1, by omega, by go_num, HB5.out, R2.out⟩
        case measure => simp [intOf]; omega
    · obtain rfl : k = m := by omega
      rw [HM.out, List.take_length] at r1
      have d1 : decide ((k : Int) < (k : Int)) = false := by simp
      have R1 := Lib.hid r1
      have R2 := Lib.hid r2
      clear r1 r2
      go_wp2
      go_ret2
      exact ⟨g2, c2, rfl, Blk.byt (pre := []) (post := tl) (by simpa using R1.out) rfl, R2.out⟩
end
end Go.Proofs.Ytmdkpfogdbggoaa
