/- A store in memory; Open. Conditions: none. -/
import Derived.Test.YtonpcenjipigpaaGreatZ27
import Derived.Test.YtonpcenjipigpaaGreatZ4
namespace Go.Proofs.YtonpcenjipigpaaGreat
open Go.RowKit
/-- What a store is: which half, epoch, count, end, names with values. -/
structure Ste where
  hf : Nat
  e : Nat
  c : Nat
  n : Nat
  L : List (List UInt8 × List UInt8)
/-- In range for a disk of so many blocks. -/
structure Ste.ok (t : Ste) (nh : Nat) : Prop where
  hf : t.hf ≤ 1
  e : t.e < 18446744073709551616
  c : t.c < t.n
  n : t.n ≤ nh
  n1 : 1 ≤ t.n
  len : t.L.length ≤ 64
/-- At sp lies a store on the disk at dp; its memory is in the blocks of fs. -/
def Stm (w : World) (fs : Nat → Prop) (sp dp : Nat) (t : Ste) : Prop :=
  ∃ mb, Blk w sp 75 (scells dp t.hf t.e t.c t.n (.map (some mb))) ∧ Vals w (fun b => fs b ∧ b ≠ mb) mb t.L.length t.L ∧ fs sp ∧ fs mb ∧ sp ≠ mb ∧ ∀ b, fs b → b < w.heap.size
theorem Stm.keep {w w' : World} {fs : Nat → Prop} {sp dp : Nat} {t : Ste} (h : Stm w fs sp dp t) (hs : w.heap.size ≤ w'.heap.size) (hk : ∀ k, fs k → w'.heap[k]? = w.heap[k]?) : Stm w' fs sp dp t := by
  obtain ⟨mb, h1, h2, h3, h4, h5, h6⟩ := h
  exact ⟨mb, h1.keep (hk _ h3), h2.keep (hk _ h4) fun b hb => hk _ hb.1, h3, h4, h5, fun b hb => Nat.lt_of_lt_of_le (h6 b hb) hs⟩
theorem Stm.md {w w' : World} {fs ft : Nat → Prop} {sp dp : Nat} {t : Ste} (h : Stm w fs sp dp t) (hg : Md ft w w') (hd : ∀ k, fs k → ¬ ft k) : Stm w' fs sp dp t := h.keep hg.size fun k hk => hg.block k (by obtain ⟨_, _, _, _, _, _, h6⟩ := h; exact h6 k hk) (hd k hk)
theorem Stm.lt {w : World} {fs : Nat → Prop} {sp dp : Nat} {t : Ste} (h : Stm w fs sp dp t) : ∀ b, fs b → b < w.heap.size := by
  obtain ⟨_, _, _, _, _, _, h6⟩ := h
  exact h6
theorem headT_ok {b : List UInt8} {nh : Nat} (hl : b.length = 64) (h0 : (headT b nh).1 = 0) : (headT b nh).2.1 < 18446744073709551616 ∧ (headT b nh).2.2.1 < 4294967296 ∧ (headT b nh).2.2.2 ≤ nh ∧ 1 ≤ (headT b nh).2.2.2 := by
  unfold headT at h0 ⊢
  split at h0
  · cases h0
  · rename_i hz
    rw [if_neg hz]
    split at h0
    · rename_i hc
      rw [if_pos hc]
      exact ⟨nb_lt 8 _ (by rw [List.length_take, List.length_drop, hl]; decide), nb_lt 4 _ (by rw [List.length_take, List.length_drop, hl]; decide), hc.2.2, hc.2.1⟩
    · cases h0
theorem findL_ok {B : List UInt8} {nh : Nat} (hB : ∀ half, half ≤ 1 → (blk B (half * nh)).length = 64) : ∀ (m half : Nat) (S R : Bool × Nat × Nat × Nat × Nat), half + m ≤ 2 → (S.1 = true → S.2.1 ≤ 1 ∧ S.2.2.1 < 18446744073709551616 ∧ S.2.2.2.1 < 4294967296 ∧ S.2.2.2.2 ≤ nh ∧ 1 ≤ S.2.2.2.2) → findL B nh m half S = some R →
    (R.1 = true → R.2.1 ≤ 1 ∧ R.2.2.1 < 18446744073709551616 ∧ R.2.2.2.1 < 4294967296 ∧ R.2.2.2.2 ≤ nh ∧ 1 ≤ R.2.2.2.2) ∧ (R.1 = false → R = S)
  | 0, half, S, R, _, hS, h => by
    rw [findL] at h
    cases h
    exact ⟨hS, fun _ => rfl⟩
  | m + 1, half, S, R, hm, hS, h => by
    rw [findL] at h
    have hl := hB half (by omega)
    split at h
    · exact findL_ok hB m (half + 1) S R (by omega) hS h
    · split at h
      · cases h
      · rename_i h1 h2
        have h0 : (headT (blk B (half * nh)) nh).1 = 0 := by
          by_cases h3 : (headT (blk B (half * nh)) nh).1 = 0
          · exact h3
          · exact absurd (.inl h3) h2
        have hk := headT_ok hl h0
        have hS2 : ∀ X : Bool × Nat × Nat × Nat × Nat, X.1 = true → (R.1 = false → R = X) → R.1 = false → R = S := fun X hX hR hf => by
          have := hR hf
          rw [this, hX] at hf
          cases hf
        split at h
        · have := findL_ok hB m (half + 1) _ R (by omega) (fun _ => ⟨by simp; omega, hk.1, hk.2.1, hk.2.2.1, hk.2.2.2⟩) h
          exact ⟨this.1, hS2 _ rfl this.2⟩
        · rename_i h4
          have hS1 : S.1 = true := by
            cases hs : S.1 with
            | true => rfl
            | false => exact absurd (.inl hs) h4
          have := findL_ok hB m (half + 1) (true, S.2) R (by omega) (fun _ => hS hS1) h
          exact ⟨this.1, hS2 (true, S.2) rfl this.2⟩
theorem loadT_end {B : List UInt8} {base e n : Nat} : ∀ (m a k : Nat) (L L' : List (List UInt8 × List UInt8)), loadT B base e n m a k L = some L' → a + m ≤ n
  | 0, a, k, L, L', h => by
    rw [loadT] at h
    split at h
    · omega
    · cases h
  | m + 1, a, k, L, L', h => by
    rw [loadT] at h
    split at h
    · cases h
    · rename_i l en hr
      have h1 : a + 1 ≤ en := by
        unfold readT at hr
        split at hr
        · cases hr
        · split at hr
          · cases hr
          · split at hr
            · obtain ⟨x, hx, he⟩ := Option.map_eq_some_iff.1 hr
              simp only [Prod.mk.injEq] at he
              have : 1 ≤ nblk (8 + nb ((blk B (base + a)).take 4)) := by unfold nblk; omega
              omega
            · cases hr
      split at h
      · cases h
      · have := loadT_end m en (k + 1) _ _ h
        omega
/-- What opening makes of a disk: the error, the disk, the store. -/
def St.openT (s : St) : Nat × St × Option Ste :=
  if s.n < 4 then (1, s, none)
  else if s.dead = true then (150, s, none)
  else match findL s.img (s.n / 2) 2 0 (false, 0, 0, 0, 0) with
    | none => (160, s, none)
    | some (true, hf, e, c, n) => match loadT s.img (hf * (s.n / 2)) e n c 1 0 [] with
      | none => (160, s, none)
      | some L => (0, s, some ⟨hf, e, c, n, L⟩)
    | some (false, _) => if (s.sealed 0 (hdrB 1 0 1)).1 = 0 then (0, (s.sealed 0 (hdrB 1 0 1)).2, some ⟨0, 1, 0, 1, []⟩) else ((s.sealed 0 (hdrB 1 0 1)).1, (s.sealed 0 (hdrB 1 0 1)).2, none)
/-- How opening ends. -/
def OpenE (w : World) (foot : Nat → Prop) (dp : Nat) (t : Nat × St × Option Ste) (r : Ending) (w' : World) : Prop :=
  ∃ f', Dsk w' f' dp t.2.1 ∧ (∀ k, f' k → foot k ∨ (w.heap.size ≤ k ∧ k < w'.heap.size)) ∧ Md foot w w' ∧
    match t.2.2 with
    | none => r = .returned (.tuple #[.pointer none, .int .i64 (t.1 : Int)])
    | some u => ∃ sp fs, r = .returned (.tuple #[.pointer (some ⟨sp, 0, none⟩), .int .i64 (t.1 : Int)]) ∧ Stm w' fs sp dp u ∧ u.ok (t.2.1.n / 2) ∧ ∀ k, fs k → w.heap.size ≤ k ∧ ¬ f' k
end Go.Proofs.YtonpcenjipigpaaGreat
/- Open. Conditions: at most 10^6 writes wait. -/
namespace Go.Proofs.YtonpcenjipigpaaGreat
open Go.RowKit
theorem openE_none {w w' : World} {foot : Nat → Prop} {dp e : Nat} {s : St} {t : Nat × St × Option Ste} (ht : t = (e, s, none)) (hd : Dsk w' foot dp s) (hm : Md foot w w') : OpenE w foot dp t (.returned (.tuple #[.pointer none, .int .i64 (e : Int)])) w' := by
  subst ht
  exact ⟨foot, hd, fun _ hk => .inl hk, hm, rfl⟩
theorem St.synced_n (s : St) : s.synced.n = s.n := by unfold St.synced; split <;> rfl
set_option maxRecDepth 100000 in
set_option maxHeartbeats 1000000 in
theorem open_any {foot : Nat → Prop} {w : World} {dp : Nat} {s : St} (hd : Dsk w foot dp s) (hL : s.L.length ≤ 1000000) :
    Calls Tryz.prog 9 #[.pointer (some ⟨dp, 0, none⟩)] w (OpenE w foot dp s.openT) := by
  have hmk : ∀ w, (Instr.makeMap 71 none).run Tryz.prog w = .ok (.map (some w.heap.size)) (w.alloc (.map #[] 0)) := fun w => by kernel_rfl
  have hbk := blocks_any hd
  have hdd := dead_any hd
  have hnn := hd.ok.2.1
  by_cases h4 : s.n < 4
  · have hT : s.openT = (1, s, none) := by rw [St.openT, if_pos h4]
    have h4I : ((s.n : Nat) : Int) < 4 := by omega
    have HT := Lib.hid hT
    have HD := Lib.hid hd
    clear hT hd hdd
    go_enter Tryz.func9, Tryz.ntmps9
    go_wp2_with (first
      | (go_at_call 23; (with_reducible refine hbk.mono ?_); rintro _ _ ⟨rfl, rfl⟩)
      | fail)
    refine bodyPost_ret (results_tmp2 rfl _ _ _) rfl ?_
    exact openE_none HT.out HD.out (Md.refl _ _)
  · have h4I : ¬ ((s.n : Nat) : Int) < 4 := by omega
    cases hdead : s.dead with
    | true =>
      have hT : s.openT = (150, s, none) := by rw [St.openT, if_neg h4, if_pos hdead]
      rw [hdead] at hdd
      have HT := Lib.hid hT
      have HD := Lib.hid hd
      clear hT hd hdead
      go_enter Tryz.func9, Tryz.ntmps9
      go_wp2_with (first
        | (go_at_call 23; (with_reducible refine hbk.mono ?_); rintro _ _ ⟨rfl, rfl⟩)
        | (go_at_call 28; (with_reducible refine hdd.mono ?_); rintro _ _ ⟨rfl, rfl⟩)
        | fail)
      refine bodyPost_ret (results_tmp2 rfl _ _ _) rfl ?_
      exact openE_none HT.out HD.out (Md.refl _ _)
    | false =>
      rw [hdead] at hdd
      have hil : s.img.length = 64 * s.n := redo_length hd.ok.2.2.2.1 hd.ok.2.2.1
      obtain ⟨w1, hw1⟩ : ∃ w1, w1 = w.alloc (.map #[] 0) := ⟨_, rfl⟩
      obtain ⟨w2, hw2⟩ : ∃ w2, w2 = w1.alloc (.cells #[.pointer (some ⟨dp, 0, none⟩), .int .i64 0, .int .u64 0, .int .u64 0, .int .u64 0, .map (some w.heap.size)] 75) := ⟨_, rfl⟩
      have hz1 : w1.heap.size = w.heap.size + 1 := by rw [hw1]; simp
      have hz2 : w2.heap.size = w.heap.size + 2 := by rw [hw2]; simp [hz1]
      have hg1 : w.grownBy w1 none := by rw [hw1]; exact World.grownBy_alloc _ _ _
      have hg2 : w1.grownBy w2 none := by rw [hw2]; exact World.grownBy_alloc _ _ _
      have hg02 := hg1.trans hg2
      have hb2 : Blk w2 (w.heap.size + 1) 75 (scells dp 0 0 0 0 (.map (some w.heap.size))) := by
        have := Blk.of_alloc w1 #[.pointer (some ⟨dp, 0, none⟩), .int .i64 0, .int .u64 0, .int .u64 0, .int .u64 0, .map (some w.heap.size)] 75
        rw [hz1, ← hw2] at this
        exact this
      have hv1 : Vals w1 (fun _ => False) w.heap.size 0 [] := by rw [hw1]; exact Vals.made w _
      have hv2 : Vals w2 (fun _ => False) w.heap.size 0 [] := hv1.keep (hg2.block _ (by omega) (by simp)) (fun _ h => h.elim)
      have hd2 : Dsk w2 foot dp s := hd.grown hg02
      have hff : ¬ foot (w.heap.size + 1) := fun h => by have := hd.lt _ h; omega
      have hfm : ¬ foot w.heap.size := fun h => by have := hd.lt _ h; omega
      have hfd := find_any hb2 hd2 hdead (by omega) hff
      have hokL := findL_ok (B := s.img) (nh := s.n / 2) (fun half hh => blk_length hil (by have := Nat.mul_le_mul hh (Nat.le_refl (s.n / 2)); omega)) 2 0 (false, 0, 0, 0, 0)
      have HW1 := Lib.hid hw1
      have HW2 := Lib.hid hw2
      have HZ2 := Lib.hid hz2
      have HG02 := Lib.hid hg02
      have HD := Lib.hid hd
      have HD2 := Lib.hid hd2
      have HV2 := Lib.hid hv2
      cases hF : findL s.img (s.n / 2) 2 0 (false, 0, 0, 0, 0) with
      | none =>
        have hT : s.openT = (160, s, none) := by rw [St.openT, if_neg h4, if_neg (by rw [hdead]; decide), hF]
        rw [hF] at hfd
        have HT := Lib.hid hT
        have HZ1 := Lib.hid hz1
        clear hT hd hd2 hdead hF hil hw1 hw2 hz1 hz2 hg1 hg2 hg02 hv1 hv2 hokL hb2
        go_enter Tryz.func9, Tryz.ntmps9
        go_wp2_with (first
          | (go_at_call 23; (with_reducible refine hbk.mono ?_); rintro _ _ ⟨rfl, rfl⟩)
          | (go_at_call 28; (with_reducible refine hdd.mono ?_); rintro _ _ ⟨rfl, rfl⟩)
          | (go_at_call 29; rw [← HW1.out]; (try rw [HZ1.out]); rw [← HW2.out]; (refine hfd.mono ?_); rintro _ w3 ⟨hg3, rfl⟩)
          | fail)
        refine bodyPost_ret (results_tmp2 rfl _ _ _) rfl ?_
        have hg03 := World.grownBy.andThen (row' := some (w.heap.size + 1)) HG02.out hg3 (by rintro j ⟨⟩; left; omega)
        exact openE_none HT.out (HD.out.grown hg03) (Md.of_grown hg03 (by simp))
      | some R =>
        obtain ⟨fd, hf, e, c, n⟩ := R
        obtain ⟨hR1, hR2⟩ := hokL _ (by decide) (by simp) hF
        rw [hF] at hfd
        cases fd with
        | false =>
          obtain ⟨-, rfl, rfl, rfl, rfl⟩ : (false = false) ∧ hf = 0 ∧ e = 0 ∧ c = 0 ∧ n = 0 := by simpa using hR2 rfl
          have kS : Hid (∀ W, w2.grownBy W (some (w.heap.size + 1)) → Blk W (w.heap.size + 1) 75 (scells dp 0 1 0 1 (.map (some w.heap.size))) → Calls Tryz.prog 31 #[.pointer (some ⟨w.heap.size + 1, 0, none⟩), .int .i64 0, .agg #[.int .u64 1, .int .u64 0, .int .u64 1]] W fun r w' => r = .returned (.int .i64 ((s.sealed 0 (hdrB 1 0 1)).1 : Nat)) ∧ Nxt W foot dp (s.sealed 0 (hdrB 1 0 1)).2 w') := Lib.hid fun W hW hB => by
            have := seal_any (half := 0) ⟨1, 0, 1, _, hB⟩ (HD2.out.md (Md.of_grown (foot := fun j => j = w.heap.size + 1) hW (fun r e => by cases e; rfl)) fun j hj e => hff (by rw [← e]; exact hj)) hff 0 1 0 1 (by decide) (by omega) (by decide) (by decide) (by decide) hL
            rw [Nat.zero_mul] at this
            exact this
          obtain ⟨q, hq⟩ : ∃ q, q = (s.sealed 0 (hdrB 1 0 1)).1 := ⟨_, rfl⟩
          rw [← hq] at kS
          have hT : s.openT = if q = 0 then (0, (s.sealed 0 (hdrB 1 0 1)).2, some ⟨0, 1, 0, 1, []⟩) else (q, (s.sealed 0 (hdrB 1 0 1)).2, none) := by rw [St.openT, if_neg h4, if_neg (by rw [hdead]; decide), hF, hq]
          obtain ⟨s2, hs2⟩ : ∃ s2, s2 = (s.sealed 0 (hdrB 1 0 1)).2 := ⟨_, rfl⟩
          rw [← hs2] at kS hT
          have hsn : s2.n = s.n := by rw [hs2]; unfold St.sealed; split <;> simp only [St.synced_n, St.wrote_n]
          have HT := Lib.hid hT
          have HZ1 := Lib.hid hz1
          clear hT hd hd2 hdead hF hil hw1 hw2 hz1 hz2 hg1 hg2 hg02 hv1 hv2 hokL hb2 hR1 hR2 hq hs2
          by_cases hq0 : q = 0
          · have HTN : Hid (s.openT = (0, s2, some ⟨0, 1, 0, 1, []⟩)) := Lib.hid (by rw [HT.out, if_pos hq0])
            subst hq0
            go_enter Tryz.func9, Tryz.ntmps9
            go_wp2_with (first
            | (go_at_call 23; (with_reducible refine hbk.mono ?_); rintro _ _ ⟨rfl, rfl⟩)
            | (go_at_call 28; (with_reducible refine hdd.mono ?_); rintro _ _ ⟨rfl, rfl⟩)
            | (go_at_call 29; rw [← HW1.out]; (try rw [HZ1.out]); rw [← HW2.out]; (refine hfd.mono ?_); rintro _ w3 ⟨hg3, rfl, hb3⟩)
            | (refine wpList_store_agg rfl 73 _ _ rfl (w.heap.size + 1) 2 [.int .u64 1, .int .u64 0, .int .u64 1] rfl rfl (by simp [Value.oneCell']) size56 _ _ hb3 (by simp [scells]) ?_; intro w5 k5 r5)
            | fail)

            have hb5 : Blk w5 (w.heap.size + 1) 75 (scells dp 0 1 0 1 (.map (some w.heap.size))) := by simpa [scells] using k5.out
            have hg5 := World.grownBy.andThen (row' := some (w.heap.size + 1)) hg3 r5.out.grown (by intro j hj; exact .inr hj)
            have y1 : w5.cell? ⟨w.heap.size + 1, 1, none⟩ = some (.int .i64 0) := hb5.get 1 _ rfl
            have y2 : w5.cell? ⟨w.heap.size + 1, 2, none⟩ = some (.int .u64 1) := hb5.get 2 _ rfl
            have y3 : w5.cell? ⟨w.heap.size + 1, 3, none⟩ = some (.int .u64 0) := hb5.get 3 _ rfl
            have y4 : w5.cell? ⟨w.heap.size + 1, 4, none⟩ = some (.int .u64 1) := hb5.get 4 _ rfl
            have hse := kS.out w5.drew (World.grownBy.andThen (row' := none) hg5 (grown_drewN 1) (by simp)) hb5
            go_still_tail 9, (by kernel_rfl)
            go_wp2_with (first
              | (go_at_call 31; (refine hse.mono ?_); rintro _ w6 ⟨rfl, hn6⟩)
              | fail)
            refine bodyPost_ret (results_tmp2 rfl _ _ _) rfl ?_
            have hg05 := World.grownBy.andThen (row' := some (w.heap.size + 1)) HG02.out hg5 (by rintro j ⟨⟩; left; omega)
            have hz := HZ2.out
            have hs5 := hg5.size
            have hn7 := Nxt.left (hg05.trans (grown_drewN 1 : w5.grownBy w5.drew none)) hn6
            obtain ⟨f', hd', hf', hm'⟩ := hn6
            obtain ⟨f7, hd7, hf7, hm7⟩ := hn7
            rw [HTN.out]
            refine ⟨f', hd', fun k hk => (hf' k hk).imp id fun ⟨h1, h2⟩ => ⟨Nat.le_trans (Nat.le_trans (by omega) hs5) h1, h2⟩, hm7, w.heap.size + 1, fun b => w.heap.size ≤ b ∧ b < w5.heap.size, rfl, ?_, ⟨by decide, by decide, by decide, by show 1 ≤ s2.n / 2; rw [hsn]; omega, by decide, by simp⟩, fun k hk => ⟨hk.1, fun hfk => ?_⟩⟩
            · have hm8 : ∀ k, w.heap.size ≤ k → k < w5.heap.size → w6.heap[k]? = w5.heap[k]? := fun k h1 h2 => hm'.block k h2 fun hfk => by have := HD.out.lt k hfk; omega
              exact ⟨w.heap.size, hb5.keep (hm8 _ (by omega) (by omega)), (HV2.out.keep ((hm8 _ (Nat.le_refl _) (by omega)).trans (hg5.block _ (by omega) (by simp))) (fun _ h => h.elim)).imp fun _ h => h.elim, ⟨by omega, by omega⟩, ⟨Nat.le_refl _, by omega⟩, by omega, fun b hb => Nat.lt_of_lt_of_le hb.2 hm'.size⟩
            · rcases hf' k hfk with h | h
              · have := HD.out.lt k h
                have := hk.1
                omega
              · have h1 : w5.heap.size ≤ k := h.1
                have h2 := hk.2
                omega
          · have HTN : Hid (s.openT = (q, s2, none)) := Lib.hid (by rw [HT.out, if_neg hq0])
            have hq0I : ¬ (q : Int) = 0 := by omega
            go_enter Tryz.func9, Tryz.ntmps9
            go_wp2_with (first
            | (go_at_call 23; (with_reducible refine hbk.mono ?_); rintro _ _ ⟨rfl, rfl⟩)
            | (go_at_call 28; (with_reducible refine hdd.mono ?_); rintro _ _ ⟨rfl, rfl⟩)
            | (go_at_call 29; rw [← HW1.out]; (try rw [HZ1.out]); rw [← HW2.out]; (refine hfd.mono ?_); rintro _ w3 ⟨hg3, rfl, hb3⟩)
            | (refine wpList_store_agg rfl 73 _ _ rfl (w.heap.size + 1) 2 [.int .u64 1, .int .u64 0, .int .u64 1] rfl rfl (by simp [Value.oneCell']) size56 _ _ hb3 (by simp [scells]) ?_; intro w5 k5 r5)
            | fail)

            have hb5 : Blk w5 (w.heap.size + 1) 75 (scells dp 0 1 0 1 (.map (some w.heap.size))) := by simpa [scells] using k5.out
            have hg5 := World.grownBy.andThen (row' := some (w.heap.size + 1)) hg3 r5.out.grown (by intro j hj; exact .inr hj)
            have y1 : w5.cell? ⟨w.heap.size + 1, 1, none⟩ = some (.int .i64 0) := hb5.get 1 _ rfl
            have y2 : w5.cell? ⟨w.heap.size + 1, 2, none⟩ = some (.int .u64 1) := hb5.get 2 _ rfl
            have y3 : w5.cell? ⟨w.heap.size + 1, 3, none⟩ = some (.int .u64 0) := hb5.get 3 _ rfl
            have y4 : w5.cell? ⟨w.heap.size + 1, 4, none⟩ = some (.int .u64 1) := hb5.get 4 _ rfl
            have hse := kS.out w5.drew (World.grownBy.andThen (row' := none) hg5 (grown_drewN 1) (by simp)) hb5
            go_still_tail 9, (by kernel_rfl)
            go_wp2_with (first
              | (go_at_call 31; (refine hse.mono ?_); rintro _ w6 ⟨rfl, hn6⟩)
              | fail)
            refine bodyPost_ret (results_tmp2 rfl _ _ _) rfl ?_
            have hg05 := World.grownBy.andThen (row' := some (w.heap.size + 1)) HG02.out hg5 (by rintro j ⟨⟩; left; omega)
            have hz := HZ2.out
            have hs5 := hg5.size
            have hn7 := Nxt.left (hg05.trans (grown_drewN 1 : w5.grownBy w5.drew none)) hn6
            obtain ⟨f', hd', hf', hm'⟩ := hn6
            obtain ⟨f7, hd7, hf7, hm7⟩ := hn7
            rw [HTN.out]
            exact ⟨f7, hd7, hf7, hm7, rfl⟩
        | true =>
          obtain ⟨o1, o2, o3, o4, o5⟩ := hR1 rfl
          dsimp only at o1 o2 o3 o4 o5
          have kL : Hid (∀ W, w2.grownBy W (some (w.heap.size + 1)) → Blk W (w.heap.size + 1) 75 (scells dp hf e c n (.map (some w.heap.size))) → Calls Tryz.prog 30 #[.pointer (some ⟨w.heap.size + 1, 0, none⟩)] W (LoadE W (fun _ => False) w.heap.size (loadT s.img (hf * (s.n / 2)) e n c 1 0 []))) := Lib.hid fun W hW hB =>
            load_any hB (HD2.out.md (Md.of_grown (foot := fun j => j = w.heap.size + 1) hW (fun r e => by cases e; rfl)) fun j hj e => hff (by rw [← e]; exact hj)) hdead o1 o4 o2 o3 (HV2.out.keep (hW.block _ (by omega) (by simp)) (fun _ h => h.elim)) (by simp) (fun _ h => h.elim) (by omega) hfm
          cases hLd : loadT s.img (hf * (s.n / 2)) e n c 1 0 [] with
          | none =>
            have hT : s.openT = (160, s, none) := by rw [St.openT, if_neg h4, if_neg (by rw [hdead]; decide), hF]; dsimp only; rw [hLd]
            rw [hLd] at kL
            have HT := Lib.hid hT
            have HZ1 := Lib.hid hz1
            clear hT hd hd2 hdead hF hil hw1 hw2 hz1 hz2 hg1 hg2 hg02 hv1 hv2 hokL hb2 hR1 hR2 hLd
            go_enter Tryz.func9, Tryz.ntmps9
            go_wp2_with (first
          | (go_at_call 23; (with_reducible refine hbk.mono ?_); rintro _ _ ⟨rfl, rfl⟩)
          | (go_at_call 28; (with_reducible refine hdd.mono ?_); rintro _ _ ⟨rfl, rfl⟩)
          | (go_at_call 29; rw [← HW1.out]; (try rw [HZ1.out]); rw [← HW2.out]; (refine hfd.mono ?_); rintro _ w3 ⟨hg3, rfl, hb3⟩)
          | (go_at_call 30; (refine (kL.out _ hg3 hb3).mono ?_); rintro _ w4 ⟨hg4, rfl⟩)
          | fail)
            refine bodyPost_ret (results_tmp2 rfl _ _ _) rfl ?_
            have hg03 := World.grownBy.andThen (row' := some (w.heap.size + 1)) HG02.out hg3 (by rintro j ⟨⟩; left; omega)
            have hg04 := World.grownBy.andThen (row' := some w.heap.size) hg03 hg4 (by rintro j ⟨⟩; left; omega)
            exact openE_none HT.out (HD.out.grown hg04) (Md.of_grown hg04 (by simp))
          | some L =>
            have hT : s.openT = (0, s, some ⟨hf, e, c, n, L⟩) := by rw [St.openT, if_neg h4, if_neg (by rw [hdead]; decide), hF]; dsimp only; rw [hLd]
            rw [hLd] at kL
            have HLE := Lib.hid (loadT_end _ _ _ _ _ hLd)
            have HT := Lib.hid hT
            have HZ1 := Lib.hid hz1
            clear hT hd hd2 hdead hF hil hw1 hw2 hz1 hz2 hg1 hg2 hg02 hv1 hv2 hokL hb2 hR1 hR2 hLd
            go_enter Tryz.func9, Tryz.ntmps9
            go_wp2_with (first
          | (go_at_call 23; (with_reducible refine hbk.mono ?_); rintro _ _ ⟨rfl, rfl⟩)
          | (go_at_call 28; (with_reducible refine hdd.mono ?_); rintro _ _ ⟨rfl, rfl⟩)
          | (go_at_call 29; rw [← HW1.out]; (try rw [HZ1.out]); rw [← HW2.out]; (refine hfd.mono ?_); rintro _ w3 ⟨hg3, rfl, hb3⟩)
          | (go_at_call 30; (refine (kL.out _ hg3 hb3).mono ?_); rintro _ w4 ⟨hg4, rfl, hv4, hl4⟩)
          | fail)
            refine bodyPost_ret (results_tmp2 rfl _ _ _) rfl ?_
            have hg03 := World.grownBy.andThen (row' := some (w.heap.size + 1)) HG02.out hg3 (by rintro j ⟨⟩; left; omega)
            have hg04 := World.grownBy.andThen (row' := some w.heap.size) hg03 hg4 (by rintro j ⟨⟩; left; omega)
            rw [HT.out]
            have hs3 := hg3.size
            have hs4 := hg4.size
            have hz := HZ2.out
            refine ⟨foot, HD.out.grown hg04, fun _ hk => .inl hk, Md.of_grown hg04 (by simp), w.heap.size + 1, fun b => w.heap.size ≤ b ∧ b < w4.heap.size, rfl, ⟨w.heap.size, hb3.grown hg4 (by simp), hv4.imp fun b hb => ?_, ⟨by omega, by omega⟩, ⟨Nat.le_refl _, by omega⟩, by omega, fun b hb => hb.2⟩, ⟨o1, o2, by have := HLE.out; show c < n; omega, o4, o5, hl4⟩, fun k hk => ⟨hk.1, fun hf => by have := HD.out.lt k hf; omega⟩⟩
            rcases hb with hb | hb
            · exact hb.elim
            · exact ⟨⟨by omega, hb.2⟩, by omega⟩
end Go.Proofs.YtonpcenjipigpaaGreat
/- What a store tells: All, Get, Epoch. Conditions: none. -/
namespace Go.Proofs.YtonpcenjipigpaaGreat
open Go.RowKit
/-- The names of a store are short. -/
theorem Vals.names {w : World} {ok : Nat → Prop} {mb n : Nat} {L : List (List UInt8 × List UInt8)} (h : Vals w ok mb n L) : ∀ x ∈ L, x.1.length ≤ 32 ∧ x.2.length ≤ 4000 := by
  obtain ⟨Z, _, rfl, h3⟩ := h
  intro x hx
  obtain ⟨z, hz, rfl⟩ := List.mem_map.1 hx
  obtain ⟨A, c, a1, a2, a3, a4, a5, a6⟩ := h3 z hz
  exact ⟨a5, a4⟩
theorem epoch_any {w : World} {fs : Nat → Prop} {sp dp : Nat} {t : Ste} (h : Stm w fs sp dp t) : Calls Tryz.prog 17 #[.pointer (some ⟨sp, 0, none⟩)] w fun e w' => e = .returned (.int .u64 (t.e : Int)) ∧ w = w' := by
  obtain ⟨mb, h1, h2, h3, h4, h5, h6⟩ := h
  have c2 : w.cell? ⟨sp, 2, none⟩ = some (.int .u64 (t.e : Int)) := h1.get 2 _ rfl
  clear h1 h2 h3 h4 h5 h6
  go_enter Tryz.func17, Tryz.ntmps17
  go_wp2
  go_ret
  exact ⟨rfl, rfl⟩
theorem all_sto {w : World} {fs : Nat → Prop} {sp dp : Nat} {t : Ste} (h : Stm w fs sp dp t) (hl : t.L.length ≤ 64) : Calls Tryz.prog 16 #[.pointer (some ⟨sp, 0, none⟩)] w (AllE w (chgs t.L)) := by
  obtain ⟨mb, h1, h2, h3, h4, h5, h6⟩ := h
  have c5 : w.cell? ⟨sp, 5, none⟩ = some (.map (some mb)) := h1.get 5 _ rfl
  have hall := all_any h2 (fun b hb => ⟨h6 b hb.1, hb.2⟩) (by omega) (fun x hx => Nat.le_trans (h2.names x hx).1 (by decide))
  clear h1 h2 h3 h4 h5 h6
  go_enter Tryz.func16, Tryz.ntmps16
  go_wp2_with (go_at_call 44; refine hall.mono ?_; rintro _ w2 ⟨g, c, rfl, hx⟩)
  go_ret
  exact ⟨g, c, rfl, hx⟩
/-- What Get answers. -/
def GetE (w : World) (x : Option (List UInt8)) (e : Ending) (w' : World) : Prop := ∃ A c, e = .returned (.tuple #[.slice A (x.getD []).length c, .bool x.isSome]) ∧ (x.getD []).length ≤ c ∧ c ≤ maxLen ∧ Byt w' (fun b => w.heap.size ≤ b ∧ b < w'.heap.size) A (x.getD []) ∧ Below w.heap.size w w'
theorem get_sto {w : World} {fs : Nat → Prop} {sp dp : Nat} {t : Ste} (h : Stm w fs sp dp t) (k : List UInt8) (hk : k.length ≤ maxLen) : Calls Tryz.prog 20 #[.pointer (some ⟨sp, 0, none⟩), .string ⟨k.toArray⟩] w (GetE w (getA k t.L)) := by
  obtain ⟨mb, h1, h2, h3, h4, h5, h6⟩ := h
  have c5 : w.cell? ⟨sp, 5, none⟩ = some (.map (some mb)) := h1.get 5 _ rfl
  obtain ⟨A, xs, cp, hlk, hx, l1, m1, v1, y1⟩ := h2.look hk true
  rw [if_pos rfl] at hlk
  have hcl := clone_any (c := cp) y1 (fun b hb => h6 b hb.1) (by omega)
  obtain ⟨x, hxx⟩ : ∃ x, x = getA k t.L := ⟨_, rfl⟩
  rw [← hxx] at hlk hx ⊢
  have HX := Lib.hid hx
  clear h1 h2 h3 h4 h5 h6 hx hxx y1
  go_enter Tryz.func20, Tryz.ntmps20
  go_wp2_with (go_at_call 47; refine hcl.mono ?_; rintro _ w2 ⟨A2, c2, rfl, l2, m2, y2, hb2⟩)
  refine bodyPost_ret (results_tmp2 rfl _ _ _) rfl ?_
  unfold GetE
  rw [← HX.out]
  exact ⟨A2, c2, rfl, l2, m2, y2, hb2⟩
end Go.Proofs.YtonpcenjipigpaaGreat
