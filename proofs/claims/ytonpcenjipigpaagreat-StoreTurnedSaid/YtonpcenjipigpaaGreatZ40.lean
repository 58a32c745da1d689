/- What a disk keeps, told. Conditions: at most 2^20 writes wait. -/
import Derived.Test.YtonpcenjipigpaaGreatZ34
namespace Go.Proofs.YtonpcenjipigpaaGreat
open Go.RowKit
theorem own_tail {w : World} {b n : Nat} {e : TypeId} {sz : Nat} {v : Value} {xs : List Value} (h : w.ownsRow b e sz v n xs) (hn : 0 < n) :
    ∃ g cap tl, v = .slice (some ⟨g, 0, none⟩) n cap ∧ b ≤ g ∧ Blk w g e (xs ++ tl) ∧ n ≤ cap ∧ cap ≤ maxLen := by
  rcases h.2 with ⟨_, h0⟩ | ⟨g, cap, cur, hv, hb, hg, h1, h2, _, h4⟩
  · omega
  · refine ⟨g, cap, cur.toList.drop (n * sz), hv, hb, ?_, h1, h2⟩
    unfold Blk
    rw [← h4, List.take_append_drop]
    exact hg
def NewBlocks (w : World) (n : Nat) (B : List UInt8) (e : Ending) (w' : World) : Prop :=
  ∃ g cap tl, e = .returned (.slice (some ⟨g, 0, none⟩) n cap) ∧ w.heap.size ≤ g ∧ Blk w' g 96 (u8s B ++ tl) ∧ n ≤ cap ∧ w.grownBy w' none
set_option maxHeartbeats 800000 in
theorem dclone_any {w : World} {gb n c : Nat} {B : List UInt8} (hb : Blk w gb 96 (u8s B)) (hB : B.length = 64 * n) (hn : 1 ≤ n) (hn2 : n ≤ 4096) :
    Calls Tryz.prog 48 #[.slice (some ⟨gb, 0, none⟩) n c] w (NewBlocks w n B) := by
  obtain ⟨i0, hi, hz0, hz1, hz2⟩ := info_parts Tryz.info96
  have r1 := fun w : World => Lib.run_eql_slice_nil (P := Tryz.prog) w 67 96 (some ⟨gb, 0, none⟩) n c 0 0 Tryz.underlying67
  have hb1 : Blk (w.alloc (.cells #[] 96)) gb 96 (u8s B) := hb.grown (World.grownBy_alloc _ _ none) (by simp)
  have HB := Lib.hid hb1
  have HL : Hid ((u8s B).length = n * 64) := by show _ = _; rw [u8s_length, hB, Nat.mul_comm]
  have HN : Hid (1 ≤ n ∧ n ≤ 4096) := ⟨hn, hn2⟩
  clear hb hb1 hB hn hn2
  go_enter Tryz.func48, Tryz.ntmps48
  go_wp2_with (first | (at_builtin; refine wpList_append_lies _ rfl _ _ 67 rfl w.heap.size 96 i0 _ 64 64 Tryz.underlying67 hi hz0 hz1 hz2 (by simp [Value.cells, u8s_length, zb_length]) (by omega) _ 0 [] rfl (World.ownsRow_lit w #[] 0 (Nat.le_refl _) (Nat.zero_le _) rfl) ⟨gb, 0, none⟩ n c (u8s B) rfl HL.out (fun j u hu => by rw [Addr.add_mid, Nat.zero_add]; exact HB.out.get _ _ hu) (u8s_one B) (by have := HN.out; omega) (by have := HN.out; unfold maxLen; omega) (by have := HN.out; omega) (by simp) _ rfl ?_) | fail)
  intro g cap w1 hown hgrow hat hlt
  have hown' : w1.ownsRow w.heap.size 96 64 (.slice (some ⟨g, 0, none⟩) n cap) n (u8s B) := by simpa using hown
  clear hown
  obtain ⟨g', cap', tl, e, hge, hbk, hnc, _⟩ := own_tail hown' (by have := HN.out; omega)
  simp only [Value.slice.injEq, Option.some.injEq, Addr.mk.injEq, true_and, and_true] at e
  obtain ⟨rfl, rfl⟩ := e
  have HBK := Lib.hid hbk
  have HGR := Lib.hid hgrow
  clear hbk hgrow hat hown'
  go_wp2
  go_ret
  refine ⟨g, cap, tl, by simp, hge, HBK.out, hnc, ?_⟩
  exact World.grownBy.andThen (World.grownBy_alloc w _ none) HGR.out (by intro j e; simp [Value.ownBlock] at e; left; omega)
theorem run_make33 {N : Nat} (hN : N ≤ 262144) (w : World) : (Instr.makeSlice 40 (.int .i64 (N : Int)) (.int .i64 (N : Int))).run Tryz.prog w = .ok (.slice (some ⟨w.heap.size, 0, none⟩) N N) (w.alloc (.cells (u8s (zb N)).toArray 5)) := by
  obtain ⟨i, hi, hz, hs, hb⟩ := info_parts Tryz.info5
  have h := run_makeSlice (P := Tryz.prog) w 40 5 i _ Tryz.underlying40 hi hz .i64 .i64 (N : Int) (N : Int) (by omega) (by omega) (by rw [hs]; simp; omega) (by rw [hb]; simp; omega) (by omega)
  rw [h, hs]
  have e : madeCells (Value.int .u8 0).cells ((N : Int).toNat * 1) = (u8s (zb N)).toArray := by
    rw [show (Value.int .u8 0).cells = #[Value.int .u8 0] from rfl]
    apply Array.toList_inj.1
    rw [toList_madeCells_one]
    simp [u8s, zb]
  rw [e]
  rfl
/-- What is copied so far. -/
def soFar (K : List UInt8) (n k : Nat) : List UInt8 := K.take (64 * k) ++ zb (64 * n - 64 * k)
theorem soFar_zero (K : List UInt8) (n : Nat) : soFar K n 0 = zb (64 * n) := by simp [soFar]
theorem soFar_all {K : List UInt8} {n : Nat} (h : K.length = 64 * n) : soFar K n n = K := by
  unfold soFar
  rw [Nat.sub_self, ← h, List.take_length]
  simp [zb]
theorem soFar_succ {K : List UInt8} {n k : Nat} (h : K.length = 64 * n) (hk : k < n) : K.take (64 * k) ++ lay (blk K k) (zb (64 * n - 64 * k)) = soFar K n (k + 1) := by
  have hb := blk_length h hk
  have e : zb (64 * n - 64 * k) = zb 64 ++ zb (64 * n - 64 * (k + 1)) := by
    unfold zb
    rw [List.replicate_append_replicate, show 64 + (64 * n - 64 * (k + 1)) = 64 * n - 64 * k by omega]
  rw [e, lay_over (by rw [hb, zb_length]), ← List.append_assoc]
  unfold soFar
  rw [show 64 * (k + 1) = 64 * k + 64 by omega, List.take_add]
  rfl
/-- A slice of just these bytes, in new memory. -/
def NewBytes (w : World) (K : List UInt8) (n : Nat) (e : Ending) (w' : World) : Prop :=
  ∃ g, e = .returned (.slice (some ⟨g, 0, none⟩) n n) ∧ Blk w' g 5 (u8s K) ∧ w.heap.size ≤ g ∧ w.grownBy w' none
set_option maxRecDepth 100000 in
set_option maxHeartbeats 1600000 in
theorem kept_any {foot : Nat → Prop} {w : World} {p : Nat} {s : St} (h : Dsk w foot p s) (hL : s.L.length ≤ 1048576) : Calls Tryz.prog 22 #[.pointer (some ⟨p, 0, none⟩)] w (NewBytes w s.K (64 * s.n)) := by
  obtain ⟨o1, o2, o3, _⟩ := h.ok
  obtain ⟨gb, Wv, B, W, h1, h2, h3, h4, h5⟩ := h
  obtain ⟨Aw, cw, rfl⟩ := own_shape h3
  have c0 : w.cell? ⟨p, 0, none⟩ = some (.slice (some ⟨gb, 0, none⟩) s.n s.n) := h1.get 0 _ rfl
  have c1 : w.cell? ⟨p, 1, none⟩ = some (.slice Aw W.length cw) := h1.get 1 _ rfl
  have hpl := h4.lt p h4.hp
  have hWl : W.length ≤ 1048577 := by have := h5.inv.1; omega
  have HCL := Lib.hid (dclone_any (c := s.n) h2 h5.len o1 o2)
  have H3 := Lib.hid h3
  have HF := Lib.hid h5.fit
  have HBL := Lib.hid h5.len
  have HKE := Lib.hid h5.inv.kept
  have HKL := Lib.hid o3
  have HWL := Lib.hid hWl
  have HO := Lib.hid (show 1 ≤ s.n ∧ s.n ≤ 4096 from ⟨o1, o2⟩)
  obtain ⟨n, hn⟩ : ∃ n, s.n = n := ⟨_, rfl⟩
  rw [hn] at c0 HCL HF HBL HKL HO ⊢
  obtain ⟨K, hK⟩ : ∃ K, s.K = K := ⟨_, rfl⟩
  rw [hK] at HKE HKL ⊢
  clear h1 h2 h3 h4 h5 o1 o2 o3 hWl hL hn hK
  have hmk : ∀ w, (Instr.makeSlice 40 (.int .i64 ((n : Int) * 64)) (.int .i64 ((n : Int) * 64))).run Tryz.prog w = .ok (.slice (some ⟨w.heap.size, 0, none⟩) (64 * n) (64 * n)) (w.alloc (.cells (u8s (zb (64 * n))).toArray 5)) := fun w => by
    have := run_make33 (N := 64 * n) (by have := HO.out; omega) w
    rwa [show ((64 * n : Nat) : Int) = (n : Int) * 64 by omega] at this
  have hn0 : n ≤ 4096 := HO.out.2
  go_enter Tryz.func22, Tryz.ntmps22
  go_wp2_with (first
    | (go_at_call 48; refine HCL.out.mono ?_; rintro e w1 ⟨g, cap, tl, rfl, hg1, hb1, hnc, hgr1⟩
       have c11 : w1.cell? ⟨p, 1, none⟩ = some (.slice Aw W.length cw) := (hgr1.cell_far ⟨p, 1, none⟩ hpl (by simp)).trans c1
       have HLI : Hid (Lies w1 w1.heap.size g Aw W) := Lies.of_own (H3.out.kept hgr1 (by cases (Value.slice Aw W.length cw).ownBlock <;> simp)) HF.out (fun k hk => by have := (H3.out.lt k hk).2; omega)
       have HB1 := Lib.hid hb1
       have HG1 := Lib.hid hgr1
       clear hb1 hgr1)
    | (go_at_call 45; refine (undo_any HB1.out HBL.out HF.out HWL.out HLI.out).mono ?_; rintro e w2 ⟨rfl, hb2, hgr2⟩
       rw [HKE.out] at hb2
       have HB2 := Lib.hid hb2
       have HG2 := Lib.hid (World.grownBy.andThen HG1.out hgr2 (by rintro j ⟨⟩; left; omega))
       clear hb2 hgr2 HB1 HG1 HLI)
    | fail)
  have hn1 : (n : Int) ≤ 4096 := by omega
  have hb3 : Blk (w2.alloc (.cells (u8s (zb (64 * n))).toArray 5)) w2.heap.size 5 (u8s (soFar K n 0)) := by
    rw [soFar_zero]
    exact Blk.of_alloc w2 _ 5
  have hg3 := World.grownBy.trans HG2.out (World.grownBy_alloc w2 (.cells (u8s (zb (64 * n))).toArray 5) none)
  have hb4 : Blk (w2.alloc (.cells (u8s (zb (64 * n))).toArray 5)) g 96 (u8s K ++ tl) := HB2.out.grown (World.grownBy_alloc _ _ none) (by simp)
  have hne : g < w2.heap.size := HB2.out.lt
  have hsz2 : w.heap.size ≤ w2.heap.size := HG2.out.size
  obtain ⟨gn, hgn⟩ : ∃ gn, gn = w2.heap.size := ⟨_, rfl⟩
  rw [← hgn] at hb3 hne hsz2 ⊢
  clear hgn HB2 HG2 c0 c1 c11 hmk HCL
  obtain ⟨W3, hW3⟩ : ∃ W3, w2.alloc (.cells (u8s (zb (64 * n))).toArray 5) = W3 := ⟨_, rfl⟩
  rw [hW3] at hb3 hb4 hg3 ⊢
  clear hW3
  go_loopw [23] (fun v wr => ∃ k : Nat, k ≤ n ∧ v = .int .i64 (k : Int) ∧ Blk wr gn 5 (u8s (soFar K n k)) ∧ Blk wr g 96 (u8s K ++ tl) ∧ w.grownBy wr none) (fun v _ => n - (intOf v).toNat)
  case atStart => exact ⟨0, Nat.zero_le _, rfl, hb3, hb4, hg3⟩
  case round =>
    clear hb3 hb4 hg3
    obtain ⟨k, hk, rfl, r1, r2, r3⟩ := hrel
    obtain ⟨wo, rfl⟩ : ∃ wo : World, wo = wr := ⟨_, rfl⟩
    by_cases hlt : k < n
    · have hd : decide ((k : Int) < (n : Int)) = true := by simpa using hlt
      have hix := fun w => run_index52 w g n cap k hlt
      have hk64 : IntKind.i64.wrap ((k : Int) * 64) = (k : Int) * 64 := IntWalk.i64_in _ (by omega)
      have q1 : (0 : Int) ≤ (k : Int) * 64 := by omega
      have q2 : (k : Int) * 64 ≤ 64 * (n : Int) := by omega
      have q4 : ¬ (64 * n = 64 * k) := by omega
      have q3 : ((k : Int) * 64).toNat = 64 * k := by omega
      go_wp2
      have hx : Byt wo.drew (fun b => b = g) (some ⟨g, 64 * k, none⟩) (blk K k) := by
        have : Blk wo.drew g 96 (u8s (K.take (64 * k)) ++ u8s (blk K k) ++ (u8s (K.drop (64 * k + 64)) ++ tl)) := by
          rw [← List.append_assoc, ← mid_parts]
          exact r2
        exact this.byt (by rw [u8s_length, List.length_take, HKL.out]; omega)
      have hb5 : Blk wo.drew gn 5 (u8s (K.take (64 * k)) ++ u8s (zb (64 * n - 64 * k)) ++ []) := by
        rw [List.append_nil, ← u8s_append]
        exact r1
      have HBK : Hid ((blk K k).length = 64) := blk_length HKL.out hlt
      have HX := Lib.hid hx
      have HB5 := Lib.hid hb5
      have HM : Hid (Nat.min (blk K k).length (zb (64 * n - 64 * k)).length = 64) := by show Nat.min _ _ = 64; rw [HBK.out, zb_length]; exact Nat.min_eq_left (by omega)
      have HP : Hid ((u8s (K.take (64 * k))).length = 64 * k) := by show _ = _; rw [u8s_length, List.length_take, HKL.out]; omega
      clear hx hb5 r1
      have R2 := Lib.hid r2
      have R3 := Lib.hid r3
      clear r2 r3
      go_region_law (first
        | (refine step_copy_blk rfl (.tmp 29) (.tmp 33) rfl gn (64 * k) (64 * n - 64 * k) (64 * n - 64 * k) 64 64 (some ⟨g, 64 * k, none⟩) (blk K k) (zb (64 * n - 64 * k)) (by simp [Act.eval, Act.put]) (by simp [Act.eval, Act.put]) HBK.out (zb_length _) (by rw [HM.out]; decide) 5 (u8s (K.take (64 * k))) [] HB5.out HP.out (fun b => b = g) HX.out 64 HM.out ?_; intro w5 hb6 hg6 hz6)
        | fail)
      have hb7 : Blk w5 gn 5 (u8s (soFar K n (k + 1))) := by
        rw [← soFar_succ HKL.out hlt]
        exact hb6.to (by rw [List.append_nil, u8s_append])
      have hg7 : w.grownBy w5 none := World.grownBy.andThen (R3.out.trans (grown_drewN 1)) hg6 (by rintro j ⟨⟩; left; omega)
      have hb8 : Blk w5 g 96 (u8s K ++ tl) := Blk.grown (w := wo.drew) R2.out hg6 (by simp; omega)
      clear hb6 hg6 hz6 HX HB5 HM HP R2 R3
      go_wp2
      go_roundw
      case rel => exact ⟨k + 1, by omega, by go_num, hb7, hb8, hg7⟩
      case measure => simp [intOf]; omega
    · obtain rfl : k = n := by omega
      rw [soFar_all HKL.out] at r1
      go_wp2
      go_ret
      exact ⟨gn, by simp, r1, hsz2, r3⟩
end Go.Proofs.YtonpcenjipigpaaGreat
