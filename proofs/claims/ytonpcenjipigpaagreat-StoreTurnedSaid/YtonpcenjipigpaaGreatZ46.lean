/- The reference's Commit that goes. Conditions: as the store's. -/
import Derived.Test.YtonpcenjipigpaaGreatZ43
namespace Go.Proofs.YtonpcenjipigpaaGreat
open Go.RowKit
theorem size49r : (Tryz.prog.info? 49).map (·.size) = some 1 := by kernel_rfl
theorem size36r : (Tryz.prog.info? 36).map (·.size) = some 1 := by kernel_rfl
/-- What has turned just block b turns just b, twice. -/
theorem Wr.andThen {b : Nat} {w w1 w2 : World} (h : Wr b w w1) (k : Wr b w1 w2) : Wr b w w2 :=
  ⟨k.os.trans h.os, k.tape.trans h.tape, k.output.trans h.output, k.size.trans h.size, fun j hj => (k.block j hj).trans (h.block j hj)⟩
section
variable {f fs okl f8 : Nat → Prop} {w w5 w8 w9 : World} {sp dp : Nat} {s2 : St} {t : Ste} {Av : Option Addr} {cv : Nat}
theorem rend_f (hg5 : w.grownBy w5 none) (hf8 : ∀ k, f8 k → f k ∨ (w5.heap.size ≤ k ∧ k < w8.heap.size)) (r9 : Wr sp w8 w9) : ∀ k, f8 k → f k ∨ (w.heap.size ≤ k ∧ k < w9.heap.size) := fun k hk => by
  have h5s := hg5.size
  have h9s := r9.size
  rcases hf8 k hk with h | h
  · exact .inl h
  · exact .inr ⟨Nat.le_trans h5s h.1, by omega⟩
/-- The end of a commit that died. -/
theorem rend_dead (hb2 : Chs w fs Av (chgs t.L)) (hfs : ¬ fs sp) (hb4 : ∀ b, fs b → b < w.heap.size) (hlt : sp < w.heap.size) (hdis : ∀ k, fs k → ¬ f k) (hsf : ¬ f sp) (hg5 : w.grownBy w5 none) (hm : Md f w5 w8) (hf8 : ∀ k, f8 k → f k ∨ (w5.heap.size ≤ k ∧ k < w8.heap.size)) (hd8 : RDsk w8 f8 dp s2) (h2 : s2.dead = true)
    (k9 : Blk w9 sp 51 (rscells dp t.hf t.e t.c t.n (.slice Av t.L.length cv) true)) (r9 : Wr sp w8 w9) : RCommitE w f fs okl sp dp (150, s2, t) (.returned (.int .i64 150)) w9 := by
  have h5s := hg5.size
  have h6s := hm.size
  have h9s := r9.size
  have hn6 : ∀ k, fs k → ¬ f8 k := fun k hk h => by
    rcases hf8 k h with h1 | h1
    · exact hdis k hk h1
    · have := hb4 k hk; omega
  have hns : ¬ f8 sp := fun h => by
    rcases hf8 sp h with h1 | h1
    · exact hsf h1
    · omega
  have hfw : ∀ k, fs k → w9.heap[k]? = w.heap[k]? := fun k hk => by
    have hkl := hb4 k hk
    rw [r9.block k (fun e => hfs (e ▸ hk)), hm.block k (by omega) (hdis k hk), hg5.block k hkl (by simp)]
  refine ⟨rfl, f8, fs, hd8.keep (Nat.le_of_eq h9s.symm) (fun k hk => r9.block k (fun e => hns (e ▸ hk))), ?_, hn6, hns, rend_f hg5 hf8 r9, fun _ h => .inl h, ?_⟩
  · show RStm w9 fs sp dp t s2.dead
    rw [h2]
    exact ⟨Av, cv, k9, hb2.keep fun b hb => hfw b hb, hfs, fun b hb => by have := hb4 b hb; omega⟩
  · exact ((Md.of_grown hg5 (by simp)).trans (hm.mono fun _ h => .inl h)).trans (Md.of_wr r9 (.inr rfl))
/-- The end of a commit that is done. -/
theorem rend_done {w2 : World} {A2 : Option Addr} {c2 : Nat} {t' : Ste} (hfs : ¬ fs sp) (hb4 : ∀ b, fs b → b < w.heap.size) (hol : ∀ b, okl b → b < w.heap.size ∧ ¬ f b ∧ b ≠ sp) (hlt : sp < w.heap.size) (hdis : ∀ k, fs k → ¬ f k) (hsf : ¬ f sp) (hfl : ∀ k, f k → k < w.heap.size) (hx2 : Chs w2 (fun b => (fs b ∨ okl b) ∨ (w.heap.size ≤ b ∧ b < w2.heap.size)) A2 (chgs t'.L)) (hg2 : w.grownBy w2 none) (hg25 : w2.grownBy w5 none) (hm : Md f w5 w8) (hf8 : ∀ k, f8 k → f k ∨ (w5.heap.size ≤ k ∧ k < w8.heap.size)) (hd8 : RDsk w8 f8 dp s2) (h2 : s2.dead = false)
    (k9 : Blk w9 sp 51 (rscells dp t'.hf t'.e t'.c t'.n (.slice A2 t'.L.length c2) false)) (r9 : Wr sp w8 w9) : RCommitE w f fs okl sp dp (0, s2, t') (.returned (.int .i64 0)) w9 := by
  have hg5 := hg2.trans hg25
  have h2s := hg2.size
  have h5s := hg25.size
  have h6s := hm.size
  have h9s := r9.size
  have hlw : ∀ k, ((fs k ∨ okl k) ∨ (w.heap.size ≤ k ∧ k < w2.heap.size)) → k < w2.heap.size := fun k hk => by
    rcases hk with (h | h) | h
    · have := hb4 k h; omega
    · have := (hol k h).1; omega
    · exact h.2
  have hnf : ∀ k, ((fs k ∨ okl k) ∨ (w.heap.size ≤ k ∧ k < w2.heap.size)) → ¬ f k := fun k hk => by
    rcases hk with (h | h) | h
    · exact hdis k h
    · exact (hol k h).2.1
    · intro hf; have := hfl k hf; omega
  have hnsp : ∀ k, ((fs k ∨ okl k) ∨ (w.heap.size ≤ k ∧ k < w2.heap.size)) → k ≠ sp := fun k hk => by
    rcases hk with (h | h) | h
    · intro e; exact hfs (e ▸ h)
    · exact (hol k h).2.2
    · omega
  have hn6 : ∀ k, ((fs k ∨ okl k) ∨ (w.heap.size ≤ k ∧ k < w2.heap.size)) → ¬ f8 k := fun k hk h => by
    rcases hf8 k h with h1 | h1
    · exact hnf k hk h1
    · have := hlw k hk; omega
  have hns : ¬ f8 sp := fun h => by
    rcases hf8 sp h with h1 | h1
    · exact hsf h1
    · omega
  have hfw : ∀ k, ((fs k ∨ okl k) ∨ (w.heap.size ≤ k ∧ k < w2.heap.size)) → w9.heap[k]? = w2.heap[k]? := fun k hk => by
    have hkl := hlw k hk
    rw [r9.block k (hnsp k hk), hm.block k (by omega) (hnf k hk), hg25.block k hkl (by simp)]
  refine ⟨rfl, f8, _, hd8.keep (Nat.le_of_eq h9s.symm) (fun k hk => r9.block k (fun e => hns (e ▸ hk))), ?_, hn6, hns, rend_f hg5 hf8 r9, fun k h => ?_, ?_⟩
  · show RStm w9 _ sp dp t' s2.dead
    rw [h2]
    exact ⟨A2, c2, k9, hx2.keep fun b hb => hfw b hb, fun h => hnsp sp h rfl, fun b hb => by have := hlw b hb; omega⟩
  · rcases h with (h | h) | h
    · exact .inl h
    · exact .inr (.inl h)
    · exact .inr (.inr ⟨h.1, by omega⟩)
  · exact ((Md.of_grown hg5 (by simp)).trans (hm.mono fun _ h => .inl h)).trans (Md.of_wr r9 (.inr rfl))
end
set_option maxRecDepth 100000 in
set_option maxHeartbeats 8000000 in
/-- A commit that goes, as far as its first record has room. -/
theorem rcommit_fits {f fs okl : Nat → Prop} {w : World} {sp dp : Nat} {s : St} {t : Ste} {A : Option Addr} {cl : Nat} {l : List Chg} (hd : RDsk w f dp s) (ht : RStm w fs sp dp t false) (hdis : ∀ k, fs k → ¬ f k) (hsf : ¬ f sp) (hok : t.ok (s.n / 2)) (hx : Chs w okl A l) (hokl : ∀ b, okl b → b < w.heap.size ∧ ¬ f b ∧ b ≠ sp) (hn4 : s.n ≤ 4096) (hL : s.L.length ≤ 900000)
    (hdd : s.dead = false) (hg : Good l) (hne : l ≠ []) (hl : l.length ≤ 64) (h64 : (doAll t.L l).length ≤ 64) (hfit : t.n + nblk (recB t.e (t.c + 1) (payB l)).length ≤ s.n / 2) : Calls Tryz.prog 14 #[.pointer (some ⟨sp, 0, none⟩), .slice A l.length cl] w (RCommitE w f fs okl sp dp (s.commitT t l)) := by
  obtain ⟨T, hT⟩ : ∃ T, T = s.commitT t l := ⟨_, rfl⟩
  rw [← hT]
  have HD := Lib.hid hd
  have HS := Lib.hid ht
  have HDI := Lib.hid hdis
  have HX := Lib.hid hx
  have HOL := Lib.hid hokl
  have HT := Lib.hid hT
  have HG := Lib.hid hg
  obtain ⟨Av, cv, b1, b2, b3, b4⟩ := ht
  have c0 : w.cell? ⟨sp, 0, none⟩ = some (.pointer (some ⟨dp, 0, none⟩)) := b1.get 0 _ rfl
  have c1 : w.cell? ⟨sp, 1, none⟩ = some (.int .i64 (t.hf : Int)) := b1.get 1 _ rfl
  have c2 : w.cell? ⟨sp, 2, none⟩ = some (.int .u64 (t.e : Int)) := b1.get 2 _ rfl
  have c3 : w.cell? ⟨sp, 3, none⟩ = some (.int .i64 (t.c : Int)) := b1.get 3 _ rfl
  have c4 : w.cell? ⟨sp, 4, none⟩ = some (.int .i64 (t.n : Int)) := b1.get 4 _ rfl
  have c5 : w.cell? ⟨sp, 5, none⟩ = some (.slice Av t.L.length cv) := b1.get 5 _ rfl
  have c6 : w.cell? ⟨sp, 6, none⟩ = some (.bool false) := b1.get 6 _ rfl
  have d0 := hd.cn
  have kC : Hid (∀ W, w.grownBy W none → W.cell? ⟨sp, 0, none⟩ = some (.pointer (some ⟨dp, 0, none⟩)) ∧ W.cell? ⟨sp, 1, none⟩ = some (.int .i64 (t.hf : Int)) ∧ W.cell? ⟨sp, 2, none⟩ = some (.int .u64 (t.e : Int)) ∧ W.cell? ⟨sp, 3, none⟩ = some (.int .i64 (t.c : Int)) ∧ W.cell? ⟨sp, 4, none⟩ = some (.int .i64 (t.n : Int)) ∧ W.cell? ⟨sp, 5, none⟩ = some (.slice Av t.L.length cv) ∧ W.cell? ⟨sp, 6, none⟩ = some (.bool false) ∧ W.cell? ⟨dp, 0, none⟩ = some (.int .i64 (s.n : Int))) := Lib.hid fun W hW => ⟨hW.cell c0 (by simp), hW.cell c1 (by simp), hW.cell c2 (by simp), hW.cell c3 (by simp), hW.cell c4 (by simp), hW.cell c5 (by simp), hW.cell c6 (by simp), hW.cell d0 (by simp)⟩
  have HB2 := Lib.hid b2
  have HB1 := Lib.hid b1
  have HFS := Lib.hid b3
  have HB4 := Lib.hid b4
  have hlc : (chgs t.L).length = t.L.length := by simp [chgs]
  have htl := hok.len
  have hall := fun (w' : World) (hg : w.grownBy w' none) => allr_any (w := w') (ok := fun b => fs b ∨ okl b) (cl := cv) (cc := cl) ((HB2.out.keep fun b hb => hg.block b (HB4.out b hb) (by simp)).imp fun b hb => .inl hb) ((HX.out.keep fun b hb => hg.block b (HOL.out b hb).1 (by simp)).imp fun b hb => .inr hb) (fun b h => Nat.lt_of_lt_of_le (h.elim (HB4.out b) fun h => (HOL.out b h).1) hg.size) (by rw [hlc]; omega)
  have hall0 := hall w (World.grownBy.refl _ _)
  rw [allR_chgs, hlc] at hall0
  obtain ⟨L2, hL2⟩ : ∃ L2, L2 = doAll t.L l := ⟨_, rfl⟩
  rw [← hL2] at hall0 h64
  have hlc2 : (chgs L2).length = L2.length := by simp [chgs]
  have HL2 := Lib.hid hL2
  have HF := Lib.hid hfit
  have hpos : ¬ (l.length : Int) = 0 := fun h => hne (List.eq_nil_of_length_eq_zero (by omega))
  clear hd hdis hx hokl hT b1 b2 b3 b4 c0 c1 c2 c3 c4 c5 c6 d0 hall hL2 hg hfit
  go_enter Tryz.func14, Tryz.ntmps14
  go_wp2
  go_loop [5] (fun i => ∃ k : Nat, k ≤ l.length ∧ i = .int .i64 (k : Int)) (fun i => l.length - (intOf i).toNat)
  case atStart => exact ⟨0, Nat.zero_le _, rfl⟩
  case round =>
    obtain ⟨k, hk, rfl⟩ := hrel
    by_cases hlt : k < l.length
    · obtain ⟨b, o, A', c', rfl, hokb, q0, q1, q2, e1, e2, e3, hby⟩ := HX.out.at hlt
      obtain ⟨g1, g2, g3, g4⟩ := err_zero (HG.out l[k] (List.getElem_mem hlt))
      obtain ⟨c, hc⟩ : ∃ c, c = l[k] := ⟨_, rfl⟩
      rw [← hc] at q0 q1 q2 e1 e3 g1 g2 g3 g4
      obtain ⟨nm, vl, gn⟩ := c
      simp only at q0 q1 q2 e1 e3 g1 g2 g3 g4
      have he : nm.isEmpty = false := by simpa using g1
      have d1 : decide (32 < (nm.length : Int)) = false := decide_eq_false (by omega)
      have d3 : decide (4000 < (vl.length : Int)) = false := decide_eq_false (by omega)
      clear hby hc g1
      cases gn with
      | true =>
        have hv0 : ¬ 0 < vl.length := by rw [g3 rfl]; simp
        have d2 : decide (0 < (vl.length : Int)) = false := decide_eq_false (by omega)
        clear g3
        go_wp2
        go_round
        case rel => exact ⟨k + 1, by omega, by go_num⟩
        case measure => simp [intOf]; omega
      | false =>
        clear g3
        go_wp2
        go_round
        case rel => exact ⟨k + 1, by omega, by go_num⟩
        case measure => simp [intOf]; omega
    · obtain rfl : k = l.length := by omega
      have hI : decide (64 < (l.length : Int)) = false := decide_eq_false (by omega)
      have hcb : t.c ≤ 4096 := by have := hok.c; have := hok.n; omega
      have hwc : wrap64 ((t.c : Int) + 1) = (t.c : Int) + 1 := by unfold wrap64; omega
      obtain ⟨x0, x1, x2, x3, x4, x5, x6, x7⟩ := kC.out w (World.grownBy.refl _ _)
      have hI2 : decide (64 < (L2.length : Int)) = false := decide_eq_false (by omega)
      go_wp2_with (first
        | (go_at_call 37; (refine hall0.mono ?_); rintro _ w2 ⟨A2, c2, rfl, hx2, hg2⟩; rw [hlc2]; obtain ⟨z0, z1, z2, z3, z4, z5, z6, z7⟩ := kC.out w2 hg2; clear x0 x1 x2 x3 x4 x5 x6 x7)
        | fail)
      have HX2 := Lib.hid hx2
      have HG2 := Lib.hid hg2
      go_quiet (fail)
      obtain ⟨w3, hw3⟩ : ∃ X : World, X = w2.drewN nq := ⟨_, rfl⟩
      have hg23 : w2.grownBy w3 none := by rw [hw3]; exact grown_drewN nq
      have HG23 := Lib.hid hg23
      have hg3 : w.grownBy w3 none := HG2.out.trans hg23
      have hx3 : Chs w3 okl A l := HX.out.keep fun b hb => hg3.block b (HOL.out b hb).1 (by simp)
      have hpay := refPayload_any (cp := cl) hx3 (fun b hb => Nat.lt_of_lt_of_le (HOL.out b hb).1 hg3.size) rfl hl HG.out
      have hpl := payB_length HG.out hl
      rw [← hw3]
      have HG3 := Lib.hid hg3
      clear hw3 hx3 hx2 hg3 hg23
      go_wp2_with fail
      go_at_call 42
      refine hpay.mono ?_
      rintro _ w4 ⟨A4, c4, rfl, l4, m4, y4, b4⟩
      obtain ⟨P, hP⟩ : ∃ P, P = payB l := ⟨_, rfl⟩
      rw [← hP] at l4 y4 hpl ⊢
      have HP := Lib.hid hP
      clear hP
      have hrec := refRecord_any (cp := c4) t.e (t.c + 1) y4 (fun b hb => hb.2) rfl l4 m4 (by omega) hok.e (by have := hok.c; have := hok.n; omega)
      rw [show ((t.c + 1 : Nat) : Int) = (t.c : Int) + 1 by omega] at hrec
      go_wp2_with fail
      go_at_call 35
      refine hrec.mono ?_
      rintro _ w5 ⟨v5, rfl, n5, b5⟩
      have hrl := recB_length t.e (t.c + 1) P
      obtain ⟨M, hM⟩ : ∃ M, M = nblk (8 + P.length) := ⟨_, rfl⟩
      have hMb : 1 ≤ M := by rw [hM]; unfold nblk; omega
      obtain ⟨r, hr⟩ : ∃ r, r = recB t.e (t.c + 1) P := ⟨_, rfl⟩
      have hfit := HF.out
      rw [← HP.out, ← hr] at hfit
      rw [← hr, ← hM] at hrl
      have hnb : nblk r.length = M := by rw [hrl]; unfold nblk; omega
      rw [hnb] at hfit
      rw [← hr, hrl] at n5
      obtain ⟨g5, c5, rfl, l5, m5, y5⟩ := own_new n5 (by omega)
      have hg25 : w2.grownBy w5 none := (HG23.out.trans (grown_of_below b4)).trans (grown_of_below b5)
      have HG25 := Lib.hid hg25
      have hg5 : w.grownBy w5 none := (HG3.out.trans (grown_of_below b4)).trans (grown_of_below b5)
      have HR := Lib.hid hr
      have HM := Lib.hid hM
      have HRL := Lib.hid hrl
      have HNB := Lib.hid hnb
      have HG5 := Lib.hid hg5
      have hq1 : (64 * (M : Int)).tdiv 64 = (M : Int) := by rw [Int.tdiv_eq_ediv_of_nonneg (by omega)]; omega
      have hq2 : 64 * (M : Int) / 64 = (M : Int) := by omega
      have htn := hok.n
      have hw34 := Lib.hid b4.size
      clear hr hM hrl hnb hg5 hg25 n5 hrec hpay y4 b4 b5
      have hi0 : t.hf * (s.n / 2) + t.n + M ≤ s.n := by
        have h01 := hok.hf
        have : t.hf = 0 ∨ t.hf = 1 := by omega
        rcases this with h | h <;> rw [h] <;> omega
      have hput := rput_any (w := w5) (cp := c5) (o := 0) (a := t.n) (M := M) (HB1.out.grown HG5.out (by simp)) hsf (HD.out.grown HG5.out) hok.hf (by omega) rfl hi0 hn4 y5 HRL.out l5 m5 (fun k hk => ⟨hk.2, fun hf => by have h1 := HD.out.lt k hf; have h2 := HG3.out.size; have h3 := hw34.out; omega⟩) (by omega)
      have hends := laid_ends (cuts r M) s (t.hf * (s.n / 2) + t.n) hdd
      obtain ⟨R1, hR1⟩ : ∃ R1, R1 = s.laid (t.hf * (s.n / 2) + t.n) (cuts r M) := ⟨_, rfl⟩
      rw [← hR1] at hput hends
      have HR1 := Lib.hid hR1
      have kT : Hid (T = match s.keepT t l L2 with | (e, s', none) => (e, s', t) | (e, s', some (hf, ep, c, n)) => (e, s', ⟨hf, ep, c, n, L2⟩)) := by
        show T = _
        rw [HT.out, St.commitT, List.find?_eq_none.2 (fun c hc => by simp [HG.out c hc])]
        dsimp only
        rw [if_neg (by omega), ← HL2.out, if_neg (by omega), if_neg (by rw [hdd]; decide), if_neg hne]
        rfl
      have kK : Hid (s.keepT t l L2 = s.lays t.hf t.n r t.e (t.c + 1) (t.n + M)) := by
        show _ = _
        rw [St.keepT, ← HP.out, ← HR.out, HNB.out, if_pos hfit]
      clear hR1 y5 l5 m5
      rcases hends with ⟨e1, e2⟩ | ⟨e1, e2⟩
      · have dp0 : decide (R1.1 = 0) = true := by rw [e1]; rfl
        rw [dp0] at hput
        have hn1 : R1.2.n = s.n := by rw [HR1.out]; exact (St.laid_n _ _ _).1
        have hL1 : R1.2.L.length ≤ s.L.length + M := by rw [HR1.out]; have := (St.laid_n (cuts r M) s (t.hf * (s.n / 2) + t.n)).2; simpa [cuts] using this
        have HN1 := Lib.hid hn1
        have HL1 := Lib.hid hL1
        have hhd : ∀ W, Calls Tryz.prog 34 #[.int .u64 (t.e : Int), .int .i64 ((t.c : Int) + 1), .int .i64 ((t.n : Int) + (M : Int))] W (OwnB W (hdrB t.e (t.c + 1) (t.n + M))) := fun W => by
          have := refHead_any t.e (t.c + 1) (t.n + M) W hok.e (by have := hok.c; omega) (by omega)
          rwa [show ((t.c + 1 : Nat) : Int) = (t.c : Int) + 1 by omega, show ((t.n + M : Nat) : Int) = (t.n : Int) + (M : Int) by omega] at this
        obtain ⟨hdr, hhr⟩ : ∃ hdr, hdr = hdrB t.e (t.c + 1) (t.n + M) := ⟨_, rfl⟩
        have hhl : hdr.length = 64 := by rw [hhr]; exact hdrB_length _ _ _
        rw [← hhr] at hhd
        have HHR := Lib.hid hhr
        have hends2 := laid_ends (cuts hdr 1) R1.2 (t.hf * (s.n / 2) + 0) e2
        have hsl2 : R1.2.sealed (t.hf * (s.n / 2)) hdr = R1.2.laid (t.hf * (s.n / 2) + 0) (cuts hdr 1) := by rw [Nat.add_zero, cuts_one hhl, sealed_laid]
        obtain ⟨R2, hR2⟩ : ∃ R2, R2 = R1.2.laid (t.hf * (s.n / 2) + 0) (cuts hdr 1) := ⟨_, rfl⟩
        rw [← hR2] at hends2 hsl2
        have HR2 := Lib.hid hR2
        have hTl : s.lays t.hf t.n r t.e (t.c + 1) (t.n + M) = if R2.1 ≠ 0 then (R2.1, R2.2, none) else (0, R2.2, some (t.hf, t.e, t.c + 1, t.n + M)) := by
          rw [St.lays, HNB.out, ← HR1.out, if_neg (by rw [e1]; decide), ← HHR.out, hsl2]
        have HTL := Lib.hid hTl
        have kP2 : Hid (∀ (w6 w7 : World) (f6 : Nat → Prop) (g7 c7 : Nat) (tl : List Value), RDsk w7 f6 dp R1.2 → Blk w7 sp 51 (.pointer (some ⟨dp, 0, none⟩) :: tl) → ¬ f6 sp → Byt w7 (fun b => w6.heap.size ≤ b ∧ b < w7.heap.size) (some ⟨g7, 0, none⟩) hdr → 64 ≤ c7 → c7 ≤ maxLen → (∀ k, f6 k → k < w6.heap.size) → Calls Tryz.prog 43 #[.pointer (some ⟨sp, 0, none⟩), .int .i64 (t.hf : Int), .int .i64 0, .slice (some ⟨g7, 0, none⟩) 64 c7] w7 fun e w' => e = .returned (.bool (decide (R2.1 = 0))) ∧ NxtR w7 f6 dp R2.2 w') := by
          show ∀ _, _
          intro w6 w7 f6 g7 c7 tl h1 h2 h3 h4 h5 h6 h7
          have := rput_any (w := w7) (cp := c7) (o := 0) (a := 0) (M := 1) (i0 := t.hf * (s.n / 2) + 0) h2 h3 h1 hok.hf (by omega) (by rw [hn1]) (by rw [hn1]; omega) (by rw [hn1]; exact hn4) h4 hhl h5 h6 (fun k hk => ⟨hk.2, fun hf => by have := h7 k hf; omega⟩) (by omega)
          rw [← hR2] at this
          exact this
        clear hTl hR2 hsl2 hhr hn1 hL1 e1 dp0
        rcases hends2 with ⟨e3, e4⟩ | ⟨e3, e4⟩
        · have hT : T = (0, R2.2, ⟨t.hf, t.e, t.c + 1, t.n + M, L2⟩) := by
            rw [kT.out, kK.out, HTL.out, if_neg (by rw [e3]; decide)]
          have HTT := Lib.hid hT
          have dp0 : decide (R2.1 = 0) = true := by rw [e3]; rfl
          have DP := Lib.hid dp0
          clear hT e3 dp0
          go_wp2_with (first
            | (go_at_call 43; (with_reducible refine hput.mono ?_); rintro _ w6 ⟨rfl, f6, hd6, hf6, hm6⟩
               have hb6 := (HB1.out.grown HG5.out (by simp)).keep (hm6.block sp (HB1.out.grown HG5.out (by simp)).lt hsf)
               have hns6 : ¬ f6 sp := fun h => by
                 rcases hf6 sp h with h1 | h1
                 · exact hsf h1
                 · have h2 := HB1.out.lt
                   have h3 := HG5.out.size
                   omega)
            | (go_at_call 34; (with_reducible refine (hhd _).mono ?_); rintro _ w7 ⟨v7, rfl, n7, b7⟩
               rw [hhl] at n7
               obtain ⟨g7, c7, rfl, l7, m7, y7⟩ := own_new n7 (by omega)
               have hb7 := hb6.grown (grown_of_below b7) (by simp)
               have hput2 := kP2.out w6 w7 f6 g7 c7 _ (hd6.grown (grown_of_below b7)) hb7 hns6 y7 l7 m7 hd6.lt
               rw [DP.out] at hput2
               clear hput)
            | (go_at_call 43; (with_reducible refine hput2.mono ?_); rintro _ w8 ⟨rfl, f8, hd8, hf8, hm8⟩
               have hb8 := hb7.keep (hm8.block sp hb7.lt hns6))
            | (refine wpList_store_cell rfl 3 _ _ rfl size3 sp 1 (.int .i64 (t.hf : Int)) rfl rfl rfl _ _ hb8 (by simp [rscells]) ?_; intro w9 k9 r9)
            | (refine wpList_store_cell rfl 49 _ _ rfl size49r sp 2 (.int .u64 (t.e : Int)) rfl rfl rfl _ _ k9.out (by simp [rscells]) ?_; intro wa ka ra)
            | (refine wpList_store_cell rfl 3 _ _ rfl size3 sp 3 (.int .i64 ((t.c : Int) + 1)) rfl rfl rfl _ _ ka.out (by simp [rscells]) ?_; intro wb kb rb)
            | (refine wpList_store_cell rfl 3 _ _ rfl size3 sp 4 (.int .i64 ((t.n : Int) + (M : Int))) rfl rfl rfl _ _ kb.out (by simp [rscells]) ?_; intro wc kc rc)
            | (refine wpList_store_cell rfl 36 _ _ rfl size36r sp 5 (.slice A2 L2.length c2) rfl rfl rfl _ _ kc.out (by simp [rscells]) ?_; intro wd kd rd)
            | fail)
          go_ret
          rw [HTT.out]
          have hm8' : Md f w5 w8 := (hm6.trans (Md.of_grown (grown_of_below b7) (by simp))).trans_ext hm8 fun k hk => (hf6 k hk).imp id fun h => ⟨h.1, by have := b7.size; omega⟩
          have hff : ∀ k, f8 k → f k ∨ (w5.heap.size ≤ k ∧ k < w8.heap.size) := fun k hk => by
            rcases hf8 k hk with h | h
            · exact (hf6 k h).imp id fun h => ⟨h.1, by have := b7.size; have := hm8.size; omega⟩
            · exact .inr ⟨by have := b7.size; have := hm6.size; omega, h.2⟩
          exact rend_done (t' := ⟨t.hf, t.e, t.c + 1, t.n + M, L2⟩) HFS.out HB4.out HOL.out HB1.out.lt HDI.out hsf HD.out.lt HX2.out HG2.out HG25.out hm8' hff hd8 e4 kd.out ((((r9.out.andThen ra.out).andThen rb.out).andThen rc.out).andThen rd.out)
        · have hT : T = (150, R2.2, t) := by
            rw [kT.out, kK.out, HTL.out, if_pos (by rw [e3]; decide), e3]
          have HTT := Lib.hid hT
          have dp0 : decide (R2.1 = 0) = false := by rw [e3]; rfl
          have DP := Lib.hid dp0
          clear hT e3 dp0
          go_wp2_with (first
            | (go_at_call 43; (with_reducible refine hput.mono ?_); rintro _ w6 ⟨rfl, f6, hd6, hf6, hm6⟩
               have hb6 := (HB1.out.grown HG5.out (by simp)).keep (hm6.block sp (HB1.out.grown HG5.out (by simp)).lt hsf)
               have hns6 : ¬ f6 sp := fun h => by
                 rcases hf6 sp h with h1 | h1
                 · exact hsf h1
                 · have h2 := HB1.out.lt
                   have h3 := HG5.out.size
                   omega)
            | (go_at_call 34; (with_reducible refine (hhd _).mono ?_); rintro _ w7 ⟨v7, rfl, n7, b7⟩
               rw [hhl] at n7
               obtain ⟨g7, c7, rfl, l7, m7, y7⟩ := own_new n7 (by omega)
               have hb7 := hb6.grown (grown_of_below b7) (by simp)
               have hput2 := kP2.out w6 w7 f6 g7 c7 _ (hd6.grown (grown_of_below b7)) hb7 hns6 y7 l7 m7 hd6.lt
               rw [DP.out] at hput2
               clear hput)
            | (go_at_call 43; (with_reducible refine hput2.mono ?_); rintro _ w8 ⟨rfl, f8, hd8, hf8, hm8⟩
               have hb8 := hb7.keep (hm8.block sp hb7.lt hns6))
            | (refine wpList_store_cell rfl 4 _ _ rfl size4 sp 6 (.bool true) rfl rfl rfl _ _ hb8 (by simp [rscells]) ?_; intro w9 k9 r9)
            | fail)
          go_ret
          rw [HTT.out]
          have hm8' : Md f w5 w8 := (hm6.trans (Md.of_grown (grown_of_below b7) (by simp))).trans_ext hm8 fun k hk => (hf6 k hk).imp id fun h => ⟨h.1, by have := b7.size; omega⟩
          have hff : ∀ k, f8 k → f k ∨ (w5.heap.size ≤ k ∧ k < w8.heap.size) := fun k hk => by
            rcases hf8 k hk with h | h
            · exact (hf6 k h).imp id fun h => ⟨h.1, by have := b7.size; have := hm8.size; omega⟩
            · exact .inr ⟨by have := b7.size; have := hm6.size; omega, h.2⟩
          exact rend_dead HB2.out HFS.out HB4.out HB1.out.lt HDI.out hsf HG5.out hm8' hff hd8 e4 k9.out r9.out
      · have hT : T = (150, R1.2, t) := by
          rw [kT.out, kK.out, St.lays, HNB.out, ← HR1.out, if_pos (by rw [e1]; decide), e1]
        have HTT := Lib.hid hT
        have dp0 : decide (R1.1 = 0) = false := by rw [e1]; rfl
        rw [dp0] at hput
        clear hT e1 dp0
        go_wp2_with (first
          | (go_at_call 43; (refine hput.mono ?_); rintro _ w6 ⟨rfl, f6, hd6, hf6, hm6⟩
             have hb6 := (HB1.out.grown HG5.out (by simp)).keep (hm6.block sp (HB1.out.grown HG5.out (by simp)).lt hsf))
          | (refine wpList_store_cell rfl 4 _ _ rfl size4 sp 6 (.bool true) rfl rfl rfl _ _ hb6 (by simp [rscells]) ?_; intro w7 k7 r7)
          | fail)
        go_ret
        rw [HTT.out]
        exact rend_dead HB2.out HFS.out HB4.out HB1.out.lt HDI.out hsf HG5.out hm6 hf6 hd6 e2 k7.out r7.out
end Go.Proofs.YtonpcenjipigpaaGreat
