/- The reference's put: blocks laid into a half, and a sync. Conditions: at most 2^20 writes wait. -/
import Derived.Test.YtonpcenjipigpaaGreatZ39
import Derived.Test.YtonpcenjipigpaaGreatZ42
import Derived.Test.YtonpcenjipigpaaGreatZ23
import Derived.Test.YtonpcenjipigpaaGreatZ31
import Derived.Test.YtonpcenjipigpaaGreatZ33
import Derived.Test.YtonpcenjipigpaaGreatZ38
namespace Go.Proofs.YtonpcenjipigpaaGreat
open Go.RowKit
theorem rwrite_both {foot : Nat → Prop} {w : World} {p : Nat} {s : St} (h : RDsk w foot p s) {i : Nat} (hi : i < s.n) {ok : Nat → Prop} {A : Option Addr} {c : Nat} {b : List UInt8} (hb : Byt w ok A b) (hbl : b.length = 64) (hok : ∀ k, ok k → k < w.heap.size ∧ ¬ foot k) (hL : s.L.length ≤ 1048576) :
    Calls Tryz.prog 25 #[.pointer (some ⟨p, 0, none⟩), .int .i64 (i : Int), .slice A 64 c] w fun e w' => e = .returned (.int .i64 (s.wroteE : Nat)) ∧ NxtR w foot p (s.wrote i b) w' := by
  cases hg : s.goes with
  | true =>
    refine (rwrite_yes (c := c) h hi hb hbl hok hg hL).mono ?_
    rintro e w' ⟨rfl, hn⟩
    have e1 : s.wroteE = 0 := by simp [St.wroteE, hg]
    have e2 : s.wrote i b = s.burn.write i b := by simp [St.wrote, hg]
    rw [e1, e2]
    exact ⟨rfl, hn⟩
  | false =>
    refine (rwrite_dead (A := A) (c := c) h hi hg).mono ?_
    rintro e w' ⟨rfl, hd, hm⟩
    have e1 : s.wroteE = 150 := by simp [St.wroteE, hg]
    have e2 : s.wrote i b = s.burn := by simp [St.wrote, hg]
    rw [e1, e2]
    exact ⟨rfl, NxtR.of hd hm⟩
theorem laid_drop {s : St} {i M k : Nat} {b : List UInt8} (hk : k < M) : s.laid i ((cuts b M).drop k) = if s.wroteE = 0 then (s.wrote i (blk b k)).laid (i + 1) ((cuts b M).drop (k + 1)) else (150, s.wrote i (blk b k)) := by
  have hl : k < (cuts b M).length := by simp [cuts]; exact hk
  have e : (cuts b M).drop k = blk b k :: (cuts b M).drop (k + 1) := by
    rw [List.drop_eq_getElem_cons hl]
    simp [cuts]
  rw [e, St.laid]
theorem RDsk.cn {foot : Nat → Prop} {w : World} {p : Nat} {s : St} (h : RDsk w foot p s) : w.cell? ⟨p, 0, none⟩ = some (.int .i64 (s.n : Int)) := by
  obtain ⟨gk, Av, Bv, vs, h1, _⟩ := h
  exact h1.get 0 _ rfl
set_option maxRecDepth 100000 in
set_option maxHeartbeats 4000000 in
theorem rput_any {foot : Nat → Prop} {w : World} {sp dp hf a M g o cp i0 : Nat} {cs : List Value} {b : List UInt8} {s : St} {ok : Nat → Prop} (hs : Blk w sp 51 (.pointer (some ⟨dp, 0, none⟩) :: cs)) (hsf : ¬ foot sp) (hd : RDsk w foot dp s) (hhf : hf ≤ 1) (ha : a + M ≤ 4096) (hi0 : i0 = hf * (s.n / 2) + a) (hin : i0 + M ≤ s.n) (hn4 : s.n ≤ 4096)
    (hb : Byt w ok (some ⟨g, o, none⟩) b) (hbl : b.length = 64 * M) (hcp : 64 * M ≤ cp) (hcm : cp ≤ maxLen) (hok : ∀ k, ok k → k < w.heap.size ∧ ¬ foot k) (hL : s.L.length + M ≤ 1048576) :
    Calls Tryz.prog 43 #[.pointer (some ⟨sp, 0, none⟩), .int .i64 (hf : Int), .int .i64 (a : Int), .slice (some ⟨g, o, none⟩) (64 * M) cp] w fun e w' => e = .returned (.bool (decide ((s.laid i0 (cuts b M)).1 = 0))) ∧ NxtR w foot dp (s.laid i0 (cuts b M)).2 w' := by
  obtain ⟨n, hn⟩ : ∃ n, n = s.n := ⟨_, rfl⟩
  rw [← hn] at hi0 hin hn4
  have HN := Lib.hid hn
  obtain ⟨R, hR⟩ : ∃ R, R = s.laid i0 (cuts b M) := ⟨_, rfl⟩
  rw [← hR]
  have HR : Hid (R = s.laid i0 ((cuts b M).drop 0)) := hR
  have HB := Lib.hid hb
  have HBL := Lib.hid hbl
  have HOK := Lib.hid hok
  have HS := Lib.hid hs
  have HSF := Lib.hid hsf
  have HI := Lib.hid hi0
  have HD0 := Lib.hid hd
  have hlt0 := hs.lt
  have HL := Lib.hid hL
  unfold maxLen at hcm
  have hm64 : (64 * (M : Int)).tdiv 64 = (M : Int) := by rw [Int.tdiv_eq_ediv_of_nonneg (by omega)]; omega
  have hm65 : (64 * (M : Int)) / 64 = (M : Int) := by omega
  clear hR hn hb hbl hok hs hsf hi0 hd hL
  go_enter Tryz.func43, Tryz.ntmps43
  go_wp2
  go_loopw [9] (fun i wr => ∃ (k : Nat) (sk : St) (fk : Nat → Prop), k ≤ M ∧ i = .int .i64 (k : Int) ∧ RDsk wr fk dp sk ∧ (∀ x, fk x → foot x ∨ (w.heap.size ≤ x ∧ x < wr.heap.size)) ∧ Md foot w wr ∧ Hid (R = sk.laid (i0 + k) ((cuts b M).drop k)) ∧ Hid (sk.n = n) ∧ Hid (sk.L.length ≤ s.L.length + k)) (fun i _ => M - (intOf i).toNat)
  case atStart => exact ⟨0, s, foot, Nat.zero_le _, rfl, HD0.out, fun _ h => .inl h, Md.refl _ _, HR, HN.out.symm, Nat.le_refl _⟩
  case round =>
    clear HR HD0
    obtain ⟨k, sk, fk, hk, rfl, hd, hf', hm, HRk, HNk, HLk⟩ := hrel
    have hws := hm.size
    have hbs : Blk wr sp 51 (.pointer (some ⟨dp, 0, none⟩) :: cs) := HS.out.keep (hm.block sp hlt0 HSF.out)
    have c0 : wr.cell? ⟨sp, 0, none⟩ = some (.pointer (some ⟨dp, 0, none⟩)) := hbs.get 0 _ rfl
    have hfsp : ¬ fk sp := fun h => by rcases hf' sp h with h1 | h1; exact HSF.out h1; omega
    have hbw : Byt wr ok (some ⟨g, o, none⟩) b := HB.out.keep fun x hx => hm.block x (HOK.out x hx).1 (HOK.out x hx).2
    have hokw : ∀ x, ok x → x < wr.heap.size ∧ ¬ fk x := fun x hx => ⟨Nat.lt_of_lt_of_le (HOK.out x hx).1 hws, fun h => by rcases hf' x h with h1 | h1; exact (HOK.out x hx).2 h1; have := (HOK.out x hx).1; omega⟩
    have HD := Lib.hid hd
    have HM := Lib.hid hm
    have HF := Lib.hid hf'
    by_cases hlt : k < M
    · have hc1 : wr.cell? ⟨dp, 0, none⟩ = some (.int .i64 (n : Int)) := by
        have := hd.cn
        rwa [HNk.out] at this
      have hwr := rwrite_both (w := wr.drew) (c := cp - 64 * k) (i := i0 + k) (hd.grown (grown_drewN 1)) (by rw [HNk.out]; omega) (hbw.blk (k := k)) (blk_length HBL.out hlt) hokw (by have := HLk.out; have := HL.out; omega)
      have hidx : IntKind.i64.wrap (IntKind.i64.wrap (IntKind.i64.wrap ((hf : Int) * IntKind.i64.wrap ((n : Int) / 2)) + (a : Int)) + (k : Int)) = ((i0 + k : Nat) : Int) := by
        have hii := HI.out
        rw [IntWalk.i64_in ((n : Int) / 2) (by omega)]
        have h01 : hf = 0 ∨ hf = 1 := by omega
        rcases h01 with rfl | rfl
        · rw [IntWalk.i64_in (((0 : Nat) : Int) * ((n : Int) / 2)) (by omega), IntWalk.i64_in (((0 : Nat) : Int) * ((n : Int) / 2) + (a : Int)) (by omega), IntWalk.i64_in (((0 : Nat) : Int) * ((n : Int) / 2) + (a : Int) + (k : Int)) (by omega)]
          omega
        · rw [IntWalk.i64_in (((1 : Nat) : Int) * ((n : Int) / 2)) (by omega), IntWalk.i64_in (((1 : Nat) : Int) * ((n : Int) / 2) + (a : Int)) (by omega), IntWalk.i64_in (((1 : Nat) : Int) * ((n : Int) / 2) + (a : Int) + (k : Int)) (by omega)]
          omega
      rw [← hidx] at hwr
      clear hidx
      have hS0 : wr.drew.cell? ⟨sp, 0, none⟩ = some (.pointer (some ⟨dp, 0, none⟩)) ∧ wr.drew.cell? ⟨dp, 0, none⟩ = some (.int .i64 (n : Int)) := ⟨c0, hc1⟩
      clear c0 hc1
      have q0 : (0 : Int) ≤ 64 * (k : Int) := by omega
      have q1 : 64 * (k : Int) + 64 ≤ (cp : Int) := by omega
      have q1' : 64 * (k : Int) ≤ 64 * (k : Int) + 64 := by omega
      have q2 : (64 * (k : Int)).toNat = 64 * k := by omega
      have q3 : (64 * (k : Int) + 64).toNat = 64 * k + 64 := by omega
      have q4 : ¬ cp = 64 * k := by omega
      have q5 : 64 * k + 64 - 64 * k = 64 := by omega
      have q6 : 64 * k ≤ cp := by omega
      have w1 : IntKind.i64.wrap (64 * (k : Int)) = 64 * (k : Int) := IntWalk.i64_in _ (by omega)
      have w2 : IntKind.i64.wrap (64 * (k : Int) + 64) = 64 * (k : Int) + 64 := IntWalk.i64_in _ (by omega)
      go_wp2
      have HBS := Lib.hid hbs
      have hwn := Lib.hid (St.wrote_n sk (i0 + k) (blk b k))
      go_region_held3 (fun W => W.cell? ⟨sp, 0, none⟩ = some (.pointer (some ⟨dp, 0, none⟩)) ∧ W.cell? ⟨dp, 0, none⟩ = some (.int .i64 (n : Int))) (first | exact hS0 | exact hS2) (first
        | (go_at_call 25; (with_reducible refine hwr.mono ?_); rintro _ w2 ⟨rfl, f2, hd2, hf2, hm2⟩
           have hS2 : w2.cell? ⟨sp, 0, none⟩ = some (.pointer (some ⟨dp, 0, none⟩)) ∧ w2.cell? ⟨dp, 0, none⟩ = some (.int .i64 (n : Int)) := ⟨(HBS.out.keep (hm2.block sp HBS.out.lt hfsp)).get 0 _ rfl, by have := hd2.cn; rwa [hwn.out, HNk.out] at this⟩)
        | fail)
      have hm2' : Md fk wr w2 := (Md.of_grown (grown_drewN 1) (by simp)).trans hm2
      have hmm : Md foot w w2 := HM.out.trans_ext hm2' HF.out
      have hff : ∀ x, f2 x → foot x ∨ (w.heap.size ≤ x ∧ x < w2.heap.size) := fun x hx => by
        rcases hf2 x hx with h1 | h1
        · exact (HF.out x h1).imp id fun h2 => ⟨h2.1, Nat.lt_of_lt_of_le h2.2 hm2'.size⟩
        · exact .inr ⟨Nat.le_trans hws h1.1, h1.2⟩
      have hRk := HRk.out
      rw [laid_drop hlt] at hRk
      by_cases hE : sk.wroteE = 0
      · have dE : ((sk.wroteE : Int) != 0) = false := by rw [hE]; rfl
        rw [if_pos hE] at hRk
        have HRn : Hid (R = (sk.wrote (i0 + k) (blk b k)).laid (i0 + (k + 1)) ((cuts b M).drop (k + 1))) := hRk
        have HLn : Hid ((sk.wrote (i0 + k) (blk b k)).L.length ≤ s.L.length + (k + 1)) := by
          have h1 := (St.laid_n [blk b k] sk (i0 + k)).2
          have h2 := HLk.out
          show _ ≤ _
          unfold St.wrote
          split
          · simp [St.write, St.burn]; omega
          · simp [St.burn]; omega
        have HNn : Hid ((sk.wrote (i0 + k) (blk b k)).n = n) := hwn.out.trans HNk.out
        clear hRk hE
        go_wp2
        go_roundw
        case rel => exact ⟨k + 1, _, f2, by omega, by go_num, hd2, hff, hmm, HRn, HNn, HLn⟩
        case measure => simp [intOf]; omega
      · have dE : ((sk.wroteE : Int) != 0) = true := by simp; omega
        rw [if_neg hE] at hRk
        have HRn := Lib.hid hRk
        clear hRk hE
        go_wp2
        go_ret
        rw [HRn.out]
        exact ⟨rfl, f2, hd2, hff, hmm⟩
    · obtain rfl : k = M := by omega
      have hRk := HRk.out
      rw [List.drop_eq_nil_of_le (by simp [cuts]), St.laid] at hRk
      have HRn := Lib.hid hRk
      have hsy := rsync_any hd (by have := HLk.out; have := HL.out; omega)
      clear hRk hd hbs hbw
      go_wp2_with (go_at_call 27; (with_reducible refine hsy.mono ?_); rintro _ w2 ⟨rfl, hd2, hm2⟩)
      go_ret
      rw [HRn.out]
      refine ⟨?_, fk, hd2, fun x hx => (HF.out x hx).imp id fun h2 => ⟨h2.1, Nat.lt_of_lt_of_le h2.2 hm2.size⟩, HM.out.trans_ext hm2 HF.out⟩
      show Ending.returned (.bool (sk.syncE == 0)) = .returned (.bool (decide (sk.keptE = 0)))
      unfold St.syncE St.keptE
      cases sk.goes <;> rfl
end Go.Proofs.YtonpcenjipigpaaGreat
/- The reference's store in memory; its Commit. Conditions: as the store's. -/
namespace Go.Proofs.YtonpcenjipigpaaGreat
open Go.RowKit
theorem blk_all {b : List UInt8} (h : b.length = 64) : blk b 0 = b := by
  unfold blk
  rw [Nat.mul_zero, List.drop_zero, List.take_of_length_le (by omega)]
theorem cuts_one {b : List UInt8} (h : b.length = 64) : cuts b 1 = [b] := by
  show [blk b 0] = [b]
  rw [blk_all h]
/-- A row of blocks that is laid: done, and the disk lives, or refused, and it is dead. -/
theorem laid_ends (cs : List (List UInt8)) (s : St) (i : Nat) (hd : s.dead = false) : ((s.laid i cs).1 = 0 ∧ (s.laid i cs).2.dead = false) ∨ ((s.laid i cs).1 = 150 ∧ (s.laid i cs).2.dead = true) := by
  rcases laid_out cs s i hd with ⟨h1, h2, -⟩ | ⟨h1, _, k, h2⟩
  · exact .inl ⟨h1, by rw [h2]; exact hd⟩
  · exact .inr ⟨h1, by rw [h2]⟩
/-- The reference store's cells. -/
def rscells (dp hf e c n : Nat) (lv : Value) (br : Bool) : List Value := [.pointer (some ⟨dp, 0, none⟩), .int .i64 (hf : Int), .int .u64 (e : Int), .int .i64 (c : Int), .int .i64 (n : Int), lv, .bool br]
/-- At sp lies the reference's store on the disk at dp; its list is in the blocks of fs, which may be a caller's too. -/
def RStm (w : World) (fs : Nat → Prop) (sp dp : Nat) (t : Ste) (br : Bool) : Prop :=
  ∃ A cl, Blk w sp 51 (rscells dp t.hf t.e t.c t.n (.slice A t.L.length cl) br) ∧ Chs w fs A (chgs t.L) ∧ ¬ fs sp ∧ ∀ b, fs b → b < w.heap.size
theorem RStm.keep {w w' : World} {fs : Nat → Prop} {sp dp : Nat} {t : Ste} {br : Bool} (h : RStm w fs sp dp t br) (hs : w.heap.size ≤ w'.heap.size) (hsp : w'.heap[sp]? = w.heap[sp]?) (hk : ∀ k, fs k → w'.heap[k]? = w.heap[k]?) : RStm w' fs sp dp t br := by
  obtain ⟨A, cl, h1, h2, h3, h4⟩ := h
  exact ⟨A, cl, h1.keep hsp, h2.keep hk, h3, fun b hb => Nat.lt_of_lt_of_le (h4 b hb) hs⟩
theorem RStm.sp_lt {w : World} {fs : Nat → Prop} {sp dp : Nat} {t : Ste} {br : Bool} (h : RStm w fs sp dp t br) : sp < w.heap.size := by
  obtain ⟨_, _, h1, _⟩ := h
  exact h1.lt
theorem RStm.lt {w : World} {fs : Nat → Prop} {sp dp : Nat} {t : Ste} {br : Bool} (h : RStm w fs sp dp t br) : ∀ b, fs b → b < w.heap.size := by
  obtain ⟨_, _, _, _, _, h4⟩ := h
  exact h4
/-- How the reference's commit ends. -/
def RCommitE (w : World) (f fs okl : Nat → Prop) (sp dp : Nat) (r : Nat × St × Ste) (e : Ending) (w' : World) : Prop :=
  e = .returned (.int .i64 (r.1 : Int)) ∧ ∃ f' fs', RDsk w' f' dp r.2.1 ∧ RStm w' fs' sp dp r.2.2 r.2.1.dead ∧ (∀ k, fs' k → ¬ f' k) ∧ ¬ f' sp ∧ (∀ k, f' k → f k ∨ (w.heap.size ≤ k ∧ k < w'.heap.size)) ∧ (∀ k, fs' k → fs k ∨ okl k ∨ (w.heap.size ≤ k ∧ k < w'.heap.size)) ∧ Md (fun k => f k ∨ k = sp) w w'
theorem rcommitE_same {w w' : World} {f fs okl : Nat → Prop} {sp dp : Nat} {s : St} {t : Ste} {r : Nat × St × Ste} {e : Nat} (hr : r = (e, s, t)) (hd : RDsk w f dp s) (ht : RStm w fs sp dp t s.dead) (hdis : ∀ k, fs k → ¬ f k) (hsf : ¬ f sp) (hg : w.grownBy w' none) : RCommitE w f fs okl sp dp r (.returned (.int .i64 (e : Int))) w' := by
  subst hr
  exact ⟨rfl, f, fs, hd.grown hg, ht.keep hg.size (hg.block sp ht.sp_lt (by simp)) (fun k hk => hg.block k (ht.lt k hk) (by simp)), hdis, hsf, fun _ h => .inl h, fun _ h => .inl h, Md.of_grown hg (by simp)⟩
set_option maxRecDepth 100000 in
set_option maxHeartbeats 8000000 in
/-- A commit that changes nothing. -/
theorem rcommit_same {f fs okl : Nat → Prop} {w : World} {sp dp : Nat} {s : St} {t : Ste} {A : Option Addr} {cl : Nat} {l : List Chg} (hd : RDsk w f dp s) (ht : RStm w fs sp dp t s.dead) (hdis : ∀ k, fs k → ¬ f k) (hsf : ¬ f sp) (hx : Chs w okl A l) (hokl : ∀ b, okl b → b < w.heap.size)
    (hl : l.length ≤ 30000) (h64 : t.L.length ≤ 64) (hcase : (∃ c ∈ l, c.err ≠ 0) ∨ 64 < l.length ∨ 64 < (doAll t.L l).length ∨ s.dead = true ∨ l = []) : Calls Tryz.prog 14 #[.pointer (some ⟨sp, 0, none⟩), .slice A l.length cl] w (RCommitE w f fs okl sp dp (s.commitT t l)) := by
  obtain ⟨T, hT⟩ : ∃ T, T = s.commitT t l := ⟨_, rfl⟩
  rw [← hT]
  have HD := Lib.hid hd
  have HS := Lib.hid ht
  have HDI := Lib.hid hdis
  have HX := Lib.hid hx
  have HSF := Lib.hid hsf
  have HOL := Lib.hid hokl
  have HT := Lib.hid hT
  have HCA := Lib.hid hcase
  obtain ⟨Av, cv, b1, b2, b3, b4⟩ := ht
  have c5 : w.cell? ⟨sp, 5, none⟩ = some (.slice Av t.L.length cv) := b1.get 5 _ rfl
  have c6 : w.cell? ⟨sp, 6, none⟩ = some (.bool s.dead) := b1.get 6 _ rfl
  have kC : Hid (∀ W, w.grownBy W none → W.cell? ⟨sp, 5, none⟩ = some (.slice Av t.L.length cv) ∧ W.cell? ⟨sp, 6, none⟩ = some (.bool s.dead)) := Lib.hid fun W hW => ⟨hW.cell c5 (by simp), hW.cell c6 (by simp)⟩
  have HB2 := Lib.hid b2
  have HB4 := Lib.hid b4
  have hlc : (chgs t.L).length = t.L.length := by simp [chgs]
  clear hd hdis hsf hx hokl hT b1 b2 b3 b4 c5 c6 hcase
  go_enter Tryz.func14, Tryz.ntmps14
  go_wp2
  go_loop [5] (fun i => ∃ k : Nat, k ≤ l.length ∧ i = .int .i64 (k : Int) ∧ Hid (∀ c ∈ l.take k, c.err = 0)) (fun i => l.length - (intOf i).toNat)
  case atStart => exact ⟨0, Nat.zero_le _, rfl, Lib.hid (by simp)⟩
  case round =>
    obtain ⟨k, hk, rfl, HE⟩ := hrel
    by_cases hlt : k < l.length
    · obtain ⟨b, o, A', c', rfl, hokb, q0, q1, q2, e1, e2, e3, hby⟩ := HX.out.at hlt
      have hfa := find_at hlt HE.out
      have htk : l[k].err = 0 → ∀ c ∈ l.take (k + 1), c.err = 0 := fun h0 c hc => by
        rw [← List.take_append_getElem hlt] at hc
        rcases List.mem_append.1 hc with hc | hc
        · exact HE.out c hc
        · simp at hc; rw [hc]; exact h0
      have HTK := Lib.hid htk
      have HFA := Lib.hid hfa
      obtain ⟨c, hc⟩ : ∃ c, c = l[k] := ⟨_, rfl⟩
      rw [← hc] at q0 q1 q2 e1 e3 HTK HFA
      obtain ⟨nm, vl, gn⟩ := c
      simp only at q0 q1 q2 e1 e3
      clear hby hc hfa htk HE
      have hend : ∀ e, (Chg.mk nm vl gn).err = e → e ≠ 0 → RCommitE w f fs okl sp dp T (.returned (.int .i64 (e : Int))) w := fun e he h0 => by
        refine rcommitE_same (e := e) ?_ HD.out HS.out HDI.out HSF.out (World.grownBy.refl _ _)
        rw [HT.out, St.commitT, HFA.out (by rw [he]; exact h0)]
        dsimp only
        rw [he]
      have HEND := Lib.hid hend
      clear hend
      by_cases h0 : nm = []
      · have he : nm.isEmpty = true := by simp [h0]
        have hE : (Chg.mk nm vl gn).err = 1 := by rw [Chg.err, if_pos (.inl h0)]
        have HR := Lib.hid (HEND.out 1 hE (by omega))
        clear h0 hE
        go_wp2
        all_goals first | (go_ret; exact HR.out) | simp_all
      have he : nm.isEmpty = false := by simpa using h0
      by_cases h1 : 32 < nm.length
      · have hE : (Chg.mk nm vl gn).err = 1 := by rw [Chg.err, if_pos (.inr (.inl h1))]
        have d1 : decide (32 < (nm.length : Int)) = true := decide_eq_true (by omega)
        have HR := Lib.hid (HEND.out 1 hE (by omega))
        clear h0 hE
        go_wp2
        all_goals first | (go_ret; exact HR.out) | simp_all
      have d1 : decide (32 < (nm.length : Int)) = false := decide_eq_false (by omega)
      cases gn with
      | true =>
        by_cases h2 : 0 < vl.length
        · have hE : (Chg.mk nm vl true).err = 1 := by rw [Chg.err, if_pos (.inr (.inr ⟨rfl, h2⟩))]
          have d2 : decide (0 < (vl.length : Int)) = true := decide_eq_true (by omega)
          have HR := Lib.hid (HEND.out 1 hE (by omega))
          clear h0 hE
          go_wp2
          all_goals first | (go_ret; exact HR.out) | simp_all
        · have hE : (Chg.mk nm vl true).err = 0 := by rw [Chg.err, if_neg (by intro hc; rcases hc with hc | hc | hc; exact h0 hc; exact h1 hc; exact h2 hc.2), if_neg (by simp only; omega)]
          have d2 : decide (0 < (vl.length : Int)) = false := decide_eq_false (by omega)
          have d3 : decide (4000 < (vl.length : Int)) = false := decide_eq_false (by omega)
          have HR := Lib.hid (HTK.out hE)
          clear h0 hE
          go_wp2
          go_round
          case rel => exact ⟨k + 1, by omega, by go_num, HR⟩
          case measure => simp [intOf]; omega
      | false =>
        by_cases h2 : 4000 < vl.length
        · have hE : (Chg.mk nm vl false).err = 5 := by rw [Chg.err, if_neg (by intro hc; rcases hc with hc | hc | hc; exact h0 hc; exact h1 hc; exact absurd hc.1 (by simp)), if_pos h2]
          have d3 : decide (4000 < (vl.length : Int)) = true := decide_eq_true (by omega)
          have HR := Lib.hid (HEND.out 5 hE (by omega))
          clear h0 hE
          go_wp2
          all_goals first | (go_ret; exact HR.out) | simp_all
        · have hE : (Chg.mk nm vl false).err = 0 := by rw [Chg.err, if_neg (by intro hc; rcases hc with hc | hc | hc; exact h0 hc; exact h1 hc; exact absurd hc.1 (by simp)), if_neg h2]
          have d3 : decide (4000 < (vl.length : Int)) = false := decide_eq_false (by omega)
          have HR := Lib.hid (HTK.out hE)
          clear h0 hE
          go_wp2
          go_round
          case rel => exact ⟨k + 1, by omega, by go_num, HR⟩
          case measure => simp [intOf]; omega
    · obtain rfl : k = l.length := by omega
      rw [List.take_length] at HE
      have hfn : l.find? (fun c => c.err ≠ 0) = none := List.find?_eq_none.2 fun c hc => by simp [HE.out c hc]
      have HF := Lib.hid hfn
      clear hfn
      by_cases h64l : 64 < l.length
      · have hI : decide (64 < (l.length : Int)) = true := decide_eq_true (by omega)
        go_wp2
        go_ret
        exact rcommitE_same (e := 4) (by rw [HT.out, St.commitT, HF.out]; dsimp only; rw [if_pos h64l]) HD.out HS.out HDI.out HSF.out (World.grownBy.refl _ _)
      · have hI : decide (64 < (l.length : Int)) = false := decide_eq_false (by omega)
        obtain ⟨x5, -⟩ := kC.out w (World.grownBy.refl _ _)
        have hall := allr_any (w := w) (ok := fun b => b < w.heap.size) (cl := cv) (cc := cl) (HB2.out.imp fun b hb => HB4.out b hb) (HX.out.imp fun b hb => HOL.out b hb) (fun _ h => h) (by rw [hlc]; omega)
        rw [allR_chgs, hlc] at hall
        obtain ⟨L2, hL2⟩ : ∃ L2, L2 = doAll t.L l := ⟨_, rfl⟩
        rw [← hL2] at hall
        have hlc2 : (chgs L2).length = L2.length := by simp [chgs]
        have HL2 := Lib.hid hL2
        have kCom : Hid (T = if 64 < L2.length then (4, s, t) else if s.dead = true then (150, s, t) else if l = [] then (0, s, t) else match s.keepT t l L2 with | (e, s', none) => (e, s', t) | (e, s', some (hf, ep, c, n)) => (e, s', ⟨hf, ep, c, n, L2⟩)) := by
          show T = _
          rw [HT.out, St.commitT, HF.out, HL2.out]
          dsimp only
          rw [if_neg h64l]
          rfl
        clear hL2
        by_cases h642 : 64 < L2.length
        · have hI2 : decide (64 < (L2.length : Int)) = true := decide_eq_true (by omega)
          go_wp2_with (first
            | (go_at_call 37; (refine hall.mono ?_); rintro _ w2 ⟨A2, c2, rfl, hx2, hg2⟩; rw [hlc2])
            | fail)
          go_ret
          exact rcommitE_same (e := 4) (by rw [kCom.out, if_pos h642]) HD.out HS.out HDI.out HSF.out hg2
        · have hI2 : decide (64 < (L2.length : Int)) = false := decide_eq_false (by omega)
          cases hdd : s.dead with
          | true =>
            go_wp2_with (first
              | (go_at_call 37; (refine hall.mono ?_); rintro _ w2 ⟨A2, c2, rfl, hx2, hg2⟩; rw [hlc2]; obtain ⟨-, x6⟩ := kC.out w2 hg2; rw [hdd] at x6)
              | fail)
            go_ret
            exact rcommitE_same (e := 150) (by rw [kCom.out, if_neg h642, if_pos hdd]) HD.out HS.out HDI.out HSF.out hg2
          | false =>
            have hnil : l = [] := by
              rcases HCA.out with ⟨c, hc, h⟩ | h | h | h | h
              · exact absurd (HE.out c hc) h
              · omega
              · rw [← HL2.out] at h; omega
              · rw [hdd] at h; cases h
              · exact h
            have hr : T = (0, s, t) := by rw [kCom.out, if_neg h642, if_neg (by rw [hdd]; decide), if_pos hnil]
            have HR := Lib.hid hr
            have hnI : (l.length : Int) = 0 := by rw [hnil]; rfl
            clear hr hnil
            go_wp2_with (first
              | (go_at_call 37; (refine hall.mono ?_); rintro _ w2 ⟨A2, c2, rfl, hx2, hg2⟩; rw [hlc2]; obtain ⟨-, x6⟩ := kC.out w2 hg2; rw [hdd] at x6)
              | fail)
            go_ret
            exact rcommitE_same (e := 0) HR.out HD.out HS.out HDI.out HSF.out hg2
end Go.Proofs.YtonpcenjipigpaaGreat
