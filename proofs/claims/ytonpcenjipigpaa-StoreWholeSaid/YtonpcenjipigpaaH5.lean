/- StoreWhole's walk: whatever dies where, and whatever a crash keeps, the store that is opened then has what was committed, with or without the last Commit. Conditions: none. -/
import Derived.Test.YtonpcenjipigpaaH4
import Derived.Test.YtonpcenjipigpaaH2
namespace Go.Proofs.Ytonpcenjipigpaa
open Go.RowKit
theorem lays_wait (s : St) (hf a : Nat) (b : List UInt8) (e c n : Nat) : (s.lays hf a b e c n).2.1.L.length ≤ s.L.length + nblk b.length + 1 := by
  have h1 := (St.laid_n (cuts b (nblk b.length)) s (hf * (s.n / 2) + a)).2
  rw [cuts_length] at h1
  have h2 := (St.laid_n [hdrB e c n] (s.laid (hf * (s.n / 2) + a) (cuts b (nblk b.length))).2 (hf * (s.n / 2))).2
  rw [← sealed_laid] at h2
  simp only [List.length_cons, List.length_nil] at h2
  unfold St.lays
  split
  · show _ ≤ _
    dsimp only
    omega
  · split
    · dsimp only
      omega
    · dsimp only
      omega
theorem commit_wait (s : St) (t : Ste) (l : List Chg) (hn : s.n ≤ 4096) : (s.commitT t l).2.1.L.length ≤ s.L.length + 3000 := by
  have hk : (s.keepT t l (doAll t.L l)).2.1.L.length ≤ s.L.length + 3000 := by
    unfold St.keepT
    split
    · rename_i h
      exact Nat.le_trans (lays_wait _ _ _ _ _ _ _) (by omega)
    · split
      · dsimp only; omega
      · split
        · rename_i h
          exact Nat.le_trans (lays_wait _ _ _ _ _ _ _) (by omega)
        · dsimp only; omega
  unfold St.commitT
  split
  · dsimp only; omega
  · split
    · dsimp only; omega
    · split
      · dsimp only; omega
      · split
        · dsimp only; omega
        · split
          · dsimp only; omega
          · generalize s.keepT t l (doAll t.L l) = K at hk
            obtain ⟨e, s', o⟩ := K
            cases o with
            | none => exact hk
            | some x => exact hk
/-- A store that lives, all of it synced, no fuse. -/
structure Gst (s : St) (t : Ste) : Prop where
  h : Hld s.n s.K t
  L : s.L = []
  d : s.dead = false
  f : s.f = -1
  n : s.n = 24
theorem Gst.commit {s : St} {t : Ste} (g : Gst s t) (l : List Chg) {e : Nat} {s2 : St} {t2 : Ste} (hr : s.commitT t l = (e, s2, t2)) : Gst s2 t2 := by
  rcases commit_out g.h g.L g.d l with ⟨s', t', h1, h2, -⟩ | ⟨e', h1, -⟩ | ⟨s', h1, h2⟩
  · rw [hr] at h1
    obtain ⟨-, rfl, rfl⟩ : e = 0 ∧ s2 = s' ∧ t2 = t' := by simpa using h1
    exact ⟨by rw [h2.n]; exact h2.held, h2.wait, h2.live, h2.f g.f, by rw [h2.n]; exact g.n⟩
  · rw [hr] at h1
    obtain ⟨-, rfl, rfl⟩ : e = e' ∧ s2 = s ∧ t2 = t := by simpa using h1
    exact g
  · exact absurd g.f h2.f
/-- What a commit under a fuse, a crash and an opening leave. -/
theorem Gst.crash {s : St} {t : Ste} (g : Gst s t) (x k : Int) (l : List Chg) : ∃ e s2 t2 u, (s.fuse x).commitT t l = (e, s2, t2) ∧ s2.L.length ≤ 4000 ∧ (s2.crash k).openT = (0, s2.crash k, some u) ∧ u.L.length ≤ 64 ∧
    ((e = 0 ∧ u.L = doAll t.L l) ∨ (e = 150 ∧ u.L = t.L) ∨ (e = 150 ∧ u.L = doAll t.L l) ∨ (e ≠ 0 ∧ e ≠ 150 ∧ u.L = t.L)) := by
  have hw := commit_wait (s.fuse x) t l (by show s.n ≤ 4096; rw [g.n]; decide)
  have hL0 : (s.fuse x).L = [] := g.L
  rw [hL0, List.length_nil] at hw
  rcases commit_out (s := s.fuse x) g.h g.L g.d l with ⟨s', t', h1, h2, -⟩ | ⟨e', h1, h3, h4⟩ | ⟨s', h1, h2⟩
  · rw [h1] at hw
    have hh := h2.held
    rw [← h2.n] at hh
    exact ⟨0, s', t', t', h1, by dsimp only at hw; omega, crash_img hh h2.wait k, hh.ok.len, .inl ⟨rfl, h2.L⟩⟩
  · rw [h1] at hw
    exact ⟨e', _, t, t, h1, by dsimp only at hw; omega, crash_img (s := s.fuse x) g.h g.L k, g.h.ok.len, .inr (.inr (.inr ⟨h3, h4, rfl⟩))⟩
  · rw [h1] at hw
    obtain ⟨u, hu, hc⟩ := h2.opens k.toNat
    have ho : (s'.crash k).openT = (0, s'.crash k, some u) := by
      refine Hld.opens (s := s'.crash k) ?_ rfl rfl
      show Hld s'.n (redo s'.K (s'.L.take k.toNat)) u
      rw [h2.n]
      exact hu
    refine ⟨150, s', t, u, h1, by dsimp only at hw; omega, ho, hu.ok.len, ?_⟩
    rcases hc with hc | hc
    · exact .inr (.inl ⟨rfl, hc⟩)
    · exact .inr (.inr (.inl ⟨rfl, hc⟩))
theorem Stps.at {w : World} {ok : Nat → Prop} {A : Option Addr} {l : List StpR} (h : Stps w ok A l) {k : Nat} (hk : k < l.length) : ∃ b o A' c', A = some ⟨b, o, none⟩ ∧ ok b ∧ w.cell? ⟨b, o + k * 4, none⟩ = some (.slice A' l[k].ch.length c') ∧ w.cell? ⟨b, o + k * 4 + 1, none⟩ = some (.int .i64 l[k].fuse) ∧ w.cell? ⟨b, o + k * 4 + 2, none⟩ = some (.bool l[k].crash) ∧ w.cell? ⟨b, o + k * 4 + 3, none⟩ = some (.int .i64 l[k].keep) ∧ l[k].ch.length ≤ maxLen ∧ In64 l[k].fuse ∧ In64 l[k].keep ∧ Chs w ok A' l[k].ch := by
  obtain ⟨b, o, A', c', e, h1, h2, h3, h4, h5, h6⟩ := h k hk
  exact ⟨b, o, A', c', e, h1, h2 0 _ rfl, h2 1 _ rfl, h2 2 _ rfl, h2 3 _ rfl, h3, h4, h5, h6⟩
set_option maxRecDepth 100000 in
set_option maxHeartbeats 8000000 in
theorem whole_walk (w : World) {A B : Option Addr} {l : List StpR} {last : List Chg} {cl cb : Nat} {fuse keep : Int} (hst : Stps w (fun b => b < w.heap.size) A l) (hx : Chs w (fun b => b < w.heap.size) B last) (hl2 : last.length ≤ maxLen) (hf : In64 fuse) :
    Calls Try.prog 3 #[.slice A l.length cl, .slice B last.length cb, .int .i64 fuse, .int .i64 keep] w fun e w' => e = .returned (.bool true) ∧ w.grownBy w' none := by
  have HA := Lib.hid (alive_any w)
  have HST := Lib.hid hst
  have HX := Lib.hid hx
  obtain ⟨s1, ho1, hh1, hL1, hd1, hf1, hn1⟩ := start_out (n := 24) (by decide) (by decide)
  rw [← hn1] at hh1
  have HO := Lib.hid ho1
  have HG1 : Hid (Gst s1 ⟨0, 1, 0, 1, []⟩) := Lib.hid ⟨hh1, hL1, hd1, hf1, hn1⟩
  have HF := Lib.hid hf
  unfold maxLen at hl2
  have HXW : Hid (∀ W, w.grownBy W none → Chs W (fun b => b < w.heap.size) B last) := Lib.hid fun W hW => HX.out.keep fun b hb => hW.block b hb (by simp)
  clear hst hx ho1 hh1 hL1 hd1 hf1 hn1 hf
  go_enter Try.func3, Try.ntmps3
  go_wp2_with (first
    | (go_at_call 5
       refine HA.out.mono ?_
       rintro _ w1 ⟨rfl, hg1⟩
       have hN := new_any w1 24
       rw [show nOf 24 = 24 from rfl] at hN
       clear HA)
    | (go_at_call 6
       refine hN.mono ?_
       rintro _ w2 ⟨p, f2, rfl, hd2, hf2, hg2⟩
       have hop := open_new (w0 := w) hd2 (fun k hk => Nat.le_trans hg1.size (hf2 k hk)) (hg1.trans hg2) (by show 0 ≤ 1000000; decide) HO.out
       clear hN hd2 hf2 hg2 hg1)
    | (go_at_call 7
       refine hop.mono ?_
       rintro _ w3 ⟨sp, f3, fs3, rfl, hv3⟩
       have hsm := small_any (cl := cb) (HXW.out w3 hv3.g) (fun b hb => Nat.lt_of_lt_of_le hb hv3.g.size) hl2
       clear hop)
    | (go_at_call 8
       refine hsm.mono ?_
       rintro _ w4 ⟨sb, rfl, hg4, hsb⟩
       have hv4 := hv3.grown hg4
       clear hsm hv3 hg4)
    | fail)
  · go_ret
    exact ⟨rfl, hv4.g⟩
  · have hsbt : sb = true := by simp_all
    have h30 := hsb hsbt
    clear hsb
    subst hsbt
    simp only [Bool.not_true]
    go_loopw [12] (fun i wr => ∃ (k : Nat) (s : St) (t : Ste) (f fs : Nat → Prop), k ≤ l.length ∧ k ≤ 20 ∧ i = .int .i64 (k : Int) ∧ Lv w wr f fs sp p s t ∧ Hid (Gst s t)) (fun i _ => l.length - (intOf i).toNat)
    case atStart => exact ⟨0, s1, _, _, _, Nat.zero_le _, Nat.zero_le _, rfl, hv4, HG1⟩
    case round =>
      clear hv4
      obtain ⟨k, s, t, f, fs, hk, hk20, rfl, hv, HG⟩ := hrel
      by_cases hlt : k < l.length ∧ k < 20
      · have d1 : decide ((k : Int) < (l.length : Int)) = true := decide_eq_true (by omega)
        have d2 : decide ((k : Int) < 20) = true := decide_eq_true (by omega)
        obtain ⟨b, o, A', c', rfl, hokb, q0, -, -, -, hcl, -, -, hch⟩ := HST.out.at hlt.1
        have q0 := hv.g.cell q0 (by simp)
        have kch : Hid (∀ W, w.grownBy W none → Chs W (fun b => b < w.heap.size) A' (l[k]'hlt.1).ch) := Lib.hid fun W hW => hch.keep fun b hb => hW.block b hb (by simp)
        obtain ⟨ch, hcc⟩ : ∃ ch, ch = (l[k]'hlt.1).ch := ⟨_, rfl⟩
        rw [← hcc] at q0 hcl kch
        have hsm2 := small_any (cl := c') (kch.out wr hv.g) (fun b hb => Nat.lt_of_lt_of_le hb hv.g.size) hcl
        obtain ⟨⟨e, s2, t2⟩, hr⟩ : ∃ r, r = s.commitT t ch := ⟨_, rfl⟩
        have hg2 : Gst s2 t2 := HG.out.commit ch hr.symm
        have HG2 := Lib.hid hg2
        have HR := Lib.hid hr.symm
        have HV := Lib.hid hv
        clear hch hcc hg2 hr hv
        go_wp2_with (first
          | (go_at_call 8
             refine hsm2.mono ?_
             rintro _ w5 ⟨sb2, rfl, hg5, hsb2⟩
             have hv5 := HV.out.grown hg5
             have q0 := hg5.cell q0 (by simp)
             have kcm : sb2 = true → Calls Try.prog 9 #[.pointer (some ⟨sp, 0, none⟩), .slice A' ch.length c'] w5 _ := fun hb => commit_lv (cl := c') hv5 HG.out.h.ok HG.out.h.gd (kch.out w5 hv5.g) (fun b hb => Nat.lt_of_lt_of_le hb hv5.g.size) rfl (hsb2 hb) (by rw [HG.out.L]; simp) HR.out
             clear hsm2)
          | fail)
        · go_ret
          exact ⟨rfl, hv5.g⟩
        · have hsbt2 : sb2 = true := by simp_all
          have hcm := kcm hsbt2
          clear kcm hsb2
          go_wp2_with (first
            | (go_at_call 9
               refine hcm.mono ?_
               rintro _ w6 ⟨rfl, f6, fs6, hv6, -⟩
               clear hcm)
            | fail)
          go_roundw
          case rel => exact ⟨k + 1, s2, t2, f6, fs6, by omega, by omega, by go_num, hv6, HG2⟩
          case measure => simp [intOf]; omega
      · have HGS := HG.out
        obtain ⟨e, s2, t2, u, hr, hwl, hop, hul, hspec⟩ := HGS.crash (max fuse 0) keep last
        have HR := Lib.hid hr
        have HWL := Lib.hid hwl
        have HOP := Lib.hid hop
        have HUL := Lib.hid hul
        have HSP := Lib.hid hspec
        have hal := all_sto hv.st HGS.h.ok.len
        have HV := Lib.hid hv
        have hfr : -9223372036854775808 ≤ max fuse 0 ∧ max fuse 0 ≤ 9223372036854775807 := by have := HF.out; unfold In64 at this; omega
        have HFR := Lib.hid hfr
        clear hr hwl hop hul hspec hv HGS hfr
        go_wp2_with (first
          | (go_at_call 10
             refine hal.mono ?_
             rintro _ w5 ⟨gW, cW, rfl, -, -, hx5, hg5⟩
             have hv5 := HV.out.grown hg5
             have hot5 := HV.out.new (w' := w5)
             have hfu := fuse_lv hv5 (max fuse 0) HFR.out.1 HFR.out.2
             clear hal)
          | (go_at_call 11
             refine hfu.mono ?_
             rintro _ w6 ⟨rfl, hv6, ht6⟩
             have hx6 := hx5.keep (ht6.at hot5)
             have hot6 := ht6.oth hot5
             have hcm := commit_lv (cl := cb) hv6 HG.out.h.ok HG.out.h.gd (HXW.out w6 hv6.g) (fun b hb => Nat.lt_of_lt_of_le hb hv6.g.size) rfl h30 (by show s.L.length ≤ 900000; rw [HG.out.L]; simp) HR.out
             clear hfu hx5 hot5 ht6 hv5)
          | (go_at_call 9
             refine hcm.mono ?_
             rintro _ w7 ⟨rfl, f7, fs7, hv7, ht7⟩
             have hx7 := hx6.keep (ht7.at hot6)
             have hot7 := ht7.oth hot6
             have hoo : Oth w7 f7 fs7 (fun b => (wr.heap.size ≤ b ∧ b < w5.heap.size) ∨ b < w.heap.size) := fun b hb => by
               rcases hb with hb | hb
               · exact hot7 b hb
               · exact hv7.old b hb
             have har := allr_any (cl := cW) (cc := cb) (ok := fun b => (wr.heap.size ≤ b ∧ b < w5.heap.size) ∨ b < w.heap.size) (hx7.imp fun b hb => .inl hb) ((HXW.out w7 hv7.g).imp fun b hb => .inr hb) (fun b hb => (hoo b hb).1) (by rw [chgs_length]; have := HG.out.h.ok.len; omega)
             rw [allR_chgs] at har
             clear hcm hx6 hot6 ht7 hv6)
          | (go_at_call 12
             refine har.mono ?_
             rintro _ w8 ⟨A8, c8, rfl, hx8, hg8⟩
             have hv8 := hv7.grown hg8
             have hxw8 := hx7.keep fun b hb => hg8.block b (hot7 b hb).1 (by simp)
             have hot8 := hot7.grown hg8
             have hon8 : Oth w8 f7 fs7 (fun b => ((wr.heap.size ≤ b ∧ b < w5.heap.size) ∨ b < w.heap.size) ∨ (w7.heap.size ≤ b ∧ b < w8.heap.size)) := fun b hb => by
               rcases hb with hb | hb
               · exact hoo.grown hg8 b hb
               · exact hv7.new (w' := w8) b hb
             have hcr := crash_lv hv8 (by have := HWL.out; omega) keep
             clear har hx7 hot7 hoo hv7)
          | (go_at_call 13
             refine hcr.mono ?_
             rintro _ w9 ⟨rfl, hv9, ht9⟩
             have hxw9 := hxw8.keep (ht9.at hot8)
             have hxn9 := hx8.keep (ht9.at hon8)
             have hot9 := ht9.oth hot8
             have hon9 := ht9.oth hon8
             have hop := open_lv hv9 (by show 0 ≤ 1000000; decide) HOP.out
             clear hcr hxw8 hx8 hot8 hon8 ht9 hv8)
          | (go_at_call 7
             refine hop.mono ?_
             rintro _ wa ⟨sp2, fa, fsa, rfl, hva, hta⟩
             have hxwa := hxw9.keep (hta.at hot9)
             have hxna := hxn9.keep (hta.at hon9)
             have hota := hta.oth hot9
             have hona := hta.oth hon9
             have hgl := all_sto hva.st HUL.out
             have HVA := Lib.hid hva
             clear hop hxw9 hxn9 hot9 hon9 hta hv9 hva)
          | (go_at_call 10
             refine hgl.mono ?_
             rintro _ wb ⟨gB, cB, rfl, -, -, hxb, hgb⟩
             have HGB := Lib.hid (HVA.out.g.trans hgb)
             have hxwb := hxwa.keep fun b hb => hgb.block b (hota b hb).1 (by simp)
             have hxnb := hxna.keep fun b hb => hgb.block b (hona b hb).1 (by simp)
             have hbw := fun b hb => Nat.lt_of_lt_of_le (hota b hb).1 hgb.size
             have hbn := fun b hb => Nat.lt_of_lt_of_le (hona b hb).1 hgb.size
             have kWas : Hid (∀ W, wb.grownBy W none → Calls Try.prog 14 #[.slice (some ⟨gB, 0, none⟩) (chgs u.L).length cB, .slice (some ⟨gW, 0, none⟩) (chgs t.L).length cW] W fun e w' => ∃ r : Bool, e = .returned (.bool r) ∧ (u.L = t.L → r = true) ∧ wb.grownBy w' none) := Lib.hid fun W hW =>
               (same_any (hxb.keep fun b hb => hW.block b hb.2 (by simp)) (hxwb.keep fun b hb => hW.block b (hbw b hb) (by simp)) (fun b hb => Nat.lt_of_lt_of_le hb.2 hW.size) (fun b hb => Nat.lt_of_lt_of_le (hbw b hb) hW.size) (by rw [chgs_length]; have := HUL.out; omega)).mono fun e w' ⟨r, h1, h2, h3⟩ => ⟨r, h1, fun h => h2 (by rw [h]), hW.trans h3⟩
             have kNow : Hid (∀ W, wb.grownBy W none → Calls Try.prog 14 #[.slice (some ⟨gB, 0, none⟩) (chgs u.L).length cB, .slice A8 (chgs (doAll t.L last)).length c8] W fun e w' => ∃ r : Bool, e = .returned (.bool r) ∧ (u.L = doAll t.L last → r = true) ∧ wb.grownBy w' none) := Lib.hid fun W hW =>
               (same_any (hxb.keep fun b hb => hW.block b hb.2 (by simp)) (hxnb.keep fun b hb => hW.block b (hbn b hb) (by simp)) (fun b hb => Nat.lt_of_lt_of_le hb.2 hW.size) (fun b hb => Nat.lt_of_lt_of_le (hbn b hb) hW.size) (by rw [chgs_length]; have := HUL.out; omega)).mono fun e w' ⟨r, h1, h2, h3⟩ => ⟨r, h1, fun h => h2 (by rw [h]), hW.trans h3⟩
             have hgc := World.grownBy.refl wb none
             clear hgl hxwa hxna hota hona hgb hxb hxwb hxnb hbw hbn)
          | (go_at_call 14
             with_reducible refine (kWas.out _ (by assumption)).mono ?_
             rintro _ wc ⟨rw_, rfl, hrw, hgc⟩)
          | (go_at_call 14
             with_reducible refine (kNow.out _ (by assumption)).mono ?_
             rintro _ wd ⟨rn_, rfl, hrn, hgc⟩)
          | fail)
        all_goals
          go_ret
          refine ⟨?_, HGB.out.trans (by assumption)⟩
          first
            | rfl
            | (have hz : rn_ = true := by
                 rcases HSP.out with ⟨h1, h2⟩ | ⟨h1, h2⟩ | ⟨h1, h2⟩ | ⟨h1, h1b, h2⟩
                 all_goals first | exact hrn h2 | (exfalso; simp_all)
               subst hz
               rfl)
            | (have hz : rw_ = true := by
                 rcases HSP.out with ⟨h1, h2⟩ | ⟨h1, h2⟩ | ⟨h1, h2⟩ | ⟨h1, h1b, h2⟩
                 all_goals first | exact hrw h2 | (exfalso; simp_all)
               subst hz
               rfl)
end Go.Proofs.Ytonpcenjipigpaa
