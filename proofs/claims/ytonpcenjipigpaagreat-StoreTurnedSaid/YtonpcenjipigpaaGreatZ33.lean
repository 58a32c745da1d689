/- Commit. Conditions: at most 30000 changes, at most 900000 writes wait. -/
import Derived.Test.YtonpcenjipigpaaGreatZ32
namespace Go.Proofs.YtonpcenjipigpaaGreat
open Go.RowKit
theorem keepS_any {foot okl okv : Nat → Prop} {w : World} {sp dp hf e c n mb2 nv : Nat} {mv : Value} {s : St} {A : Option Addr} {cl : Nat} {l : List Chg} {L2 : List (List UInt8 × List UInt8)}
    (hb : Blk w sp 75 (scells dp hf e c n mv)) (hd : Dsk w foot dp s) (hsf : ¬ foot sp) (hhf : hf ≤ 1) (he : e < 18446744073709551616) (hc : c < n) (hn : n ≤ s.n / 2)
    (hx : Chs w okl A l) (hokl : ∀ b, okl b → b < w.heap.size) (hg : Good l) (h64 : l.length ≤ 64)
    (hv2 : Vals w okv mb2 nv L2) (hokv : ∀ b, okv b → b < w.heap.size ∧ b ≠ mb2) (hg2 : Gd L2) (hl2 : L2.length ≤ 64) (hL : s.L.length ≤ 900000) :
    Calls Tryz.prog 41 #[.pointer (some ⟨sp, 0, none⟩), .slice A l.length cl, .map (some mb2)] w (KeepE w foot sp dp (.map (some mb2)) (s.keepT ⟨hf, e, c, n, []⟩ l L2)) := by
  by_cases hfit : n + nblk (recB e (c + 1) (payB l)).length ≤ s.n / 2
  · exact keep_fits hb hd hsf hhf he hc hn hx hokl hg h64 hL hfit
  · exact keep_turns hb hd hsf hhf he hc hn hx hokl hg h64 hv2 hokv hg2 hl2 hL hfit
theorem Blk.cell_mem {w : World} {g : Nat} {ty : TypeId} {cs : List Value} (h : Blk w g ty cs) {ad : Addr} (hg : ad.block = g) {v : Value} (hc : w.cell? ad = some v) : v ∈ cs := by
  unfold Blk at h
  subst hg
  unfold World.cell? at hc
  rw [h] at hc
  simp only at hc
  split at hc
  · cases hc
  · rw [List.getElem?_toArray] at hc
    exact List.mem_of_getElem? hc
/-- No byte lies in a block whose cells are no bytes. -/
theorem Byt.apart {w : World} {ok : Nat → Prop} {A : Option Addr} {xs : List UInt8} (h : Byt w ok A xs) {g : Nat} {ty : TypeId} {l : List Value} (hb : Blk w g ty l) (hl : ∀ u ∈ l, ∀ x : Int, u ≠ .int .u8 x) : Byt w (fun b => ok b ∧ b ≠ g) A xs := fun j hj => by
  obtain ⟨ad, e, h1, h2⟩ := h j hj
  refine ⟨ad, e, ⟨h1, fun hg => ?_⟩, h2⟩
  exact hl _ (hb.cell_mem (ad := ad.add j) (by rw [block_of_plus]; exact hg) h2) _ rfl
theorem Vals.apart {w : World} {ok : Nat → Prop} {mb n : Nat} {L : List (List UInt8 × List UInt8)} (h : Vals w ok mb n L) {g : Nat} {ty : TypeId} {l : List Value} (hb : Blk w g ty l) (hl : ∀ u ∈ l, ∀ x : Int, u ≠ .int .u8 x) : Vals w (fun b => ok b ∧ b ≠ g) mb n L := by
  obtain ⟨Z, h1, h2, h3⟩ := h
  exact ⟨Z, h1, h2, fun x hx => by obtain ⟨A, c, a1, a2, a3, a4, a5, a6⟩ := h3 x hx; exact ⟨A, c, a1, a2, a3, a4, a5, a6.apart hb hl⟩⟩
theorem find_at {l : List Chg} {k : Nat} (hk : k < l.length) (h : ∀ c ∈ l.take k, c.err = 0) (he : l[k].err ≠ 0) : l.find? (fun c => c.err ≠ 0) = some l[k] := by
  have e : l = l.take k ++ l[k] :: l.drop (k + 1) := by rw [List.getElem_cons_drop, List.take_append_drop]
  have h0 : (l.take k).find? (fun c => decide (c.err ≠ 0)) = none := List.find?_eq_none.2 fun c hc => by simp [h c hc]
  conv => lhs; rw [e]
  rw [List.find?_append, h0, Option.none_or, List.find?_cons_of_pos (by simpa using he)]
/-- How a commit ends. -/
def CommitE (w : World) (f fs : Nat → Prop) (sp dp : Nat) (r : Nat × St × Ste) (e : Ending) (w' : World) : Prop :=
  e = .returned (.int .i64 (r.1 : Int)) ∧ ∃ f' fs', Dsk w' f' dp r.2.1 ∧ Stm w' fs' sp dp r.2.2 ∧ (∀ k, fs' k → ¬ f' k) ∧ (∀ k, f' k → f k ∨ (w.heap.size ≤ k ∧ k < w'.heap.size)) ∧ (∀ k, fs' k → fs k ∨ (w.heap.size ≤ k ∧ k < w'.heap.size)) ∧ Md (fun k => f k ∨ fs k) w w'
theorem commitE_same {w w' : World} {f fs : Nat → Prop} {sp dp : Nat} {s : St} {t : Ste} {r : Nat × St × Ste} {e : Nat} (hr : r = (e, s, t)) (hd : Dsk w f dp s) (ht : Stm w fs sp dp t) (hdis : ∀ k, fs k → ¬ f k) (hg : w.grownBy w' none) : CommitE w f fs sp dp r (.returned (.int .i64 (e : Int))) w' := by
  subst hr
  exact ⟨rfl, f, fs, hd.grown hg, ht.keep hg.size fun k hk => hg.block k (ht.lt k hk) (by simp), hdis, fun _ h => .inl h, fun _ h => .inl h, Md.of_grown hg (by simp)⟩
theorem commitE_keep {w w3 w' : World} {f fs : Nat → Prop} {sp dp mb2 nv : Nat} {s : St} {t : Ste} {l : List Chg} {r : Nat × St × Ste} {e : Ending} (hr : r = match s.keepT t l (doAll t.L l) with | (e, s', none) => (e, s', t) | (e, s', some (hf, ep, c, n)) => (e, s', ⟨hf, ep, c, n, doAll t.L l⟩))
    (ht : Stm w fs sp dp t) (hdis : ∀ k, fs k → ¬ f k) (hg : w.grownBy w3 none) (hmb : w.heap.size ≤ mb2) (hv : Vals w3 (fun b => fs b ∨ (w.heap.size ≤ b ∧ b < w3.heap.size)) mb2 nv (doAll t.L l)) (hokv : Vals w3 (fun b => (fs b ∨ (w.heap.size ≤ b ∧ b < w3.heap.size)) ∧ b ≠ mb2) mb2 nv (doAll t.L l))
    (hft : ∀ k, f k → k < w.heap.size) (hk : KeepE w3 f sp dp (.map (some mb2)) (s.keepT t l (doAll t.L l)) e w') : CommitE w f fs sp dp r e w' := by
  obtain ⟨f', hd', hf', rfl, hrest⟩ := hk
  have hst := ht
  obtain ⟨mb, b1, b2, b3, b4, b5, b6⟩ := hst
  have hspf : ¬ f sp := hdis sp b3
  have hf2 : ∀ k, f' k → f k ∨ (w.heap.size ≤ k ∧ k < w'.heap.size) := fun k h => (hf' k h).imp id fun ⟨h1, h2⟩ => ⟨Nat.le_trans hg.size h1, h2⟩
  generalize s.keepT t l (doAll t.L l) = K at hr hd' hrest ⊢
  obtain ⟨e, s', o⟩ := K
  cases o with
  | none =>
    dsimp only at hrest hr hd'
    subst hr
    refine ⟨rfl, f', fs, hd', ?_, fun k h h2 => ?_, hf2, fun _ h => .inl h, ((Md.of_grown hg (by simp)).trans hrest).mono fun _ h => .inl h⟩
    · exact (ht.keep hg.size fun k hk => hg.block k (ht.lt k hk) (by simp)).md hrest hdis
    · rcases hf' k h2 with h3 | h3
      · exact hdis k h h3
      · have := b6 k h
        have := hg.size
        omega
  | some x =>
    obtain ⟨hf, ep, c, n⟩ := x
    dsimp only at hrest hr hd'
    subst hr
    obtain ⟨hm, hbk⟩ := hrest
    refine ⟨rfl, f', fun k => fs k ∨ (w.heap.size ≤ k ∧ k < w3.heap.size), hd', ⟨mb2, hbk, ?_, .inl b3, .inr ⟨hmb, hv.lt⟩, by have := b6 sp b3; omega, fun b hb => ?_⟩, fun k h h2 => ?_, hf2, fun k h => h.imp id fun ⟨h1, h2⟩ => ⟨h1, Nat.lt_of_lt_of_le h2 hm.size⟩, ((Md.of_grown hg (by simp)).trans hm).mono fun k h => h.imp id fun e => by subst e; exact b3⟩
    · have hb3 : Blk w3 sp 75 (scells dp t.hf t.e t.c t.n (.map (some mb))) := b1.grown hg (by simp)
      have hap := (hokv.apart hb3 (by simp [scells])).tight
      refine (hap.keep (hm.block _ hap.lt ?_) fun b hb => hm.block b ?_ ?_).imp fun b hb => hb.1
      · rintro (h | h)
        · have := hft _ h; omega
        · have := b6 sp b3; omega
      · rcases hb.1.1 with h | h
        · exact Nat.lt_of_lt_of_le (b6 b h) hg.size
        · exact h.2
      · rintro (h | h)
        · rcases hb.1.1 with h2 | h2
          · exact hdis b h2 h
          · have := hft _ h; omega
        · exact hb.2 h
    · rcases hb with h | h
      · exact Nat.lt_of_lt_of_le (Nat.lt_of_lt_of_le (b6 b h) hg.size) hm.size
      · exact Nat.lt_of_lt_of_le h.2 hm.size
    · rcases hf' k h2 with h3 | h3
      · rcases h with h | h
        · exact hdis k h h3
        · have := hft _ h3; omega
      · rcases h with h | h
        · have := b6 k h
          have := hg.size
          omega
        · omega
set_option maxRecDepth 100000 in
set_option maxHeartbeats 4000000 in
theorem commit_any {f fs okl : Nat → Prop} {w : World} {sp dp : Nat} {s : St} {t : Ste} {A : Option Addr} {cl : Nat} {l : List Chg} (hd : Dsk w f dp s) (ht : Stm w fs sp dp t) (hdis : ∀ k, fs k → ¬ f k) (hok : t.ok (s.n / 2)) (hgd : Gd t.L) (hx : Chs w okl A l) (hokl : ∀ b, okl b → b < w.heap.size)
    (hl : l.length ≤ 30000) (hL : s.L.length ≤ 900000) : Calls Tryz.prog 13 #[.pointer (some ⟨sp, 0, none⟩), .slice A l.length cl] w (CommitE w f fs sp dp (s.commitT t l)) := by
  obtain ⟨T, hT⟩ : ∃ T, T = s.commitT t l := ⟨_, rfl⟩
  rw [← hT]
  have HD := Lib.hid hd
  have HS := Lib.hid ht
  have HDI := Lib.hid hdis
  have HX := Lib.hid hx
  have HOL := Lib.hid hokl
  have HT := Lib.hid hT
  have HOK := Lib.hid hok
  have HGD := Lib.hid hgd
  obtain ⟨mb, b1, b2, b3, b4, b5, b6⟩ := ht
  have c0 : w.cell? ⟨sp, 0, none⟩ = some (.pointer (some ⟨dp, 0, none⟩)) := b1.get 0 _ rfl
  have c5 : w.cell? ⟨sp, 5, none⟩ = some (.map (some mb)) := b1.get 5 _ rfl
  have kC : Hid (∀ W, w.grownBy W none → W.cell? ⟨sp, 0, none⟩ = some (.pointer (some ⟨dp, 0, none⟩)) ∧ W.cell? ⟨sp, 5, none⟩ = some (.map (some mb))) := Lib.hid fun W hW => ⟨hW.cell c0 (by simp), hW.cell c5 (by simp)⟩
  have HB1 := Lib.hid b1
  have HB2 := Lib.hid b2
  have HB6 := Lib.hid b6
  have hspl := b1.lt
  have htl := hok.len
  have kG : Hid (∀ W, w.grownBy W none → Calls Tryz.prog 28 #[.pointer (some ⟨dp, 0, none⟩)] W fun e w' => e = .returned (.bool s.dead) ∧ W = w') := Lib.hid fun W hW => dead_any (HD.out.grown hW)
  clear hd hdis hx hokl hT hok hgd b1 b2 b4 b5 b6 c0 c5
  go_enter Tryz.func13, Tryz.ntmps13
  go_wp2
  go_loopw [11] (fun i wr => ∃ k : Nat, k ≤ l.length ∧ i = .int .i64 (k : Int) ∧ Hid (∀ c ∈ l.take k, c.err = 0) ∧ w.grownBy wr none) (fun i _ => l.length - (intOf i).toNat)
  case atStart => exact ⟨0, Nat.zero_le _, rfl, Lib.hid (by simp), World.grownBy.refl _ _⟩
  case round =>
    obtain ⟨k, hk, rfl, HE, hgw⟩ := hrel
    by_cases hlt : k < l.length
    · obtain ⟨b, o, A', c', rfl, hokb, d0, d1, d2, e1, e2, e3, hby⟩ := HX.out.at hlt
      have q0 : wr.cell? ⟨b, o + k * 3, none⟩ = some (.string ⟨l[k].name.toArray⟩) := hgw.cell d0 (by simp)
      have q1 : wr.cell? ⟨b, o + k * 3 + 1, none⟩ = some (.slice A' l[k].val.length c') := hgw.cell d1 (by simp)
      have q2 : wr.cell? ⟨b, o + k * 3 + 2, none⟩ = some (.bool l[k].gone) := hgw.cell d2 (by simp)
      have hfa := find_at hlt HE.out
      have htk : l[k].err = 0 → ∀ c ∈ l.take (k + 1), c.err = 0 := fun h0 c hc => by
        rw [← List.take_append_getElem hlt] at hc
        rcases List.mem_append.1 hc with hc | hc
        · exact HE.out c hc
        · simp at hc; rw [hc]; exact h0
      have HTK := Lib.hid htk
      have HFA := Lib.hid hfa
      obtain ⟨c, hc⟩ : ∃ c, c = l[k] := ⟨_, rfl⟩
      rw [← hc] at q0 q1 q2 e1 e3 HTK HFA
      have hwr := fun W => wrong_any W c A' c.val.length c' rfl (by omega) e3
      obtain ⟨E, hE⟩ : ∃ E, E = c.err := ⟨_, rfl⟩
      rw [← hE] at hwr HTK HFA
      obtain ⟨nm, vl, gn⟩ := c
      simp only [ccells, strV] at q0 q1 q2 e1 e3 hwr
      have HGW := Lib.hid hgw
      have HEE := Lib.hid hE
      clear d0 d1 d2 hby hc hgw hfa htk hE HE
      by_cases hE0 : E = 0
      · subst hE0
        go_wp2_with (first
          | (go_at_call 38; refine (hwr _).mono ?_; rintro _ w2 ⟨rfl, hg2⟩)
          | fail)
        go_roundw
        case rel => exact ⟨k + 1, by omega, by go_num, Lib.hid (HTK.out trivial), (HGW.out.trans (World.grownBy_alloc _ _ _)).trans hg2⟩
        case measure => simp [intOf]; omega
      · have hEI : ¬ (E : Int) = 0 := by omega
        go_wp2_with (first
          | (go_at_call 38; refine (hwr _).mono ?_; rintro _ w2 ⟨rfl, hg2⟩)
          | fail)
        go_ret
        have hr : T = (E, s, t) := by
          rw [HT.out, St.commitT, HFA.out hE0]
          dsimp only
          rw [← HEE.out]
        exact commitE_same hr HD.out HS.out HDI.out ((HGW.out.trans (World.grownBy_alloc _ _ _)).trans hg2)
    · obtain rfl : k = l.length := by omega
      rw [List.take_length] at HE
      have hfn : l.find? (fun c => c.err ≠ 0) = none := List.find?_eq_none.2 fun c hc => by simp [HE.out c hc]
      have HF := Lib.hid hfn
      have hgo : Good l := HE.out
      have HGO := Lib.hid hgo
      have HGW := Lib.hid hgw
      have hws := hgw.size
      by_cases h64 : 64 < l.length
      · have hI : decide (64 < (l.length : Int)) = true := decide_eq_true (by omega)
        clear hgw
        go_wp2
        go_ret
        exact commitE_same (e := 4) (by rw [HT.out, St.commitT, HF.out]; dsimp only; rw [if_pos h64]) HD.out HS.out HDI.out HGW.out
      · have hI : decide (64 < (l.length : Int)) = false := decide_eq_false (by omega)
        obtain ⟨-, x5⟩ := kC.out wr hgw
        have hv1 : Vals wr (fun b => fs b ∧ b ≠ mb) mb t.L.length t.L := HB2.out.keep (hgw.block _ HB2.out.lt (by simp)) fun b hb => hgw.block b (HB6.out b hb.1) (by simp)
        have hmc := mclone_any hv1 (fun b hb => Nat.lt_of_lt_of_le (HB6.out b hb.1) hws)
        obtain ⟨L2, hL2⟩ : ∃ L2, L2 = doAll t.L l := ⟨_, rfl⟩
        have HL2 := Lib.hid hL2
        have kDo : Hid (∀ w2, Vals w2 (fun b => fs b ∧ b ≠ mb) wr.heap.size t.L.length t.L → Below wr.heap.size wr w2 → Calls Tryz.prog 40 #[.map (some wr.heap.size), .slice A l.length cl] w2 (DoE w2 (fun b => fs b ∧ b ≠ mb) wr.heap.size (t.L.length + l.length) L2)) := Lib.hid fun w2 hv2 hb2 => by
          rw [HL2.out]
          exact do_any hv2 (fun b hb => ⟨by have := HB6.out b hb.1; have := hb2.size; omega, by have := HB6.out b hb.1; omega⟩) (HX.out.keep fun b hb => (hb2.block b (Nat.lt_of_lt_of_le (HOL.out b hb) hws)).trans (HGW.out.block b (HOL.out b hb) (by simp))) (fun b hb => ⟨by have := HOL.out b hb; have := hb2.size; omega, by have := HOL.out b hb; omega⟩) rfl HGO.out (by omega)
        have kCom : Hid (¬ 64 < l.length → T = if 64 < L2.length then (4, s, t) else if s.dead = true then (150, s, t) else if l = [] then (0, s, t) else match s.keepT t l L2 with | (e, s', none) => (e, s', t) | (e, s', some (hf, ep, c, n)) => (e, s', ⟨hf, ep, c, n, L2⟩)) := Lib.hid fun h => by
          rw [HT.out, St.commitT, HF.out, HL2.out]
          dsimp only
          rw [if_neg h]
          rfl
        clear hgw hv1 hL2 hfn HE
        by_cases h642 : 64 < L2.length
        · have hI2 : decide (64 < (L2.length : Int)) = true := decide_eq_true (by omega)
          go_wp2_with (first
            | (go_at_call 39; refine hmc.mono ?_; rintro _ w2 ⟨rfl, hv2, hb2, hlt2⟩; have hdo := kDo.out w2 hv2 hb2)
            | (go_at_call 40; refine hdo.mono ?_; rintro _ w3 ⟨rfl, hv3, hg3⟩; have hlen3 := fun ty => hv3.lenrun ty)
            | fail)
          go_ret
          have hG3 := World.grownBy.andThen (row' := some wr.heap.size) (HGW.out.trans (grown_of_below hb2)) hg3 (by rintro j ⟨⟩; left; omega)
          exact commitE_same (e := 4) (by rw [kCom.out h64, if_pos h642]) HD.out HS.out HDI.out hG3
        · have hI2 : decide (64 < (L2.length : Int)) = false := decide_eq_false (by omega)
          cases hdd : s.dead with
          | true =>
            rw [hdd] at kG
            go_wp2_with (first
              | (go_at_call 39; refine hmc.mono ?_; rintro _ w2 ⟨rfl, hv2, hb2, hlt2⟩; have hdo := kDo.out w2 hv2 hb2)
              | (go_at_call 40; refine hdo.mono ?_; rintro _ w3 ⟨rfl, hv3, hg3⟩; have hlen3 := fun ty => hv3.lenrun ty
                 have hG3 := World.grownBy.andThen (row' := some wr.heap.size) (HGW.out.trans (grown_of_below hb2)) hg3 (by rintro j ⟨⟩; left; omega)
                 obtain ⟨z0, -⟩ := kC.out w3 hG3
                 have hdq := kG.out w3 hG3)
              | (go_at_call 28; refine hdq.mono ?_; rintro _ _ ⟨rfl, rfl⟩)
              | fail)
            go_ret
            exact commitE_same (e := 150) (by rw [kCom.out h64, if_neg h642, if_pos hdd]) HD.out HS.out HDI.out hG3
          | false =>
            rw [hdd] at kG
            by_cases hnil : l.length = 0
            · have hnI : (l.length : Int) = 0 := by omega
              have HNI := Lib.hid hnil
              clear hnil
              go_wp2_with (first
                | (go_at_call 39; refine hmc.mono ?_; rintro _ w2 ⟨rfl, hv2, hb2, hlt2⟩; have hdo := kDo.out w2 hv2 hb2)
                | (go_at_call 40; refine hdo.mono ?_; rintro _ w3 ⟨rfl, hv3, hg3⟩; have hlen3 := fun ty => hv3.lenrun ty
                   have hG3 := World.grownBy.andThen (row' := some wr.heap.size) (HGW.out.trans (grown_of_below hb2)) hg3 (by rintro j ⟨⟩; left; omega)
                   obtain ⟨z0, -⟩ := kC.out w3 hG3
                   have hdq := kG.out w3 hG3)
                | (go_at_call 28; refine hdq.mono ?_; rintro _ _ ⟨rfl, rfl⟩)
                | fail)
              go_ret
              exact commitE_same (e := 0) (by rw [kCom.out h64, if_neg h642, if_neg (by rw [hdd]; decide), if_pos (List.eq_nil_of_length_eq_zero HNI.out)]) HD.out HS.out HDI.out hG3
            · have hnI : ¬ (l.length : Int) = 0 := by omega
              have kK : Hid (∀ w2 w3, Below wr.heap.size wr w2 → Vals w3 (fun b => (fs b ∧ b ≠ mb) ∨ (w2.heap.size ≤ b ∧ b < w3.heap.size)) wr.heap.size (t.L.length + l.length) L2 → w.grownBy w3 none → wr.heap.size < w2.heap.size → w2.heap.size ≤ w3.heap.size → Calls Tryz.prog 41 #[.pointer (some ⟨sp, 0, none⟩), .slice A l.length cl, .map (some wr.heap.size)] w3 (KeepE w3 f sp dp (.map (some wr.heap.size)) (s.keepT t l L2))) := Lib.hid fun w2 w3 hb2 hv3 hG3 hlt h23 => by
                refine keepS_any (hf := t.hf) (e := t.e) (c := t.c) (n := t.n) (HB1.out.grown hG3 (by simp)) (HD.out.grown hG3) (HDI.out sp b3) HOK.out.hf HOK.out.e HOK.out.c HOK.out.n (HX.out.keep fun b hb => hG3.block b (HOL.out b hb) (by simp)) (fun b hb => Nat.lt_of_lt_of_le (HOL.out b hb) hG3.size) HGO.out (by omega) hv3 (fun b hb => ?_) (by rw [HL2.out]; exact HGD.out.doAll HGO.out) (by omega) hL
                rcases hb with hb | hb
                · have := HB6.out b hb.1
                  omega
                · omega
              go_wp2_with (first
                | (go_at_call 39; refine hmc.mono ?_; rintro _ w2 ⟨rfl, hv2, hb2, hlt2⟩; have hdo := kDo.out w2 hv2 hb2)
                | (go_at_call 40; refine hdo.mono ?_; rintro _ w3 ⟨rfl, hv3, hg3⟩; have hlen3 := fun ty => hv3.lenrun ty
                   have hG3 := World.grownBy.andThen (row' := some wr.heap.size) (HGW.out.trans (grown_of_below hb2)) hg3 (by rintro j ⟨⟩; left; omega)
                   obtain ⟨z0, -⟩ := kC.out w3 hG3
                   have hdq := kG.out w3 hG3
                   have hkp := kK.out w2 w3 hb2 hv3 hG3 hlt2 hg3.size)
                | (go_at_call 28; refine hdq.mono ?_; rintro _ _ ⟨rfl, rfl⟩)
                | (go_at_call 41; refine hkp.mono ?_; rintro _ w4 ⟨f4, hd4, hf4, rfl, hr4⟩)
                | fail)
              go_ret
              have hr := kCom.out h64
              rw [if_neg h642, if_neg (by rw [hdd]; decide), if_neg (fun h => hnil (by rw [h]; rfl)), HL2.out] at hr
              rw [HL2.out] at hd4 hr4 hv3 ⊢
              have h23 := hg3.size
              exact commitE_keep hr HS.out HDI.out hG3 (show w.heap.size ≤ wr.heap.size from hws) (hv3.imp fun b hb => hb.imp (fun h => h.1) fun h => ⟨by omega, h.2⟩) (hv3.imp fun b hb => ⟨hb.imp (fun h => h.1) fun h => ⟨by omega, h.2⟩, by
                rcases hb with hb | hb
                · have := HB6.out b hb.1
                  omega
                · omega⟩) HD.out.lt ⟨f4, hd4, hf4, rfl, hr4⟩
end Go.Proofs.YtonpcenjipigpaaGreat
