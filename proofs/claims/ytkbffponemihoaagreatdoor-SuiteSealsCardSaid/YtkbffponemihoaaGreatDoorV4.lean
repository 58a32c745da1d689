/- uncover: what a term seals is opened. Conditions: no more than 5,000 bytes. -/
import Derived.Test.YtkbffponemihoaaGreatDoorV3
import Derived.Test.YtkbffponemihoaaGreatDoorU7
import Derived.BigQuiet
namespace Go.Proofs.YtkbffponemihoaaGreatDoor
open Go.RowKit T
theorem equal_quiet {w : World} {m1 : Nat} {ok ok' : Nat → Prop} {A B : Option Addr} {xs ys : List UInt8} {c d n m : Nat} {q : Bool} (ha : Byt w ok A xs) (hb : Byt w ok' B ys) (hn : xs.length = n) (hm : ys.length = m) (hq : decide (xs = ys) = q) :
    Calls Tryz.prog 43 #[.slice A n c, .slice B m d] (w.drewN m1) fun e w'' => e = .returned (.bool q) ∧ ∃ m2, w'' = w.drewN m2 :=
  (equal_any (w := w.drewN m1) (ok := ok) (ok' := ok') ha hb hn hm).mono fun _ _ h => ⟨by rw [h.1, hq], m1, h.2.symm⟩
theorem lst_addr {w : World} {ok : Nat → Prop} {ad : Addr} {ps : List (List UInt8)} (h : Lst w ok (some ad) ps) (h0 : 0 < ps.length) : ∃ ab ao, ad = ⟨ab, ao, none⟩ := by
  obtain ⟨ad', _, _, e, _, hc, _⟩ := h 0 h0
  obtain rfl := Option.some.inj e
  obtain ⟨ab, ao, sp⟩ := ad
  refine ⟨ab, ao, ?_⟩
  have : sp = none := by simpa [Addr.add] using World.cell?_spot hc
  rw [this]
theorem lst_part {w : World} {ok : Nat → Prop} {ab ao : Nat} {ps : List (List UInt8)} (h : Lst w ok (some ⟨ab, ao, none⟩) ps) (j : Nat) (hj : j < ps.length) {xs : List UInt8} (hx : ps[j] = xs) : ∃ A' c', w.cell? ⟨ab, ao + j, none⟩ = some (.slice A' xs.length c') ∧ xs.length ≤ c' ∧ c' ≤ maxLen ∧ Byt w ok A' xs := by
  subst hx
  obtain ⟨ad, A', c', e, _, hc, h1, h2, h3⟩ := h j hj
  obtain rfl := Option.some.inj e
  rw [Addr.add_lit] at hc
  exact ⟨A', c', hc, h1, h2, h3⟩
theorem run_nil22 (W : World) : (binOp .eql 46 (.slice none 0 0) (.slice none 0 0)).run Tryz.prog W = .ok (.bool true) W := by kernel_rfl
theorem run_some22 (W : World) (A : Addr) (n c : Nat) : (binOp .eql 46 (.slice (some A) n c) (.slice none 0 0)).run Tryz.prog W = .ok (.bool false) W := by kernel_rfl
section
variable {Cw : World → Prop} {ops : Array Oper} {rest : List Oper} {o : Oper} {a : Act} {Q : Act → Prop}
theorem quiet_nil (hw : Region.wanted o (yielded ops a.tmps) = true) (x y : Operand) (ho : o.op = .binOp .eql 46 x y 46) (hx : a.eval x = .slice none 0 0) (hy : a.eval y = .slice none 0 0) (h : wpQuiet Tryz.prog ops Cw Q rest (a.put o.dst (.bool true))) : wpQuiet Tryz.prog ops Cw Q (o :: rest) a :=
  BigFrame.wpQuiet_want hw fun K hK => ⟨.bool true, fun W _ => by
    unfold Oper.quietAt execOp
    simp only [ho, hx, hy]
    go_simp
    rw [run_nil22]
    exact ⟨rfl, rfl⟩, hK _ h⟩
theorem quiet_some (hw : Region.wanted o (yielded ops a.tmps) = true) (x y : Operand) (ho : o.op = .binOp .eql 46 x y 46) (A : Addr) (n c : Nat) (hx : a.eval x = .slice (some A) n c) (hy : a.eval y = .slice none 0 0) (h : wpQuiet Tryz.prog ops Cw Q rest (a.put o.dst (.bool false))) : wpQuiet Tryz.prog ops Cw Q (o :: rest) a :=
  BigFrame.wpQuiet_want hw fun K hK => ⟨.bool false, fun W _ => by
    unfold Oper.quietAt execOp
    simp only [ho, hx, hy]
    go_simp
    rw [run_some22]
    exact ⟨rfl, rfl⟩, hK _ h⟩
end
section
variable {w : World} {ops : Array Oper} {rest : List Oper} {o : Oper} {a : Act} {Q : Exit → Act → World → Prop} {t : TypeId} {m : Nat}
theorem wpList_toptr (hT : Ar t m) (hgd : o.guard = none) (x : Operand) (ho : o.op = .sliceToArrayPointer t x) (B : Addr) (n c : Nat) (hx : a.eval x = .slice (some B) n c) (hn : m ≤ n)
    (h : wpList Tryz.prog ops Q rest (a.put o.dst (.pointer (some B))) w) : wpList Tryz.prog ops Q (o :: rest) a w :=
  wpList_plain hgd fun K hK => by
    have hrun := run_arrayAt (P := Tryz.prog) (w := w) t 5 m (some B) n c hT.und hn
    unfold Oper.wp execOp
    simp only [ho, hx, hrun, Sem.run_bind, Sem.run_pure, Result.andThen_ok]
    exact hK _ _ h
theorem wpList_load_cells (hT : Ar t m) (hgd : o.guard = none) (x : Operand) (ho : o.op = .load t x) (ad : Addr) (hx : a.eval x = .pointer (some ad)) (xs : List UInt8) (hl : xs.length = m) (hc : ∀ j v, (u8s xs)[j]? = some v → w.cell? (ad.add j) = some v)
    (h : wpList Tryz.prog ops Q rest (a.put o.dst (.agg (u8s xs).toArray)) w) : wpList Tryz.prog ops Q (o :: rest) a w :=
  wpList_plain hgd fun K hK => by
    have hrun := run_load_ar hT w ad xs hl hc
    unfold Oper.wp execOp
    simp only [ho, hx, hrun, Sem.run_bind, Sem.run_pure, Result.andThen_ok]
    exact hK _ _ h
end
theorem byt_cells {w : World} {ok : Nat → Prop} {ad : Addr} {xs : List UInt8} (h : Byt w ok (some ad) xs) : ∀ j v, (u8s xs)[j]? = some v → w.cell? (ad.add j) = some v := fun j v hv => by
  obtain ⟨hj, rfl⟩ := u8s_get xs j v hv
  obtain ⟨ad', e, _, hc⟩ := h j hj
  obtain rfl := Option.some.inj e
  exact hc
set_option maxRecDepth 100000 in
set_option maxHeartbeats 4000000 in
theorem uncover_any {w : World} {ok ok' : Nat → Prop} {tb : Nat} {T : List Trm} {A : Option Addr} {ks b : List UInt8} {n c : Nat} (h : Tbl w ok tb T) (hl : ks.length = 32) (hx : Byt w ok' A b) (hok : ∀ g, ok' g → g < w.heap.size) (hn : b.length = n) (hs : n ≤ 5000) :
    Calls Tryz.prog 26 #[sui (some ⟨tb, 0, none⟩), .agg (u8s ks).toArray, .slice A n c] w (OpenE w (uncov T ks b)) := by
  have HL := Lib.hid hl
  have HT := Lib.hid h
  have HX := Lib.hid hx
  have HO := Lib.hid hok
  have HN := Lib.hid hn
  clear hl h hx hok hn
  have hg0 := World.grownBy_alloc w (.cells #[.pointer (some ⟨tb, 0, none⟩)] 27) none
  have hb0 : C.Blk (w.alloc (.cells #[.pointer (some ⟨tb, 0, none⟩)] 27)) w.heap.size 27 [.pointer (some ⟨tb, 0, none⟩)] := C.Blk.of_alloc w _ 27
  have HG0 := Lib.hid (grown_below hg0)
  have HB0 := Lib.hid hb0
  clear hg0 hb0
  unfold sui
  go_enter Tryz.func26, Tryz.ntmps26
  go_wp2_with (refine wpList_box32 i49 rfl _ rfl ks rfl HL.out ?_)
  intro w1 k1 b1 z1
  have hb1 : C.Blk w1 w.heap.size 27 [.pointer (some ⟨tb, 0, none⟩)] := HB0.out.keep (b1.block _ (Nat.lt_succ_self _))
  have HC1 := Lib.hid hb1
  have B1 := Lib.hid (HG0.out.trans (b1.mono (Nat.le_succ _)))
  have K1 : Hid (Arr w1 40 (w.heap.size + 1) ks) := k1
  have Z1 : Hid (w1.heap.size = w.heap.size + 1 + 1) := z1
  clear hb1 b1 z1 HG0 HB0 k1
  obtain ⟨gk, hgk⟩ : ∃ g, g = w.heap.size + 1 := ⟨_, rfl⟩
  rw [← hgk] at K1 ⊢
  obtain ⟨gs, hgs⟩ : ∃ g, g = w.heap.size := ⟨_, rfl⟩
  rw [← hgs] at HC1 ⊢
  have HGS := Lib.hid hgs
  have HGK := Lib.hid hgk
  clear hgs hgk
  by_cases h32 : n < 32
  · have d0 : ((n : Int) < 32) = True := by simp; omega
    have d1 : decide ((n : Int) < 32) = true := by simp; omega
    go_wp2
    go_ret2
    exact openE_none (uncov_short (by rw [HN.out]; exact h32)) (below_grown B1.out)
  · have d0 : ((n : Int) < 32) = False := by simp; omega
    have d1 : decide ((n : Int) < 32) = false := by simp; omega
    obtain ⟨ad, rfl, -, -⟩ := HX.out.some_ (by rw [HN.out]; omega)
    have hk32 : (b.take 32).length = 32 := by rw [List.length_take, HN.out]; omega
    obtain ⟨nk, hnk⟩ : ∃ nk, b.take 32 = nk := ⟨_, rfl⟩
    rw [hnk] at hk32
    have HK32 := Lib.hid hk32
    have HNK := Lib.hid hnk
    have hx1 := byt_up HX.out HO.out B1.out
    have HX1 := Lib.hid hx1
    clear hk32 hnk hx1
    have HCL : Hid (∀ j v, (u8s nk)[j]? = some v → w1.cell? (ad.add j) = some v) := by
      rw [← HNK.out]
      exact byt_cells (HX1.out.take 32)
    go_wp2_with (first | (refine wpList_toptr ar26 rfl _ rfl ad n c rfl (by omega) ?_) | (refine wpList_load_cells ar26 rfl _ rfl ad rfl nk HK32.out HCL.out ?_) | (refine wpList_alloc_ar ar26 rfl rfl ?_))
    intro w2 k2 g2 z2
    obtain ⟨gn, hgn⟩ : ∃ g, g = w1.heap.size := ⟨_, rfl⟩
    rw [← hgn] at k2 z2 ⊢
    have K2 := Lib.hid k2
    have NE2 : Hid (w1.heap.size ≤ gn) := by rw [hgn]; exact Nat.le_refl _
    have hb2 := HC1.out.grown g2 (by simp)
    have HB2 := Lib.hid hb2
    have KS2 := Lib.hid (Arr.grown K1.out g2 (by simp))
    have HX2 := Lib.hid (byt_up HX1.out (fun _ h => h) (grown_below g2))
    have B2 := Lib.hid (B1.out.trans ((grown_below g2).mono B1.out.size))
    clear k2 g2 z2 hgn hb2 HC1 K1 HX1 HCL
    have NEK : Hid (gk < gn ∧ gs < gn ∧ w.heap.size ≤ gn) := ⟨by have := NE2.out; have := Z1.out; have := HGK.out; omega, by have := NE2.out; have := Z1.out; have := HGS.out; omega, Nat.le_trans B1.out.size NE2.out⟩
    go_wp2_with (refine wpList_store_ar ar26 rfl _ _ rfl gn (zz 32) nk rfl rfl K2.out (zz_length _) HK32.out ?_)
    intro w3 k3 g3 z3
    have NX : Hid (∀ b, b < w1.heap.size → b ≠ gn) := fun b hb => by have := NE2.out; omega
    have B3 := Lib.hid (B2.out.trans ⟨g3.os, g3.tape, g3.output, g3.size, fun k hk => g3.block k (Nat.lt_of_lt_of_le hk B2.out.size) (by have := NEK.out.2.2; simp; omega)⟩ : Below w.heap.size w w3)
    have hb3 : C.Blk w3 gs 27 [.pointer (some ⟨tb, 0, none⟩)] := HB2.out.grown g3 (by have := NEK.out.2.1; simp; omega)
    have hcs : w3.cell? ⟨gs, 0, none⟩ = some (.pointer (some ⟨tb, 0, none⟩)) := hb3.get 0 _ rfl
    have KS3 := Lib.hid (Arr.grown KS2.out g3 (by have := NEK.out.1; simp; omega))
    have K3 := Lib.hid k3
    have HX3 := Lib.hid (byt_up HX.out HO.out B3.out)
    clear k3 g3 z3 NX hb3 K2 NE2 HB2 KS2 HX2 B2 NEK B1 Z1 HGK HX HO
    have hpa := parts_any (HT.out.below B3.out) HK32.out
    unfold sui at hpa
    go_wp2_with (refine wpList_load_ar ar26 rfl _ rfl gn rfl nk K3.out HK32.out ?_)
    go_at_call 42
    refine hpa.mono ?_
    rintro _ w4 ⟨b4, h4⟩
    have B4 := Lib.hid (B3.out.trans (b4.mono B3.out.size))
    have SZ4 := Lib.hid (Nat.lt_of_lt_of_le (Arr.lt K3.out) b4.size)
    have KS4 := Lib.hid (Arr.keep KS3.out (b4.block _ (Arr.lt KS3.out)))
    have K4 := Lib.hid (Arr.keep K3.out (b4.block _ (Arr.lt K3.out)))
    have HX4 := Lib.hid (byt_up HX3.out (fun _ h => h) b4)
    clear hpa b4 KS3 K3 HX3 B3 hcs HT SZ4
    rcases h4 with ⟨hr, rfl⟩ | ⟨a, s, A1, c1, hr, rfl, hL⟩
    · have HF := Lib.hid (uncov_none (T := T) (ks := ks) (b := b) (by rw [HNK.out]; exact hr))
      clear hr
      go_wp2_with fail
      refine wp_region_quiet_lit (by kernel_rfl) (by kernel_rfl) ?_
      repeat (go_big_quiet_step (fail))
      refine quiet_nil (by rfl) (.tmp 19) _ rfl rfl rfl ?_
      simp only [Act.put, List.setIfInBounds_toArray, List.set_cons_zero, List.set_cons_succ]
      repeat (go_big_quiet_step (fail))
      refine wpQuiet_nil ?_
      intro _ hw'
      obtain ⟨nq, rfl⟩ := hw'
      go_wp2
      go_ret2
      exact openE_none HF.out (below_grown (below_drewN B4.out nq))
    · have HR := Lib.hid hr
      obtain ⟨ab, ao, rfl⟩ := lst_addr hL (by simp)
      obtain ⟨A0, c0, e0, p0, q0, x0⟩ := lst_part hL 0 (by simp) (xs := a) rfl
      obtain ⟨A2, c2, e2, p2, q2, x2⟩ := lst_part hL 1 (by simp) (xs := s) rfl
      have X0 := Lib.hid x0
      have X2 := Lib.hid x2
      have E2 := Lib.hid e2
      clear hr hL x0 x2 e2
      rw [Nat.add_zero] at e0
      obtain ⟨q, hq⟩ : ∃ q, decide (a = ks) = q := ⟨_, rfl⟩
      obtain ⟨n0, hn0⟩ : ∃ n0, a.length = n0 := ⟨_, rfl⟩
      rw [hn0] at e0 p0
      have Q1 : Hid (∀ m1, Calls Tryz.prog 43 #[.slice A0 n0 c0, .slice (some ⟨gk, 0, none⟩) 32 32] (w4.drewN m1) fun e w'' => e = .returned (.bool q) ∧ ∃ m2, w'' = w4.drewN m2) := fun m1 => equal_quiet X0.out (Arr.byt (ok := fun _ => True) KS4.out trivial) hn0 HL.out hq
      have HQ := Lib.hid hq
      clear hq hn0
      go_wp2_with fail
      refine wp_region_quiet_lit (by kernel_rfl) (by kernel_rfl) ?_
      repeat (go_big_quiet_step ((go_at_call 43; exact Q1.out _)))
      refine quiet_some (by rfl) (.tmp 19) _ rfl _ _ _ rfl rfl ?_
      simp only [Act.put, List.setIfInBounds_toArray, List.set_cons_zero, List.set_cons_succ]
      repeat (go_big_quiet_step ((go_at_call 43; exact Q1.out _)))
      refine wpQuiet_nil ?_
      intro _ hw'
      obtain ⟨nq, rfl⟩ := hw'
      have BQ := Lib.hid (below_drewN B4.out nq)
      have KQ : Hid (Arr (w4.drewN nq) 40 gn nk) := K4.out
      have XQ : Hid (Byt (w4.drewN nq) (fun b => b < (w4.drewN nq).heap.size) (some ad) b) := HX4.out
      have SQ : Hid (Byt (w4.drewN nq) (fun b => b < (w4.drewN nq).heap.size) A2 s) := X2.out.imp fun _ hb => hb.2
      have hcs : (w4.drewN nq).cell? ⟨ab, ao + 1, none⟩ = some (.slice A2 s.length c2) := E2.out
      obtain ⟨W, hW⟩ : ∃ W, W = w4.drewN nq := ⟨_, rfl⟩
      rw [← hW] at BQ KQ XQ SQ hcs ⊢
      clear hW B4 K4 HX4 X2 E2 e0 X0 Q1 KS4
      have hu := uncov_two (T := T) (ks := ks) (b := b) (by rw [HN.out]; omega) (by rw [HNK.out]; exact HR.out)
      rw [HNK.out, HN.out] at hu
      obtain ⟨l, hl⟩ : ∃ l, s.length = l := ⟨_, rfl⟩
      rw [hl] at hu hcs p2
      have HU := Lib.hid hu
      have HLL := Lib.hid hl
      clear hu hl
      cases q
      · have hne : ¬ a = ks := of_decide_eq_false HQ.out
        have hf : uncov T ks b = none := by rw [HU.out, if_neg (fun h => hne h.1)]
        have HF := Lib.hid hf
        clear hne hf hcs
        go_wp2
        go_ret2
        exact openE_none HF.out (below_grown BQ.out)
      · have hke : a = ks := of_decide_eq_true HQ.out
        have HKE := Lib.hid hke
        clear hke HQ
        have hsz := siz_any W l
        obtain ⟨z, hz⟩ : ∃ z, z = sizeN l := ⟨_, rfl⟩
        rw [← hz] at hsz
        by_cases hzn : (n : Int) = z
        · have hd : ((n : Int) == z) = true := by simpa using hzn
          have hl1 : l ≤ 1024 := by
            rcases Nat.lt_or_ge 1024 l with h | h
            · have : sizeN l = 0 := if_pos (.inr (by omega))
              omega
            · exact h
          have hnz : n = sizeL l := by
            have := sizeN_len l hl1
            unfold sizeL
            omega
          have HNZ := Lib.hid hnz
          subst hzn
          clear hnz hz
          go_wp2_with fail
          go_at_call 10
          refine hsz.mono ?_
          rintro _ w5 ⟨rfl, g5⟩
          have K5 := Lib.hid (Arr.grown KQ.out g5 (by simp))
          have X5 := Lib.hid (byt_up XQ.out (fun _ h => h) (grown_below g5))
          have S5 := Lib.hid (byt_up SQ.out (fun _ h => h) (grown_below g5))
          have hcs5 : w5.cell? ⟨ab, ao + 1, none⟩ = some (.slice A2 l c2) := g5.cell hcs (by simp)
          have G5 := Lib.hid ((below_grown BQ.out).trans g5)
          clear hsz g5 hcs KQ XQ SQ BQ
          obtain ⟨q2', hq2⟩ : ∃ q, decide (b = pad nk n) = q := ⟨_, rfl⟩
          have hfi := filled_any (c := c) HK32.out X5.out (fun _ h => h) HN.out (by omega) (by omega)
          rw [hq2] at hfi
          have HQ2 := Lib.hid hq2
          clear hq2
          go_wp2_with (refine wpList_load_ar ar26 rfl _ rfl gn rfl nk K5.out HK32.out ?_)
          go_at_call 44
          refine hfi.mono ?_
          rintro _ w6 ⟨rfl, g6⟩
          have hcs6 : w6.cell? ⟨ab, ao + 1, none⟩ = some (.slice A2 l c2) := g6.cell hcs5 (by simp)
          have S6 := Lib.hid (byt_up S5.out (fun _ h => h) (grown_below g6))
          have G6 := Lib.hid (G5.out.trans g6)
          clear hfi g6 hcs5 S5 K5 X5 G5
          cases q2'
          · have HF : Hid (uncov T ks b = none) := by
              show uncov T ks b = none
              rw [HU.out, if_neg (fun h => of_decide_eq_false HQ2.out h.2.2.2)]
            clear hcs6
            go_wp2
            go_ret2
            exact openE_none HF.out G6.out
          · have HF : Hid (uncov T ks b = some s) := by
              show uncov T ks b = some s
              rw [HU.out, if_pos ⟨HKE.out, hl1, HNZ.out, of_decide_eq_true HQ2.out⟩]
            go_wp2
            go_ret2
            exact openE_some HF.out HLL.out G6.out p2 q2 S6.out
        · have hd : ((n : Int) == z) = false := by simpa using hzn
          have hf : uncov T ks b = none := by
            rw [HU.out, if_neg]
            rintro ⟨-, h1, h2, -⟩
            apply hzn
            rw [hz, sizeN_len l h1, h2]
            rfl
          have HF := Lib.hid hf
          have hd2 : ((n : Int) = z) = False := by simp [hzn]
          have hd3 : decide ((n : Int) = z) = false := by simp [hzn]
          clear hf hz
          go_wp2_with fail
          go_at_call 10
          refine hsz.mono ?_
          rintro _ w5 ⟨rfl, g5⟩
          have G5 := Lib.hid ((below_grown BQ.out).trans g5)
          clear hsz g5 hcs
          go_wp2
          go_ret2
          exact openE_none HF.out G5.out
end Go.Proofs.YtkbffponemihoaaGreatDoor
