/- build has a term known as soon as enough of its parts are. Conditions: at most 65535 terms; MaxLen holds some number. -/
import Derived.Test.YtbhfjjlfpgineaaSpr
namespace Go.Proofs.Ytbhfjjlfpgineaa
open Go.RowKit

/-- The terms that have been built. -/
def bxF (T : List Trm) (bb : Nat) (m : Nat) : Prop := 1 ≤ m ∧ m < bb ∧ 2 ≤ kd T m
def layL (g : Gh) (n lb : Nat) : Gh := ⟨fun b => if b = lb then .left n else g.role b, fun m => if m = n then lb else g.lf m⟩
section
variable {C : Cs} {T : List Trm} {w w' : World} {g g' : Gh} {bx bx' : Nat → Prop} {σ : Sch} {seen sw : List (List UInt8)} {bb bo : Nat}
theorem Mem.more (h : Mem C T w g bx σ) (hi : ∀ n, bx' n → bx n) (hm : ∀ n, bx n → bx' n) : Mem C T w g bx' σ := by
  obtain ⟨wv, h4, h5, h6⟩ := h.wbB
  exact ⟨h.fresh, h.old, h.base, h.sbR, h.nbR, h.wbR, h.kbC, h.sbB, h.nbB, h.namesN, ⟨wv, h4, h5, fun m hm' hne => (h6 m hm' hne).more hm⟩, h.waitN, fun n hn => h.lefts n (hi n hn), h.cnt, h.ex⟩
/-- A counter is laid. -/
theorem Mem.lay {n lb : Nat} {z : Int} (h : Mem C T w g bx σ) (hb : Below w.heap.size w w') (h1 : w.heap.size ≤ lb) (hc : w'.heap[lb]? = some (.cells #[.int .i64 z] 3 (0, 0))) (hn : ¬ bx n) :
    Mem C T w' (layL g n lb) (fun m => bx m ∨ m = n) (Ytbhfjjlfpgineaa.setL σ n z) ∧ Ex w w' g (layL g n lb) bx := by
  have h0 := h.below hb
  have hlt := lt_of_block hc
  have hfr := h.fresh lb h1
  have t : Tr (fun _ => False) w w' g (layL g n lb) bx := ⟨hb.os, hb.tape, hb.output, hb.size, fun b hb' _ => if_neg (by omega), fun b hb' _ => hb.block b hb', fun m hm => if_neg (by intro e; subst e; exact hn hm)⟩
  have hro : ∀ b r, g.role b = r → r ≠ .still → (layL g n lb).role b = r := fun b r e1 e2 => by
    show (if b = lb then Role.left n else g.role b) = r
    by_cases e : b = lb
    · rw [e, hfr] at e1; exact absurd e1.symm e2
    · rw [if_neg e]; exact e1
  obtain ⟨wv, h4, h5, h6⟩ := h.wbB
  obtain ⟨v, k1, k2, k3⟩ := h.sbB
  refine ⟨⟨fun b hb' => ?_, fun b hb' => ?_, h0.base, hro _ _ h.sbR (by intro e; cases e), hro _ _ h.nbR (by intro e; cases e), hro _ _ h.wbR (by intro e; cases e), h.kbC.tr t no_still, ⟨v, (hb.block _ (lt_of_block k1)).trans k1, ownsRow_keep k2 fun b hv => hb.block b (k2.lt b hv).2, fun b hv => hro _ _ (k3 b hv) (by intro e; cases e)⟩,
    h0.nbB, h.namesN, ⟨wv, (hb.block _ (lt_of_block h4)).trans h4, h5, fun m hm hne => ((h6 m hm hne).tr t no_still (fun h => h)).more fun _ hm => .inl hm⟩, h.waitN, fun i hi => ?_, h.cnt, h.ex⟩, t.imp fun r hr => absurd hr (fun h => h)⟩
  · show (if b = lb then Role.left n else g.role b) = _
    rw [if_neg (by omega)]
    exact h0.fresh b hb'
  · by_cases e : b = lb
    · have := h.base; omega
    · exact h.old b fun e2 => hb' (by show (if b = lb then Role.left n else g.role b) = _; rw [if_neg e]; exact e2)
  · by_cases e : i = n
    · subst e
      show w'.heap[(if i = i then lb else g.lf i)]? = some (.cells #[.int .i64 (if i = i then z else σ.left i)] 3 (0, 0)) ∧ (if (if i = i then lb else g.lf i) = lb then Role.left i else g.role (if i = i then lb else g.lf i)) = .left i
      rw [if_pos rfl, if_pos rfl, if_pos rfl]
      exact ⟨hc, rfl⟩
    · obtain ⟨a, b⟩ := h0.lefts i (hi.resolve_right e)
      show w'.heap[(if i = n then lb else g.lf i)]? = some (.cells #[.int .i64 (if i = n then z else σ.left i)] 3 (0, 0)) ∧ (layL g n lb).role (if i = n then lb else g.lf i) = .left i
      rw [if_neg e, if_neg e]
      exact ⟨a, hro _ _ b (by intro e; cases e)⟩
theorem cel_lay {n b lb : Nat} {v : Value} (h : Cel w g b v) (hb : b ≠ lb) : Cel w (layL g n lb) b v := ⟨⟨h.1.1, (if_neg hb).trans h.1.2⟩, h.2⟩
theorem bxF_succ {n : Nat} (h1 : 1 ≤ n) (hk : 2 ≤ kd T n) (m : Nat) : bxF T (n + 1) m ↔ bxF T n m ∨ m = n := by
  unfold bxF
  constructor
  · rintro ⟨a, b, c⟩
    by_cases e : m = n
    · exact .inr e
    · exact .inl ⟨a, by omega, c⟩
  · rintro (⟨a, b, c⟩ | rfl)
    · exact ⟨a, by omega, c⟩
    · exact ⟨h1, by omega, hk⟩
theorem bxF_same {n : Nat} (hk : kd T n < 2) (m : Nat) : bxF T (n + 1) m ↔ bxF T n m := by
  unfold bxF
  constructor
  · rintro ⟨a, b, c⟩
    exact ⟨a, by rcases Nat.lt_or_ge m n with h | h; exact h; obtain rfl : m = n := by omega
                 omega, c⟩
  · rintro ⟨a, b, c⟩
    exact ⟨a, by omega, c⟩

/-- What build leaves. -/
def BuiE (C : Cs) (T : List Trm) (seen sw : List (List UInt8)) (n bo M : Nat) (w : World) (g : Gh) (e : Ending) (w' : World) : Prop :=
  e = .returned (.tuple #[]) ∧ ∃ g' σ', Mem C T w' g' (bxF T (n + 1)) σ' ∧ Ex w w' g g' (bxF T n) ∧ Inv T seen sw (n + 1) bo 0 [] σ' ∧ tot σ' ≤ M
/-- In the middle of a term's parts. -/
structure BMid (C : Cs) (T : List Trm) (seen sw : List (List UInt8)) (n bo M : Nat) (w : World) (g : Gh) (i : Nat) (w' : World) (g' : Gh) (τ : Sch) : Prop where
  mem : Mem C T w' g' (bxF T (n + 1)) τ
  ex : Ex w w' g g' (bxF T (n + 1))
  inv : Inv T seen sw (n + 1) bo 0 (flB n i (pn T n)) τ
  tot : tot τ ≤ M + i
theorem BMid.step {n M i : Nat} {τ : Sch} {w1 w3 w4 : World} {g1 g3 g4 : Gh} (h : BMid C T seen sw n bo M w1 g1 i w3 g3 τ) (hT : Tok T) (hN : C.N = T.length + 1) (hi : i < pn T n) (hp : pn T n ≤ 64) (hM : M ≤ 99999900) :
    Short τ ∧ Can C T τ (.B n i) ∧ (Mem C T w4 g4 (bxF T (n + 1)) (awaitS (fun σ => runB σ n) τ (pt T n i) n (.B n i)) → Ex w3 w4 g3 g4 (bxF T (n + 1)) → BMid C T seen sw n bo M w1 g1 (i + 1) w4 g4 (awaitS (fun σ => runB σ n) τ (pt T n i) n (.B n i))) := by
  have htot := h.tot
  have hI := h.inv
  rw [flB_cons hi] at hI
  refine ⟨fun m => ?_, hI.can hT hN (hI.fly (.B n i) (by simp)), fun hm he => ⟨hm, h.ex.trans he, hI.await (d := .B n i) ⟨[], rfl, by simp⟩ (run := fun σ => runB σ n) fun hk => hI.runB hk, ?_⟩⟩
  · have := row_tot τ m
    omega
  · have := tot_await (σ := τ) (run := fun σ => runB σ n) (b := pt T n i) (below := n) (d := .B n i) (by rw [tot_runB]; omega)
    omega

set_option maxRecDepth 100000 in
set_option maxHeartbeats 4000000 in
theorem build_any {M n : Nat} {A : Option Addr} {c : Nat} (E : Env C T w) (h : Mem C T w g (bxF T n) σ) (hI : Inv T seen sw n bo 0 [] σ) (hN : C.N = T.length + 1) (ht : tot σ ≤ M) (hM : M ≤ 99999900) (h1 : 1 ≤ n) (hn : n ≤ T.length) (hl : Lst w (Still w g) A (tm T n).2) :
    Calls Try.prog 33 #[ptr C.sb, .int .i64 n, .int .i64 (kd T n : Nat), .slice A (pn T n) c] w (BuiE C T seen sw n bo (M + pn T n) w g) := by
  have hNN := E.N
  have h64 := (tm_fit E.tok n).1
  by_cases hk : kd T n < 2
  · have h2 := bxF_same (T := T) hk
    have HM := Lib.hid (h.more (bx' := bxF T (n + 1)) (fun m hm => (h2 m).1 hm) (fun m hm => (h2 m).2 hm))
    have HI := Lib.hid (hI.nonce hn hk)
    have HT := Lib.hid ht
    have hk1 : kd T n = 1 := by
      have : Good (tm T n) := E.tok.1 _ (by unfold tm; rw [List.getD_eq_getElem?_getD, List.getElem?_eq_getElem (show n - 1 < T.length by omega)]; exact List.getElem_mem _)
      have := this.1
      have : 1 ≤ kd T n := this
      omega
    rw [hk1]
    clear h hI ht E hl hk
    go_enter Try.func33, Try.ntmps33
    go_wp2
    go_end0
    have hb : Below w.heap.size w ((w.alloc (.cells #[ptr C.sb] 81)).alloc (.cells #[.int .i64 (n : Int)] 3)) := ((Below.refl _ _).alloc (Nat.le_refl _) _).alloc (by simp) _
    exact ⟨rfl, g, σ, HM.out.below hb, Tr.of_below hb, HI.out, Nat.le_trans HT.out (by omega)⟩
  · have hk2 : 2 ≤ kd T n := by omega
    have hbx := bxF_succ (T := T) h1 hk2
    have hnb : ¬ bxF T n n := fun e => by have := e.2.1; omega
    have hnN : n < C.N := by omega
    obtain ⟨k, hkk⟩ : ∃ k, kd T n = k := ⟨_, rfl⟩
    obtain ⟨m, hm⟩ : ∃ m, pn T n = m := ⟨_, rfl⟩
    have d1 : ((k : Int) == 1) = false := by rw [beq_eq_false_iff_ne]; omega
    have h64' : m ≤ 64 := by rw [← hm]; exact h64
    rw [hkk, hm]
    -- the variables
    have hb3 : Hid (∀ z : Int, ∃ w3, ((w.alloc (.cells #[ptr C.sb] 81)).alloc (.cells #[.int .i64 (n : Int)] 3)).alloc (.cells #[.int .i64 z] 3) = w3 ∧ Below w.heap.size w w3 ∧ w3.heap[w.heap.size + 1 + 1]? = some (.cells #[.int .i64 z] 3 (0, 0)) ∧
        Cel w3 (layL g n (w.heap.size + 1 + 1)) w.heap.size (ptr C.sb) ∧ Cel w3 (layL g n (w.heap.size + 1 + 1)) (w.heap.size + 1) (.int .i64 (n : Int)) ∧ Mem C T w3 (layL g n (w.heap.size + 1 + 1)) (bxF T (n + 1)) (setL σ n z) ∧ Ex w w3 g (layL g n (w.heap.size + 1 + 1)) (bxF T n) ∧ Mx w3) := fun z => by
      refine ⟨_, rfl, ?_⟩
      have b1 := below_alloc w (.cells #[ptr C.sb] 81)
      have b2 := below_alloc (w.alloc (.cells #[ptr C.sb] 81)) (.cells #[.int .i64 (n : Int)] 3)
      have b3 := below_alloc ((w.alloc (.cells #[ptr C.sb] 81)).alloc (.cells #[.int .i64 (n : Int)] 3)) (.cells #[.int .i64 z] 3)
      have a1 := cel_new h (ptr C.sb) 81
      have m1 := h.below b1
      have a2 := cel_new m1 (.int .i64 (n : Int)) 3
      have m2 := m1.below b2
      have hb : Below w.heap.size w (((w.alloc (.cells #[ptr C.sb] 81)).alloc (.cells #[.int .i64 (n : Int)] 3)).alloc (.cells #[.int .i64 z] 3)) := ((Below.refl _ _).alloc (Nat.le_refl _) _).alloc (by simp) _ |>.alloc (by simp; omega) _
      have hc : (((w.alloc (.cells #[ptr C.sb] 81)).alloc (.cells #[.int .i64 (n : Int)] 3)).alloc (.cells #[.int .i64 z] 3)).heap[w.heap.size + 1 + 1]? = some (.cells #[.int .i64 z] 3 (0, 0)) := by
        have := heap_alloc_new ((w.alloc (.cells #[ptr C.sb] 81)).alloc (.cells #[.int .i64 (n : Int)] 3)) (.cells #[.int .i64 z] 3)
        rw [alloc_size, alloc_size] at this
        exact this
      obtain ⟨l1, l2⟩ := h.lay (n := n) hb (by omega) hc hnb
      rw [alloc_size] at a2
      exact ⟨hb, hc, cel_lay ((a1.tr (R := NotStill) (bx := bxF T n) (Tr.of_below b2) not_ns).tr (R := NotStill) (bx := bxF T n) (Tr.of_below b3) not_ns) (by omega), cel_lay (a2.tr (R := NotStill) (bx := bxF T n) (Tr.of_below b3) not_ns) (by omega), l1.more (fun i hi => (hbx i).1 hi) (fun i hi => (hbx i).2 hi), l2, E.mx.below hb⟩
    rcases Nat.eq_zero_or_pos m with h0 | hp
    · subst h0
      have HI := Lib.hid (hI.bare h1 hn hk2 hm)
      have HT := Lib.hid ht
      clear h hI ht E hl hkk hm
      go_enter Try.func33, Try.ntmps33
      go_wp2_with fail
      obtain ⟨w3, hw3, k1, k2, k3, k4, k5, k6, k7⟩ := hb3.out 0
      rw [hw3]
      go_at_call 45
      refine (add_any k5 hnN hNN).mono ?_
      rintro e w4 ⟨rfl, g4, hm4, he4⟩
      have HM4 := Lib.hid hm4
      have HE4 : Hid (Ex w w4 g g4 (bxF T n)) := k6.trans (he4.less fun i hi => (hbx i).2 (.inl hi))
      clear hm4 he4 k1 k2 k3 k4 k5 k6 k7 hw3 hb3
      go_wp2_with fail
      go_loopg [24] 0 (fun G p wr => p = .int .i64 0 ∧ wr = w4)
      case atStart => exact ⟨rfl, rfl⟩
      case round =>
        obtain ⟨rfl, rfl⟩ := hrel
        go_wp2_with fail
        go_end0
        exact ⟨rfl, g4, _, HM4.out, HE4.out, HI.out, by rw [tot_add]; exact Nat.le_trans HT.out (Nat.le_add_right _ _)⟩
    · have HIB := Lib.hid (hI.begin h1 hn hk2 (by omega))
      have HL := Lib.hid hl
      have HT := Lib.hid ht
      have HM := Lib.hid hm
      have HK := Lib.hid hkk
      have HTK := Lib.hid E
      have HLAY := hb3
      clear h hI ht E hl hkk hm hb3
      obtain ⟨z, hz⟩ : ∃ z, ini T n = z := ⟨_, rfl⟩
      have hzk : z = if k = 3 then 1 else (m : Int) := by
        rw [← hz]
        unfold ini
        rw [HM.out, HK.out, if_neg (by omega)]
      rw [hz] at HIB
      by_cases h3 : k = 3
      · rw [if_pos h3] at hzk
        subst h3 hzk
        have d3 : ((m : Int) == 0) = false := by rw [beq_eq_false_iff_ne]; omega
        go_enter Try.func33, Try.ntmps33
        go_wp2_with fail
        obtain ⟨w3, hw3, k1, k2, k3, k4, k5, k6, k7⟩ := HLAY.out 1
        rw [hw3]
        obtain ⟨g1, hg1⟩ : ∃ g1, layL g n (w.heap.size + 1 + 1) = g1 := ⟨_, rfl⟩
        have hlf : g1.lf n = w.heap.size + 1 + 1 := by rw [← hg1]; exact if_pos rfl
        rw [hg1] at k3 k4 k5 k6
        have hbn : bxF T (n + 1) n := ⟨h1, by omega, hk2⟩
        have hl3 := Lib.hid (HL.out.tr k6 not_ns)
        have MID0 : Hid (BMid C T seen sw n bo M w3 g1 0 w3 g1 (setL σ n 1)) := ⟨k5, Tr.refl _ _ _ _, HIB.out, HT.out⟩
        have K3 := Lib.hid k3
        have K4 := Lib.hid k4
        have K6 := Lib.hid k6
        have K7 := Lib.hid k7
        have M3 := Lib.hid k5
        have HG := Lib.hid hlf
        have HHG := Lib.hid hg1
        clear hw3 k1 k2 k3 k4 k5 k6 k7 HLAY HL HIB hlf hg1
        go_loopg [24] m (fun G p wr => ∃ (i : Nat) (g2 : Gh) (τ : Sch), p = .int .i64 i ∧ i ≤ m ∧ m - i ≤ G ∧ Hid (BMid C T seen sw n bo M w3 g1 i wr g2 τ))
        case atStart => exact ⟨0, _, _, rfl, by omega, by omega, MID0.out⟩
        case round =>
          obtain ⟨i, g2, τ, rfl, him, hgk, hmid⟩ := hrel
          have HGK := Lib.hid hgk
          rcases Nat.lt_or_ge i m with hlt | hge
          · have hi2 : i < pn T n := by rw [HM.out]; exact hlt
            have hLr : Lst wr (Still wr g2) A (tm T n).2 := hl3.out.tr hmid.out.ex not_ns
            obtain ⟨ab, ao, A', c', rfl, x1, x2, x3, x4⟩ := hLr.at_ hi2
            rw [← pt_get hi2] at x1 x2 x4
            obtain ⟨pl, hpl⟩ : ∃ pl, (pt T n i).length = pl := ⟨_, rfl⟩
            have hp4 := pt_length HTK.out.tok n i
            have h3 := fun (w4 : World) (g4 : Gh) => hmid.out.step (w4 := w4) (g4 := g4) HTK.out.tok hN hi2 (by rw [HM.out]; exact h64') hM
            obtain ⟨h4, h5, _⟩ := h3 wr g2
            have y1 := (K3.out.tr hmid.out.ex not_ns)
            have y2 := (K4.out.tr hmid.out.ex not_ns)
            have hl2 : g2.lf n = w.heap.size + 1 + 1 := (hmid.out.ex.lf n hbn).trans HG.out
            have HC := Lib.hid (await_any (n := pl) (c := c') (below := n) (d := .B n i) (run := fun σ => runB σ n) (vd := .func (.func 47) #[] #[ptr (w.heap.size + 1 + 1), ptr w.heap.size, ptr (w.heap.size + 1)]) hmid.out.mem (M3.out.mx HTK.out.base hmid.out.ex K7.out) hNN hpl x4 (by omega) x3 (by omega) (by omega)
              ⟨hbn, _, _, by rw [hl2], y1, y2⟩ h4 (fun w' g' hm' he' f caps hf => by
                injection hf with hf1 _ hf3
                injection hf1 with hf1
                subst hf1 hf3
                have hl4 : g'.lf n = w.heap.size + 1 + 1 := (he'.lf n hbn).trans hl2
                rw [← hl4]
                exact runB_any hm' hbn hnN hNN (y1.tr he' not_ns) (y2.tr he' not_ns) h5.2.1 h5.2.2))
            rw [hpl] at x1
            have y3 := y1.2
            have y4 := y2.2
            have q1 : (0 : Int) ≤ (i : Int) := by omega
            have q2 : (i : Int) < (m : Int) := by omega
            have q7 : (i : Int) + 1 ≤ 100000000 := by omega
            have H3 := Lib.hid h3
            clear h3 h4 h5 x2 x3 x4 y1 y2 hmid hLr hpl hp4
            go_wp2_with fail
            go_at_call 46
            refine HC.out.mono ?_
            rintro e w4 ⟨rfl, g4, hm4, he4⟩
            have H4 := Lib.hid ((H3.out w4 g4).2.2 hm4 he4)
            clear hm4 he4 H3 HC
            go_wp2_with fail
            go_roundg (m - (i + 1))
            case measure => have := HGK.out; omega
            case rel => exact ⟨i + 1, g4, _, rfl, by omega, Nat.le_refl _, H4.out⟩
          · obtain rfl : m = i := by omega
            have d0 : ¬ ((m : Int) < (m : Int)) := by omega
            go_wp2_with fail
            go_end0
            have hie := hmid.out.inv
            rw [HM.out, flB_end] at hie
            exact ⟨rfl, g2, τ, hmid.out.mem, K6.out.trans (hmid.out.ex.less fun i hi => (hbx i).2 (.inl hi)), hie, hmid.out.tot⟩
      · rw [if_neg h3] at hzk
        subst hzk
        have d2 : ((k : Int) == 3) = false := by rw [beq_eq_false_iff_ne]; omega
        have d3 : ((m : Int) == 0) = false := by rw [beq_eq_false_iff_ne]; omega
        go_enter Try.func33, Try.ntmps33
        go_wp2_with fail
        obtain ⟨w3, hw3, k1, k2, k3, k4, k5, k6, k7⟩ := HLAY.out m
        rw [hw3]
        obtain ⟨g1, hg1⟩ : ∃ g1, layL g n (w.heap.size + 1 + 1) = g1 := ⟨_, rfl⟩
        have hlf : g1.lf n = w.heap.size + 1 + 1 := by rw [← hg1]; exact if_pos rfl
        rw [hg1] at k3 k4 k5 k6
        have hbn : bxF T (n + 1) n := ⟨h1, by omega, hk2⟩
        have hl3 := Lib.hid (HL.out.tr k6 not_ns)
        have MID0 : Hid (BMid C T seen sw n bo M w3 g1 0 w3 g1 (setL σ n m)) := ⟨k5, Tr.refl _ _ _ _, HIB.out, HT.out⟩
        have K3 := Lib.hid k3
        have K4 := Lib.hid k4
        have K6 := Lib.hid k6
        have K7 := Lib.hid k7
        have M3 := Lib.hid k5
        have HG := Lib.hid hlf
        have HHG := Lib.hid hg1
        clear hw3 k1 k2 k3 k4 k5 k6 k7 HLAY HL HIB hlf hg1
        go_loopg [24] m (fun G p wr => ∃ (i : Nat) (g2 : Gh) (τ : Sch), p = .int .i64 i ∧ i ≤ m ∧ m - i ≤ G ∧ Hid (BMid C T seen sw n bo M w3 g1 i wr g2 τ))
        case atStart => exact ⟨0, _, _, rfl, by omega, by omega, MID0.out⟩
        case round =>
          obtain ⟨i, g2, τ, rfl, him, hgk, hmid⟩ := hrel
          have HGK := Lib.hid hgk
          rcases Nat.lt_or_ge i m with hlt | hge
          · have hi2 : i < pn T n := by rw [HM.out]; exact hlt
            have hLr : Lst wr (Still wr g2) A (tm T n).2 := hl3.out.tr hmid.out.ex not_ns
            obtain ⟨ab, ao, A', c', rfl, x1, x2, x3, x4⟩ := hLr.at_ hi2
            rw [← pt_get hi2] at x1 x2 x4
            obtain ⟨pl, hpl⟩ : ∃ pl, (pt T n i).length = pl := ⟨_, rfl⟩
            have hp4 := pt_length HTK.out.tok n i
            have h3 := fun (w4 : World) (g4 : Gh) => hmid.out.step (w4 := w4) (g4 := g4) HTK.out.tok hN hi2 (by rw [HM.out]; exact h64') hM
            obtain ⟨h4, h5, _⟩ := h3 wr g2
            have y1 := (K3.out.tr hmid.out.ex not_ns)
            have y2 := (K4.out.tr hmid.out.ex not_ns)
            have hl2 : g2.lf n = w.heap.size + 1 + 1 := (hmid.out.ex.lf n hbn).trans HG.out
            have HC := Lib.hid (await_any (n := pl) (c := c') (below := n) (d := .B n i) (run := fun σ => runB σ n) (vd := .func (.func 47) #[] #[ptr (w.heap.size + 1 + 1), ptr w.heap.size, ptr (w.heap.size + 1)]) hmid.out.mem (M3.out.mx HTK.out.base hmid.out.ex K7.out) hNN hpl x4 (by omega) x3 (by omega) (by omega)
              ⟨hbn, _, _, by rw [hl2], y1, y2⟩ h4 (fun w' g' hm' he' f caps hf => by
                injection hf with hf1 _ hf3
                injection hf1 with hf1
                subst hf1 hf3
                have hl4 : g'.lf n = w.heap.size + 1 + 1 := (he'.lf n hbn).trans hl2
                rw [← hl4]
                exact runB_any hm' hbn hnN hNN (y1.tr he' not_ns) (y2.tr he' not_ns) h5.2.1 h5.2.2))
            rw [hpl] at x1
            have y3 := y1.2
            have y4 := y2.2
            have q1 : (0 : Int) ≤ (i : Int) := by omega
            have q2 : (i : Int) < (m : Int) := by omega
            have q7 : (i : Int) + 1 ≤ 100000000 := by omega
            have H3 := Lib.hid h3
            clear h3 h4 h5 x2 x3 x4 y1 y2 hmid hLr hpl hp4
            go_wp2_with fail
            go_at_call 46
            refine HC.out.mono ?_
            rintro e w4 ⟨rfl, g4, hm4, he4⟩
            have H4 := Lib.hid ((H3.out w4 g4).2.2 hm4 he4)
            clear hm4 he4 H3 HC
            go_wp2_with fail
            go_roundg (m - (i + 1))
            case measure => have := HGK.out; omega
            case rel => exact ⟨i + 1, g4, _, rfl, by omega, Nat.le_refl _, H4.out⟩
          · obtain rfl : m = i := by omega
            have d0 : ¬ ((m : Int) < (m : Int)) := by omega
            go_wp2_with fail
            go_end0
            have hie := hmid.out.inv
            rw [HM.out, flB_end] at hie
            exact ⟨rfl, g2, τ, hmid.out.mem, K6.out.trans (hmid.out.ex.less fun i hi => (hbx i).2 (.inl hi)), hie, hmid.out.tot⟩
end
end Go.Proofs.Ytbhfjjlfpgineaa
