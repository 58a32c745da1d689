/- spread tells what is known to those that wait for it, till nothing new comes of it. Conditions: at most 65535 terms; MaxLen holds some number. -/
import Derived.Test.YtbhfjjlfpgineaaKTot
import Derived.Deep.LoopGhost
namespace Go.Proofs.Ytbhfjjlfpgineaa
open Go.RowKit

theorem size84 : (Try.prog.info? 84).map (·.size) = some 1 := by kernel_rfl
theorem size105 : (Try.prog.info? 105).map (·.size) = some 1 := by kernel_rfl
section
variable {C : Cs} {T : List Trm} {w w' : World} {g g' : Gh} {bx : Nat → Prop} {σ : Sch} {seen sw : List (List UInt8)} {bb bo : Nat}
/-- The last news is struck. -/
theorem Mem.take {l : List Nat} {n gn cap : Nat} (h : Mem C T w g bx σ) (hn : σ.news = l ++ [n]) (ho : w.ownsRow 0 3 1 (.slice (some ⟨gn, 0, none⟩) σ.news.length cap) σ.news.length (σ.news.map fun n : Nat => Value.int .i64 n)) (hr : g.role gn = .news)
    (hb : w'.heap[C.sb]? = some (.cells [ptr C.kb, .slice (some ⟨gn, 0, none⟩) l.length cap, .slice (some ⟨C.wb, 0, none⟩) C.N C.N].toArray 86 (0, 0))) (hw : Wr C.sb w w') : Mem C T w' g bx { σ with news := l } ∧ Ex w w' g g bx := by
  have t : Tr (fun r => r = .sb) w w' g g bx := Tr.of_wr hw h.sbR
  have hns : ¬ (Role.still = Role.sb) := fun e => by cases e
  obtain ⟨wv, h4, h5, h6⟩ := h.wbB
  have hlen : σ.news.length = l.length + 1 := by rw [hn]; simp
  refine ⟨⟨fun b hb' => h.fresh b (by rw [← hw.size]; exact hb'), h.old, by rw [hw.size]; exact h.base, h.sbR, h.nbR, h.wbR, h.kbC.tr t hns, ⟨_, hb, ?_, fun b hv => ?_⟩,
    (t.block _ (lt_of_block h.nbB) (by rw [h.nbR]; intro e; cases e)).trans h.nbB, h.namesN, ⟨wv, (t.block _ (lt_of_block h4) (by rw [h.wbR]; intro e; cases e)).trans h4, h5, fun m hm hne => (h6 m hm hne).tr t hns (fun e => by cases e)⟩, h.waitN, fun i hi => ?_, ?_, h.ex⟩, t.imp fun r e e2 => by rw [e] at e2; cases e2⟩
  · have ho' := ownsRow_keep (w' := w') ho fun b hv => by
      obtain rfl : gn = b := by simpa [Value.ownBlock] using hv
      exact hw.block gn fun e => by rw [e, h.sbR] at hr; cases hr
    rcases ho'.2 with ⟨e, _⟩ | ⟨g1, cap1, cur, e, h1, h2, h3, h4, h5, h6⟩
    · cases e
    · injection e with e1 e2 e3
      injection e1 with e1
      injection e1 with e1 _ _
      subst e1 e3
      refine ⟨by simp, .inr ⟨gn, cap, cur, rfl, Nat.zero_le _, h2, by show l.length ≤ cap; omega, h4, h5, ?_⟩⟩
      rw [Nat.mul_one] at h6 ⊢
      have := congrArg (List.take l.length) h6
      rw [List.take_take, Nat.min_eq_left (by omega)] at this
      rw [this, hn]
      simp
  · obtain rfl : gn = b := by simpa [Value.ownBlock] using hv
    exact hr
  · obtain ⟨a, b⟩ := h.lefts i hi
    exact ⟨(t.block _ (lt_of_block a) (by rw [b]; intro e; cases e)).trans a, b⟩
  · have := h.cnt
    show l.length ≤ σ.names.count true
    omega
theorem ownsRow_cell {e n g1 cap i : Nat} {xs : List Value} {u : Value} (h : w.ownsRow 0 e 1 (.slice (some ⟨g1, 0, none⟩) n cap) n xs) (hi : xs[i]? = some u) : w.cell? ⟨g1, i, none⟩ = some u := by
  have hlt : i < xs.length := by
    rcases Nat.lt_or_ge i xs.length with h1 | h1
    · exact h1
    · rw [List.getElem?_eq_none h1] at hi; cases hi
  rcases h.2 with ⟨e, _⟩ | ⟨g2, cap1, cur, e, h1, h2, h3, h4, h5, h6⟩
  · cases e
  · injection e with e1 e2 e3
    injection e1 with e1
    injection e1 with e1 _ _
    subst e1
    rw [cell_of_block h2]
    have hl := h.1
    have e7 : cur.toList[i]? = some u := by
      rw [← h6, List.getElem?_take] at hi
      split at hi
      · exact hi
      · cases hi
    show cur[i]? = some u
    rw [← Array.getElem?_toList]; exact e7
theorem MDo.cx {u : Value} {d : Do} {x : Nat} (h : MDo C T w g bx u d) : MDo { C with x := x } T w g bx u d := by
  cases d <;> exact h
theorem MJb.cx {u : Value} {j : Jb} {x : Nat} (h : MJb C T w g bx u j) : MJb { C with x := x } T w g bx u j := by
  obtain ⟨s, r, b, d, A, c, vd, h1, h2, h3, h4, h5, h6, h7, h8, h9, h10, h11⟩ := h
  exact ⟨s, r, b, d, A, c, vd, h1, h2, h3, h4, h5, h6, h7, h8, h9, h10, h11.cx⟩
theorem Row.cx {x m : Nat} {v : Value} {js : List Jb} (h : Row C T w g bx m v js) : Row { C with x := x } T w g bx m v js := by
  obtain ⟨vs, h1, h2, h3⟩ := h
  refine ⟨vs, h1, h2, fun i hi => ?_⟩
  obtain ⟨u, h4, h5⟩ := h3 i hi
  exact ⟨u, h4, h5.cx⟩
def dropR (g : Gh) (n : Nat) : Gh := ⟨fun b => if g.role b = .row n then .still else g.role b, g.lf⟩
theorem dropR_tr (w : World) (g : Gh) (bx : Nat → Prop) (n : Nat) : Tr (fun r => r = .row n) w w g (dropR g n) bx :=
  ⟨rfl, rfl, rfl, Nat.le_refl _, fun _ _ h => if_neg h, fun _ _ _ => rfl, fun _ _ => rfl⟩
/-- What stands in a list that is under way. -/
structure Under (C : Cs) (T : List Trm) (w : World) (g : Gh) (bx : Nat → Prop) (v : Value) (js : List Jb) : Prop where
  own : ∃ vs : List Value, w.ownsRow 0 1 1 v js.length vs ∧ ∀ i (h : i < js.length), ∃ u, vs[i]? = some u ∧ MJb C T w g bx u js[i]
  still : ∀ b, v.ownBlock = some b → g.role b = .still
theorem Under.tr {v : Value} {js : List Jb} (h : Under C T w g bx v js) (e : Ex w w' g g' bx) : Under C T w' g' bx v js := by
  obtain ⟨⟨vs, h1, h3⟩, h2⟩ := h
  refine ⟨⟨vs, ownsRow_keep h1 fun b hb => e.block b (h1.lt b hb).2 (by rw [h2 b hb]; exact not_ns), fun i hi => ?_⟩, fun b hb => (e.role b (h1.lt b hb).2 (by rw [h2 b hb]; exact not_ns)).trans (h2 b hb)⟩
  obtain ⟨u, h4, h5⟩ := h3 i hi
  exact ⟨u, h4, h5.tr e not_ns⟩
/-- A list is no longer the search's. -/
theorem Mem.detach {n : Nat} (h : Mem C T w g bx σ) (hx : C.x = 0) (hn : 0 < n) (hN : n < C.N) (hk : kn σ n = true) :
    Mem { C with x := n } T w (dropR g n) bx σ ∧ Ex w w g (dropR g n) bx ∧ ∃ v, w.cell? ⟨C.wb, n, none⟩ = some v ∧ Under { C with x := n } T w (dropR g n) bx v (row σ n) := by
  have t := dropR_tr w g bx n
  have hns : ¬ (Role.still = Role.row n) := fun e => by cases e
  have hro : ∀ b r, g.role b = r → r ≠ .row n → (dropR g n).role b = r := fun b r h1 h2 => by
    show (if g.role b = .row n then Role.still else g.role b) = r
    rw [h1, if_neg h2]
  obtain ⟨wv, h4, h5, h6⟩ := h.wbB
  obtain ⟨v, h1, h2, h3⟩ := h.sbB
  refine ⟨⟨fun b hb => hro b _ (h.fresh b hb) hns, fun b hb => h.old b fun e => hb (hro b _ e hns), h.base, hro _ _ h.sbR (by intro e; cases e), hro _ _ h.nbR (by intro e; cases e), hro _ _ h.wbR (by intro e; cases e), h.kbC.tr t hns, ⟨v, h1, h2, fun b hb => hro _ _ (h3 b hb) (by intro e; cases e)⟩,
    h.nbB, h.namesN, ⟨wv, h4, h5, fun m hm hne => ?_⟩, h.waitN, fun i hi => ?_, h.cnt, .inr hk⟩, t.imp (fun r e e2 => by rw [e] at e2; cases e2), wv[n]'(by omega), ?_, ?_⟩
  · exact ((h6 m hm (.inl hx)).tr t hns fun e => by
      rcases hne with hne | hne
      · exact absurd (show n = 0 from hne) (by omega)
      · exact hne (Role.row.inj e)).cx
  · obtain ⟨a, b⟩ := h.lefts i hi
    exact ⟨a, hro _ _ b (by intro e; cases e)⟩
  · rw [cell_of_block h4]
    have : n < wv.length := by omega
    simp [this]
  · obtain ⟨vs, k1, k2, k3⟩ := h6 n (by omega) (.inl hx)
    refine ⟨⟨vs, k1, fun i hi => ?_⟩, fun b hb => ?_⟩
    · obtain ⟨u, k4, k5⟩ := k3 i hi
      exact ⟨u, k4, (k5.tr t hns).cx⟩
    · show (if g.role b = .row n then Role.still else g.role b) = _
      rw [if_pos (k2 b hb)]
/-- The list that was under way is struck. -/
theorem Mem.strike {wv : List Value} (h : Mem C T w g bx σ) (hx : C.x < C.N) (h4 : w.heap[C.wb]? = some (.cells wv.toArray 105 (0, 0))) (hb : w'.heap[C.wb]? = some (.cells (wv.set C.x (.slice none 0 0)).toArray 105 (0, 0))) (hw : Wr C.wb w w') : Mem { C with x := 0 } T w' g bx (eff σ C.x []) ∧ Ex w w' g g bx := by
  have t : Tr (fun r => r = .wb) w w' g g bx := Tr.of_wr hw h.wbR
  have hns : ¬ (Role.still = Role.wb) := fun e => by cases e
  obtain ⟨wv', h4', h5, h6⟩ := h.wbB
  obtain rfl : wv = wv' := by
    rw [h4] at h4'
    injection h4' with e
    injection e with e
    exact congrArg Array.toList e
  obtain ⟨v, h1, h2, h3⟩ := h.sbB
  refine ⟨⟨fun b hb' => h.fresh b (by rw [← hw.size]; exact hb'), h.old, by rw [hw.size]; exact h.base, h.sbR, h.nbR, h.wbR, h.kbC.tr t hns, ⟨v, (t.block _ (lt_of_block h1) (by rw [h.sbR]; intro e; cases e)).trans h1, ownsRow_keep h2 fun b hb => t.block b (h2.lt b hb).2 (by rw [h3 b hb]; intro e; cases e), h3⟩,
    (t.block _ (lt_of_block h.nbB) (by rw [h.nbR]; intro e; cases e)).trans h.nbB, h.namesN, ⟨_, hb, by simp [h5], fun m hm _ => ?_⟩, by show (σ.wait.set C.x []).length = _; rw [List.length_set]; exact h.waitN, fun i hi => ?_, h.cnt, .inl rfl⟩, t.imp fun r e e2 => by rw [e] at e2; cases e2⟩
  · have hm' : m < wv.length := by simpa using hm
    have hrw : row (eff σ C.x []) m = if m = C.x then [] else row σ m := row_set σ C.x [] (by rw [h.waitN]; exact hx) m
    rw [hrw]
    by_cases e : m = C.x
    · subst e
      rw [if_pos rfl]
      have eg : (wv.set C.x (.slice none 0 0))[C.x] = .slice none 0 0 := by simp
      rw [eg]
      exact ⟨[], World.ownsRow_nil _ _ _ _, fun b hb => by simp [Value.ownBlock] at hb, fun i hi => by simp at hi⟩
    · rw [if_neg e]
      have eg : (wv.set C.x (.slice none 0 0))[m] = wv[m] := by rw [List.getElem_set_ne (Ne.symm e)]
      rw [eg]
      exact ((h6 m hm' (.inr e)).tr t hns fun e2 => by cases e2).cx
  · obtain ⟨a, b⟩ := h.lefts i hi
    exact ⟨(t.block _ (lt_of_block a) (by rw [b]; intro e; cases e)).trans a, b⟩

/-- What spread leaves. -/
def SprE (C : Cs) (T : List Trm) (seen sw : List (List UInt8)) (bb bo : Nat) (w : World) (g : Gh) (bx : Nat → Prop) (e : Ending) (w' : World) : Prop :=
  e = .returned (.tuple #[]) ∧ ∃ g' σ', Mem C T w' g' bx σ' ∧ Ex w w' g g' bx ∧ Inv T seen sw bb bo 0 [] σ' ∧ σ'.news = []

theorem drop_cons {α : Type} {l : List α} {i : Nat} (h : i < l.length) : l.drop i = l[i] :: l.drop (i + 1) := List.drop_eq_getElem_cons h
theorem can_eff {d : Do} {x : Nat} {r : List Jb} (h : Can C T (eff σ x r) d) : Can C T σ d := by
  cases d <;> exact h
theorem eff_drop {n : Nat} (h : Inv T seen sw bb bo n [] σ) (hn : n < σ.wait.length) : Inv T seen sw bb bo n [] (eff σ n (row σ n)) := by rw [eff_self hn]; exact h

/-- In the middle of a list that is under way. -/
structure Mid (C : Cs) (T : List Trm) (seen sw : List (List UInt8)) (bb bo M : Nat) (w : World) (g : Gh) (bx : Nat → Prop) (τ : Sch) (J : List Jb) (i : Nat) (w' : World) (g' : Gh) (τ' : Sch) : Prop where
  mem : Mem C T w' g' bx τ'
  ex : Ex w w' g g' bx
  inv : Inv T seen sw bb bo C.x [] (eff τ' C.x (J.drop i))
  row : row τ' C.x = J
  kn : kn τ' C.x = true
  tot : tot (eff τ' C.x (J.drop i)) ≤ M
  mu : mu τ' ≤ mu τ
/-- One job more. -/
theorem Mid.step {M i : Nat} {J : List Jb} {τ τ' : Sch} {w1 w3 w4 : World} {g1 g3 g4 : Gh} (h : Mid C T seen sw bb bo M w1 g1 bx τ J i w3 g3 τ') (hT : Tok T) (hx : C.x < C.N) (hN : C.N = T.length + 1) (hi : i < J.length) (hJ : J.length ≤ 100000000) (hM : M ≤ 100000000) :
    Short τ' ∧ Can C T τ' J[i].d ∧ (Mem C T w4 g4 bx (runJ T τ' J[i]) → Ex w3 w4 g3 g4 bx → Mid C T seen sw bb bo M w1 g1 bx τ J (i + 1) w4 g4 (runJ T τ' J[i])) := by
  have hw : C.x < τ'.wait.length := by rw [h.mem.waitN]; exact hx
  have hr : Ytbhfjjlfpgineaa.row (eff τ' C.x (J.drop i)) C.x = J[i] :: J.drop (i + 1) := by rw [row_eff hw, drop_cons hi]
  have hk : Ytbhfjjlfpgineaa.kn (eff τ' C.x (J.drop i)) C.x = true := h.kn
  obtain ⟨j1, j2, _⟩ := h.inv.jobs C.x J[i] (by rw [hr]; exact List.mem_cons_self)
  have hI := Inv.runJ hT.2 h.inv hr hk
  rw [show ({ eff τ' C.x (J.drop i) with wait := (eff τ' C.x (J.drop i)).wait.set C.x (J.drop (i + 1)) } : Sch) = eff (eff τ' C.x (J.drop i)) C.x (J.drop (i + 1)) from rfl, eff_eff, runJ_eff h.kn] at hI
  have ht := tot_pop hr
  rw [eff_eff] at ht
  have ht2 := tot_runJ (T := T) (σ := eff τ' C.x (J.drop (i + 1))) J[i]
  rw [runJ_eff h.kn] at ht2
  have htot := h.tot
  have hnl : τ'.names.length = T.length + 1 := by rw [h.mem.namesN, hN]
  refine ⟨fun m => ?_, can_eff (h.inv.can hT hN j2), fun hm he => ⟨hm, h.ex.trans he, hI, by rw [row_runJ h.kn]; exact h.row, kn_up_runJ _ h.kn, by omega, ?_⟩⟩
  · by_cases e : m = C.x
    · rw [e, h.row]; exact hJ
    · have h1 := row_tot (eff τ' C.x (J.drop i)) m
      rw [show Ytbhfjjlfpgineaa.row (eff τ' C.x (J.drop i)) m = _ from row_set τ' C.x (J.drop i) hw m, if_neg e] at h1
      omega
  · refine Nat.le_trans (mu_runJ (by rw [hnl]; exact bel_le j2 h.inv.hbb h.inv.hbo) fun n k e => ?_) h.mu
    rw [e] at j2
    have := j2.2.1
    have := h.inv.hbb
    omega

set_option maxRecDepth 100000 in
set_option maxHeartbeats 4000000 in
theorem spread_any {M : Nat} (E : Env C T w) (h : Mem C T w g bx σ) (hx0 : C.x = 0) (hI : Inv T seen sw bb bo 0 [] σ) (hN : C.N = T.length + 1) (ht : tot σ ≤ M) (hM : M ≤ 100000000) : Calls Try.prog 35 #[ptr C.sb] w (SprE C T seen sw bb bo w g bx) := by
  have hNN := E.N
  go_enter Try.func35, Try.ntmps35
  go_wp2_with fail
  go_loopg [] (mu σ) (fun G wr => ∃ (g1 : Gh) (τ : Sch), mu τ ≤ G ∧ Hid (Mem C T wr g1 bx τ) ∧ Hid (Ex w wr g g1 bx) ∧ Hid (Inv T seen sw bb bo 0 [] τ) ∧ tot τ ≤ M)
  case atStart => exact ⟨g, σ, Nat.le_refl _, h, Tr.refl _ _ _ _, hI, ht⟩
  case round =>
    obtain ⟨g1, τ, hmu, hm, he, hi, htot⟩ := hrel
    have HE0 := Lib.hid E
    have HM0 := Lib.hid h
    have HX0 := Lib.hid hx0
    have HTN := Lib.hid hN
    clear h hI ht E hx0 hN
    obtain ⟨nv, s1, s2, s3⟩ := hm.out.sbB
    rcases List.eq_nil_or_concat τ.news with hnil | ⟨l, x, hcat⟩
    · have h0 : τ.news.length = 0 := by rw [hnil]; rfl
      obtain ⟨A, c, rfl⟩ : ∃ A c, nv = .slice A 0 c := by
        rcases s2.2 with ⟨rfl, _⟩ | ⟨g', cap, cur, rfl, _⟩
        · exact ⟨none, 0, rfl⟩
        · rw [h0]; exact ⟨_, cap, rfl⟩
      have c1 : wr.cell? ⟨C.sb, 1, none⟩ = some (.slice A 0 c) := by rw [cell_of_block s1]; rfl
      have HNIL := Lib.hid hnil
      clear s1 s2 s3 hnil h0
      go_wp2
      go_end0
      exact ⟨rfl, g1, τ, hm.out, he.out, hi.out, HNIL.out⟩
    · rw [List.concat_eq_append] at hcat
      obtain ⟨L, hL⟩ : ∃ L, l.length = L := ⟨_, rfl⟩
      have hlen : τ.news.length = L + 1 := by rw [hcat]; simp [hL]
      obtain ⟨gn, cap, rfl⟩ : ∃ gn cap, nv = .slice (some ⟨gn, 0, none⟩) (L + 1) cap := by
        rcases s2.2 with ⟨_, h0⟩ | ⟨g', cap, cur, rfl, _⟩
        · rw [hcat] at h0; simp at h0
        · exact ⟨g', cap, by rw [hlen]⟩
      have s2' := s2
      rw [← hlen] at s2'
      rw [hlen] at s2
      have c2 : wr.cell? ⟨gn, L, none⟩ = some (.int .i64 x) := ownsRow_cell s2 (by rw [hcat, ← hL]; simp)
      have c1 : wr.cell? ⟨C.sb, 1, none⟩ = some (.slice (some ⟨gn, 0, none⟩) (L + 1) cap) := by rw [cell_of_block s1]; rfl
      obtain ⟨hi1, hkx⟩ := hi.out.take hcat
      have hxk := hi.out.sound x hkx
      have hxb := kno_bd hxk
      have hxN : x < C.N := by rw [HTN.out]; omega
      have hcap : L + 1 ≤ cap := by
        rcases s2.2 with ⟨e, _⟩ | ⟨g', cap', cur, e, _, _, h3, _⟩
        · cases e
        · injection e with _ _ e3; omega
      have hLN : L + 1 ≤ 70000 := by
        have a1 := hm.out.cnt
        have a2 := List.count_le_length (a := true) (l := τ.names)
        have a3 := hm.out.namesN
        omega
      have q1 : (0 : Int) ≤ (L : Int) := by omega
      have q2 : (L : Int) < ((L + 1 : Nat) : Int) := by omega
      have q3 : (L : Int) ≤ (cap : Int) := by omega
      have HCAT := Lib.hid hcat
      have HL := Lib.hid hL
      have S1 := Lib.hid s1
      have S2 := Lib.hid s2'
      have S3 := Lib.hid (s3 gn rfl)
      have HI1 := Lib.hid hi1
      have HKX := Lib.hid hkx
      have HXB := Lib.hid hxb
      clear hcat hL s1 s2 s2' s3 hi1 hkx hxk hxb
      go_wp2_with (first | (refine wpList_store_cell rfl 42 _ _ rfl size42 C.sb 1 (.slice (some ⟨gn, 0, none⟩) L cap) rfl rfl rfl _ _ S1.out (by simp) ?_) | fail)
      intro w1 hb1 hw1
      obtain ⟨hm1, he1⟩ := hm.out.take HCAT.out (by rw [hlen]; rw [hlen] at S2; exact S2.out) S3.out (by rw [HL.out]; exact hb1.out) hw1.out
      obtain ⟨hm2, he2, v, hv1, hv2⟩ := hm1.detach HX0.out (by have := HXB.out; omega) hxN (show kn { τ with news := l } x = true from HKX.out)
      obtain ⟨J, hJ⟩ : ∃ J, row { τ with news := l } x = J := ⟨_, rfl⟩
      rw [hJ] at hv2
      have hJM : J.length ≤ M := by
        have := row_tot { τ with news := l } x
        rw [hJ] at this
        exact Nat.le_trans this htot
      obtain ⟨n, hn⟩ : ∃ n, J.length = n := ⟨_, rfl⟩
      obtain ⟨A, c, rfl⟩ : ∃ A c, v = .slice A n c := by
        obtain ⟨⟨vs, k1, _⟩, _⟩ := hv2
        rcases k1.2 with ⟨rfl, h0⟩ | ⟨g', cap, cur, rfl, _⟩
        · rw [← hn, h0]; exact ⟨none, 0, rfl⟩
        · rw [← hn]; exact ⟨_, cap, rfl⟩
      have mid0 : Mid { C with x := x } T seen sw bb bo M w1 (dropR g1 x) bx { τ with news := l } J 0 w1 (dropR g1 x) { τ with news := l } := by
        refine ⟨hm2, Tr.refl _ _ _ _, ?_, hJ, HKX.out, ?_, Nat.le_refl _⟩
        · rw [List.drop_zero, ← hJ]
          rw [show ({ C with x := x } : Cs).x = x from rfl, eff_self (by rw [hm1.waitN]; exact hxN)]
          exact HI1.out
        · rw [List.drop_zero, ← hJ]
          rw [show ({ C with x := x } : Cs).x = x from rfl, eff_self (by rw [hm1.waitN]; exact hxN)]
          exact htot
      have k2 : w1.cell? ⟨C.sb, 2, none⟩ = some (.slice (some ⟨C.wb, 0, none⟩) C.N C.N) := by rw [cell_of_block hb1.out]; rfl
      have q4 : (0 : Int) ≤ (x : Int) := by omega
      have q5 : (x : Int) < (C.N : Int) := by omega
      have hmu1 := mu_take (σ := τ) HCAT.out
      have M0 := Lib.hid mid0
      have U0 := Lib.hid hv2
      have HJ := Lib.hid hJM
      have HNJ := Lib.hid hn
      have HE1 := Lib.hid ((he.out.trans he1).trans he2)
      have HMU := Lib.hid hmu1
      clear hm1 he1 hm2 he2 hv2 hJM mid0 hmu1 hn hJ c1 c2 q1 q2 q3
      go_wp2_with fail
      go_loopg [42] n (fun G p wr => ∃ (i : Nat) (g2 : Gh) (τ2 : Sch), p = .int .i64 i ∧ i ≤ n ∧ n - i ≤ G ∧ Hid (Mid { C with x := x } T seen sw bb bo M w1 (dropR g1 x) bx { τ with news := l } J i wr g2 τ2))
      case atStart => exact ⟨0, _, _, rfl, by omega, by omega, M0.out⟩
      case round =>
        obtain ⟨i, g2, τ2, rfl, hin, hgk, hmid⟩ := hrel
        have HGK := Lib.hid hgk
        have u1 := U0.out.tr hmid.out.ex
        obtain ⟨⟨vs, o1, o2⟩, o3⟩ := u1
        rw [HNJ.out] at o1
        rcases Nat.lt_or_ge i n with hlt | hge
        · have hiJ : i < J.length := by rw [HNJ.out]; exact hlt
          obtain ⟨u, hu1, s, r, b, d, A', c', vd, rfl, hu2, hu3, hu4, hu5, hu6, hu7, hu8, hu9, hu10, hu11⟩ := o2 i hiJ
          obtain ⟨rb, rfl⟩ : ∃ rb, A = some ⟨rb, 0, none⟩ := by
            rcases o1.2 with ⟨_, h0⟩ | ⟨g', cap, cur, e, _⟩
            · omega
            · injection e with e1 _ _; exact ⟨g', e1⟩
          have r1 := ownsRow_cell o1 hu1
          have q1 : (0 : Int) ≤ (i : Int) := by omega
          have q2 : (i : Int) < (n : Int) := by omega
          have q6 : n ≤ 100000000 := by have := HJ.out; rw [HNJ.out] at this; omega
          have q7 : (i : Int) + 1 ≤ 100000000 := by omega
          have h3 := fun (w4 : World) (g4 : Gh) => hmid.out.step (w4 := w4) (g4 := g4) HE0.out.tok hxN HTN.out hiJ (Nat.le_trans HJ.out hM) hM
          obtain ⟨h4, h5, _⟩ := h3 wr g2
          have e4 := (HE1.out.trans hmid.out.ex)
          have E4 := HE0.out.tr HM0.out e4
          have HC := Lib.hid (runJ_any (C := { C with x := x }) ⟨E4.tok, E4.base, E4.N, E4.mx⟩ hmid.out.mem h4 h5 hu2 hu3 hu4 hu5 hu6 hu7 hu8 hu9 hu10 hu11)
          have H3 := Lib.hid h3
          clear h3 h4 h5 e4 E4 hu1 hu2 hu3 hu4 hu5 hu6 hu7 hu8 hu9 hu10 hu11 o1 o2 o3 hmid
          go_wp2_with fail
          go_at_call 56
          refine HC.out.mono ?_
          rintro e w4 ⟨rfl, g4, hm4, he4⟩
          have H4 := Lib.hid ((H3.out w4 g4).2.2 hm4 he4)
          clear hm4 he4 H3 HC
          go_wp2_with fail
          go_roundg (n - (i + 1))
          case measure => have := HGK.out; omega
          case rel => exact ⟨i + 1, g4, _, rfl, by omega, Nat.le_refl _, H4.out⟩
        · obtain rfl : n = i := by omega
          obtain ⟨v, s1, _, _⟩ := hmid.out.mem.sbB
          obtain ⟨wv, b1, b2, _⟩ := hmid.out.mem.wbB
          have k3 : wr.cell? ⟨C.sb, 2, none⟩ = some (.slice (some ⟨C.wb, 0, none⟩) C.N C.N) := by rw [cell_of_block s1]; rfl
          have q6 : n ≤ 100000000 := by have := HJ.out; rw [HNJ.out] at this; omega
          have B1 : Hid (wr.heap[C.wb]? = some (.cells wv.toArray 105 (0, 0))) := b1
          have B2 : Hid (wv.length = C.N) := b2
          have d0 : ¬ ((n : Int) < (n : Int)) := by omega
          clear s1 b1 b2 o1 o2 o3
          go_wp2_with (first | (refine wpList_store_cell rfl 105 _ _ rfl size105 C.wb x (.slice none 0 0) rfl rfl rfl _ _ B1.out (by rw [B2.out]; exact hxN) ?_) | fail)
          intro w5 hb5 hw5
          obtain ⟨hm5, he5⟩ := hmid.out.mem.strike hxN B1.out hb5.out hw5.out
          have eC : ({ ({ C with x := x } : Cs) with x := 0 } : Cs) = C := by
            have := HX0.out
            obtain ⟨a1, a2, a3, a4, a5, a6, a7⟩ := C
            simp only at this
            subst this
            rfl
          rw [eC, show ({ C with x := x } : Cs).x = x from rfl] at hm5
          have hd : J.drop n = [] := List.drop_eq_nil_of_le (by rw [HNJ.out]; exact Nat.le_refl _)
          have hi5 := hmid.out.inv
          have ht5 := hmid.out.tot
          rw [hd, show ({ C with x := x } : Cs).x = x from rfl] at hi5 ht5
          have hi6 := hi5.leave (row_eff (by rw [hmid.out.mem.waitN]; exact hxN))
          have HM5 := Lib.hid hm5
          have HE5 := Lib.hid ((HE1.out.trans hmid.out.ex).trans he5)
          have HI5 := Lib.hid hi6
          have HT5 := Lib.hid ht5
          have HMU5 : Hid (mu (eff τ2 x []) < mu τ) := by
            have h1 := hmid.out.mu
            have h2 := HMU.out
            show mu τ2 < mu τ
            omega
          clear hm5 he5 hi5 ht5 hi6 hd
          go_wp2_with fail
          go_roundg (mu (eff τ2 x []))
          case measure => have := HMU5.out; omega
          case rel => exact ⟨g2, _, Nat.le_refl _, HM5.out, HE5.out, HI5.out, HT5.out⟩
end
end Go.Proofs.Ytbhfjjlfpgineaa
