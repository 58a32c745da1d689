/- The reference's Of tells the term of a name; of another key nothing. Conditions: none. -/
import Derived.Test.YtbhfjjlfpgineaaRIn
namespace Go.Proofs.Ytbhfjjlfpgineaa
open Go.RowKit

theorem nms_key {ks : List UInt8} (hl : ks.length = 32) (N : Nat) : nms ks N = if 0 < num ks N then [num ks N] else [] := by
  split
  · rename_i h
    rw [nms_hit _ _ h, nms_short _ _ (by rw [List.length_drop]; omega)]
  · rename_i h
    rw [nms_drop1 _ _ (by omega), nms_short _ _ (by rw [List.length_drop]; omega)]
/-- What Of tells. -/
def ROf (w : World) (ok : Nat → Prop) (T : List Trm) (n : Nat) (e : Ending) (w' : World) : Prop :=
  Below w.heap.size w w' ∧ ((n = 0 ∧ e = .returned (.tuple #[.agg #[.int .i64 0, .slice none 0 0], .bool false])) ∨
    ∃ (h : n - 1 < T.length) (A : Option Addr) (c : Nat), 0 < n ∧ e = .returned (.tuple #[.agg #[.int .i64 T[n - 1].1, .slice A T[n - 1].2.length c], .bool true]) ∧ Lst w' ok A T[n - 1].2)
theorem inE_n {w w' : World} {ns : List Nat} {e : Ending} (h : InE w ns e w') : ∃ A n c, e = .returned (.slice A n c) ∧ Hid (ns.length = n) ∧ n ≤ c ∧ c ≤ maxLen ∧ Hid (∀ j (h : j < ns.length), ∃ g, A = some ⟨g, 0, none⟩ ∧ w.heap.size ≤ g ∧ w'.cell? ⟨g, j, none⟩ = some (.int .i64 (ns[j] : Nat))) ∧ Below w.heap.size w w' := by
  obtain ⟨A, c, h1, h2, h3, h4, h5⟩ := h
  exact ⟨A, _, c, h1, rfl, h2, h3, h4, h5⟩

theorem results_c37 {fn : Func} {p t : Tmp} (h : fn.results = #[.cell p 37, .tmp t]) (tmps : Array Value) (w : World) (g : Nat) (cs : Array Value) (hp : tmps.getD p undef = .pointer (some ⟨g, 0, none⟩)) (hk : w.heap[g]? = some (.cells cs 37)) (hl : cs.size = 2) :
    (results fn tmps).run Try.prog w = .ok (.tuple #[.agg cs, tmps.getD t undef]) w := by
  have hp' : tmps[p]?.getD undef = .pointer (some ⟨g, 0, none⟩) := by simpa using hp
  have hi : (Try.prog.info? 37).map (·.size) = some cs.size := by rw [hl]; kernel_rfl
  simp [results, h, hp', asAddr, run_loadVar_row w g 37 37 _ (0, 0) _ hk Try.underlying37 rfl hi]
theorem below_row {B g : Nat} (w : World) {cs : Array Value} (hB : B ≤ g) : Below B w (w.setRow g cs) := ⟨rfl, rfl, rfl, by simp, fun i hi => setRow_other w g i _ (by omega)⟩
theorem all2 {a b : Value} (ha : a.oneCell' = true) (hb : b.oneCell' = true) : (#[a, b] : Array Value).all (·.oneCell') = true := by simp [ha, hb]
theorem size37 : (Try.prog.info? 37).map (·.size) = some 2 := by kernel_rfl
theorem nms_len {ks : List UInt8} (h : ks.length = 32) : ks.length = 32 := h
theorem rof_end {w' : World} {ok : Nat → Prop} {T : List Trm} {N n i xk xl c : Nat} {x : Trm} {A : Option Addr} (hN : T.length = N) (hn : n = i + 1) (hi : i < N) (hx : T[i]'(by omega) = x) (hk : x.1 = xk) (hl : x.2.length = xl) (hL : Lst w' ok A x.2) :
    ∃ (h : n - 1 < T.length) (A' : Option Addr) (c' : Nat), 0 < n ∧ Ending.returned (.tuple #[.agg #[.int .i64 (xk : Int), .slice A xl c], .bool true]) = .returned (.tuple #[.agg #[.int .i64 T[n - 1].1, .slice A' T[n - 1].2.length c'], .bool true]) ∧ Lst w' ok A' T[n - 1].2 := by
  subst hn hk hl hx
  exact ⟨by omega, A, c, Nat.succ_pos _, rfl, hL⟩
theorem lst_row {w w3 : World} {ok : Nat → Prop} {A : Option Addr} {ps : List (List UInt8)} {g : Nat} {cs : Array Value} (h : Lst w ok A ps) (hb : Below w.heap.size w w3) (hok : ∀ b, ok b → b < w.heap.size) (hg : w.heap.size ≤ g) : Lst (w3.drew.setRow g cs) ok A ps :=
  h.keep fun b hb' => ((below_row w3.drew (cs := cs) hg).block b (hok b hb')).trans (hb.block b (hok b hb'))
set_option maxRecDepth 100000 in
set_option maxHeartbeats 4000000 in
theorem rof_any {w : World} {ok : Nat → Prop} {rb : Nat} {T : List Trm} {ks : List UInt8} (h : RTbl w ok rb T) (hok : ∀ b, ok b → b < w.heap.size) (hl : ks.length = 32) : Calls Try.prog 17 #[.pointer (some ⟨rb, 0, none⟩), .agg (u8s ks).toArray] w (ROf w ok T (num ks (T.length + 1))) := by
  have hmax := h.max
  have hrb := h.lt
  obtain ⟨A1, c1, k1, _, hcm, hel⟩ := h.head
  obtain ⟨N, hN⟩ : ∃ N, T.length = N := ⟨_, rfl⟩
  rw [hN] at k1 hmax
  have HK1 := Lib.hid k1
  have HEL := Lib.hid hel
  have HN := Lib.hid hN
  have HL := Lib.hid hl
  have HRB := Lib.hid hrb
  have HOK := Lib.hid hok
  clear h hN k1 hel hl hrb hok
  go_enter Try.func17, Try.ntmps17
  go_wp2_with (first | (refine wpList_box32 i34 rfl (.tmp 1) rfl ks rfl HL.out ?_) | fail)
  intro w1 K1 hb1 hz1
  have HB1 := Lib.hid hb1
  have HZ1 := Lib.hid hz1
  clear hb1 hz1
  go_wp2_with fail
  have hg2 := heap_alloc_new w1 (.cells #[.int .i64 0, .slice none 0 0] 37)
  have hb2 := below_alc w1 (.cells #[.int .i64 0, .slice none 0 0] 37)
  obtain ⟨w2, hw2⟩ : ∃ w2, w1.alloc (.cells #[.int .i64 0, .slice none 0 0] 37) = w2 := ⟨_, rfl⟩
  rw [hw2] at hg2 hb2 ⊢
  have HK2 : Hid (Arr w2 34 w.heap.size ks) := (hb2.block _ (Arr.lt K1)).trans K1
  have HB2 := Lib.hid (HB1.out.trans (hb2.mono HB1.out.size))
  obtain ⟨gr, hgr⟩ : ∃ gr, w1.heap.size = gr := ⟨_, rfl⟩
  have hgr1 : w.heap.size < gr := by rw [← hgr, HZ1.out]; omega
  rw [hgr] at hg2 ⊢
  obtain ⟨gk, hgk⟩ : ∃ gk, w.heap.size = gk := ⟨_, rfl⟩
  rw [hgk] at HK2 ⊢
  have HG2 := Lib.hid hg2
  have HGR := Lib.hid (show w.heap.size ≤ gr by omega)
  have KPW : Hid (∀ W, Below w.heap.size w W → W.cell? ⟨rb, 0, none⟩ = some (.slice A1 N c1)) := fun W hW => (hW.cell (p := ⟨rb, 0, none⟩) HRB.out).trans HK1.out
  have HQ0 := Lib.hid (below_dN HB2.out 1)
  have HIN := Lib.hid (rin_any (N := N) (c := 32) (nms_len HL.out) ((HK2.out.keep (w' := w2.drew) rfl).byt (ok := fun b => b < w2.drew.heap.size) (Arr.lt HK2.out)) (fun _ h => h) (Nat.le_refl _) (by omega) (by omega))
  clear hg2 hb2 hw2 K1 hgr hgk hgr1
  go_region_held3 (fun W => W.cell? ⟨rb, 0, none⟩ = some (.slice A1 N c1)) (first | exact KPW.out _ HQ3.out | exact KPW.out _ HQ0.out) (first
    | (go_at_call 16; refine HIN.out.mono ?_; intro e w3 h3; obtain ⟨A3, n3, c3, rfl, hl3, q1, q2, hc3, hb3⟩ := inE_n h3; have hb23 : Below w2.heap.size w2 w3 := (Below.refl _ _).drew.trans hb3; have HQ3 := Lib.hid (HB2.out.trans (hb23.mono HB2.out.size)); have HG3 : Hid (w3.heap[gr]? = some (.cells #[.int .i64 0, .slice none 0 0] 37)) := (hb23.block gr (Array.getElem?_eq_some_iff.1 HG2.out).1).trans HG2.out; have HZ23 := Lib.hid hb23.size; have HZ2 := Lib.hid (Array.getElem?_eq_some_iff.1 HG2.out).1; clear h3 hb3 hb23)
    | fail)
  rw [nms_key HL.out] at hl3 hc3
  rcases Nat.eq_zero_or_pos (num ks (N + 1)) with e0 | e0
  · have hn3 : n3 = 0 := by
      rw [← hl3.out, if_neg (by omega)]
      rfl
    subst hn3
    have HE := Lib.hid e0
    clear hl3 hc3 e0
    go_wp2_with (refine wpList_store_row rfl 37 (.tmp 4) (.tmp 17) rfl gr #[.int .i64 0, .slice none 0 0] rfl rfl 37 #[.int .i64 0, .slice none 0 0] HG3.out size37 rfl (all2 rfl rfl) ?_)
    refine bodyPost_ret (results_c37 rfl _ _ gr _ rfl (setRow_heap w3 gr _ _ 37 _ HG3.out) rfl) rfl ⟨?_, .inl ⟨by rw [HN.out]; exact HE.out, rfl⟩⟩
    exact HQ3.out.trans (below_row w3 HGR.out)
  · obtain ⟨i, hi⟩ : ∃ i, num ks (N + 1) = i + 1 := ⟨num ks (N + 1) - 1, by omega⟩
    have hiN : i < N := by have := num_lt ks (N + 1) e0; omega
    rw [if_pos e0] at hl3 hc3
    have hn3 : n3 = 1 := hl3.out.symm
    subst hn3
    obtain ⟨g3, rfl, hg3, hx3⟩ := hc3.out 0 (by simp)
    have hx3' : w3.cell? ⟨g3, 0, none⟩ = some (.int .i64 ((i : Int) + 1)) := by
      rw [hx3, List.getElem_cons_zero, hi]
      rfl
    have HNE : Hid (g3 ≠ gr) := by
      have e1 := HZ2.out
      have e2 : w2.heap.size ≤ g3 := hg3
      show g3 ≠ gr
      omega
    obtain ⟨gT, A7, c7, rfl, k7, k8, hl7⟩ := HEL.out i (by rw [HN.out]; exact hiN)
    have hgT := World.block_lt_of_cell? w _ k7
    have c7' : w3.cell? ⟨gT, i * 2, none⟩ = some (.int .i64 (T[i]'(by rw [HN.out]; exact hiN)).1) := (HQ3.out.cell (p := ⟨gT, i * 2, none⟩) hgT).trans k7
    have c8' : w3.cell? ⟨gT, i * 2 + 1, none⟩ = some (.slice A7 (T[i]'(by rw [HN.out]; exact hiN)).2.length c7) := (HQ3.out.cell (p := ⟨gT, i * 2 + 1, none⟩) hgT).trans k8
    obtain ⟨x, hx⟩ : ∃ x, T[i]'(by rw [HN.out]; exact hiN) = x := ⟨_, rfl⟩
    rw [hx] at c7' c8' hl7
    obtain ⟨xl, hxl⟩ : ∃ xl, x.2.length = xl := ⟨_, rfl⟩
    rw [hxl] at c8'
    obtain ⟨xk, hxk⟩ : ∃ xk, x.1 = xk := ⟨_, rfl⟩
    rw [hxk] at c7'
    have HX := Lib.hid hx
    have HXL := Lib.hid hxl
    have HXK := Lib.hid hxk
    have HI := Lib.hid hi
    have HL7 := Lib.hid hl7
    have c0 : w3.cell? ⟨rb, 0, none⟩ = some (.slice (some ⟨gT, 0, none⟩) N c1) := KPW.out w3 HQ3.out
    unfold maxLen at hcm
    clear hl3 hc3 hx3 k7 k8 hx hxl hxk hi e0 hl7
    have CE : Hid (∀ W : World, (∀ b, b < w3.heap.size → b ≠ gr → W.heap[b]? = w3.heap[b]?) → W.cell? ⟨rb, 0, none⟩ = some (.slice (some ⟨gT, 0, none⟩) N c1) ∧ W.cell? ⟨g3, 0, none⟩ = some (.int .i64 ((i : Int) + 1)) ∧ W.cell? ⟨gT, i * 2, none⟩ = some (.int .i64 (xk : Int)) ∧ W.cell? ⟨gT, i * 2 + 1, none⟩ = some (.slice A7 xl c7)) := fun W hW => by
      have e1 := HRB.out
      have e2 := HGR.out
      have e3 := HQ3.out.size
      have e4 := World.block_lt_of_cell? w3 _ hx3'
      have e5 : g3 ≠ gr := HNE.out
      exact ⟨(World.cell?_of_block (hW rb (by omega) (by omega))).trans c0, (World.cell?_of_block (hW g3 e4 e5)).trans hx3', (World.cell?_of_block (hW gT (by simp only at hgT; omega) (by simp only at hgT; omega))).trans c7', (World.cell?_of_block (hW gT (by simp only at hgT; omega) (by simp only at hgT; omega))).trans c8'⟩
    have z1 : (0 : Int) ≤ (i : Int) := by omega
    have z2 : (i : Int) < (N : Int) := by omega
    have ai : IntKind.i64.wrap (i : Int) = (i : Int) := IntWalk.i64_in _ (by omega)
    clear hx3' c0 c7' c8' hgT
    go_wp2_with fail
    refine wp_region_held_drew (S := fun W => ∀ b, b < w3.heap.size → b ≠ gr → W.heap[b]? = w3.heap[b]?) (by kernel_rfl) (fun _ _ _ => rfl) (fun hHeld => ?_)
    refine' wpAnyH_take (i := 0) (oi := { dst := some 18, op := Op.move (Operand.tmp 0), type := 26, pos := "ref.go:68", after := #[], guard := none }) (v := .pointer (some ⟨rb, 0, none⟩)) rfl (by kernel_rfl) (by kernel_rfl) (by kernel_rfl) (fun _ _ _ h => h) (Or.inl ⟨by rfl, fun w' hSw => by go_simp⟩) (by assumption) ?qz1
    try simp only [Act.put, List.setIfInBounds_toArray, List.set_cons_zero, List.set_cons_succ]
    refine' wpAnyH_take (i := 1) (oi := { dst := some 19, op := Op.nilCheck (Operand.tmp 18), type := 0, pos := "ref.go:68", after := #[{ on := 0, ground := Ground.data }], guard := none }) (v := .pointer (some ⟨rb, 0, none⟩)) rfl (by kernel_rfl) (by kernel_rfl) (by kernel_rfl) (fun _ _ _ h => h) (Or.inl ⟨by rfl, fun w' hSw => by go_simp⟩) (by assumption) ?qz2
    try simp only [Act.put, List.setIfInBounds_toArray, List.set_cons_zero, List.set_cons_succ]
    refine' wpAnyH_take (i := 2) (oi := { dst := some 20, op := Op.fieldAddr 29 (Operand.tmp 19) 0, type := 0, pos := "ref.go:68", after := #[{ on := 1, ground := Ground.data }], guard := none }) (v := .pointer (some ⟨rb, 0, none⟩)) rfl (by kernel_rfl) (by kernel_rfl) (by kernel_rfl) (fun _ _ _ h => h) (Or.inl ⟨by rfl, fun w' hSw => by go_simp⟩) (by assumption) ?qz3
    try simp only [Act.put, List.setIfInBounds_toArray, List.set_cons_zero, List.set_cons_succ]
    refine' wpAnyH_take (i := 3) (oi := { dst := some 21, op := Op.load 27 (Operand.tmp 20), type := 27, pos := "ref.go:68", after := #[{ on := 2, ground := Ground.data }], guard := none }) (v := .slice (some ⟨gT, 0, none⟩) N c1) rfl (by kernel_rfl) (by kernel_rfl) (by kernel_rfl) (fun _ _ _ h => h) (Or.inl ⟨by rfl, fun w' hSw => by obtain ⟨s1, s2, s3, s4⟩ := CE.out _ hSw; go_simp⟩) (by assumption) ?qz4
    try simp only [Act.put, List.setIfInBounds_toArray, List.set_cons_zero, List.set_cons_succ]
    refine' wpAnyH_take (i := 4) (oi := { dst := some 22, op := Op.move (Operand.tmp 6), type := 42, pos := "ref.go:68", after := #[], guard := none }) (v := .slice (some ⟨g3, 0, none⟩) 1 c3) rfl (by kernel_rfl) (by kernel_rfl) (by kernel_rfl) (fun _ _ _ h => h) (Or.inl ⟨by rfl, fun w' hSw => by go_simp⟩) (by assumption) ?qz5
    try simp only [Act.put, List.setIfInBounds_toArray, List.set_cons_zero, List.set_cons_succ]
    refine' wpAnyH_take (i := 5) (oi := { dst := some 23, op := Op.indexAddr 42 (Operand.tmp 22) (Operand.const (Value.int IntKind.i64 0)), type := 0, pos := "ref.go:68", after := #[{ on := 4, ground := Ground.data }], guard := none }) (v := .pointer (some ⟨g3, 0, none⟩)) rfl (by kernel_rfl) (by kernel_rfl) (by kernel_rfl) (fun _ _ _ h => h) (Or.inl ⟨by rfl, fun w' hSw => by go_simp⟩) (by assumption) ?qz6
    try simp only [Act.put, List.setIfInBounds_toArray, List.set_cons_zero, List.set_cons_succ]
    refine' wpAnyH_take (i := 6) (oi := { dst := some 24, op := Op.load 3 (Operand.tmp 23), type := 3, pos := "ref.go:68", after := #[{ on := 5, ground := Ground.data }], guard := none }) (v := .int .i64 ((i : Int) + 1)) rfl (by kernel_rfl) (by kernel_rfl) (by kernel_rfl) (fun _ _ _ h => h) (Or.inl ⟨by rfl, fun w' hSw => by obtain ⟨s1, s2, s3, s4⟩ := CE.out _ hSw; go_simp⟩) (by assumption) ?qz7
    try simp only [Act.put, List.setIfInBounds_toArray, List.set_cons_zero, List.set_cons_succ]
    refine' wpAnyH_take (i := 7) (oi := { dst := some 25, op := Op.binOp BinOp.sub 3 (Operand.tmp 24) (Operand.const (Value.int IntKind.i64 1)) 3, type := 3, pos := "ref.go:68", after := #[{ on := 6, ground := Ground.data }], guard := none }) (v := .int .i64 (i : Int)) rfl (by kernel_rfl) (by kernel_rfl) (by kernel_rfl) (fun _ _ _ h => h) (Or.inl ⟨by rfl, fun w' hSw => by go_simp⟩) (by assumption) ?qz8
    try simp only [Act.put, List.setIfInBounds_toArray, List.set_cons_zero, List.set_cons_succ]
    refine' wpAnyH_take (i := 8) (oi := { dst := some 26, op := Op.indexAddr 27 (Operand.tmp 21) (Operand.tmp 25), type := 0, pos := "ref.go:68", after := #[{ on := 3, ground := Ground.data }, { on := 7, ground := Ground.data }], guard := none }) (v := .pointer (some ⟨gT, i * 2, none⟩)) rfl (by kernel_rfl) (by kernel_rfl) (by kernel_rfl) (fun _ _ _ h => h) (Or.inl ⟨by rfl, fun w' hSw => by go_simp⟩) (by assumption) ?qz9
    try simp only [Act.put, List.setIfInBounds_toArray, List.set_cons_zero, List.set_cons_succ]
    refine' wpAnyH_take (i := 9) (oi := { dst := some 27, op := Op.load 37 (Operand.tmp 26), type := 37, pos := "ref.go:68", after := #[{ on := 8, ground := Ground.data }], guard := none }) (v := .agg #[.int .i64 (xk : Int), .slice A7 xl c7]) rfl (by kernel_rfl) (by kernel_rfl) (by kernel_rfl) (fun _ _ _ h => h) (Or.inl ⟨by rfl, fun w' hSw => by obtain ⟨s1, s2, s3, s4⟩ := CE.out _ hSw; go_simp⟩) (by assumption) ?qz10
    try simp only [Act.put, List.setIfInBounds_toArray, List.set_cons_zero, List.set_cons_succ]
    refine wpAnyH_ready (rs := [10]) (by kernel_rfl) (by simp) ?_
    refine AllReadyH.cons (o := { dst := none, op := Op.store 37 (Operand.tmp 4) (Operand.tmp 27), type := 0, pos := "ref.go:68", after := #[{ on := 9, ground := Ground.data }, { on := 0, ground := Ground.phase }, { on := 1, ground := Ground.phase }, { on := 2, ground := Ground.phase }, { on := 3, ground := Ground.phase }, { on := 4, ground := Ground.phase }, { on := 5, ground := Ground.phase }, { on := 6, ground := Ground.phase }, { on := 7, ground := Ground.phase }, { on := 8, ground := Ground.phase }, { on := 9, ground := Ground.phase }], guard := none }) rfl (fun K hK => ?_) AllReadyH.nil
    rw [if_pos (by rfl)]
    refine wp_store_row 37 (.tmp 4) (.tmp 27) rfl gr #[.int .i64 (xk : Int), .slice A7 xl c7] rfl rfl 37 #[.int .i64 0, .slice none 0 0] HG3.out size37 rfl (all2 rfl rfl) ?_
    refine hK.out _ _ (fun b _ hb => setRow_other _ gr b _ hb) (fun hHeld => ?_)
    clear hK K
    dsimp only [Act.put]
    refine wpAnyH_ready (rs := [11]) (by kernel_rfl) (by simp) ?_
    refine AllReadyH.cons (o := { dst := some 5, op := Op.assign (Operand.const (Value.bool true)), type := 4, pos := "ref.go:68", after := #[{ on := 10, ground := Ground.chain }, { on := 0, ground := Ground.phase }, { on := 1, ground := Ground.phase }, { on := 2, ground := Ground.phase }, { on := 3, ground := Ground.phase }, { on := 4, ground := Ground.phase }, { on := 5, ground := Ground.phase }, { on := 6, ground := Ground.phase }, { on := 7, ground := Ground.phase }, { on := 8, ground := Ground.phase }, { on := 9, ground := Ground.phase }, { on := 10, ground := Ground.phase }], guard := none }) rfl (fun K hK => ?_) AllReadyH.nil
    rw [if_pos (by rfl)]
    go_simp
    refine hK.out _ _ (fun b _ hb => setRow_other _ gr b _ hb) (fun hHeld => ?_)
    clear hK K
    try simp only [Act.put, List.setIfInBounds_toArray, List.set_cons_zero, List.set_cons_succ]
    refine wpAnyH_done (by kernel_rfl) ?_ _
    clear CE ai z1 z2
    go_wp2_with fail
    refine bodyPost_ret (results_c37 rfl _ _ gr _ rfl (setRow_heap w3.drew gr _ _ 37 _ HG3.out) rfl) rfl ⟨?_, .inr ?_⟩
    · exact (below_dN HQ3.out 1).trans (below_row w3.drew HGR.out)
    · exact rof_end HN.out (by rw [HN.out]; exact HI.out) hiN HX.out HXK.out HXL.out (lst_row HL7.out HQ3.out HOK.out HGR.out)
end Go.Proofs.Ytbhfjjlfpgineaa
