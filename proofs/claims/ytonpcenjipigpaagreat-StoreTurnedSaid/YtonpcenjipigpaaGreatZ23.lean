/- lay: a record's blocks are written, then synced. Conditions: they have room; at most 2^20 writes wait. -/
import Derived.Test.YtonpcenjipigpaaGreatZ22
namespace Go.Proofs.YtonpcenjipigpaaGreat
open Go.RowKit Go.Shelf
attribute [local go_sem] Oper.semAt_some
theorem boxes6 (w : World) (a1 a2 a3 a4 a5 a6 : Value) (t1 t2 t3 t4 t5 t6 : TypeId) {W : World} (hW : W = (((((w.alloc (.cells #[a1] t1)).alloc (.cells #[a2] t2)).alloc (.cells #[a3] t3)).alloc (.cells #[a4] t4)).alloc (.cells #[a5] t5)).alloc (.cells #[a6] t6)) :
    Blk W w.heap.size t1 [a1] ∧ Blk W (w.heap.size + 1) t2 [a2] ∧ Blk W (w.heap.size + 2) t3 [a3] ∧ Blk W (w.heap.size + 3) t4 [a4] ∧ Blk W (w.heap.size + 4) t5 [a5] ∧ Blk W (w.heap.size + 5) t6 [a6] ∧ w.grownBy W none ∧ W.heap.size = w.heap.size + 6 := by
  subst hW
  have g : ∀ (X : World) (o : Obj), X.grownBy (X.alloc o) none := fun X o => World.grownBy_alloc X o none
  have n : ∀ (X : World) (v : Value) (t : TypeId) (k : Nat), k = X.heap.size → Blk (X.alloc (.cells #[v] t)) k t [v] := fun X v t k hk => by subst hk; exact Blk.of_alloc X #[v] t
  refine ⟨?_, ?_, ?_, ?_, ?_, n _ _ _ _ (by simp), ?_, by simp⟩
  · exact (((((n w a1 t1 _ rfl).grown (g _ _) (by simp)).grown (g _ _) (by simp)).grown (g _ _) (by simp)).grown (g _ _) (by simp)).grown (g _ _) (by simp)
  · exact ((((n _ a2 t2 _ (by simp)).grown (g _ _) (by simp)).grown (g _ _) (by simp)).grown (g _ _) (by simp)).grown (g _ _) (by simp)
  · exact (((n _ a3 t3 _ (by simp)).grown (g _ _) (by simp)).grown (g _ _) (by simp)).grown (g _ _) (by simp)
  · exact ((n _ a4 t4 _ (by simp)).grown (g _ _) (by simp)).grown (g _ _) (by simp)
  · exact (n _ a5 t5 _ (by simp)).grown (g _ _) (by simp)
  · exact (((((g w _).trans (g _ _)).trans (g _ _)).trans (g _ _)).trans (g _ _)).trans (g _ _)
theorem Byt.blk {w : World} {ok : Nat → Prop} {g o : Nat} {b : List UInt8} (h : Byt w ok (some ⟨g, o, none⟩) b) {k : Nat} : Byt w ok (some ⟨g, o + 64 * k, none⟩) (blk b k) := fun j hj => by
  have hj2 : j < 64 := by have := hj; unfold Go.Proofs.YtonpcenjipigpaaGreat.blk at this; rw [List.length_take] at this; omega
  have hl : 64 * k + j < b.length := by have := hj; unfold Go.Proofs.YtonpcenjipigpaaGreat.blk at this; rw [List.length_take, List.length_drop] at this; omega
  obtain ⟨ad, e, h1, h2⟩ := h (64 * k + j) hl
  cases e
  refine ⟨_, rfl, h1, ?_⟩
  have e2 : (Go.Proofs.YtonpcenjipigpaaGreat.blk b k)[j] = b[64 * k + j] := by
    have := blk_get b k j hj2
    rw [List.getElem?_eq_getElem hj, List.getElem?_eq_getElem hl] at this
    exact Option.some.inj this
  rw [e2, ← h2, Addr.add_mid, Addr.add_mid, Nat.add_assoc]
section
variable {F : Fence} {n : Nat} {ops : Array Oper} {Q : Exit → Act → World → Prop} {a : Act} {w : World} {rest : List Oper} {o : Oper}
theorem wpListIn_store_cell (hgd : o.guard = none) (ty : TypeId) (x y : Operand) (ho : o.op = .store ty x y) (hs : (Tryz.prog.info? ty).map (·.size) = some 1) (b i : Nat) (v : Value) (hx : a.eval x = .pointer (some ⟨b, i, none⟩)) (hy : a.eval y = v) (h1 : v.oneCell' = true)
    (cs : List Value) (t : TypeId) (hb : w.heap[b]? = some (.cells cs.toArray t (0, 0))) (hi : i < cs.length)
    (h : ∀ w', Hid (w'.heap[b]? = some (.cells (cs.set i v).toArray t (0, 0))) → Hid (Wr b w w') → wpListIn F n Tryz.prog ops Q rest (a.put o.dst undef) w') : wpListIn F n Tryz.prog ops Q (o :: rest) a w := by
  have hrun := run_storeAt_cell w ty b i v h1 cs t hb hi hs
  refine wpListIn_skips hgd (by simp [ho]) (by simp [Oper.about, ho]) (w' := w.setRow b (cs.set i v).toArray) ?_ (h _ (setRow_heap w b _ _ t _ hb) (wr_setRow w b _))
  unfold execOp
  simp only [ho, hx, hy, Sem.run_bind, hrun, Sem.run_pure, Result.andThen_ok]
end
theorem results_cell1 {fn : Func} {p : Tmp} (h : fn.results = #[.cell p 29]) (tmps : Array Value) (w : World) (g : Nat) (v : Int) (hp : tmps.getD p undef = .pointer (some ⟨g, 0, none⟩)) (hb : Blk w g 29 [.int .i64 v]) :
    (results fn tmps).run Tryz.prog w = .ok (.int .i64 v) w := by
  have hp' : tmps[p]?.getD undef = .pointer (some ⟨g, 0, none⟩) := by simpa using hp
  have hc : w.cell? ⟨g, 0, none⟩ = some (.int .i64 v) := hb.get 0 _ rfl
  have hl : (loadVar 29 ⟨g, 0, none⟩).run Tryz.prog w = .ok (.int .i64 v) w := by
    simp [loadVar, hc, go_sem]
  simp [results, h, hp', asAddr, hl]
/-- A disk's call within a round: what is known behind it. -/
structure Stp (foot : Nat → Prop) (w : World) (z dp : Nat) (s : St) (V W : World) : Prop where
  disk : ∃ f, Dsk W f dp s ∧ ∀ j, f j → ((foot j ∧ j < w.heap.size) ∨ z ≤ j) ∧ ∃ o : Obj, W.heap[j]? = some o ∧ o.isCells = true
  md : Md foot w W
  keeps : KeepsFrom z V W
  box : ∀ k, w.heap.size ≤ k → k < z → W.heap[k]? = V.heap[k]?
  size : z ≤ W.heap.size
theorem Stp.of_nxt {foot f : Nat → Prop} {w V W : World} {z dp : Nat} {s3 : St} (hf : ∀ j, f j → ((foot j ∧ j < w.heap.size) ∨ z ≤ j) ∧ ∃ o : Obj, V.heap[j]? = some o ∧ o.isCells = true) (md : Md foot w V) (hz : w.heap.size ≤ z) (sz : z ≤ V.heap.size) (hn : Nxt V f dp s3 W) : Stp foot w z dp s3 V W := by
  obtain ⟨f3, hd3, hf3, hm3⟩ := hn
  refine ⟨⟨_, hd3.tight, fun j hj => ⟨?_, hj.2⟩⟩, md.trans_ext hm3 fun k hk => ?_, ⟨hm3.size, fun k o hB hk ho => (hm3.block k (Array.getElem?_eq_some_iff.1 hk).1 fun hfk => ?_).trans hk⟩, fun k h1 h2 => hm3.block k (by omega) fun hfk => ?_, Nat.le_trans sz hm3.size⟩
  · rcases hf3 j hj.1 with h | ⟨h, _⟩
    · exact (hf j h).1
    · exact .inr (by omega)
  · rcases hf k hk with ⟨h | h, o, ho, _⟩
    · exact .inl h.1
    · exact .inr ⟨by omega, (Array.getElem?_eq_some_iff.1 ho).1⟩
  · obtain ⟨-, o', ho', hc'⟩ := hf k hfk
    rw [hk] at ho'
    cases ho'
    rw [ho] at hc'
    cases hc'
  · rcases (hf k hfk).1 with h | h <;> omega
theorem Stp.wr {foot : Nat → Prop} {w V W W4 : World} {z dp g : Nat} {s3 : St} (h : Stp foot w z dp s3 V W) (hw : Wr g W W4) (hg : w.heap.size ≤ g) (hgz : g < z) :
    (∃ f, Dsk W4 f dp s3 ∧ ∀ j, f j → ((foot j ∧ j < w.heap.size) ∨ z ≤ j) ∧ ∃ o : Obj, W4.heap[j]? = some o ∧ o.isCells = true) ∧ Md foot w W4 ∧ KeepsFrom z V W4 ∧ (∀ k, w.heap.size ≤ k → k < z → k ≠ g → W4.heap[k]? = V.heap[k]?) ∧ z ≤ W4.heap.size := by
  obtain ⟨⟨f, hd, hf⟩, md, hk, hb, sz⟩ := h
  have hne : ∀ j, f j → j ≠ g := fun j hj e => by
    rcases (hf j hj).1 with h | h <;> omega
  refine ⟨⟨f, hd.keep (Nat.le_of_eq hw.size.symm) fun k hfk => hw.block k (hne k hfk), fun j hj => ⟨(hf j hj).1, ?_⟩⟩, md.grownBy hw.grown (fun r e => by cases e; exact hg), hk.trans ⟨Nat.le_of_eq hw.size.symm, fun k o hB ho _ => (hw.block k (by omega)).trans ho⟩, fun k h1 h2 h3 => (hw.block k h3).trans (hb k h1 h2), Nat.le_trans sz (Nat.le_of_eq hw.size.symm)⟩
  obtain ⟨-, o, ho, hc⟩ := hf j hj
  exact ⟨o, (hw.block j (hne j hj)).trans ho, hc⟩
theorem nxt_put {foot f : Nat → Prop} {w W : World} {z dp D : Nat} {s : St} {o : Obj} (hd : Dsk W f dp s) (hf : ∀ j, f j → ((foot j ∧ j < w.heap.size) ∨ z ≤ j) ∧ ∃ o : Obj, W.heap[j]? = some o ∧ o.isCells = true) (md : Md foot w W) (hz : w.heap.size ≤ z) (hD : W.heap[D]? = some o) (ho : o.isCells = false) (hDz : z ≤ D) (o' : Obj) :
    Nxt w foot dp s (W.putObj D o') := by
  have hg := grownBy_putObj' W D o'
  obtain ⟨hd', hf'⟩ := disk_grown hd hf hg (fun r e => by cases e; exact ⟨o, hD, ho⟩)
  refine ⟨f, hd', fun k hk => ?_, md.grownBy hg fun r e => by cases e; omega⟩
  rcases hf' k hk with ⟨h | h, o2, h2, _⟩
  · exact .inl h.1
  · exact .inr ⟨by omega, (Array.getElem?_eq_some_iff.1 h2).1⟩
set_option maxRecDepth 100000 in
set_option maxHeartbeats 4000000 in
theorem lay_in (Fe : Fence) (hFe : Hid (Fe = Fence.wide)) (n : Nat) (hn : 8 ≤ n) (hfn : ∀ f, Fe.fn f) (hro : Fe.round = none) (hw : ∀ m f args w R, Calls Tryz.prog f args w R → CallsIn Fe m Tryz.prog f args w R) {foot : Nat → Prop} {w : World} {sp dp hf hf0 a M g o cp i0 : Nat} {b : List UInt8} {s : St} {ok : Nat → Prop} (hs : Beg w sp dp hf0) (hsf : ¬ foot sp) (hd : Dsk w foot dp s) (hhf : hf ≤ 1) (ha : a + M ≤ 4096) (hi0 : i0 = hf * (s.n / 2) + a) (hin : i0 + M ≤ s.n)
    (hb : Byt w ok (some ⟨g, o, none⟩) b) (hbl : b.length = 64 * M) (hcp : 64 * M ≤ cp) (hok : ∀ k, ok k → k < w.heap.size ∧ ¬ foot k) (hL : s.L.length + M ≤ 1048576) :
    CallsIn Fe n Tryz.prog 69 #[.pointer (some ⟨sp, 0, none⟩), .int .i64 (hf : Int), .int .u64 (a : Int), .slice (some ⟨g, o, none⟩) (64 * M) cp] w fun e w' => e = .returned (.int .i64 ((s.laid i0 (cuts b M)).1 : Nat)) ∧ Nxt w foot dp (s.laid i0 (cuts b M)).2 w' := by
  have h1 : 1 ≤ n := by omega
  have hM : M ≤ 65536 := by omega
  have h62 : Fe.fn 87 := hfn _
  have h71 : Fe.fn 97 := hfn _
  have h35 : Fe.fn 24 := hfn _
  have h36 : Fe.fn 56 := hfn _
  have h38 : Fe.fn 26 := hfn _
  refine callsIn_of_wp_marks Tryz.func69 rfl (hfn _) ?_ hro
  simp only [Tryz.ntmps69, List.size_toArray, List.length_cons, List.length_nil, Nat.reduceAdd, Nat.reduceSub, Array.replicate_succ, Array.replicate_zero, List.push_toArray, List.append_toArray, List.nil_append, List.cons_append]
  gi_wp2_with (gi_at_call 87; refine (chunk_make Fe (n - 1) h62 hro _ _ _ _).mono ?_; rintro e w' ⟨rfl, rfl⟩)
  simp only [Nat.add_assoc, Nat.reduceAdd]
  obtain ⟨W0, hW0⟩ : ∃ W0, W0 = (((((w.alloc (.cells #[.pointer (some ⟨sp, 0, none⟩)] 28)).alloc (.cells #[.int .i64 (hf : Int)] 3)).alloc (.cells #[.int .u64 (a : Int)] 49)).alloc (.cells #[.int .i64 0] 29)).alloc (.cells #[.slice (some ⟨g, o, none⟩) (64 * M) cp] 40)).alloc (.cells #[.int .i64 64] 3) := ⟨_, rfl⟩
  obtain ⟨x0, x1, x2, x3, x4, x5, hg0, hz0⟩ := boxes6 w _ _ _ _ _ _ _ _ _ _ _ _ hW0
  rw [← hW0]
  clear hW0
  have hsl := hs.lt
  have hclen : (cuts b M).length = M := by simp [cuts]
  refine wpIn_rangeFunc_ownH hro h1 (gf := 97) (lb := #[.pointer (some ⟨w.heap.size + 4, 0, none⟩), .pointer (some ⟨w.heap.size + 5, 0, none⟩)]) rfl h71 (enters_of Tryz.func97 (by kernel_rfl) rfl)
    (chunk_stops Fe (n - 1) h71 hro (by omega) (w.heap.size + 4) (w.heap.size + 5) g o M cp hM hcp W0 (by omega) (by omega) (x4.get 0 _ rfl) (x5.get 0 _ rfl)) (Kp2.trans) (fun W l oo o' hl _ _ _ => ⟨World.putObj_heap_other (fun e => by omega), World.putObj_heap_other (fun e => by omega)⟩) (Below.refl _ _) (fun _ => rfl)
    (fun pre V => LayAt foot w sp dp hf a b i0 s W0.heap.size (pre.map (fun x : Und M => x.1)) V)
    (fun c pre V => c = .ret ∧ LayEnd foot w dp b i0 s W0.heap.size (pre.map (fun x : Und M => x.1)) V)
    (fun pre X Y row hs hg hr => hs.own hg (by omega) hr)
    (fun c pre X Y row hs hg hr => ⟨hs.1, hs.2.own hg (by omega) hr⟩)
    ⟨⟨_, s, (hd.tight).grown hg0, fun j hj => ⟨.inl ⟨hj.1, hd.lt j hj.1⟩, by obtain ⟨o', h1', h2'⟩ := hj.2; exact ⟨o', (hg0.block j (hd.lt j hj.1) (by simp)).trans h1', h2'⟩⟩, rfl, by simp, by simp⟩, Md.of_grown hg0 (by simp), x0, x1, by simpa using x2, x3, Nat.le_refl _⟩
    (fun (x : Und M) a' _ => a' = { tmps := #[.pointer (some ⟨sp, 0, none⟩), .int .i64 (hf : Int), .int .u64 (a : Int), .slice (some ⟨g, o, none⟩) (64 * M) cp, .pointer (some ⟨w.heap.size, 0, none⟩), .pointer (some ⟨w.heap.size + 1, 0, none⟩), .pointer (some ⟨w.heap.size + 2, 0, none⟩), undef, .pointer (some ⟨w.heap.size + 3, 0, none⟩), .slice (some ⟨g, o + 64 * x.1, none⟩) 64 64, undef, .slice (some ⟨g, o, none⟩) (64 * M) cp, .func (.func 97) #[] #[.pointer (some ⟨w.heap.size + 4, 0, none⟩), .pointer (some ⟨w.heap.size + 5, 0, none⟩)], .slice (some ⟨g, o + 64 * x.1, none⟩) 64 64, undef, undef, undef, undef, undef, undef, undef, undef, undef, undef, undef, undef, undef, undef, undef, undef, undef, undef, undef, undef], defers := [] })
    (fun x a' _ X Y row hs hg hr => hs)
    ?assign ?body ?done ?stop
  case assign =>
    rintro l pre x V K hI hK
    gi_wp2
    exact hK _ _ (KeepsFrom.refl _ _) (Kp2.refl _ _ _) hI rfl
  case body =>
    rintro l pre x a' V hl ⟨r, hr'⟩ ⟨⟨f, s', hd', hf', hn', hL', hlaid⟩, md, b0, b1, b2, b3, sz⟩ rfl hlt
    simp only [List.length_map] at hL' hlaid b2
    obtain ⟨q, hq⟩ : ∃ q, q = a + pre.length := ⟨_, rfl⟩
    rw [← hq] at b2
    have c0 : V.cell? ⟨w.heap.size, 0, none⟩ = some (.pointer (some ⟨sp, 0, none⟩)) := b0.get 0 _ rfl
    have c1 : V.cell? ⟨w.heap.size + 1, 0, none⟩ = some (.int .i64 (hf : Int)) := b1.get 0 _ rfl
    have c2 : V.cell? ⟨w.heap.size + 2, 0, none⟩ = some (.int .u64 (q : Int)) := b2.get 0 _ rfl
    have hsV : Beg V sp dp hf0 := hs.keep (md.block sp hsl hsf)
    have c3 : V.cell? ⟨sp, 0, none⟩ = some (.pointer (some ⟨dp, 0, none⟩)) := by
      obtain ⟨_, _, _, _, hbb⟩ := hsV
      exact hbb.get 0 _ rfl
    have hiq : hf * (s'.n / 2) + q = i0 + pre.length := by rw [hn', hi0, hq]; omega
    have hpl := place_any (w := V.drew) (s := s') (foot := f) (h := hf) (a := q) hsV (hd'.grown (grown_drewN 1)) hhf (by omega)
    rw [hiq] at hpl
    have hbV : Byt V.drew ok (some ⟨g, o, none⟩) b := hb.keep fun k hk => md.block k (hok k hk).1 (hok k hk).2
    have hbl64 : (blk b x.1).length = 64 := blk_length hbl x.2
    have hfV : ∀ k, ok k → k < V.drew.heap.size ∧ ¬ f k := fun k hk => ⟨Nat.lt_of_lt_of_le (hok k hk).1 md.size, fun hfk => by
      rcases (hf' k hfk).1 with h2 | h2
      · exact (hok k hk).2 h2.1
      · have := (hok k hk).1; omega⟩
    have hwr := write_any (w := V.drew) (c := 64) (hd'.grown (grown_drewN 1)) (i := i0 + pre.length) (by omega) (hbV.blk (k := x.1)) hbl64 rfl hfV (by omega)
    obtain ⟨ix, hix⟩ : ∃ ix, ix = i0 + pre.length := ⟨_, rfl⟩
    rw [← hix] at hpl hwr
    have HIX := Lib.hid hix
    have HI0 := Lib.hid hi0
    have hdep : 1 ≤ n - 1 - 1 := by omega
    have hmx : Tryz.prog.follows .mixedOrders = true := by kernel_rfl
    have H0 := Lib.hid b0
    have H1 := Lib.hid b1
    have H2 := Lib.hid b2
    have H3 := Lib.hid b3
    have HMD := Lib.hid md
    have HF := Lib.hid hf'
    have HSZ := Lib.hid sz
    have HL := Lib.hid hlaid
    have HQ := Lib.hid hq
    clear b0 b1 b2 b3 md hf' sz hlaid hr' hfV hbV hbl64 hsV hq hiq x0 x1 x2 x3 x4 x5 hg0 hi0 hix hin
    cases hgo : s'.goes with
    | false =>
      have e1 : s'.wroteE = 150 := by simp [St.wroteE, hgo]
      have E2 : Hid (∀ cs, s.laid i0 ((pre ++ [x]).map (fun x : Und M => x.1) |>.map (blk b) |>.append cs) = (150, s'.wrote ix (blk b x.1))) := by
        refine Lib.hid fun cs => ?_
        have := HL.out (blk b x.1 :: cs)
        rw [St.laid, e1, if_neg (by decide), ← HIX.out] at this
        rw [← this]
        simp
      rw [e1] at hwr
      clear e1 hgo
      gi_wp2
      refine wpIn_region_round_tail 9 hFe hmx (by kernel_rfl) (by simp) ?_
      simp only [List.take_succ_cons, List.take_zero, List.drop_succ_cons, List.drop_zero]
      repeat still_step
      still_call (hpl.mono fun e W ⟨he, hW⟩ => ⟨he, hW.symm⟩)
      repeat still_step
      refine wpStill_nil ?_
      go_wp2_with (go_at_call 24; refine hwr.mono ?_; rintro _ w3 ⟨rfl, hn3⟩)
      have hst := Stp.of_nxt HF.out HMD.out (by omega) HSZ.out (Nxt.left (grown_drewN 1 : V.grownBy V.drew none) hn3)
      clear hn3
      have H33 : Hid (Blk w3 (w.heap.size + 3) 29 [.int .i64 0]) := Lib.hid (H3.out.keep (hst.box _ (by omega) (by omega)))
      have HST := Lib.hid hst
      clear hst
      gi_wp2_with (first | (refine wpListIn_store_cell rfl 29 _ _ rfl (by kernel_rfl) (w.heap.size + 3) 0 (.int .i64 150) rfl rfl rfl _ _ H33.out (by simp) ?_; intro W4 K4 R4) | fail)
      obtain ⟨⟨f4, hd4, hf4⟩, md4, hk4, hb4, hs4⟩ := HST.out.wr R4.out (by omega) (by omega)
      exact ⟨hk4, rfl, ⟨⟨f4, _, hd4, by simpa using E2.out, hf4⟩, md4, K4.out, hs4⟩⟩
    | true =>
      have e1 : s'.wroteE = 0 := by simp [St.wroteE, hgo]
      have E2 : Hid (∀ cs, s.laid i0 ((pre ++ [x]).map (fun x : Und M => x.1) |>.map (blk b) |>.append cs) = (s'.wrote ix (blk b x.1)).laid (ix + 1) cs) := by
        refine Lib.hid fun cs => ?_
        have := HL.out (blk b x.1 :: cs)
        rw [St.laid, e1, if_pos rfl, ← HIX.out] at this
        rw [← this]
        simp
      have E3 : Hid ((s'.wrote ix (blk b x.1)).n = s.n ∧ (s'.wrote ix (blk b x.1)).L.length ≤ s.L.length + (pre.length + 1)) := by
        refine Lib.hid ⟨(St.wrote_n _ _ _).trans hn', ?_⟩
        have : (s'.wrote ix (blk b x.1)).L.length = s'.L.length + 1 := by
          unfold St.wrote
          rw [if_pos hgo]
          simp [St.write, St.burn]
        omega
      rw [e1] at hwr
      clear e1 hgo
      gi_wp2
      refine wpIn_region_round_tail 9 hFe hmx (by kernel_rfl) (by simp) ?_
      simp only [List.take_succ_cons, List.take_zero, List.drop_succ_cons, List.drop_zero]
      repeat still_step
      still_call (hpl.mono fun e W ⟨he, hW⟩ => ⟨he, hW.symm⟩)
      repeat still_step
      refine wpStill_nil ?_
      go_wp2_with (go_at_call 24; refine hwr.mono ?_; rintro _ w3 ⟨rfl, hn3⟩)
      have hst := Stp.of_nxt HF.out HMD.out (by omega) HSZ.out (Nxt.left (grown_drewN 1 : V.grownBy V.drew none) hn3)
      clear hn3
      have H22 : Hid (Blk w3 (w.heap.size + 2) 49 [.int .u64 (q : Int)]) := Lib.hid (H2.out.keep (hst.box _ (by omega) (by omega)))
      have c23 : w3.cell? ⟨w.heap.size + 2, 0, none⟩ = some (.int .u64 (q : Int)) := H22.out.get 0 _ rfl
      have HST := Lib.hid hst
      clear hst
      have hq64 : (q : Int) + 1 < 18446744073709551616 := by have := HQ.out; omega
      gi_wp2_with (first | (refine wpListIn_store_cell rfl 49 _ _ rfl (by kernel_rfl) (w.heap.size + 2) 0 (.int .u64 ((q : Int) + 1)) rfl rfl rfl _ _ H22.out (by simp) ?_; intro W4 K4 R4) | fail)
      obtain ⟨⟨f4, hd4, hf4⟩, md4, hk4, hb4, hs4⟩ := HST.out.wr R4.out (by omega) (by omega)
      have hqq := HQ.out
      refine ⟨hk4, ⟨hb4 _ (by omega) (by omega) (by omega), hb4 _ (by omega) (by omega) (by omega)⟩, ⟨⟨f4, _, hd4, hf4, E3.out.1, by simpa using E3.out.2, ?_⟩, md4, H0.out.keep (hb4 _ (by omega) (by omega) (by omega)), H1.out.keep (hb4 _ (by omega) (by omega) (by omega)), ?_, H3.out.keep (hb4 _ (by omega) (by omega) (by omega)), hs4⟩⟩
      · have := E2.out
        simp only [List.length_map, List.length_append, List.length_cons, List.length_nil]
        rw [show i0 + (pre.length + (0 + 1)) = ix + 1 by have := HIX.out; omega]
        simpa using this
      · refine K4.out.trans ?_
        simp only [List.length_map, List.length_append, List.length_cons, List.length_nil, hqq]
        simp [Int.add_assoc]
  case done =>
    rintro D ys V hD hS ⟨⟨f, s', hd', hf', hn', hL', hlaid⟩, md, b0, b1, b2, b3, sz⟩ hK
    have c0 : V.cell? ⟨w.heap.size, 0, none⟩ = some (.pointer (some ⟨sp, 0, none⟩)) := b0.get 0 _ rfl
    have c3 : V.cell? ⟨sp, 0, none⟩ = some (.pointer (some ⟨dp, 0, none⟩)) := by
      obtain ⟨_, _, _, _, hbb⟩ := hs.keep (md.block sp hsl hsf)
      exact hbb.get 0 _ rfl
    have hkp := keep_any hd'
    have E : Hid (s.laid i0 (cuts b M) = (s'.keptE, s'.synced)) := by
      refine Lib.hid ?_
      have := hlaid []
      rw [hS, List.append_nil] at this
      exact this
    have HD := Lib.hid hD
    have HK := Lib.hid hK
    have HMD := Lib.hid md
    have HF := Lib.hid hf'
    have HSZ := Lib.hid sz
    have H3 := Lib.hid b3
    clear b0 b1 b2 b3 md hf' sz hlaid hK hS hn' hL' hD
    gi_wp2_with (first
      | (gi_at_call 26; refine (hw _ _ _ _ _ hkp).mono ?_; rintro _ w4 ⟨rfl, hd4, hm4⟩
         have hst := Stp.of_nxt HF.out HMD.out (by omega) HSZ.out (Nxt.of_md hd4 hm4)
         have H33 : Hid (Blk w4 (w.heap.size + 3) 29 [.int .i64 0]) := Lib.hid (H3.out.keep (hst.box _ (by omega) (by omega)))
         have HST := Lib.hid hst
         clear hst hm4 hd4)
      | (refine wpListIn_store_cell rfl 29 _ _ rfl (by kernel_rfl) (w.heap.size + 3) 0 (.int .i64 (s'.keptE : Nat)) rfl rfl rfl _ _ H33.out (by simp) ?_; intro W4 K4 R4)
      | fail)
    obtain ⟨⟨f4, hd4, hf4⟩, md4, hk4, hb4, hs4⟩ := HST.out.wr R4.out (by omega) (by omega)
    have hKD := hk4.same D _ HD.out HK.out rfl
    have hDD := HD.out
    have hb5 : Blk (W4.putObj D (.deferred none)) (w.heap.size + 3) 29 [.int .i64 (s'.keptE : Nat)] := Blk.grown K4.out (grownBy_putObj' W4 D (.deferred none)) (by simp; omega)
    refine ⟨by simp, .inl ⟨_, _, rfl, run_takeDeferred hKD, ?_⟩⟩
    refine ⟨_, results_cell1 rfl _ _ (w.heap.size + 3) _ rfl hb5, ?_⟩
    rw [E.out]
    exact ⟨rfl, nxt_put hd4 hf4 md4 (by omega) hKD rfl hDD _⟩
  case stop =>
    rintro D c pre V hD ⟨k, hk, hpre⟩ ⟨rfl, ⟨f, s', hd', hl', hf'⟩, md, b3, sz⟩ hK
    have E : Hid (s.laid i0 (cuts b M) = (150, s')) := by
      refine Lib.hid ?_
      have := hl' ((cuts b M).drop k)
      rw [hpre, ← cuts_split b hk] at this
      exact this
    gi_wp2
    have hb5 : Blk (V.putObj D (.deferred none)) (w.heap.size + 3) 29 [.int .i64 150] := Blk.grown b3 (grownBy_putObj' V D (.deferred none)) (by simp; omega)
    refine ⟨by simp, .inl ⟨_, _, rfl, run_takeDeferred hK, ?_⟩⟩
    refine ⟨_, results_cell1 rfl _ _ (w.heap.size + 3) _ rfl hb5, ?_⟩
    rw [E.out]
    exact ⟨rfl, nxt_put hd' hf' md (by omega) hK rfl hD _⟩
theorem lay_any {foot : Nat → Prop} {w : World} {sp dp hf hf0 a M g o cp i0 : Nat} {b : List UInt8} {s : St} {ok : Nat → Prop} (hs : Beg w sp dp hf0) (hsf : ¬ foot sp) (hd : Dsk w foot dp s) (hhf : hf ≤ 1) (ha : a + M ≤ 4096) (hi0 : i0 = hf * (s.n / 2) + a) (hin : i0 + M ≤ s.n)
    (hb : Byt w ok (some ⟨g, o, none⟩) b) (hbl : b.length = 64 * M) (hcp : 64 * M ≤ cp) (hok : ∀ k, ok k → k < w.heap.size ∧ ¬ foot k) (hL : s.L.length + M ≤ 1048576) :
    Calls Tryz.prog 69 #[.pointer (some ⟨sp, 0, none⟩), .int .i64 (hf : Int), .int .u64 (a : Int), .slice (some ⟨g, o, none⟩) (64 * M) cp] w fun e w' => e = .returned (.int .i64 ((s.laid i0 (cuts b M)).1 : Nat)) ∧ Nxt w foot dp (s.laid i0 (cuts b M)).2 w' :=
  (callsIn_wide (n := 8)).1 (lay_in Fence.wide (Lib.hid rfl) 8 (by omega) (fun _ => trivial) rfl (fun _ _ _ _ _ h => callsIn_wide.2 h) hs hsf hd hhf ha hi0 hin hb hbl hcp hok hL)
end Go.Proofs.YtonpcenjipigpaaGreat
