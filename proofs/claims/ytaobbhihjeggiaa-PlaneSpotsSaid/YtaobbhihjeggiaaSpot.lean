/- What Spot answers of any number: the spot and true from 0 to 4095, else 0 and false. Conditions: none. -/
import Derived.Test.YtaobbhihjeggiaaIter
namespace Go.Proofs.Ytaobbhihjeggiaa
open Go.RowKit Go.Shelf

theorem run_store_complex {P : Program} {w : World} {a : Addr} {m : Mode} (k : FloatKind) (x y : Nat) : (store a (.complex k x y) m).run P w = stored P w a (.complex k x y) m := run_store P w a _ m rfl
attribute [local go_sem] Oper.semAt_some run_store_complex

theorem walk_stops (Fe : Fence) (n : Nat) (h12 : Fe.fn 12) (hro : Fe.round = none) (hn : 1 ≤ n) (n₀ : Nat) (w : World) :
    SeqStopsK Fe n Try.prog 12 #[] (fun x : Fin 4096 => #[Value.int .i64 (x.1 : Int), Value.complex .f64 (F (px x.1)) (F (py x.1))]) (Below n₀) (fun ys => ∀ j : Fin 4096, j ∈ ys) (fun _ => True) 4097 w :=
  fun l J Jx W _ _ _ hY h0 => walk1_in Fe n h12 hro l J Jx (Below n₀) hY hn W h0

/-- What Spot answers. -/
def SpotPost (m : Int) (e : Ending) : Prop :=
  (∃ k : Nat, k < 4096 ∧ (k : Int) = m ∧ e = .returned (.tuple #[.complex .f64 (F (px k)) (F (py k)), .bool true])) ∨ ((m < 0 ∨ 4095 < m) ∧ e = .returned (.tuple #[.complex .f64 0 0, .bool false]))

set_option maxRecDepth 100000 in
set_option maxHeartbeats 2000000 in
theorem spot_in (Fe : Fence) (n : Nat) (h6 : Fe.fn 6) (h12 : Fe.fn 12) (hro : Fe.round = none) (hn : 3 ≤ n) (m : Int) (w : World) :
    CallsIn Fe n Try.prog 6 #[.int .i64 m] w fun e W' => SpotPost m e ∧ Below w.heap.size w W' := by
  have h1 : 1 ≤ n := by omega
  refine callsIn_of_wp_marks Try.func6 rfl h6 ?_ hro
  simp only [Try.ntmps6, List.size_toArray, List.length_cons, List.length_nil, Nat.reduceAdd, Nat.reduceSub, Array.replicate_succ, Array.replicate_zero, List.push_toArray, List.append_toArray, List.nil_append, List.cons_append]
  gi_wp2
  have b0 := Boxed.new w 3 (.int .i64 m)
  have b1 := Boxed.new (w.alloc (.cells #[.int .i64 m] 3)) 23 (.complex .f64 0 0)
  have b2 := Boxed.new ((w.alloc (.cells #[.int .i64 m] 3)).alloc (.cells #[.complex .f64 0 0] 23)) 4 (.bool false)
  rw [World.size_alloc] at b1
  rw [World.size_alloc, World.size_alloc] at b2
  have hB0 : Below w.heap.size w (((w.alloc (.cells #[.int .i64 m] 3)).alloc (.cells #[.complex .f64 0 0] 23)).alloc (.cells #[.bool false] 4)) :=
    (((Below.refl _ w).alloc (Nat.le_refl _) _).alloc (by simp) _).alloc (by simp; omega) _
  refine wpIn_rangeFunc_ownG hro h1 (gf := 12) (lb := #[]) rfl h12 (enters_of Try.func12 (by kernel_rfl) rfl)
    (walk_stops Fe (n - 1) h12 hro (by omega) w.heap.size _) belowK_t (belowK_b (by simp; omega)) (Below.refl _ _) (fun _ => rfl)
    (fun pre W => ((∀ y ∈ pre, (y.1 : Int) ≠ m) ∧ Boxed W w.heap.size 3 (.int .i64 m) ∧ Boxed W (w.heap.size + 1) 23 (.complex .f64 0 0) ∧ Boxed W (w.heap.size + 1 + 1) 4 (.bool false)) ∧ Below w.heap.size w W)
    (fun c pre W => (c = .ret ∧ ∃ x : Fin 4096, (x.1 : Int) = m ∧ Boxed W (w.heap.size + 1) 23 (.complex .f64 (F (px x.1)) (F (py x.1))) ∧ Boxed W (w.heap.size + 1 + 1) 4 (.bool true)) ∧ Below w.heap.size w W)
    (OwnFrom.and (Own.from (fun s A B row hs hg hr => ⟨hs.1, boxed_own _ _ (fun _ => _) () A B row hs.2.1 hg hr, boxed_own _ _ (fun _ => _) () A B row hs.2.2.1 hg hr, boxed_own _ _ (fun _ => _) () A B row hs.2.2.2 hg hr⟩) _) (ownFrom_below (Nat.le_refl _) (by simp; omega)))
    (fun c => OwnFrom.and (Own.from (fun s A B row hs hg hr => by obtain ⟨hc, x, hx, h1, h2⟩ := hs; exact ⟨hc, x, hx, boxed_own _ _ (fun _ => _) () A B row h1 hg hr, boxed_own _ _ (fun _ => _) () A B row h2 hg hr⟩) _) (ownFrom_below (Nat.le_refl _) (by simp; omega)))
    ⟨⟨by simp, (b0.alloc _).alloc _, b1.alloc _, b2⟩, hB0⟩
    (fun x => { tmps := #[.int .i64 m, .pointer (some ⟨w.heap.size, 0, none⟩), .pointer (some ⟨w.heap.size + 1, 0, none⟩), .pointer (some ⟨w.heap.size + 1 + 1, 0, none⟩), .int .i64 (x.1 : Int), .complex .f64 (F (px x.1)) (F (py x.1)), .int .i64 (x.1 : Int), .complex .f64 (F (px x.1)) (F (py x.1)), undef, undef, undef, undef], defers := [] }) ?assign ?body ?done ?stop
  case assign =>
    intro l x W K hK
    gi_wp2
    exact hK
  case body =>
    rintro l pre x W ⟨⟨hp, c0, c1, c2⟩, hB⟩ _
    have hc0 := c0.cell
    have hc1 := c1.cell
    have hf1 := c1.frozen
    have hc2 := c2.cell
    have hf2 := c2.frozen
    by_cases hx : (x.1 : Int) = m
    · have hd : ((x.1 : Int) == m) = true := by simpa using hx
      gi_wp2
      refine ⟨((KeepsOthers.setCell _ _ _).trans (KeepsOthers.setCell _ _ _)).from _, ⟨rfl, x, hx, (c1.set _).other (by omega) _, (c2.other (by omega) _).set _⟩, ?_⟩
      exact (hB.setCell (p := ⟨w.heap.size + 1, 0, none⟩) (by simp) _).setCell (p := ⟨w.heap.size + 1 + 1, 0, none⟩) (by simp; omega) _
    · have hd : ((x.1 : Int) == m) = false := by simpa using hx
      gi_wp2
      exact ⟨KeepsFrom.refl _ _, Below.refl _ _, ⟨fun p hp' => (List.mem_append.1 hp').elim (hp p) (fun e => by simp at e; subst e; exact hx), c0, c1, c2⟩, hB⟩
  case done =>
    rintro D ys W hD hall ⟨⟨hne, c0, c1, c2⟩, hB⟩ hK
    have hc1 := c1.cell
    have hf1 := c1.frozen
    have hc2 := c2.cell
    have hf2 := c2.frozen
    gi_wp2
    have hD' : w.heap.size ≤ D := by simp at hD; omega
    have k1 := KeepsOthers.setCell W ⟨w.heap.size + 1, 0, none⟩ (.complex .f64 0 0)
    have hK' := (k1.trans (KeepsOthers.setCell _ ⟨w.heap.size + 1 + 1, 0, none⟩ (.bool false))).same D _ hK rfl
    refine ⟨by simp, .inl ⟨_, _, rfl, run_takeDeferred hK', ?_⟩⟩
    have e1 := boxed_own _ _ (fun _ => _) () _ _ _ ((c1.set (.complex .f64 0 0)).other (B' := w.heap.size + 1 + 1) (by omega) (.bool false)) (grownBy_putObj' _ D (.deferred none)) (fun r e => by cases e; exact ⟨_, hK', rfl⟩)
    have e2 := boxed_own _ _ (fun _ => _) () _ _ _ ((c2.other (B' := w.heap.size + 1) (by omega) (.complex .f64 0 0)).set (.bool false)) (grownBy_putObj' _ D (.deferred none)) (fun r e => by cases e; exact ⟨_, hK', rfl⟩)
    have hc5 := e1.cell
    have hc6 := e2.cell
    refine ⟨.tuple #[.complex .f64 0 0, .bool false], ?_, .inr ⟨?_, rfl⟩, ?_⟩
    · simp [results, Try.f6, go_sem, hc5, hc6]
    · by_cases hm : 0 ≤ m ∧ m < 4096
      · exact absurd (by simp; omega) (hne ⟨m.toNat, by omega⟩ (hall _))
      · omega
    · exact ((hB.setCell (p := ⟨w.heap.size + 1, 0, none⟩) (by simp) _).setCell (p := ⟨w.heap.size + 1 + 1, 0, none⟩) (by simp; omega) _).trans (belowK_b (w := w) (Nat.le_refl _) _ D _ _ hD' hK' rfl rfl)
  case stop =>
    rintro D c pre W hD _ ⟨⟨rfl, x, hx, c1, c2⟩, hB⟩ hK
    have hD' : w.heap.size ≤ D := by simp at hD; omega
    gi_wp2
    refine ⟨by simp, .inl ⟨_, _, rfl, run_takeDeferred hK, ?_⟩⟩
    have e1 := boxed_own _ _ (fun _ => _) () _ _ _ c1 (grownBy_putObj' _ D (.deferred none)) (fun r e => by cases e; exact ⟨_, hK, rfl⟩)
    have e2 := boxed_own _ _ (fun _ => _) () _ _ _ c2 (grownBy_putObj' _ D (.deferred none)) (fun r e => by cases e; exact ⟨_, hK, rfl⟩)
    have hc5 := e1.cell
    have hc6 := e2.cell
    refine ⟨.tuple #[.complex .f64 (F (px x.1)) (F (py x.1)), .bool true], ?_, .inl ⟨x.1, x.2, hx, rfl⟩, ?_⟩
    · simp [results, Try.f6, go_sem, hc5, hc6]
    · exact hB.trans (belowK_b (w := w) (Nat.le_refl _) _ D _ _ hD' hK rfl rfl)

end Go.Proofs.Ytaobbhihjeggiaa
