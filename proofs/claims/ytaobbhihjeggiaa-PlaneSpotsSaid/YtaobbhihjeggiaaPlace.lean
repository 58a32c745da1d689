/- What Place answers of a spot from 0 to 4095: its number and true. Conditions: none. -/
import Derived.Test.YtaobbhihjeggiaaSpot
namespace Go.Proofs.Ytaobbhihjeggiaa
open Go.RowKit Go.Shelf

attribute [local go_sem] Oper.semAt_some run_store_complex

set_option maxRecDepth 100000 in
set_option maxHeartbeats 2000000 in
theorem place_in (Fe : Fence) (n : Nat) (h9 : Fe.fn 9) (h12 : Fe.fn 12) (hro : Fe.round = none) (hn : 3 ≤ n) (k : Nat) (hk : k < 4096) (w : World) :
    CallsIn Fe n Try.prog 9 #[.complex .f64 (F (px k)) (F (py k))] w fun e W' => e = .returned (.tuple #[.int .i64 (k : Int), .bool true]) ∧ Below w.heap.size w W' := by
  have h1 : 1 ≤ n := by omega
  refine callsIn_of_wp_marks Try.func9 rfl h9 ?_ hro
  simp only [Try.ntmps9, List.size_toArray, List.length_cons, List.length_nil, Nat.reduceAdd, Nat.reduceSub, Array.replicate_succ, Array.replicate_zero, List.push_toArray, List.append_toArray, List.nil_append, List.cons_append]
  gi_wp2
  have b0 := Boxed.new w 23 (.complex .f64 (F (px k)) (F (py k)))
  have b1 := Boxed.new (w.alloc (.cells #[.complex .f64 (F (px k)) (F (py k))] 23)) 3 (.int .i64 0)
  have b2 := Boxed.new ((w.alloc (.cells #[.complex .f64 (F (px k)) (F (py k))] 23)).alloc (.cells #[.int .i64 0] 3)) 4 (.bool false)
  rw [World.size_alloc] at b1
  rw [World.size_alloc, World.size_alloc] at b2
  have hB0 : Below w.heap.size w (((w.alloc (.cells #[.complex .f64 (F (px k)) (F (py k))] 23)).alloc (.cells #[.int .i64 0] 3)).alloc (.cells #[.bool false] 4)) :=
    (((Below.refl _ w).alloc (Nat.le_refl _) _).alloc (by simp) _).alloc (by simp; omega) _
  refine wpIn_rangeFunc_ownG hro h1 (gf := 12) (lb := #[]) rfl h12 (enters_of Try.func12 (by kernel_rfl) rfl)
    (walk_stops Fe (n - 1) h12 hro (by omega) w.heap.size _) belowK_t (belowK_b (by simp; omega)) (Below.refl _ _) (fun _ => rfl)
    (fun pre W => ((∀ y ∈ pre, y.1 ≠ k) ∧ Boxed W w.heap.size 23 (.complex .f64 (F (px k)) (F (py k))) ∧ Boxed W (w.heap.size + 1) 3 (.int .i64 0) ∧ Boxed W (w.heap.size + 1 + 1) 4 (.bool false)) ∧ Below w.heap.size w W)
    (fun c pre W => (c = .ret ∧ Boxed W (w.heap.size + 1) 3 (.int .i64 (k : Int)) ∧ Boxed W (w.heap.size + 1 + 1) 4 (.bool true)) ∧ Below w.heap.size w W)
    (OwnFrom.and (Own.from (fun s A B row hs hg hr => ⟨hs.1, boxed_own _ _ (fun _ => _) () A B row hs.2.1 hg hr, boxed_own _ _ (fun _ => _) () A B row hs.2.2.1 hg hr, boxed_own _ _ (fun _ => _) () A B row hs.2.2.2 hg hr⟩) _) (ownFrom_below (Nat.le_refl _) (by simp; omega)))
    (fun c => OwnFrom.and (Own.from (fun s A B row hs hg hr => by obtain ⟨hc, h1, h2⟩ := hs; exact ⟨hc, boxed_own _ _ (fun _ => _) () A B row h1 hg hr, boxed_own _ _ (fun _ => _) () A B row h2 hg hr⟩) _) (ownFrom_below (Nat.le_refl _) (by simp; omega)))
    ⟨⟨by simp, (b0.alloc _).alloc _, b1.alloc _, b2⟩, hB0⟩
    (fun x => { tmps := #[.complex .f64 (F (px k)) (F (py k)), .pointer (some ⟨w.heap.size, 0, none⟩), .pointer (some ⟨w.heap.size + 1, 0, none⟩), .pointer (some ⟨w.heap.size + 1 + 1, 0, none⟩), .int .i64 (x.1 : Int), .complex .f64 (F (px x.1)) (F (py x.1)), .int .i64 (x.1 : Int), .complex .f64 (F (px x.1)) (F (py x.1)), undef, undef, undef, undef], defers := [] }) ?assign ?body ?done ?stop
  case assign =>
    intro l x W K hK
    gi_wp2
    exact hK
  case body =>
    rintro l pre x W ⟨⟨hp, c0, c1, c2⟩, hB⟩ _
    have hc0 := c0.cell
    have hc1 := c1.cell
    have hf1 := c1.frozen
    have hc2 := c2.cell
    have hf2 := c2.frozen
    have hq := eq_spot (j := x.1) (k := k) (by have := x.2; omega) (by omega)
    by_cases hx : x.1 = k
    · rw [decide_eq_true hx, Bool.and_eq_true] at hq
      obtain ⟨x, hx4⟩ := x
      obtain rfl : x = k := hx
      obtain ⟨hq1, hq2⟩ := hq
      gi_wp2
      refine ⟨((KeepsOthers.setCell _ _ _).trans (KeepsOthers.setCell _ _ _)).from _, ⟨rfl, ?_, (c2.other (by omega) _).set _⟩, ?_⟩
      · exact (c1.set _).other (B' := w.heap.size + 1 + 1) (by omega) (.bool true)
      · exact (hB.setCell (p := ⟨w.heap.size + 1, 0, none⟩) (by simp) _).setCell (p := ⟨w.heap.size + 1 + 1, 0, none⟩) (by simp; omega) _
    · rw [decide_eq_false hx] at hq
      gi_wp2
      exact ⟨KeepsFrom.refl _ _, Below.refl _ _, ⟨fun p hp' => (List.mem_append.1 hp').elim (hp p) (fun e => by simp at e; subst e; exact hx), c0, c1, c2⟩, hB⟩
  case done =>
    rintro D ys W hD hall ⟨⟨hne, c0, c1, c2⟩, hB⟩ hK
    exact absurd rfl (hne ⟨k, hk⟩ (hall _))
  case stop =>
    rintro D c pre W hD _ ⟨⟨rfl, c1, c2⟩, hB⟩ hK
    have hD' : w.heap.size ≤ D := by simp at hD; omega
    gi_wp2
    refine ⟨by simp, .inl ⟨_, _, rfl, run_takeDeferred hK, ?_⟩⟩
    have e1 := boxed_own _ _ (fun _ => _) () _ _ _ c1 (grownBy_putObj' _ D (.deferred none)) (fun r e => by cases e; exact ⟨_, hK, rfl⟩)
    have e2 := boxed_own _ _ (fun _ => _) () _ _ _ c2 (grownBy_putObj' _ D (.deferred none)) (fun r e => by cases e; exact ⟨_, hK, rfl⟩)
    have hc5 := e1.cell
    have hc6 := e2.cell
    refine ⟨.tuple #[.int .i64 (k : Int), .bool true], ?_, rfl, ?_⟩
    · simp [results, Try.f9, go_sem, hc5, hc6]
    · exact hB.trans (belowK_b (w := w) (Nat.le_refl _) _ D _ _ hD' hK rfl rfl)

end Go.Proofs.Ytaobbhihjeggiaa
