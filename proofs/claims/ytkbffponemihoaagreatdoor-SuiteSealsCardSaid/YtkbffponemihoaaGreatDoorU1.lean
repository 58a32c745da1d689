/- The suite's small calls: which kind it is, its table, a new one. Conditions: none. -/
import Derived.Test.YtkbffponemihoaaGreatDoorTd
import Derived.Test.YtkbffponemihoaaGreatDoorCc
namespace Go.Proofs.YtkbffponemihoaaGreatDoor
open Go.RowKit T
theorem grown_below {w w' : World} (h : w.grownBy w' none) : Below w.heap.size w w' := ⟨h.os, h.tape, h.output, h.size, fun k hk => h.block k hk (by simp)⟩
theorem below_grown {w w' : World} (h : Below w.heap.size w w') : w.grownBy w' none := ⟨h.os, h.tape, h.output, h.size, fun k hk _ => h.block k hk⟩
/-- The value of a suite. -/
def sui (p : Option Addr) : Value := .agg #[.pointer p]
theorem real_yes (w : World) : Calls Tryz.prog 15 #[sui none] w fun e w' => e = .returned (.bool true) ∧ w.grownBy w' none := by
  unfold sui
  go_enter Tryz.func15, Tryz.ntmps15
  go_wp2
  go_ret
  exact ⟨rfl, World.grownBy_alloc _ _ _⟩
theorem real_no (w : World) (b : Nat) : Calls Tryz.prog 15 #[sui (some ⟨b, 0, none⟩)] w fun e w' => e = .returned (.bool false) ∧ w.grownBy w' none := by
  unfold sui
  go_enter Tryz.func15, Tryz.ntmps15
  go_wp2
  go_ret
  exact ⟨rfl, World.grownBy_alloc _ _ _⟩
theorem terms_any (w : World) (p : Option Addr) : Calls Tryz.prog 12 #[sui p] w fun e w' => e = .returned (.pointer p) ∧ w.grownBy w' none := by
  unfold sui
  go_enter Tryz.func12, Tryz.ntmps12
  go_wp2
  go_ret
  exact ⟨rfl, World.grownBy_alloc _ _ _⟩
theorem size30 : (Tryz.prog.info? 27).map (·.size) = some 1 := by kernel_rfl
theorem sui_out {w' : World} {g : Nat} {p : Option Addr} {fn : Func} {tmps : Array Value} {t : Tmp} (h : fn.results = #[.cell t 27]) (hp : tmps.getD t undef = .pointer (some ⟨g, 0, none⟩)) (hb : C.Blk w' g 27 [.pointer p]) :
    (results fn tmps).run Tryz.prog w' = .ok (sui p) w' := results_cell_row h tmps w' g 27 #[.pointer p] (0, 0) _ hp hb Tryz.underlying27 rfl size30
theorem realnew_any (w : World) : Calls Tryz.prog 14 #[] w fun e w' => e = .returned (sui none) ∧ w.grownBy w' none := by
  go_enter Tryz.func14, Tryz.ntmps14
  go_wp2
  exact bodyPost_ret (sui_out (g := w.heap.size) rfl rfl (C.Blk.of_alloc _ _ _)) rfl ⟨rfl, World.grownBy_alloc _ _ _⟩
/-- A new free suite: its table lies behind. -/
def NewS (w : World) (e : Ending) (w' : World) : Prop := ∃ tb, e = .returned (sui (some ⟨tb, 0, none⟩)) ∧ Tbl w' (fun b => w.heap.size ≤ b ∧ b < w'.heap.size) tb [] ∧ w.grownBy w' none
theorem free_any (w : World) : Calls Tryz.prog 13 #[] w (NewS w) := by
  go_enter Tryz.func13, Tryz.ntmps13
  go_wp2_with fail
  go_at_call 27
  refine (new_any _).mono ?_
  rintro _ w2 ⟨tb, rfl, h1, h2, h3⟩
  rw [World.size_alloc] at h1 h2 h3
  have hb2 : C.Blk w2 w.heap.size 27 [.pointer none] := (C.Blk.of_alloc w #[.pointer none] 27).keep (h3.block _ (by omega))
  have hc : w2.cell? ⟨w.heap.size, 0, none⟩ = some (.pointer none) := hb2.get 0 _ rfl
  have hf : w2.frozen? ⟨w.heap.size, 0, none⟩ = false := hb2.frozen 0
  have h3' : Below w.heap.size w w2 := (grown_below (World.grownBy_alloc w (.cells #[.pointer none] 27) none)).trans (h3.mono (Nat.le_succ _))
  have H1 := Lib.hid h1
  have H2 := Lib.hid h2
  have H3 := Lib.hid h3'
  have HB := Lib.hid hb2
  clear h1 h2 h3 hb2 h3'
  go_wp2
  refine bodyPost_ret (sui_out (g := w.heap.size) (p := some ⟨tb, 0, none⟩) rfl rfl (HB.out.set 0 _)) rfl ⟨tb, rfl, ?_, ?_⟩
  · rw [C.size_set]
    refine (H2.out.keep fun b hb _ => ?_).imp fun b _ hb => ⟨by omega, hb.2⟩
    exact (C.grown_set w2 w.heap.size 0 _).block b hb.2 (by simp; omega)
  · exact below_grown (H3.out.trans ⟨rfl, rfl, rfl, by rw [C.size_set]; exact Nat.le_refl _, fun k hk => (C.grown_set w2 w.heap.size 0 _).block k (by have := H3.out.size; omega) (by simp; omega)⟩)
theorem suite_real (w : World) : Calls Tryz.prog 5 #[.bool false] w fun e w' => e = .returned (sui none) ∧ w.grownBy w' none := by
  go_enter Tryz.func5, Tryz.ntmps5
  go_wp2_with fail
  go_at_call 14
  refine (realnew_any _).mono ?_
  rintro _ w2 ⟨rfl, h2⟩
  have hb2 : C.Blk w2 w.heap.size 27 [.pointer none] := (C.Blk.of_alloc w #[.pointer none] 27).grown h2 (by simp)
  have hc : w2.cell? ⟨w.heap.size, 0, none⟩ = some (.pointer none) := hb2.get 0 _ rfl
  have hf : w2.frozen? ⟨w.heap.size, 0, none⟩ = false := hb2.frozen 0
  have hg := World.grownBy.trans (World.grownBy_alloc w (.cells #[.pointer none] 27) none) h2
  have HG := Lib.hid hg
  have HB := Lib.hid hb2
  clear h2 hb2 hg
  unfold sui
  go_wp2
  exact bodyPost_ret (sui_out (g := w.heap.size) rfl rfl (HB.out.set 0 _)) rfl ⟨rfl, C.grown_new HG.out (Nat.le_refl _) 0 _⟩
theorem suite_free (w : World) : Calls Tryz.prog 5 #[.bool true] w (NewS w) := by
  go_enter Tryz.func5, Tryz.ntmps5
  go_wp2_with fail
  go_at_call 13
  refine (free_any _).mono ?_
  rintro _ w2 ⟨tb, rfl, h1, h2⟩
  rw [World.size_alloc] at h1
  have hb2 : C.Blk w2 w.heap.size 27 [.pointer none] := (C.Blk.of_alloc w #[.pointer none] 27).grown h2 (by simp)
  have hc : w2.cell? ⟨w.heap.size, 0, none⟩ = some (.pointer none) := hb2.get 0 _ rfl
  have hf : w2.frozen? ⟨w.heap.size, 0, none⟩ = false := hb2.frozen 0
  have hg := World.grownBy.trans (World.grownBy_alloc w (.cells #[.pointer none] 27) none) h2
  have H1 := Lib.hid h1
  have HG := Lib.hid hg
  have HB := Lib.hid hb2
  clear h1 h2 hb2 hg
  unfold sui
  go_wp2
  refine bodyPost_ret (sui_out (g := w.heap.size) rfl rfl (HB.out.set 0 _)) rfl ⟨tb, rfl, ?_, C.grown_new HG.out (Nat.le_refl _) 0 _⟩
  rw [C.size_set]
  refine (H1.out.keep fun b hb _ => ?_).imp fun b _ hb => ⟨by omega, hb.2⟩
  exact (C.grown_set w2 w.heap.size 0 _).block b hb.2 (by simp; omega)
end Go.Proofs.YtkbffponemihoaaGreatDoor
