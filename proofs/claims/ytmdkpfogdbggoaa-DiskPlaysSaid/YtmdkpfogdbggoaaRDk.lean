/- The reference's disk in memory; New and Step. Conditions: none. -/
import Derived.Test.YtmdkpfogdbggoaaBlo
namespace Go.Proofs.Ytmdkpfogdbggoaa
open Go.RowKit
theorem size43 : (Try.prog.info? 43).map (·.size) = some 1 := by kernel_rfl
theorem size44 : (Try.prog.info? 44).map (·.size) = some 1 := by kernel_rfl
/-- The six cells of the reference's disk. -/
def rcells (n gk : Nat) (Av Bv : Value) (f : Int) (dead : Bool) : List Value := [.int .i64 (n : Int), .slice (some ⟨gk, 0, none⟩) (64 * n) (64 * n), Av, Bv, .int .i64 f, .bool dead]
/-- The places of the writes that wait. -/
def ats (L : List (Nat × List UInt8)) : List Value := L.map fun x => Value.int .i64 (x.1 : Int)
theorem ats_length (L : List (Nat × List UInt8)) : (ats L).length = L.length := by simp [ats]
structure RP (foot : Nat → Prop) (w : World) (p gk : Nat) (Av Bv : Value) : Prop where
  hp : foot p
  hgk : foot gk
  ne : p ≠ gk
  av : ∀ k, Av.ownBlock = some k → foot k ∧ k ≠ p ∧ k ≠ gk
  bv : ∀ k, Bv.ownBlock = some k → foot k ∧ k ≠ p ∧ k ≠ gk ∧ Av.ownBlock ≠ some k
  lt : ∀ k, foot k → k < w.heap.size
/-- The bytes of the writes that wait, each in a block of its own. -/
def RB (w : World) (foot : Nat → Prop) (p gk : Nat) (Av Bv : Value) (vs : List Value) (L : List (Nat × List UInt8)) : Prop :=
  vs.length = L.length ∧ ∀ j (h : j < L.length), ∃ g c, vs[j]? = some (.slice (some ⟨g, 0, none⟩) 64 c) ∧ 64 ≤ c ∧ foot g ∧ g ≠ p ∧ g ≠ gk ∧ Av.ownBlock ≠ some g ∧ Bv.ownBlock ≠ some g ∧ Byt w (fun b => b = g) (some ⟨g, 0, none⟩) L[j].2
/-- At p lies the reference's disk in state s. -/
def RDsk (w : World) (foot : Nat → Prop) (p : Nat) (s : St) : Prop := ∃ gk Av Bv vs, Blk w p 46 (rcells s.n gk Av Bv (max s.f (-1)) s.dead) ∧ Blk w gk 5 (u8s s.K) ∧ w.ownsRow 0 3 1 Av s.L.length (ats s.L) ∧ w.ownsRow 0 33 1 Bv s.L.length vs ∧ RB w foot p gk Av Bv vs s.L ∧ RP foot w p gk Av Bv ∧ s.ok
section
variable {foot : Nat → Prop} {w w' : World} {p gk : Nat} {Av Bv : Value} {s : St} {vs : List Value} {L : List (Nat × List UInt8)}
theorem RP.size (h : RP foot w p gk Av Bv) (hs : w.heap.size ≤ w'.heap.size) : RP foot w' p gk Av Bv := ⟨h.hp, h.hgk, h.ne, h.av, h.bv, fun k hk => Nat.lt_of_lt_of_le (h.lt k hk) hs⟩
theorem RB.keep (h : RB w foot p gk Av Bv vs L) (hk : ∀ k, foot k → k ≠ p → k ≠ gk → Av.ownBlock ≠ some k → Bv.ownBlock ≠ some k → w'.heap[k]? = w.heap[k]?) : RB w' foot p gk Av Bv vs L :=
  ⟨h.1, fun j hj => by
    obtain ⟨g, c, h1, h2, h3, h4, h5, h6, h7, h8⟩ := h.2 j hj
    exact ⟨g, c, h1, h2, h3, h4, h5, h6, h7, h8.keep (by rintro b rfl; exact hk b h3 h4 h5 h6 h7)⟩⟩
theorem own_kept {w w' : World} {b n : Nat} {e : TypeId} {sz : Nat} {v : Value} {xs : List Value} (h : w.ownsRow b e sz v n xs) (hk : ∀ k, v.ownBlock = some k → w'.heap[k]? = w.heap[k]?) : w'.ownsRow b e sz v n xs := by
  refine ⟨h.1, ?_⟩
  rcases h.2 with hn | ⟨g, cap, cur, rfl, hb, hgg, rest⟩
  · exact .inl hn
  · exact .inr ⟨g, cap, cur, rfl, hb, (hk g rfl).trans hgg, rest⟩
theorem RDsk.lt (h : RDsk w foot p s) : ∀ k, foot k → k < w.heap.size := by
  obtain ⟨_, _, _, _, _, _, _, _, _, h6, _⟩ := h
  exact h6.lt
theorem RDsk.ok (h : RDsk w foot p s) : s.ok := by
  obtain ⟨_, _, _, _, _, _, _, _, _, _, h7⟩ := h
  exact h7
theorem RDsk.keep (h : RDsk w foot p s) (hs : w.heap.size ≤ w'.heap.size) (hk : ∀ k, foot k → w'.heap[k]? = w.heap[k]?) : RDsk w' foot p s := by
  obtain ⟨gk, Av, Bv, vs, h1, h2, h3, h4, h5, h6, h7⟩ := h
  exact ⟨gk, Av, Bv, vs, h1.keep (hk _ h6.hp), h2.keep (hk _ h6.hgk), own_kept h3 (fun k hv => hk k (h6.av k hv).1), own_kept h4 (fun k hv => hk k (h6.bv k hv).1), h5.keep (fun k hf _ _ _ _ => hk k hf), h6.size hs, h7⟩
theorem RDsk.grown (h : RDsk w foot p s) (hg : w.grownBy w' none) : RDsk w' foot p s := h.keep hg.size fun k hk => hg.block k (h.lt k hk) (by simp)
theorem RDsk.md {ft : Nat → Prop} (h : RDsk w foot p s) (hg : Md ft w w') (hd : ∀ k, foot k → ¬ ft k) : RDsk w' foot p s := h.keep hg.size fun k hk => hg.block k (h.lt k hk) (hd k hk)
/-- Just block p has turned: the rest of the disk is as it was. -/
theorem RDsk.turned {s' : St} (h1 : Blk w' p 46 (rcells s'.n gk Av Bv (max s'.f (-1)) s'.dead)) (hg : w.grownBy w' (some p)) (h2 : Blk w gk 5 (u8s s.K)) (h3 : w.ownsRow 0 3 1 Av s.L.length (ats s.L)) (h4 : w.ownsRow 0 33 1 Bv s.L.length vs)
    (h5 : RB w foot p gk Av Bv vs s.L) (h6 : RP foot w p gk Av Bv) (h7 : s'.ok) (hK : s'.K = s.K) (hL : s'.L = s.L) : RDsk w' foot p s' ∧ Md foot w w' := by
  refine ⟨⟨gk, Av, Bv, vs, h1, ?_, ?_, ?_, ?_, h6.size hg.size, h7⟩, Md.of_grown hg (by rintro _ ⟨⟩; exact h6.hp)⟩
  · rw [hK]; exact h2.grown hg (by have := h6.ne; simp; omega)
  · rw [hL]; exact own_kept h3 (fun k hv => hg.block k (h6.lt k (h6.av k hv).1) (by have := (h6.av k hv).2.1; simpa using this))
  · rw [hL]; exact own_kept h4 (fun k hv => hg.block k (h6.lt k (h6.bv k hv).1) (by have := (h6.bv k hv).2.1; simpa using this))
  · rw [hL]; exact h5.keep (fun k hf hn _ _ _ => hg.block k (h6.lt k hf) (by simpa using hn))
theorem step_any (h : RDsk w foot p s) : Calls Try.prog 27 #[.pointer (some ⟨p, 0, none⟩)] w fun e w' => e = .returned (.bool s.goes) ∧ RDsk w' foot p s.burn ∧ Md foot w w' := by
  obtain ⟨gk, Av, Bv, vs, h1, h2, h3, h4, h5, h6, h7⟩ := h
  have hbo := St.burn_ok h7
  obtain ⟨o1, o2, o3, o4, o5, o6⟩ := h7
  obtain ⟨rf, hrf⟩ : ∃ rf, rf = max s.f (-1) := ⟨_, rfl⟩
  rw [← hrf] at h1
  have c2 : w.cell? ⟨p, 4, none⟩ = some (.int .i64 rf) := h1.get 4 _ rfl
  have c3 : w.cell? ⟨p, 5, none⟩ = some (.bool s.dead) := h1.get 5 _ rfl
  have H1 := Lib.hid h1
  have HRF := Lib.hid hrf
  have hr1 : rf ≤ 9223372036854775807 := by omega
  have hr0 : -1 ≤ rf := by omega
  clear h1 o1 o2 o3 o4 hrf
  by_cases hz : s.f = 0
  · have hz' : rf = 0 := by have := HRF.out; omega
    have e0 : (rf == 0) = true := by simpa using hz'
    have e0' : (s.f == 0) = true := by simpa using hz
    have Hz := Lib.hid hz
    have Hz' := Lib.hid hz'
    clear hz hz' c3
    go_enter Try.func27, Try.ntmps27
    go_wp2_with (first | (refine wpList_store_cell rfl 4 _ _ rfl size4 p 5 (.bool true) rfl rfl rfl _ _ H1.out (by simp [rcells]) ?_) | fail)
    intro w1 g1 r1
    have c3 : w1.cell? ⟨p, 5, none⟩ = some (.bool true) := Blk.get g1.out 5 _ rfl
    go_wp2
    go_ret
    refine ⟨by rw [St.goes, e0']; simp, RDsk.turned (s := s) (s' := s.burn) (gk := gk) (Av := Av) (Bv := Bv) ?_ r1.out.grown h2 h3 h4 h5 h6 hbo rfl rfl⟩
    have : rcells s.burn.n gk Av Bv (max s.burn.f (-1)) s.burn.dead = (rcells s.n gk Av Bv rf s.dead).set 5 (.bool true) := by
      simp [rcells, St.burn, Hz.out, Hz'.out]
      decide
    rw [this]
    exact g1.out
  · have hz' : rf ≠ 0 := by have := HRF.out; omega
    have e0 : (rf == 0) = false := by simpa using hz'
    have e0' : (s.f == 0) = false := by simpa using hz
    cases hdd : s.dead with
    | true =>
      rw [hdd] at c3
      have Hd := Lib.hid hdd
      clear hdd
      go_enter Try.func27, Try.ntmps27
      go_wp2
      go_ret
      refine ⟨by rw [St.goes, Hd.out]; simp, RDsk.turned (s := s) (s' := s.burn) (gk := gk) (Av := Av) (Bv := Bv) ?_ (World.grownBy.refl _ _) h2 h3 h4 h5 h6 hbo rfl rfl⟩
      have : rcells s.burn.n gk Av Bv (max s.burn.f (-1)) s.burn.dead = rcells s.n gk Av Bv rf s.dead := by
        simp [rcells, St.burn, St.goes, Hd.out, HRF.out]
      rw [this]
      exact H1.out
    | false =>
      rw [hdd] at c3
      have Hd := Lib.hid hdd
      clear hdd
      by_cases hp : 0 < rf
      · have d1 : decide (0 < rf) = true := by simpa using hp
        have hw : IntKind.i64.wrap (rf - 1) = rf - 1 := IntWalk.i64_in _ (by omega)
        go_enter Try.func27, Try.ntmps27
        go_wp2_with (first | (refine wpList_store_cell rfl 3 _ _ rfl size3 p 4 (.int .i64 (rf - 1)) rfl rfl rfl _ _ H1.out (by simp [rcells]) ?_) | fail)
        intro w1 g1 r1
        go_wp2
        go_ret
        refine ⟨by rw [St.goes, Hd.out, e0']; simp, RDsk.turned (s := s) (s' := s.burn) (gk := gk) (Av := Av) (Bv := Bv) ?_ r1.out.grown h2 h3 h4 h5 h6 hbo rfl rfl⟩
        have hsf : s.f = rf := by have := HRF.out; omega
        have hbf : max s.burn.f (-1) = rf - 1 := by
          have hg : s.goes = true := by rw [St.goes, Hd.out, e0']; simp
          have : s.burn.f = s.f - 1 := by show (if s.goes = true ∧ 0 < s.f then s.f - 1 else s.f) = _; rw [if_pos ⟨hg, by omega⟩]
          omega
        have : rcells s.burn.n gk Av Bv (max s.burn.f (-1)) s.burn.dead = (rcells s.n gk Av Bv rf s.dead).set 4 (.int .i64 (rf - 1)) := by
          rw [hbf]
          simp [rcells, St.burn, Hd.out, e0']
        rw [this]
        exact g1.out
      · have d1 : decide (0 < rf) = false := by simpa using hp
        go_enter Try.func27, Try.ntmps27
        go_wp2
        go_ret
        refine ⟨by rw [St.goes, Hd.out, e0']; simp, RDsk.turned (s := s) (s' := s.burn) (gk := gk) (Av := Av) (Bv := Bv) ?_ (World.grownBy.refl _ _) h2 h3 h4 h5 h6 hbo rfl rfl⟩
        have hbf : s.burn.f = s.f := by show (if s.goes = true ∧ 0 < s.f then s.f - 1 else s.f) = _; rw [if_neg (fun h => by have := h.2; have := HRF.out; omega)]
        have : rcells s.burn.n gk Av Bv (max s.burn.f (-1)) s.burn.dead = rcells s.n gk Av Bv rf s.dead := by
          rw [hbf, ← HRF.out]
          simp [rcells, St.burn, Hd.out, e0']
        rw [this]
        exact H1.out
end
def NewR (w : World) (n : Nat) (e : Ending) (w' : World) : Prop := ∃ p foot, e = .returned (.pointer (some ⟨p, 0, none⟩)) ∧ RDsk w' foot p (St.mk0 n) ∧ (∀ k, foot k → w.heap.size ≤ k) ∧ w.grownBy w' none
theorem rnew_any (w : World) (b : Int) : Calls Try.prog 10 #[.int .i64 b] w (NewR w (nOf b)) := by
  obtain ⟨h1, h2⟩ := nOf_bd b
  have hc := nOf_cast b
  generalize nOf b = n at *
  have hm : ∀ w, (Instr.makeSlice 33 (.int .i64 (64 * (min (max b 1) 4096))) (.int .i64 (64 * (min (max b 1) 4096)))).run Try.prog w = .ok (.slice (some ⟨w.heap.size, 0, none⟩) (64 * n) (64 * n)) (w.alloc (.cells (u8s (zb (64 * n))).toArray 5)) := fun w => by
    have := run_make33 (N := 64 * n) (by omega) w
    rwa [show ((64 * n : Nat) : Int) = 64 * (min (max b 1) 4096) by omega] at this
  have HC := Lib.hid hc
  clear hc
  go_enter Try.func10, Try.ntmps10
  go_wp2
  go_ret
  rw [← HC.out]
  have hb : Blk ((w.alloc (.cells (u8s (zb (64 * n))).toArray 5)).alloc (.cells #[.int .i64 (n : Int), .slice (some ⟨w.heap.size, 0, none⟩) (64 * n) (64 * n), .slice none 0 0, .slice none 0 0, .int .i64 (-1), .bool false] 46)) (w.heap.size + 1) 46 (rcells n w.heap.size (.slice none 0 0) (.slice none 0 0) (-1) false) := heap_alloc2_new w _ _
  refine ⟨w.heap.size + 1, fun k => w.heap.size ≤ k ∧ k < w.heap.size + 2, by simp, ?_, fun k hk => hk.1, (World.grownBy_alloc _ _ _).trans (World.grownBy_alloc _ _ _)⟩
  exact ⟨w.heap.size, .slice none 0 0, .slice none 0 0, [], hb, heap_alloc2_old w _ _, World.ownsRow_nil _ _ _ _, World.ownsRow_nil _ _ _ _, ⟨rfl, fun j hj => absurd hj (Nat.not_lt_zero _)⟩,
    ⟨by omega, by omega, by omega, fun k hk => by simp [Value.ownBlock] at hk, fun k hk => by simp [Value.ownBlock] at hk, fun k hk => by simp; omega⟩, St.mk0_ok h1 h2⟩
end Go.Proofs.Ytmdkpfogdbggoaa
