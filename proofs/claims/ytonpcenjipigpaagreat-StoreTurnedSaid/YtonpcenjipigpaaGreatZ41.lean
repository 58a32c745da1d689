/- The reference's disk in memory: Step, New, keep, Sync, Crash. Conditions: at most 2^20 writes wait. -/
import Derived.Test.YtonpcenjipigpaaGreatZ40
namespace Go.Proofs.YtonpcenjipigpaaGreat
open Go.RowKit
/-- Block x is there, and none of those of 'foot'. -/
structure Out (w : World) (foot : Nat → Prop) (x : Nat) : Prop where
  lt : x < w.heap.size
  no : ¬ foot x
section
variable {foot foot' : Nat → Prop} {w w' : World} {x : Nat} {ty : TypeId} {cs : List Value}
theorem Out.nxt (h : Out w foot x) (hf : ∀ k, foot' k → foot k ∨ (w.heap.size ≤ k ∧ k < w'.heap.size)) (hm : Md foot w w') : Out w' foot' x :=
  ⟨Nat.lt_of_lt_of_le h.lt hm.size, fun hx => by rcases hf x hx with h1 | h1; exact h.no h1; have := h.lt; omega⟩
theorem Out.up (h : Out w foot x) (hs : w.heap.size ≤ w'.heap.size) : Out w' foot x := ⟨Nat.lt_of_lt_of_le h.lt hs, h.no⟩
theorem Out.new (h : ∀ k, foot k → k < x) (hx : x < w.heap.size) : Out w foot x := ⟨hx, fun hf => Nat.lt_irrefl _ (h x hf)⟩
theorem Blk.md (h : Blk w x ty cs) (ho : Out w foot x) (hm : Md foot w w') : Blk w' x ty cs := h.keep (hm.block x ho.lt ho.no)
theorem Blk.bytes {xs : List UInt8} (h : Blk w x ty (u8s xs)) : Byt w (fun b => b = x) (some ⟨x, 0, none⟩) xs := Blk.byt (pre := []) (post := []) (by simpa using h) rfl
/-- A block that the call may write: what Write asks of it. -/
theorem Out.ok (h : Out w foot x) : ∀ k, k = x → k < w.heap.size ∧ ¬ foot k := by rintro k rfl; exact ⟨h.lt, h.no⟩
end
theorem size43 : (Tryz.prog.info? 41).map (·.size) = some 1 := by kernel_rfl
theorem size44 : (Tryz.prog.info? 42).map (·.size) = some 1 := by kernel_rfl
/-- The six cells of the reference's disk. -/
def rcells (n gk : Nat) (Av Bv : Value) (f : Int) (dead : Bool) : List Value := [.int .i64 (n : Int), .slice (some ⟨gk, 0, none⟩) (64 * n) (64 * n), Av, Bv, .int .i64 f, .bool dead]
/-- The places of the writes that wait. -/
def ats (L : List (Nat × List UInt8)) : List Value := L.map fun x => Value.int .i64 (x.1 : Int)
theorem ats_length (L : List (Nat × List UInt8)) : (ats L).length = L.length := by simp [ats]
structure RP (foot : Nat → Prop) (w : World) (p gk : Nat) (Av Bv : Value) : Prop where
  hp : foot p
  hgk : foot gk
  ne : p ≠ gk
  av : ∀ k, Av.ownBlock = some k → foot k ∧ k ≠ p ∧ k ≠ gk
  bv : ∀ k, Bv.ownBlock = some k → foot k ∧ k ≠ p ∧ k ≠ gk ∧ Av.ownBlock ≠ some k
  lt : ∀ k, foot k → k < w.heap.size
/-- The bytes of the writes that wait, each in a block of its own. -/
def RB (w : World) (foot : Nat → Prop) (p gk : Nat) (Av Bv : Value) (vs : List Value) (L : List (Nat × List UInt8)) : Prop :=
  vs.length = L.length ∧ ∀ j (h : j < L.length), ∃ g c, vs[j]? = some (.slice (some ⟨g, 0, none⟩) 64 c) ∧ 64 ≤ c ∧ foot g ∧ g ≠ p ∧ g ≠ gk ∧ Av.ownBlock ≠ some g ∧ Bv.ownBlock ≠ some g ∧ Byt w (fun b => b = g) (some ⟨g, 0, none⟩) L[j].2
/-- At p lies the reference's disk in state s. -/
def RDsk (w : World) (foot : Nat → Prop) (p : Nat) (s : St) : Prop := ∃ gk Av Bv vs, Blk w p 44 (rcells s.n gk Av Bv (max s.f (-1)) s.dead) ∧ Blk w gk 5 (u8s s.K) ∧ w.ownsRow 0 3 1 Av s.L.length (ats s.L) ∧ w.ownsRow 0 40 1 Bv s.L.length vs ∧ RB w foot p gk Av Bv vs s.L ∧ RP foot w p gk Av Bv ∧ s.ok
section
variable {foot : Nat → Prop} {w w' : World} {p gk : Nat} {Av Bv : Value} {s : St} {vs : List Value} {L : List (Nat × List UInt8)}
theorem RP.size (h : RP foot w p gk Av Bv) (hs : w.heap.size ≤ w'.heap.size) : RP foot w' p gk Av Bv := ⟨h.hp, h.hgk, h.ne, h.av, h.bv, fun k hk => Nat.lt_of_lt_of_le (h.lt k hk) hs⟩
theorem RB.keep (h : RB w foot p gk Av Bv vs L) (hk : ∀ k, foot k → k ≠ p → k ≠ gk → Av.ownBlock ≠ some k → Bv.ownBlock ≠ some k → w'.heap[k]? = w.heap[k]?) : RB w' foot p gk Av Bv vs L :=
  ⟨h.1, fun j hj => by
    obtain ⟨g, c, h1, h2, h3, h4, h5, h6, h7, h8⟩ := h.2 j hj
    exact ⟨g, c, h1, h2, h3, h4, h5, h6, h7, h8.keep (by rintro b rfl; exact hk b h3 h4 h5 h6 h7)⟩⟩
theorem own_kept {w w' : World} {b n : Nat} {e : TypeId} {sz : Nat} {v : Value} {xs : List Value} (h : w.ownsRow b e sz v n xs) (hk : ∀ k, v.ownBlock = some k → w'.heap[k]? = w.heap[k]?) : w'.ownsRow b e sz v n xs := by
  refine ⟨h.1, ?_⟩
  rcases h.2 with hn | ⟨g, cap, cur, rfl, hb, hgg, rest⟩
  · exact .inl hn
  · exact .inr ⟨g, cap, cur, rfl, hb, (hk g rfl).trans hgg, rest⟩
theorem RDsk.lt (h : RDsk w foot p s) : ∀ k, foot k → k < w.heap.size := by
  obtain ⟨_, _, _, _, _, _, _, _, _, h6, _⟩ := h
  exact h6.lt
theorem RDsk.ok (h : RDsk w foot p s) : s.ok := by
  obtain ⟨_, _, _, _, _, _, _, _, _, _, h7⟩ := h
  exact h7
theorem RDsk.keep (h : RDsk w foot p s) (hs : w.heap.size ≤ w'.heap.size) (hk : ∀ k, foot k → w'.heap[k]? = w.heap[k]?) : RDsk w' foot p s := by
  obtain ⟨gk, Av, Bv, vs, h1, h2, h3, h4, h5, h6, h7⟩ := h
  exact ⟨gk, Av, Bv, vs, h1.keep (hk _ h6.hp), h2.keep (hk _ h6.hgk), own_kept h3 (fun k hv => hk k (h6.av k hv).1), own_kept h4 (fun k hv => hk k (h6.bv k hv).1), h5.keep (fun k hf _ _ _ _ => hk k hf), h6.size hs, h7⟩
theorem RDsk.grown (h : RDsk w foot p s) (hg : w.grownBy w' none) : RDsk w' foot p s := h.keep hg.size fun k hk => hg.block k (h.lt k hk) (by simp)
theorem RDsk.md {ft : Nat → Prop} (h : RDsk w foot p s) (hg : Md ft w w') (hd : ∀ k, foot k → ¬ ft k) : RDsk w' foot p s := h.keep hg.size fun k hk => hg.block k (h.lt k hk) (hd k hk)
/-- Just block p has turned: the rest of the disk is as it was. -/
theorem RDsk.turned {s' : St} (h1 : Blk w' p 44 (rcells s'.n gk Av Bv (max s'.f (-1)) s'.dead)) (hg : w.grownBy w' (some p)) (h2 : Blk w gk 5 (u8s s.K)) (h3 : w.ownsRow 0 3 1 Av s.L.length (ats s.L)) (h4 : w.ownsRow 0 40 1 Bv s.L.length vs)
    (h5 : RB w foot p gk Av Bv vs s.L) (h6 : RP foot w p gk Av Bv) (h7 : s'.ok) (hK : s'.K = s.K) (hL : s'.L = s.L) : RDsk w' foot p s' ∧ Md foot w w' := by
  refine ⟨⟨gk, Av, Bv, vs, h1, ?_, ?_, ?_, ?_, h6.size hg.size, h7⟩, Md.of_grown hg (by rintro _ ⟨⟩; exact h6.hp)⟩
  · rw [hK]; exact h2.grown hg (by have := h6.ne; simp; omega)
  · rw [hL]; exact own_kept h3 (fun k hv => hg.block k (h6.lt k (h6.av k hv).1) (by have := (h6.av k hv).2.1; simpa using this))
  · rw [hL]; exact own_kept h4 (fun k hv => hg.block k (h6.lt k (h6.bv k hv).1) (by have := (h6.bv k hv).2.1; simpa using this))
  · rw [hL]; exact h5.keep (fun k hf hn _ _ _ => hg.block k (h6.lt k hf) (by simpa using hn))
theorem step_any (h : RDsk w foot p s) : Calls Tryz.prog 51 #[.pointer (some ⟨p, 0, none⟩)] w fun e w' => e = .returned (.bool s.goes) ∧ RDsk w' foot p s.burn ∧ Md foot w w' := by
  obtain ⟨gk, Av, Bv, vs, h1, h2, h3, h4, h5, h6, h7⟩ := h
  have hbo := St.burn_ok h7
  obtain ⟨o1, o2, o3, o4, o5, o6⟩ := h7
  obtain ⟨rf, hrf⟩ : ∃ rf, rf = max s.f (-1) := ⟨_, rfl⟩
  rw [← hrf] at h1
  have c2 : w.cell? ⟨p, 4, none⟩ = some (.int .i64 rf) := h1.get 4 _ rfl
  have c3 : w.cell? ⟨p, 5, none⟩ = some (.bool s.dead) := h1.get 5 _ rfl
  have H1 := Lib.hid h1
  have HRF := Lib.hid hrf
  have hr1 : rf ≤ 9223372036854775807 := by omega
  have hr0 : -1 ≤ rf := by omega
  clear h1 o1 o2 o3 o4 hrf
  by_cases hz : s.f = 0
  · have hz' : rf = 0 := by have := HRF.out; omega
    have e0 : (rf == 0) = true := by simpa using hz'
    have e0' : (s.f == 0) = true := by simpa using hz
    have Hz := Lib.hid hz
    have Hz' := Lib.hid hz'
    clear hz hz' c3
    go_enter Tryz.func51, Tryz.ntmps51
    go_wp2_with (first | (refine wpList_store_cell rfl 4 _ _ rfl size4 p 5 (.bool true) rfl rfl rfl _ _ H1.out (by simp [rcells]) ?_) | fail)
    intro w1 g1 r1
    have c3 : w1.cell? ⟨p, 5, none⟩ = some (.bool true) := Blk.get g1.out 5 _ rfl
    go_wp2
    go_ret
    refine ⟨by rw [St.goes, e0']; simp, RDsk.turned (s := s) (s' := s.burn) (gk := gk) (Av := Av) (Bv := Bv) ?_ r1.out.grown h2 h3 h4 h5 h6 hbo rfl rfl⟩
    have : rcells s.burn.n gk Av Bv (max s.burn.f (-1)) s.burn.dead = (rcells s.n gk Av Bv rf s.dead).set 5 (.bool true) := by
      simp [rcells, St.burn, Hz.out, Hz'.out]
      decide
    rw [this]
    exact g1.out
  · have hz' : rf ≠ 0 := by have := HRF.out; omega
    have e0 : (rf == 0) = false := by simpa using hz'
    have e0' : (s.f == 0) = false := by simpa using hz
    cases hdd : s.dead with
    | true =>
      rw [hdd] at c3
      have Hd := Lib.hid hdd
      clear hdd
      go_enter Tryz.func51, Tryz.ntmps51
      go_wp2
      go_ret
      refine ⟨by rw [St.goes, Hd.out]; simp, RDsk.turned (s := s) (s' := s.burn) (gk := gk) (Av := Av) (Bv := Bv) ?_ (World.grownBy.refl _ _) h2 h3 h4 h5 h6 hbo rfl rfl⟩
      have : rcells s.burn.n gk Av Bv (max s.burn.f (-1)) s.burn.dead = rcells s.n gk Av Bv rf s.dead := by
        simp [rcells, St.burn, St.goes, Hd.out, HRF.out]
      rw [this]
      exact H1.out
    | false =>
      rw [hdd] at c3
      have Hd := Lib.hid hdd
      clear hdd
      by_cases hp : 0 < rf
      · have d1 : decide (0 < rf) = true := by simpa using hp
        have hw : IntKind.i64.wrap (rf - 1) = rf - 1 := IntWalk.i64_in _ (by omega)
        go_enter Tryz.func51, Tryz.ntmps51
        go_wp2_with (first | (refine wpList_store_cell rfl 3 _ _ rfl size3 p 4 (.int .i64 (rf - 1)) rfl rfl rfl _ _ H1.out (by simp [rcells]) ?_) | fail)
        intro w1 g1 r1
        go_wp2
        go_ret
        refine ⟨by rw [St.goes, Hd.out, e0']; simp, RDsk.turned (s := s) (s' := s.burn) (gk := gk) (Av := Av) (Bv := Bv) ?_ r1.out.grown h2 h3 h4 h5 h6 hbo rfl rfl⟩
        have hsf : s.f = rf := by have := HRF.out; omega
        have hbf : max s.burn.f (-1) = rf - 1 := by
          have hg : s.goes = true := by rw [St.goes, Hd.out, e0']; simp
          have : s.burn.f = s.f - 1 := by show (if s.goes = true ∧ 0 < s.f then s.f - 1 else s.f) = _; rw [if_pos ⟨hg, by omega⟩]
          omega
        have : rcells s.burn.n gk Av Bv (max s.burn.f (-1)) s.burn.dead = (rcells s.n gk Av Bv rf s.dead).set 4 (.int .i64 (rf - 1)) := by
          rw [hbf]
          simp [rcells, St.burn, Hd.out, e0']
        rw [this]
        exact g1.out
      · have d1 : decide (0 < rf) = false := by simpa using hp
        go_enter Tryz.func51, Tryz.ntmps51
        go_wp2
        go_ret
        refine ⟨by rw [St.goes, Hd.out, e0']; simp, RDsk.turned (s := s) (s' := s.burn) (gk := gk) (Av := Av) (Bv := Bv) ?_ (World.grownBy.refl _ _) h2 h3 h4 h5 h6 hbo rfl rfl⟩
        have hbf : s.burn.f = s.f := by show (if s.goes = true ∧ 0 < s.f then s.f - 1 else s.f) = _; rw [if_neg (fun h => by have := h.2; have := HRF.out; omega)]
        have : rcells s.burn.n gk Av Bv (max s.burn.f (-1)) s.burn.dead = rcells s.n gk Av Bv rf s.dead := by
          rw [hbf, ← HRF.out]
          simp [rcells, St.burn, Hd.out, e0']
        rw [this]
        exact H1.out
end
def NewR (w : World) (n : Nat) (e : Ending) (w' : World) : Prop := ∃ p foot, e = .returned (.pointer (some ⟨p, 0, none⟩)) ∧ RDsk w' foot p (St.mk0 n) ∧ (∀ k, foot k → w.heap.size ≤ k) ∧ w.grownBy w' none
theorem rnew_any (w : World) (b : Int) : Calls Tryz.prog 8 #[.int .i64 b] w (NewR w (nOf b)) := by
  obtain ⟨h1, h2⟩ := nOf_bd b
  have hc := nOf_cast b
  generalize nOf b = n at *
  have hm : ∀ w, (Instr.makeSlice 40 (.int .i64 (64 * (min (max b 1) 4096))) (.int .i64 (64 * (min (max b 1) 4096)))).run Tryz.prog w = .ok (.slice (some ⟨w.heap.size, 0, none⟩) (64 * n) (64 * n)) (w.alloc (.cells (u8s (zb (64 * n))).toArray 5)) := fun w => by
    have := run_make33 (N := 64 * n) (by omega) w
    rwa [show ((64 * n : Nat) : Int) = 64 * (min (max b 1) 4096) by omega] at this
  have HC := Lib.hid hc
  clear hc
  go_enter Tryz.func8, Tryz.ntmps8
  go_wp2
  go_ret
  rw [← HC.out]
  have hb : Blk ((w.alloc (.cells (u8s (zb (64 * n))).toArray 5)).alloc (.cells #[.int .i64 (n : Int), .slice (some ⟨w.heap.size, 0, none⟩) (64 * n) (64 * n), .slice none 0 0, .slice none 0 0, .int .i64 (-1), .bool false] 44)) (w.heap.size + 1) 44 (rcells n w.heap.size (.slice none 0 0) (.slice none 0 0) (-1) false) := heap_alloc2_new w _ _
  refine ⟨w.heap.size + 1, fun k => w.heap.size ≤ k ∧ k < w.heap.size + 2, by simp, ?_, fun k hk => hk.1, (World.grownBy_alloc _ _ _).trans (World.grownBy_alloc _ _ _)⟩
  exact ⟨w.heap.size, .slice none 0 0, .slice none 0 0, [], hb, heap_alloc2_old w _ _, World.ownsRow_nil _ _ _ _, World.ownsRow_nil _ _ _ _, ⟨rfl, fun j hj => absurd hj (Nat.not_lt_zero _)⟩,
    ⟨by omega, by omega, by omega, fun k hk => by simp [Value.ownBlock] at hk, fun k hk => by simp [Value.ownBlock] at hk, fun k hk => by simp; omega⟩, St.mk0_ok h1 h2⟩
theorem lay_putn {b WT : List UInt8} {i n : Nat} (hb : b.length = 64) (hl : WT.length = 64 * n) (hi : i < n) : WT.take (64 * i) ++ lay b (WT.drop (64 * i)) = put i b WT := by
  unfold lay put
  rw [List.take_of_length_le (l := b) (by rw [List.length_drop, hl, hb]; omega), List.drop_drop, hb]
theorem ats_get (L : List (Nat × List UInt8)) (k : Nat) (hk : k < L.length) : (ats L)[k]? = some (.int .i64 (L[k].1 : Int)) := by simp [ats, hk]
theorem redo_take_succ (K : List UInt8) (L : List (Nat × List UInt8)) (k : Nat) (hk : k < L.length) : redo K (L.take (k + 1)) = put L[k].1 L[k].2 (redo K (L.take k)) := by
  rw [List.take_add_one, List.getElem?_eq_getElem hk]
  exact redo_snoc _ _ _
/-- What the reference's keep makes of the state. -/
def St.kepT (s : St) (n : Int) : St := { s with K := redo s.K (s.L.take n.toNat), L := [] }
theorem St.kepT_ok {s : St} (h : s.ok) (n : Int) : (s.kepT n).ok := by
  obtain ⟨h1, h2, h3, h4, h5, h6⟩ := h
  exact ⟨h1, h2, redo_length (h4.take _) h3, Fit.nil _, h5, h6⟩
section
variable {foot : Nat → Prop} {w : World} {p : Nat} {s : St}
set_option maxRecDepth 100000 in
set_option maxHeartbeats 4000000 in
theorem rkeep_any (h : RDsk w foot p s) (hL : s.L.length ≤ 1048576) (n : Int) : Calls Tryz.prog 46 #[.pointer (some ⟨p, 0, none⟩), .int .i64 n] w fun e w' => e = .returned (.tuple #[]) ∧ RDsk w' foot p (s.kepT n) ∧ Md foot w w' := by
  obtain ⟨gk, Av, Bv, vs, h1, h2, h3, h4, h5, h6, h7⟩ := h
  obtain ⟨Aa, ca, rfl⟩ := own_shape h3
  obtain ⟨Ba, cb, rfl⟩ := own_shape h4
  obtain ⟨m, hm⟩ : ∃ m, m = s.L.length := ⟨_, rfl⟩
  rw [← hm] at h1 h3 h4 h5 h6 hL
  have H1 := Lib.hid h1
  have H2 := Lib.hid h2
  have H3 := Lib.hid h3
  have H4 := Lib.hid h4
  have H5 := Lib.hid h5
  have H6 := Lib.hid h6
  have H7 := Lib.hid h7
  have HM := Lib.hid hm
  clear h1 h2 h3 h4 h5 h6 h7 hm
  go_enter Tryz.func46, Tryz.ntmps46
  go_wp2
  go_loopw [4] (fun vi wr => ∃ k : Nat, k ≤ m ∧ (k : Int) ≤ max n 0 ∧ vi = .int .i64 (k : Int) ∧ Blk wr gk 5 (u8s (redo s.K (s.L.take k))) ∧ w.grownBy wr (some gk)) (fun vi _ => m - (intOf vi).toNat)
  case atStart => exact ⟨0, Nat.zero_le _, by omega, rfl, by simpa [redo] using H2.out, World.grownBy.refl _ _⟩
  case round =>
    obtain ⟨k, hk, hkn, rfl, r1, r2⟩ := hrel
    obtain ⟨wo, rfl⟩ : ∃ wo : World, wo = wr := ⟨_, rfl⟩
    have hp1 : Blk wo p 44 (rcells s.n gk (.slice Aa m ca) (.slice Ba m cb) (max s.f (-1)) s.dead) := H1.out.grown r2 (by have := H6.out.ne; simpa using this)
    have c1 : wo.cell? ⟨p, 1, none⟩ = some (.slice (some ⟨gk, 0, none⟩) (64 * s.n) (64 * s.n)) := hp1.get 1 _ rfl
    have c2 : wo.cell? ⟨p, 2, none⟩ = some (.slice Aa m ca) := hp1.get 2 _ rfl
    have c3 : wo.cell? ⟨p, 3, none⟩ = some (.slice Ba m cb) := hp1.get 3 _ rfl
    have R1 := Lib.hid r1
    have R2 := Lib.hid r2
    have HP1 := Lib.hid hp1
    clear r1 hp1
    by_cases hlt : k < m ∧ (k : Int) < n
    · obtain ⟨hl1, hl2⟩ := hlt
      have d1 : decide ((k : Int) < (m : Int)) = true := by simp; omega
      have d2 : decide ((k : Int) < n) = true := by simpa using hl2
      have hlL : k < s.L.length := by rw [← HM.out]; exact hl1
      obtain ⟨ga, ca', e, _, _⟩ := H3.out.form (by omega)
      simp only [Value.slice.injEq] at e
      obtain ⟨rfl, -, rfl⟩ := e
      obtain ⟨gb, cb', e, _, _⟩ := H4.out.form (by omega)
      simp only [Value.slice.injEq] at e
      obtain ⟨rfl, -, rfl⟩ := e
      obtain ⟨g, c, v1, v2, v3, v4, v5, v6, v7, v8⟩ := H5.out.2 k hlL
      have a1 : wo.cell? ⟨ga, k, none⟩ = some (.int .i64 (s.L[k].1 : Int)) := by
        have := H3.out.cells (g := ga) rfl k _ (ats_get s.L k hlL)
        rw [Addr.add_mid, Nat.zero_add] at this
        exact (World.cell?_of_block (r2.block ga (H6.out.lt ga (H6.out.av ga rfl).1) (by have := (H6.out.av ga rfl).2.2; simpa using this))).trans this
      have a2 : wo.cell? ⟨gb, k, none⟩ = some (.slice (some ⟨g, 0, none⟩) 64 c) := by
        have := H4.out.cells (g := gb) rfl k _ v1
        rw [Addr.add_mid, Nat.zero_add] at this
        exact (World.cell?_of_block (r2.block gb (H6.out.lt gb (H6.out.bv gb rfl).1) (by have := (H6.out.bv gb rfl).2.2.1; simpa using this))).trans this
      have hfit := H7.out.2.2.2.1 s.L[k] (List.getElem_mem _)
      have hsrc : Byt wo (fun b => b = g) (some ⟨g, 0, none⟩) s.L[k].2 := v8.grown r2 (by rintro b rfl; exact ⟨H6.out.lt b v3, by simpa using v5⟩)
      have hKl : (redo s.K (s.L.take k)).length = 64 * s.n := redo_length (H7.out.2.2.2.1.take _) H7.out.2.2.1
      have hrt := redo_take_succ s.K s.L k hlL
      obtain ⟨K1, hK1⟩ : ∃ K1, K1 = redo s.K (s.L.take k) := ⟨_, rfl⟩
      obtain ⟨at_, hat⟩ : ∃ a, a = s.L[k].1 := ⟨_, rfl⟩
      obtain ⟨bb, hbb⟩ : ∃ b, b = s.L[k].2 := ⟨_, rfl⟩
      rw [← hat, ← hbb, ← hK1] at hrt
      rw [← hK1] at R1 hKl
      rw [← hat] at a1
      rw [← hbb] at hsrc
      rw [← hat, ← hbb] at hfit
      obtain ⟨hf1, hf2⟩ := hfit
      have hn4 := H7.out.2.1
      have hb0 : Blk wo.drew gk 5 (u8s (K1.take (64 * at_)) ++ u8s (K1.drop (64 * at_)) ++ []) := by
        rw [List.append_nil, ← u8s_append, List.take_append_drop]
        exact R1.out
      have HB0 := Lib.hid hb0
      have HP : Hid ((u8s (K1.take (64 * at_))).length = 64 * at_) := by show _ = _; rw [u8s_length, List.length_take, hKl]; omega
      have HY : Hid ((K1.drop (64 * at_)).length = 64 * s.n - 64 * at_) := by show _ = _; rw [List.length_drop, hKl]
      have HMN : Hid (Nat.min bb.length (K1.drop (64 * at_)).length = 64) := by show Nat.min _ _ = 64; rw [HY.out, hf2]; exact Nat.min_eq_left (by omega)
      have HSR : Hid (Byt wo.drew (fun b => b = g) (some ⟨g, 0, none⟩) bb) := hsrc
      have HF2 := Lib.hid hf2
      have HRT := Lib.hid hrt
      have HKL := Lib.hid hKl
      have HNE : Hid (p ≠ gk ∧ ga ≠ gk ∧ gb ≠ gk) := ⟨H6.out.ne, (H6.out.av ga rfl).2.2, (H6.out.bv gb rfl).2.2.1⟩
      have hk64 : IntKind.i64.wrap (64 * (at_ : Int)) = 64 * (at_ : Int) := IntWalk.i64_in _ (by omega)
      have q1 : (0 : Int) ≤ 64 * (at_ : Int) := by omega
      have q2 : 64 * (at_ : Int) ≤ 64 * (s.n : Int) := by omega
      have q3 : (64 * (at_ : Int)).toNat = 64 * at_ := by omega
      have q4 : ¬ 64 * s.n = 64 * at_ := by omega
      have q7 : ¬ s.n = at_ := by omega
      have q8 : at_ ≤ s.n := by omega
      have q9 : (at_ : Int) ≤ (s.n : Int) := by omega
      have q5 : (0 : Int) ≤ (k : Int) := by omega
      have q6 : (k : Int) < (m : Int) := by omega
      clear r2 v1 v2 v3 v4 v5 v6 v7 v8 hsrc hKl hrt hK1 hat hbb hf2 hb0 R1
      go_wp2
      go_region_held3 (fun W => W.cell? ⟨p, 1, none⟩ = some (.slice (some ⟨gk, 0, none⟩) (64 * s.n) (64 * s.n)) ∧ W.cell? ⟨p, 2, none⟩ = some (.slice (some ⟨ga, 0, none⟩) m ca) ∧ W.cell? ⟨p, 3, none⟩ = some (.slice (some ⟨gb, 0, none⟩) m cb) ∧ W.cell? ⟨ga, k, none⟩ = some (.int .i64 (at_ : Int)) ∧ W.cell? ⟨gb, k, none⟩ = some (.slice (some ⟨g, 0, none⟩) 64 c))
        (first | exact ⟨c15, c25, c35, a15, a25⟩ | exact ⟨c1, c2, c3, a1, a2⟩ | go_keep)
        (first
          | (refine step_copy_blk rfl (.tmp 31) (.tmp 38) rfl gk (64 * at_) (64 * s.n - 64 * at_) (64 * s.n - 64 * at_) 64 c (some ⟨g, 0, none⟩) bb (K1.drop (64 * at_)) (by simp [Act.eval]) (by simp [Act.eval]) HF2.out HY.out (by rw [HMN.out]; decide) 5 (u8s (K1.take (64 * at_))) [] HB0.out HP.out (fun b => b = g) HSR.out 64 HMN.out ?_
             intro w5 hb5 hg5 hz5
             have c15 : w5.cell? ⟨p, 1, none⟩ = some (.slice (some ⟨gk, 0, none⟩) (64 * s.n) (64 * s.n)) := (hg5.cell_far ⟨p, 1, none⟩ (World.block_lt_of_cell? wo _ c1) (by have := HNE.out.1; simpa using this)).trans c1
             have c25 : w5.cell? ⟨p, 2, none⟩ = some (.slice (some ⟨ga, 0, none⟩) m ca) := (hg5.cell_far ⟨p, 2, none⟩ (World.block_lt_of_cell? wo _ c2) (by have := HNE.out.1; simpa using this)).trans c2
             have c35 : w5.cell? ⟨p, 3, none⟩ = some (.slice (some ⟨gb, 0, none⟩) m cb) := (hg5.cell_far ⟨p, 3, none⟩ (World.block_lt_of_cell? wo _ c3) (by have := HNE.out.1; simpa using this)).trans c3
             have a15 : w5.cell? ⟨ga, k, none⟩ = some (.int .i64 (at_ : Int)) := (hg5.cell_far ⟨ga, k, none⟩ (World.block_lt_of_cell? wo _ a1) (by have := HNE.out.2.1; simpa using this)).trans a1
             have a25 : w5.cell? ⟨gb, k, none⟩ = some (.slice (some ⟨g, 0, none⟩) 64 c) := (hg5.cell_far ⟨gb, k, none⟩ (World.block_lt_of_cell? wo _ a2) (by have := HNE.out.2.2; simpa using this)).trans a2
             have hb5' : Blk w5 gk 5 (u8s (redo s.K (s.L.take (k + 1)))) := by
               rw [HRT.out, ← lay_putn HF2.out HKL.out hf1, u8s_append]
               rw [List.append_nil] at hb5
               exact hb5
             have HB5 := Lib.hid hb5'
             have HG5 : Hid (w.grownBy w5 (some gk)) := World.grownBy.andThen (World.grownBy.andThen R2.out (grown_drewN 1 : wo.grownBy wo.drew none) (by simp)) hg5 (fun j e => .inr e)
             clear hb5 hb5' hg5 hz5)
          | fail)
      go_wp2
      go_roundw
      case rel => exact ⟨k + 1, by omega, by omega, by go_num, HB5.out, HG5.out⟩
      case measure => simp [intOf]; omega
    · have htk : s.L.take k = s.L.take n.toNat := by
        have := HM.out
        by_cases hkm : k = m
        · rw [List.take_of_length_le (by omega), List.take_of_length_le (by omega)]
        · have : k = n.toNat := by omega
          rw [this]
      rw [htk] at R1
      have fin : ∀ w5 : World, Blk w5 p 44 (((rcells s.n gk (.slice Aa m ca) (.slice Ba m cb) (max s.f (-1)) s.dead).set 2 (.slice none 0 0)).set 3 (.slice none 0 0)) → wo.grownBy w5 (some p) → RDsk w5 foot p (s.kepT n) ∧ Md foot w w5 := fun w5 b5 g5 => by
        have hmd : Md foot w w5 := (Md.of_grown R2.out (by rintro _ ⟨⟩; exact H6.out.hgk)).trans (Md.of_grown g5 (by rintro _ ⟨⟩; exact H6.out.hp))
        exact ⟨⟨gk, .slice none 0 0, .slice none 0 0, [], b5, R1.out.grown g5 (by have := H6.out.ne; simp; omega), World.ownsRow_nil _ _ _ _, World.ownsRow_nil _ _ _ _, ⟨rfl, fun j hj => absurd hj (Nat.not_lt_zero _)⟩,
          ⟨H6.out.hp, H6.out.hgk, H6.out.ne, fun k hk => by simp [Value.ownBlock] at hk, fun k hk => by simp [Value.ownBlock] at hk, fun k hk => Nat.lt_of_lt_of_le (H6.out.lt k hk) hmd.size⟩, St.kepT_ok H7.out n⟩, hmd⟩
      have FIN := Lib.hid fin
      clear fin htk r2
      by_cases hl1 : k < m
      · have d1 : decide ((k : Int) < (m : Int)) = true := by simp; omega
        have d2 : decide ((k : Int) < n) = false := by simp; omega
        go_wp2_with (first
          | (refine wpList_store_cell rfl 41 _ _ rfl size43 p 2 (.slice none 0 0) rfl rfl rfl _ _ HP1.out (by simp [rcells]) ?_; intro w3 g3 r3)
          | (refine wpList_store_cell rfl 42 _ _ rfl size44 p 3 (.slice none 0 0) rfl rfl rfl _ _ g3.out (by simp [rcells]) ?_; intro w4 g4 r4)
          | fail)
        go_end0
        exact ⟨rfl, FIN.out w4 g4.out (r3.out.grown.trans r4.out.grown)⟩
      · have d1 : decide ((k : Int) < (m : Int)) = false := by simp; omega
        go_wp2_with (first
          | (refine wpList_store_cell rfl 41 _ _ rfl size43 p 2 (.slice none 0 0) rfl rfl rfl _ _ HP1.out (by simp [rcells]) ?_; intro w3 g3 r3)
          | (refine wpList_store_cell rfl 42 _ _ rfl size44 p 3 (.slice none 0 0) rfl rfl rfl _ _ g3.out (by simp [rcells]) ?_; intro w4 g4 r4)
          | fail)
        go_end0
        exact ⟨rfl, FIN.out w4 g4.out (r3.out.grown.trans r4.out.grown)⟩
theorem St.kepT_all (s : St) : s.kepT (s.L.length : Int) = s.sync := by
  unfold St.kepT St.sync
  rw [Int.toNat_natCast, List.take_length]
theorem rsync_any (h : RDsk w foot p s) (hL : s.L.length ≤ 1048576) : Calls Tryz.prog 27 #[.pointer (some ⟨p, 0, none⟩)] w fun e w' => e = .returned (.int .i64 s.syncE) ∧ RDsk w' foot p s.synced ∧ Md foot w w' := by
  have hc := step_any h
  cases hg : s.goes with
  | true =>
    rw [hg] at hc
    have Hg := Lib.hid hg
    have HC := Lib.hid hc
    have HL : Hid (s.burn.L.length ≤ 1048576) := hL
    clear hg h hc hL
    go_enter Tryz.func27, Tryz.ntmps27
    go_wp2_with (first
      | (go_at_call 51
         with_reducible refine HC.out.mono ?_
         rintro e w1 ⟨rfl, hd, hm⟩
         have hk := rkeep_any hd HL.out (s.burn.L.length : Int)
         rw [St.kepT_all] at hk
         have HK := Lib.hid hk
         have HM := Lib.hid hm
         obtain ⟨gk, Av, Bv, vs, h1, h2, h3, h4, h5, h6, h7⟩ := hd
         obtain ⟨Aa, ca, rfl⟩ := own_shape h3
         have c2 : w1.cell? ⟨p, 2, none⟩ = some (.slice Aa s.burn.L.length ca) := h1.get 2 _ rfl
         clear h1 h2 h3 h4 h5 h6 h7 hk hm)
      | (go_at_call 46
         with_reducible refine HK.out.mono ?_
         rintro e w2 ⟨rfl, hd2, hm2⟩)
      | fail)
    go_ret
    refine ⟨by rw [St.syncE, if_pos Hg.out]; rfl, ?_, HM.out.trans hm2⟩
    rw [St.synced, if_pos Hg.out]
    exact hd2
  | false =>
    rw [hg] at hc
    have Hg := Lib.hid hg
    have HC := Lib.hid hc
    clear hg h hc hL
    go_enter Tryz.func27, Tryz.ntmps27
    go_wp2_with (first | (go_at_call 51; refine HC.out.mono ?_; rintro e w1 ⟨rfl, hd, hm⟩) | fail)
    go_ret
    refine ⟨by rw [St.syncE, Hg.out]; rfl, ?_, hm⟩
    rw [St.synced, Hg.out]
    exact hd
theorem rcrash_any (h : RDsk w foot p s) (hL : s.L.length ≤ 1048576) (n : Int) : Calls Tryz.prog 19 #[.pointer (some ⟨p, 0, none⟩), .int .i64 n] w fun e w' => e = .returned (.tuple #[]) ∧ RDsk w' foot p (s.crash n) ∧ Md foot w w' := by
  have HK := Lib.hid (rkeep_any h hL n)
  clear h hL
  go_enter Tryz.func19, Tryz.ntmps19
  go_wp2_with (first
    | (go_at_call 46
       with_reducible refine HK.out.mono ?_
       rintro e w1 ⟨rfl, hd, hm⟩
       obtain ⟨gk, Av, Bv, vs, h1, h2, h3, h4, h5, h6, h7⟩ := hd
       have H1 := Lib.hid h1
       have H2 := Lib.hid h2
       have H3 := Lib.hid h3
       have H4 := Lib.hid h4
       have H5 := Lib.hid h5
       have H6 := Lib.hid h6
       have H7 := Lib.hid h7
       have HM := Lib.hid hm
       clear h1 h2 h3 h4 h5 h6 h7 hm)
    | (refine wpList_store_cell rfl 3 _ _ rfl size3 p 4 (.int .i64 (-1)) rfl rfl rfl _ _ H1.out (by simp [rcells]) ?_; intro w3 g3 r3)
    | (refine wpList_store_cell rfl 4 _ _ rfl size4 p 5 (.bool false) rfl rfl rfl _ _ g3.out (by simp [rcells]) ?_; intro w4 g4 r4)
    | fail)
  go_end0
  have ht := RDsk.turned (w' := w4) (s := s.kepT n) (s' := s.crash n) (gk := gk) (Av := Av) (Bv := Bv) g4.out (r3.out.grown.trans r4.out.grown) H2.out H3.out H4.out H5.out H6.out ⟨H7.out.1, H7.out.2.1, H7.out.2.2.1, Fit.nil _, by simp [St.crash], by simp [St.crash]⟩ rfl rfl
  exact ⟨rfl, ht.1, HM.out.trans ht.2⟩
end
end Go.Proofs.YtonpcenjipigpaaGreat
