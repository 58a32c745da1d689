/- Crash of a disk. Conditions: at most 2^20 writes wait. -/
import Derived.Test.YtonpcenjipigpaaDUnd
namespace Go.Proofs.Ytonpcenjipigpaa
open Go.RowKit
theorem take_min (L : List (Nat × List UInt8)) (k : Int) : L.take (min k.toNat L.length) = L.take k.toNat := by
  rcases Nat.le_total k.toNat L.length with h | h
  · rw [Nat.min_eq_left h]
  · rw [Nat.min_eq_right h, List.take_length, List.take_of_length_le h]
theorem yieldsIf_slice53 {ops : Array Oper} {S : World → Prop} {o : Oper} {a : Act} (hw : Region.wanted o (yielded ops a.tmps) = true) (x y : Operand) (ho : o.op = .slice 50 x (some y) none none) {v u r : Value} (hx : a.eval x = v) (hy : a.eval y = u)
    (hrun : ∀ w, (Instr.sliceAt 50 v (some u) none none).run Try.prog w = .ok r w) : YieldsIf Try.prog ops S o r a :=
  .inl ⟨hw, fun w _ => by
    have hrun := hrun w
    unfold execOp
    simp only [ho, hx, hy, Option.map_some, Option.map_none, hrun, Sem.run_bind, Sem.run_pure, Result.andThen_ok]⟩
theorem run_slice53_all (A : Option Addr) (m c k : Nat) (hk : k ≤ m) (hc : m ≤ c) :
    ∃ B c', (∀ w, (Instr.sliceAt 50 (.slice A m c) (some (.int .i64 (k : Int))) none none).run Try.prog w = .ok (.slice B (m - k) c') w) ∧ (k < m → ∀ g o, A = some ⟨g, o, none⟩ → B = some ⟨g, o + 65 * k, none⟩) := by
  refine ⟨if c = k then A else A.map (·.add (65 * k)), c - k, fun w => ?_, fun hlt g o e => ?_⟩
  · have h1 : (k : Int) ≤ (m : Int) := by omega
    by_cases h2 : c = k
    · simp [Instr.sliceAt, Instr.slice, Instr.sliceBounds, run_underlying Try.underlying50, run_sliceBound, h1, h2, Nat.mul_comm]
    · simp [Instr.sliceAt, Instr.slice, Instr.sliceBounds, run_underlying Try.underlying50, run_sliceBound, h1, h2, Nat.mul_comm]
  · subst e
    rw [if_neg (by omega)]
    simp [Addr.add_mid]
/-- What a region that reads of a disk leans on: its slices of blocks and of what waits. -/
def HeldC (p gb n : Nat) (Wv : Value) (W : World) : Prop := W.cell? ⟨p, 0, none⟩ = some (.slice (some ⟨gb, 0, none⟩) n n) ∧ W.cell? ⟨p, 1, none⟩ = some Wv
set_option maxRecDepth 100000 in
set_option maxHeartbeats 1600000 in
theorem crash_any {foot : Nat → Prop} {w : World} {p : Nat} {s : St} (h : Dsk w foot p s) (hL : s.L.length ≤ 1048576) (k : Int) : Calls Try.prog 13 #[.pointer (some ⟨p, 0, none⟩), .int .i64 k] w fun e w' => e = .returned (.tuple #[]) ∧ Dsk w' foot p (s.crash k) ∧ Md foot w w' := by
  obtain ⟨gb, Wv, B, W, h1, h2, h3, h4, h5⟩ := h
  obtain ⟨Aw, cw, rfl⟩ := own_shape h3
  have hmc : W.length ≤ cw := by
    rcases h3.2 with ⟨e, h0⟩ | ⟨g, cap, cur, e, _, _, h0, _⟩
    · omega
    · simp only [Value.slice.injEq] at e; omega
  obtain ⟨kk, hkk⟩ : ∃ kk, kk = min k.toNat W.length := ⟨_, rfl⟩
  have hkm : kk ≤ W.length := by omega
  have hki : min (max k 0) (W.length : Int) = (kk : Int) := by omega
  obtain ⟨A2, c2, hsl, hA2⟩ := run_slice53_all Aw W.length cw kk hkm hmc
  have c0 : w.cell? ⟨p, 0, none⟩ = some (.slice (some ⟨gb, 0, none⟩) s.n s.n) := h1.get 0 _ rfl
  have c1 : w.cell? ⟨p, 1, none⟩ = some (.slice Aw W.length cw) := h1.get 1 _ rfl
  have hWl : W.length ≤ 1048577 := by have := h5.inv.1; omega
  have hLi : Lies w w.heap.size gb Aw W := Lies.of_own h3 h5.fit (fun k hk => (h4.wv k hk).2.2)
  have hU := undo_any (cb := s.n) (cw := c2) (w := w.drew) (tl := []) (by rw [List.append_nil]; exact (show Blk w.drew gb 91 (u8s B) from h2)) h5.len (h5.fit.drop kk) (by rw [List.length_drop]; omega) ((hLi.drop kk A2 (fun hlt => hA2 (by omega))).keep (w' := w.drew) fun _ _ _ => rfl)
  rw [List.length_drop, List.append_nil] at hU
  have HU := Lib.hid hU
  have hSt : Hid (redo s.K (s.L.take k.toNat) = undo B (W.drop kk)) := by
    show _ = _
    rw [h5.inv.2 kk (by rw [← h5.inv.1]; exact hkm), hkk, h5.inv.1, take_min]
  have H1 := Lib.hid h1
  have H4 := Lib.hid h4
  have H5 := Lib.hid h5
  have HSL := Lib.hid hsl
  clear hmc hkk hkm hA2 hWl hLi hU h1 h2 h3 h4 h5 hL hsl
  go_enter Try.func13, Try.ntmps13
  go_wp2
  refine wp_region_held_drew (S := HeldC p gb s.n (.slice Aw W.length cw)) (by kernel_rfl) ⟨c0, c1⟩ (fun hHeld => ?_)
  refine' wpAnyH_take (i := 0) (oi := { dst := some 12, op := Op.move (Operand.tmp 0), type := 25, pos := "disk.go:94", after := #[], guard := none }) (v := .pointer (some ⟨p, 0, none⟩)) rfl (by kernel_rfl) (by kernel_rfl) (by kernel_rfl) (fun _ _ _ h => h) (Or.inl ⟨by rfl, fun _ _ => rfl⟩) (by assumption) ?qz1
  try simp only [Act.put, List.setIfInBounds_toArray, List.set_cons_zero, List.set_cons_succ]
  refine' wpAnyH_take (i := 1) (oi := { dst := some 13, op := Op.nilCheck (Operand.tmp 12), type := 0, pos := "disk.go:94", after := #[{ on := 0, ground := Ground.data }], guard := none }) (v := .pointer (some ⟨p, 0, none⟩)) rfl (by kernel_rfl) (by kernel_rfl) (by kernel_rfl) (fun _ _ _ h => h) (Or.inl ⟨by rfl, fun w' hSw => by go_simp⟩) (by assumption) ?qz2
  try simp only [Act.put, List.setIfInBounds_toArray, List.set_cons_zero, List.set_cons_succ]
  refine' wpAnyH_take (i := 2) (oi := { dst := some 14, op := Op.fieldAddr 52 (Operand.tmp 13) 0, type := 0, pos := "disk.go:94", after := #[{ on := 1, ground := Ground.data }], guard := none }) (v := .pointer (some ⟨p, 0, none⟩)) rfl (by kernel_rfl) (by kernel_rfl) (by kernel_rfl) (fun _ _ _ h => h) (Or.inl ⟨by rfl, fun w' hSw => by go_simp⟩) (by assumption) ?qz3
  try simp only [Act.put, List.setIfInBounds_toArray, List.set_cons_zero, List.set_cons_succ]
  refine' wpAnyH_take (i := 3) (oi := { dst := some 15, op := Op.load 49 (Operand.tmp 14), type := 49, pos := "disk.go:94", after := #[{ on := 2, ground := Ground.data }], guard := none }) (v := .slice (some ⟨gb, 0, none⟩) s.n s.n) rfl (by kernel_rfl) (by kernel_rfl) (by kernel_rfl) (fun _ _ _ h => h) (Or.inl ⟨by rfl, fun w' hSw => by (obtain ⟨s1, s2⟩ := hSw; go_simp)⟩) (by assumption) ?qz4
  try simp only [Act.put, List.setIfInBounds_toArray, List.set_cons_zero, List.set_cons_succ]
  refine' wpAnyH_take (i := 4) (oi := { dst := some 16, op := Op.move (Operand.tmp 0), type := 25, pos := "disk.go:94", after := #[], guard := none }) (v := .pointer (some ⟨p, 0, none⟩)) rfl (by kernel_rfl) (by kernel_rfl) (by kernel_rfl) (fun _ _ _ h => h) (Or.inl ⟨by rfl, fun _ _ => rfl⟩) (by assumption) ?qz5
  try simp only [Act.put, List.setIfInBounds_toArray, List.set_cons_zero, List.set_cons_succ]
  refine' wpAnyH_take (i := 5) (oi := { dst := some 17, op := Op.nilCheck (Operand.tmp 16), type := 0, pos := "disk.go:94", after := #[{ on := 4, ground := Ground.data }], guard := none }) (v := .pointer (some ⟨p, 0, none⟩)) rfl (by kernel_rfl) (by kernel_rfl) (by kernel_rfl) (fun _ _ _ h => h) (Or.inl ⟨by rfl, fun w' hSw => by go_simp⟩) (by assumption) ?qz6
  try simp only [Act.put, List.setIfInBounds_toArray, List.set_cons_zero, List.set_cons_succ]
  refine' wpAnyH_take (i := 6) (oi := { dst := some 18, op := Op.fieldAddr 52 (Operand.tmp 17) 1, type := 0, pos := "disk.go:94", after := #[{ on := 5, ground := Ground.data }], guard := none }) (v := .pointer (some ⟨p, 1, none⟩)) rfl (by kernel_rfl) (by kernel_rfl) (by kernel_rfl) (fun _ _ _ h => h) (Or.inl ⟨by rfl, fun w' hSw => by go_simp⟩) (by assumption) ?qz7
  try simp only [Act.put, List.setIfInBounds_toArray, List.set_cons_zero, List.set_cons_succ]
  refine' wpAnyH_take (i := 7) (oi := { dst := some 19, op := Op.load 50 (Operand.tmp 18), type := 50, pos := "disk.go:94", after := #[{ on := 6, ground := Ground.data }], guard := none }) (v := .slice Aw W.length cw) rfl (by kernel_rfl) (by kernel_rfl) (by kernel_rfl) (fun _ _ _ h => h) (Or.inl ⟨by rfl, fun w' hSw => by (obtain ⟨s1, s2⟩ := hSw; go_simp)⟩) (by assumption) ?qz8
  try simp only [Act.put, List.setIfInBounds_toArray, List.set_cons_zero, List.set_cons_succ]
  refine' wpAnyH_take (i := 8) (oi := { dst := some 20, op := Op.move (Operand.tmp 1), type := 3, pos := "disk.go:94", after := #[], guard := none }) (v := .int .i64 (kk : Int)) rfl (by kernel_rfl) (by kernel_rfl) (by kernel_rfl) (fun _ _ _ h => h) (Or.inl ⟨by rfl, fun _ _ => rfl⟩) (by assumption) ?qz9
  try simp only [Act.put, List.setIfInBounds_toArray, List.set_cons_zero, List.set_cons_succ]
  refine' wpAnyH_take (i := 9) (oi := { dst := some 21, op := Op.slice 50 (Operand.tmp 19) (some (Operand.tmp 20)) none none, type := 50, pos := "disk.go:94", after := #[{ on := 7, ground := Ground.data }, { on := 8, ground := Ground.data }], guard := none }) (v := .slice A2 (W.length - kk) c2) rfl (by kernel_rfl) (by kernel_rfl) (by kernel_rfl) (fun _ _ _ h => h) (yieldsIf_slice53 (v := .slice Aw W.length cw) (u := .int .i64 (kk : Int)) (by rfl) (.tmp 19) (.tmp 20) rfl rfl rfl HSL.out) (by assumption) ?qz10
  try simp only [Act.put, List.setIfInBounds_toArray, List.set_cons_zero, List.set_cons_succ]
  refine wpAnyH_ready (rs := [10]) (by kernel_rfl) (by simp) ?_
  refine AllReadyH.cons (o := { dst := some 22, op := Op.call { callee := Callee.value (Operand.func 29), args := #[Operand.tmp 15, Operand.tmp 21], argTypes := #[49, 50] }, type := 0, pos := "disk.go:94", after := #[{ on := 3, ground := Ground.data }, { on := 9, ground := Ground.data }], guard := none }) rfl (fun K hK => ?_) AllReadyH.nil
  rw [if_pos (by rfl)]
  go_simp
  with_reducible refine HU.out.mono ?_
  rintro _ w2 ⟨rfl, hb2, hg2⟩
  have c02 : w2.cell? ⟨p, 0, none⟩ = some (.slice (some ⟨gb, 0, none⟩) s.n s.n) := (World.cell?_of_block (hg2.block p (World.block_lt_of_cell? w _ c0) (by have := H4.out.ne; simpa using this))).trans c0
  have c12 : w2.cell? ⟨p, 1, none⟩ = some (.slice Aw W.length cw) := (World.cell?_of_block (hg2.block p (World.block_lt_of_cell? w _ c0) (by have := H4.out.ne; simpa using this))).trans c1
  refine hK.out _ _ ⟨c02, c12⟩ (fun hHeld => ?_)
  clear hK K
  try simp only [Act.put, List.setIfInBounds_toArray, List.set_cons_zero, List.set_cons_succ]
  refine wpAnyH_done (by kernel_rfl) ?_ _
  rw [← hSt.out] at hb2
  have b2 : Blk w2 p 52 (dcells gb s.n (.slice Aw W.length cw) s.f s.dead) := (show Blk w.drew p 52 _ from H1.out).grown hg2 (by have := H4.out.ne; simpa using this)
  have B2 := Lib.hid b2
  have HB2 := Lib.hid hb2
  have HG2 := Lib.hid hg2
  clear b2 hb2 hg2 c0 c1 c02 c12
  go_wp2_with (first
    | (refine wpList_store_cell rfl 50 _ _ rfl size53 p 1 (.slice none 0 0) rfl rfl rfl _ _ B2.out (by simp [dcells]) ?_; intro w3 g3 r3)
    | (refine wpList_store_cell rfl 3 _ _ rfl size3 p 2 (.int .i64 (-1)) rfl rfl rfl _ _ g3.out (by simp [dcells]) ?_; intro w4 g4 r4)
    | (refine wpList_store_cell rfl 4 _ _ rfl size4 p 3 (.bool false) rfl rfl rfl _ _ g4.out (by simp [dcells]) ?_; intro w5 g5 r5)
    | fail)
  go_end0
  have hg35 : w2.grownBy w5 (some p) := (r3.out.grown.trans r4.out.grown).trans r5.out.grown
  have hmd : Md foot w w5 := ((Md.of_grown (w' := w.drew) (grown_drewN 1) (by simp)).trans (Md.of_grown HG2.out (by rintro _ ⟨⟩; exact H4.out.hgb))).trans (Md.of_grown hg35 (by rintro _ ⟨⟩; exact H4.out.hp))
  refine ⟨rfl, ⟨gb, .slice none 0 0, redo s.K (s.L.take k.toNat), [], g5.out, HB2.out.grown hg35 (by have := H4.out.ne; simp; omega), World.ownsRow_nil _ _ _ _, ⟨H4.out.hp, H4.out.hgb, H4.out.ne, fun k hk => by simp [Value.ownBlock] at hk, fun k hk => Nat.lt_of_lt_of_le (H4.out.lt k hk) hmd.size⟩, ⟨St.crash_ok H5.out.ok k, ?_, Fit.nil _, Inv.nil _⟩⟩, hmd⟩
  exact redo_length (H5.out.ok.2.2.2.1.take _) H5.out.ok.2.2.1
end Go.Proofs.Ytonpcenjipigpaa
