/- Crash of a disk. Conditions: at most 2^20 writes wait. -/
import Derived.Test.YtonpcenjipigpaaGreatZ21
import Derived.Test.YtonpcenjipigpaaGreatZ33
import Derived.Test.YtonpcenjipigpaaGreatZ31
namespace Go.Proofs.YtonpcenjipigpaaGreat
open Go.RowKit
theorem take_min (L : List (Nat × List UInt8)) (k : Int) : L.take (min k.toNat L.length) = L.take k.toNat := by
  rcases Nat.le_total k.toNat L.length with h | h
  · rw [Nat.min_eq_left h]
  · rw [Nat.min_eq_right h, List.take_length, List.take_of_length_le h]
theorem yieldsIf_slice53 {ops : Array Oper} {S : World → Prop} {o : Oper} {a : Act} (hw : Region.wanted o (yielded ops a.tmps) = true) (x y : Operand) (ho : o.op = .slice 68 x (some y) none none) {v u r : Value} (hx : a.eval x = v) (hy : a.eval y = u)
    (hrun : ∀ w, (Instr.sliceAt 68 v (some u) none none).run Tryz.prog w = .ok r w) : YieldsIf Tryz.prog ops S o r a :=
  .inl ⟨hw, fun w _ => by
    have hrun := hrun w
    unfold execOp
    simp only [ho, hx, hy, Option.map_some, Option.map_none, hrun, Sem.run_bind, Sem.run_pure, Result.andThen_ok]⟩
theorem run_slice53_all (A : Option Addr) (m c k : Nat) (hk : k ≤ m) (hc : m ≤ c) :
    ∃ B c', (∀ w, (Instr.sliceAt 68 (.slice A m c) (some (.int .i64 (k : Int))) none none).run Tryz.prog w = .ok (.slice B (m - k) c') w) ∧ (k < m → ∀ g o, A = some ⟨g, o, none⟩ → B = some ⟨g, o + 65 * k, none⟩) := by
  refine ⟨if c = k then A else A.map (·.add (65 * k)), c - k, fun w => ?_, fun hlt g o e => ?_⟩
  · have h1 : (k : Int) ≤ (m : Int) := by omega
    by_cases h2 : c = k
    · simp [Instr.sliceAt, Instr.slice, Instr.sliceBounds, run_underlying Tryz.underlying68, run_sliceBound, h1, h2, Nat.mul_comm]
    · simp [Instr.sliceAt, Instr.slice, Instr.sliceBounds, run_underlying Tryz.underlying68, run_sliceBound, h1, h2, Nat.mul_comm]
  · subst e
    rw [if_neg (by omega)]
    simp [Addr.add_mid]
/-- What a region that reads of a disk leans on: its slices of blocks and of what waits. -/
def HeldC (p gb n : Nat) (Wv : Value) (W : World) : Prop := W.cell? ⟨p, 0, none⟩ = some (.slice (some ⟨gb, 0, none⟩) n n) ∧ W.cell? ⟨p, 1, none⟩ = some Wv
set_option maxRecDepth 100000 in
set_option maxHeartbeats 1600000 in
theorem crash_any {foot : Nat → Prop} {w : World} {p : Nat} {s : St} (h : Dsk w foot p s) (hL : s.L.length ≤ 1048576) (k : Int) : Calls Tryz.prog 18 #[.pointer (some ⟨p, 0, none⟩), .int .i64 k] w fun e w' => e = .returned (.tuple #[]) ∧ Dsk w' foot p (s.crash k) ∧ Md foot w w' := by
  obtain ⟨gb, Wv, B, W, h1, h2, h3, h4, h5⟩ := h
  obtain ⟨Aw, cw, rfl⟩ := own_shape h3
  have hmc : W.length ≤ cw := by
    rcases h3.2 with ⟨e, h0⟩ | ⟨g, cap, cur, e, _, _, h0, _⟩
    · omega
    · simp only [Value.slice.injEq] at e; omega
  obtain ⟨kk, hkk⟩ : ∃ kk, kk = min k.toNat W.length := ⟨_, rfl⟩
  have hkm : kk ≤ W.length := by omega
  have hki : min (max k 0) (W.length : Int) = (kk : Int) := by omega
  obtain ⟨A2, c2, hsl, hA2⟩ := run_slice53_all Aw W.length cw kk hkm hmc
  have c0 : w.cell? ⟨p, 0, none⟩ = some (.slice (some ⟨gb, 0, none⟩) s.n s.n) := h1.get 0 _ rfl
  have c1 : w.cell? ⟨p, 1, none⟩ = some (.slice Aw W.length cw) := h1.get 1 _ rfl
  have hWl : W.length ≤ 1048577 := by have := h5.inv.1; omega
  have hLi : Lies w w.heap.size gb Aw W := Lies.of_own h3 h5.fit (fun k hk => (h4.wv k hk).2.2)
  have hU := undo_any (cb := s.n) (cw := c2) (w := w.drew) (tl := []) (by rw [List.append_nil]; exact (show Blk w.drew gb 96 (u8s B) from h2)) h5.len (h5.fit.drop kk) (by rw [List.length_drop]; omega) ((hLi.drop kk A2 (fun hlt => hA2 (by omega))).keep (w' := w.drew) fun _ _ _ => rfl)
  rw [List.length_drop, List.append_nil] at hU
  have HU := Lib.hid hU
  have hSt : Hid (redo s.K (s.L.take k.toNat) = undo B (W.drop kk)) := by
    show _ = _
    rw [h5.inv.2 kk (by rw [← h5.inv.1]; exact hkm), hkk, h5.inv.1, take_min]
  have H1 := Lib.hid h1
  have H4 := Lib.hid h4
  have H5 := Lib.hid h5
  have HSL := Lib.hid hsl
  clear hmc hkk hkm hA2 hWl hLi hU h1 h2 h3 h4 h5 hL hsl
  go_enter Tryz.func18, Tryz.ntmps18
  go_wp2
  refine wp_region_held_drew (S := HeldC p gb s.n (.slice Aw W.length cw)) (by kernel_rfl) ⟨c0, c1⟩ (fun hHeld => ?_)
  refine' wpAnyH_take (i := 0) (oi := { dst := some 12, op := Op.move (Operand.tmp 0), type := 24, pos := "disk.go:94", after := #[], guard := none }) (v := .pointer (some ⟨p, 0, none⟩)) rfl (by kernel_rfl) (by kernel_rfl) (by kernel_rfl) (fun _ _ _ h => h) (Or.inl ⟨by rfl, fun _ _ => rfl⟩) (by assumption) ?qz1
  try simp only [Act.put, List.setIfInBounds_toArray, List.set_cons_zero, List.set_cons_succ]
  refine' wpAnyH_take (i := 1) (oi := { dst := some 13, op := Op.nilCheck (Operand.tmp 12), type := 0, pos := "disk.go:94", after := #[{ on := 0, ground := Ground.data }], guard := none }) (v := .pointer (some ⟨p, 0, none⟩)) rfl (by kernel_rfl) (by kernel_rfl) (by kernel_rfl) (fun _ _ _ h => h) (Or.inl ⟨by rfl, fun w' hSw => by go_simp⟩) (by assumption) ?qz2
  try simp only [Act.put, List.setIfInBounds_toArray, List.set_cons_zero, List.set_cons_succ]
  refine' wpAnyH_take (i := 2) (oi := { dst := some 14, op := Op.fieldAddr 70 (Operand.tmp 13) 0, type := 0, pos := "disk.go:94", after := #[{ on := 1, ground := Ground.data }], guard := none }) (v := .pointer (some ⟨p, 0, none⟩)) rfl (by kernel_rfl) (by kernel_rfl) (by kernel_rfl) (fun _ _ _ h => h) (Or.inl ⟨by rfl, fun w' hSw => by go_simp⟩) (by assumption) ?qz3
  try simp only [Act.put, List.setIfInBounds_toArray, List.set_cons_zero, List.set_cons_succ]
  refine' wpAnyH_take (i := 3) (oi := { dst := some 15, op := Op.load 67 (Operand.tmp 14), type := 67, pos := "disk.go:94", after := #[{ on := 2, ground := Ground.data }], guard := none }) (v := .slice (some ⟨gb, 0, none⟩) s.n s.n) rfl (by kernel_rfl) (by kernel_rfl) (by kernel_rfl) (fun _ _ _ h => h) (Or.inl ⟨by rfl, fun w' hSw => by (obtain ⟨s1, s2⟩ := hSw; go_simp)⟩) (by assumption) ?qz4
  try simp only [Act.put, List.setIfInBounds_toArray, List.set_cons_zero, List.set_cons_succ]
  refine' wpAnyH_take (i := 4) (oi := { dst := some 16, op := Op.move (Operand.tmp 0), type := 24, pos := "disk.go:94", after := #[], guard := none }) (v := .pointer (some ⟨p, 0, none⟩)) rfl (by kernel_rfl) (by kernel_rfl) (by kernel_rfl) (fun _ _ _ h => h) (Or.inl ⟨by rfl, fun _ _ => rfl⟩) (by assumption) ?qz5
  try simp only [Act.put, List.setIfInBounds_toArray, List.set_cons_zero, List.set_cons_succ]
  refine' wpAnyH_take (i := 5) (oi := { dst := some 17, op := Op.nilCheck (Operand.tmp 16), type := 0, pos := "disk.go:94", after := #[{ on := 4, ground := Ground.data }], guard := none }) (v := .pointer (some ⟨p, 0, none⟩)) rfl (by kernel_rfl) (by kernel_rfl) (by kernel_rfl) (fun _ _ _ h => h) (Or.inl ⟨by rfl, fun w' hSw => by go_simp⟩) (by assumption) ?qz6
  try simp only [Act.put, List.setIfInBounds_toArray, List.set_cons_zero, List.set_cons_succ]
  refine' wpAnyH_take (i := 6) (oi := { dst := some 18, op := Op.fieldAddr 70 (Operand.tmp 17) 1, type := 0, pos := "disk.go:94", after := #[{ on := 5, ground := Ground.data }], guard := none }) (v := .pointer (some ⟨p, 1, none⟩)) rfl (by kernel_rfl) (by kernel_rfl) (by kernel_rfl) (fun _ _ _ h => h) (Or.inl ⟨by rfl, fun w' hSw => by go_simp⟩) (by assumption) ?qz7
  try simp only [Act.put, List.setIfInBounds_toArray, List.set_cons_zero, List.set_cons_succ]
  refine' wpAnyH_take (i := 7) (oi := { dst := some 19, op := Op.load 68 (Operand.tmp 18), type := 68, pos := "disk.go:94", after := #[{ on := 6, ground := Ground.data }], guard := none }) (v := .slice Aw W.length cw) rfl (by kernel_rfl) (by kernel_rfl) (by kernel_rfl) (fun _ _ _ h => h) (Or.inl ⟨by rfl, fun w' hSw => by (obtain ⟨s1, s2⟩ := hSw; go_simp)⟩) (by assumption) ?qz8
  try simp only [Act.put, List.setIfInBounds_toArray, List.set_cons_zero, List.set_cons_succ]
  refine' wpAnyH_take (i := 8) (oi := { dst := some 20, op := Op.move (Operand.tmp 1), type := 3, pos := "disk.go:94", after := #[], guard := none }) (v := .int .i64 (kk : Int)) rfl (by kernel_rfl) (by kernel_rfl) (by kernel_rfl) (fun _ _ _ h => h) (Or.inl ⟨by rfl, fun _ _ => rfl⟩) (by assumption) ?qz9
  try simp only [Act.put, List.setIfInBounds_toArray, List.set_cons_zero, List.set_cons_succ]
  refine' wpAnyH_take (i := 9) (oi := { dst := some 21, op := Op.slice 68 (Operand.tmp 19) (some (Operand.tmp 20)) none none, type := 68, pos := "disk.go:94", after := #[{ on := 7, ground := Ground.data }, { on := 8, ground := Ground.data }], guard := none }) (v := .slice A2 (W.length - kk) c2) rfl (by kernel_rfl) (by kernel_rfl) (by kernel_rfl) (fun _ _ _ h => h) (yieldsIf_slice53 (v := .slice Aw W.length cw) (u := .int .i64 (kk : Int)) (by rfl) (.tmp 19) (.tmp 20) rfl rfl rfl HSL.out) (by assumption) ?qz10
  try simp only [Act.put, List.setIfInBounds_toArray, List.set_cons_zero, List.set_cons_succ]
  refine wpAnyH_ready (rs := [10]) (by kernel_rfl) (by simp) ?_
  refine AllReadyH.cons (o := { dst := some 22, op := Op.call { callee := Callee.value (Operand.func 45), args := #[Operand.tmp 15, Operand.tmp 21], argTypes := #[67, 68] }, type := 0, pos := "disk.go:94", after := #[{ on := 3, ground := Ground.data }, { on := 9, ground := Ground.data }], guard := none }) rfl (fun K hK => ?_) AllReadyH.nil
  rw [if_pos (by rfl)]
  go_simp
  with_reducible refine HU.out.mono ?_
  rintro _ w2 ⟨rfl, hb2, hg2⟩
  have c02 : w2.cell? ⟨p, 0, none⟩ = some (.slice (some ⟨gb, 0, none⟩) s.n s.n) := (World.cell?_of_block (hg2.block p (World.block_lt_of_cell? w _ c0) (by have := H4.out.ne; simpa using this))).trans c0
  have c12 : w2.cell? ⟨p, 1, none⟩ = some (.slice Aw W.length cw) := (World.cell?_of_block (hg2.block p (World.block_lt_of_cell? w _ c0) (by have := H4.out.ne; simpa using this))).trans c1
  refine hK.out _ _ ⟨c02, c12⟩ (fun hHeld => ?_)
  clear hK K
  try simp only [Act.put, List.setIfInBounds_toArray, List.set_cons_zero, List.set_cons_succ]
  refine wpAnyH_done (by kernel_rfl) ?_ _
  rw [← hSt.out] at hb2
  have b2 : Blk w2 p 70 (dcells gb s.n (.slice Aw W.length cw) s.f s.dead) := (show Blk w.drew p 70 _ from H1.out).grown hg2 (by have := H4.out.ne; simpa using this)
  have B2 := Lib.hid b2
  have HB2 := Lib.hid hb2
  have HG2 := Lib.hid hg2
  clear b2 hb2 hg2 c0 c1 c02 c12
  go_wp2_with (first
    | (refine wpList_store_cell rfl 68 _ _ rfl size53 p 1 (.slice none 0 0) rfl rfl rfl _ _ B2.out (by simp [dcells]) ?_; intro w3 g3 r3)
    | (refine wpList_store_cell rfl 3 _ _ rfl size3 p 2 (.int .i64 (-1)) rfl rfl rfl _ _ g3.out (by simp [dcells]) ?_; intro w4 g4 r4)
    | (refine wpList_store_cell rfl 4 _ _ rfl size4 p 3 (.bool false) rfl rfl rfl _ _ g4.out (by simp [dcells]) ?_; intro w5 g5 r5)
    | fail)
  go_end0
  have hg35 : w2.grownBy w5 (some p) := (r3.out.grown.trans r4.out.grown).trans r5.out.grown
  have hmd : Md foot w w5 := ((Md.of_grown (w' := w.drew) (grown_drewN 1) (by simp)).trans (Md.of_grown HG2.out (by rintro _ ⟨⟩; exact H4.out.hgb))).trans (Md.of_grown hg35 (by rintro _ ⟨⟩; exact H4.out.hp))
  refine ⟨rfl, ⟨gb, .slice none 0 0, redo s.K (s.L.take k.toNat), [], g5.out, HB2.out.grown hg35 (by have := H4.out.ne; simp; omega), World.ownsRow_nil _ _ _ _, ⟨H4.out.hp, H4.out.hgb, H4.out.ne, fun k hk => by simp [Value.ownBlock] at hk, fun k hk => Nat.lt_of_lt_of_le (H4.out.lt k hk) hmd.size⟩, ⟨St.crash_ok H5.out.ok k, ?_, Fit.nil _, Inv.nil _⟩⟩, hmd⟩
  exact redo_length (H5.out.ok.2.2.2.1.take _) H5.out.ok.2.2.1
end Go.Proofs.YtonpcenjipigpaaGreat
/- A store and its disk in memory beside other things, through calls. Conditions: none. -/
namespace Go.Proofs.YtonpcenjipigpaaGreat
open Go.RowKit
/-- A disk (in the blocks of f) and a store on it (in the blocks of fs), all made since w0. -/
structure Lv (w0 w : World) (f fs : Nat → Prop) (sp dp : Nat) (s : St) (t : Ste) : Prop where
  d : Dsk w f dp s
  st : Stm w fs sp dp t
  dis : ∀ k, fs k → ¬ f k
  fn : ∀ k, f k → w0.heap.size ≤ k
  fsn : ∀ k, fs k → w0.heap.size ≤ k
  g : w0.grownBy w none
/-- A call that turns nothing but disk and store. -/
structure Tn (w w' : World) (f fs f' fs' : Nat → Prop) : Prop where
  md : Md (fun k => f k ∨ fs k) w w'
  ff : ∀ k, f' k → f k ∨ (w.heap.size ≤ k ∧ k < w'.heap.size)
  ss : ∀ k, fs' k → fs k ∨ (w.heap.size ≤ k ∧ k < w'.heap.size)
/-- Blocks that are there, and neither the disk's nor the store's. -/
def Oth (w : World) (f fs ok : Nat → Prop) : Prop := ∀ b, ok b → b < w.heap.size ∧ ¬ f b ∧ ¬ fs b
section
variable {w0 w w' : World} {f fs f' fs' ok : Nat → Prop} {sp dp : Nat} {s s' : St} {t t' : Ste}
theorem Tn.oth (h : Tn w w' f fs f' fs') (ho : Oth w f fs ok) : Oth w' f' fs' ok := fun b hb => by
  obtain ⟨h1, h2, h3⟩ := ho b hb
  refine ⟨Nat.lt_of_lt_of_le h1 h.md.size, fun h4 => ?_, fun h4 => ?_⟩
  · rcases h.ff b h4 with h5 | h5
    · exact h2 h5
    · omega
  · rcases h.ss b h4 with h5 | h5
    · exact h3 h5
    · omega
theorem Tn.at (h : Tn w w' f fs f' fs') (ho : Oth w f fs ok) : ∀ b, ok b → w'.heap[b]? = w.heap[b]? := fun b hb => by
  obtain ⟨h1, h2, h3⟩ := ho b hb
  exact h.md.block b h1 fun h4 => h4.elim h2 h3
theorem Tn.of_grown (hg : w.grownBy w' none) : Tn w w' f fs f fs := ⟨Md.of_grown hg (by simp), fun _ h => .inl h, fun _ h => .inl h⟩
theorem Oth.grown (ho : Oth w f fs ok) (hg : w.grownBy w' none) : Oth w' f fs ok := (Tn.of_grown hg).oth ho
theorem Lv.grown (h : Lv w0 w f fs sp dp s t) (hg : w.grownBy w' none) : Lv w0 w' f fs sp dp s t :=
  ⟨h.d.grown hg, h.st.keep hg.size fun k hk => hg.block k (h.st.lt k hk) (by simp), h.dis, h.fn, h.fsn, h.g.trans hg⟩
theorem Lv.tn (h : Lv w0 w f fs sp dp s t) (hd : Dsk w' f' dp s') (hs : Stm w' fs' sp dp t') (hdis : ∀ k, fs' k → ¬ f' k) (ht : Tn w w' f fs f' fs') : Lv w0 w' f' fs' sp dp s' t' := by
  refine ⟨hd, hs, hdis, fun k hk => ?_, fun k hk => ?_, ht.md.grown h.g fun k hk => hk.elim (h.fn k) (h.fsn k)⟩
  · rcases ht.ff k hk with h1 | h1
    · exact h.fn k h1
    · exact Nat.le_trans h.g.size h1.1
  · rcases ht.ss k hk with h1 | h1
    · exact h.fsn k h1
    · exact Nat.le_trans h.g.size h1.1
/-- New memory is neither the disk's nor the store's. -/
theorem Lv.new (h : Lv w0 w f fs sp dp s t) : Oth w' f fs (fun b => w.heap.size ≤ b ∧ b < w'.heap.size) := fun b hb => ⟨hb.2, fun h1 => by have := h.d.lt b h1; omega, fun h1 => by have := h.st.lt b h1; omega⟩
/-- What was there ahead of all is neither. -/
theorem Lv.old (h : Lv w0 w f fs sp dp s t) : Oth w f fs (fun b => b < w0.heap.size) := fun b hb => ⟨Nat.lt_of_lt_of_le hb h.g.size, fun h1 => by have := h.fn b h1; omega, fun h1 => by have := h.fsn b h1; omega⟩
/-- A commit. -/
theorem commit_lv (h : Lv w0 w f fs sp dp s t) (hok : t.ok (s.n / 2)) (hgd : Gd t.L) {okl : Nat → Prop} {A : Option Addr} {l : List Chg} {n cl : Nat} (hx : Chs w okl A l) (hokl : ∀ b, okl b → b < w.heap.size) (hn : l.length = n) (hl : n ≤ 30000) (hL : s.L.length ≤ 900000) {e : Nat} {s2 : St} {t2 : Ste} (hr : s.commitT t l = (e, s2, t2)) :
    Calls Tryz.prog 13 #[.pointer (some ⟨sp, 0, none⟩), .slice A n cl] w fun r w' => r = .returned (.int .i64 (e : Int)) ∧ ∃ f' fs', Lv w0 w' f' fs' sp dp s2 t2 ∧ Tn w w' f fs f' fs' := by
  subst hn
  have := commit_any (cl := cl) h.d h.st h.dis hok hgd hx hokl hl hL
  rw [hr] at this
  refine this.mono fun r w' hc => ?_
  obtain ⟨rfl, f', fs', hd, hs, hdis, hf, hfs, hm⟩ := hc
  exact ⟨rfl, f', fs', h.tn hd hs hdis ⟨hm, hf, hfs⟩, ⟨hm, hf, hfs⟩⟩
/-- A crash: the store's memory is as it was. -/
theorem crash_lv (h : Lv w0 w f fs sp dp s t) (hL : s.L.length ≤ 1000000) (k : Int) : Calls Tryz.prog 18 #[.pointer (some ⟨dp, 0, none⟩), .int .i64 k] w fun r w' => r = .returned (.tuple #[]) ∧ Lv w0 w' f fs sp dp (s.crash k) t ∧ Tn w w' f fs f fs := by
  refine (crash_any h.d (by omega) k).mono fun r w' ⟨hr, hd, hm⟩ => ?_
  have ht : Tn w w' f fs f fs := ⟨hm.mono fun _ h => .inl h, fun _ h => .inl h, fun _ h => .inl h⟩
  exact ⟨hr, h.tn hd (h.st.md hm h.dis) h.dis ht, ht⟩
/-- A fuse. -/
theorem fuse_lv (h : Lv w0 w f fs sp dp s t) (x : Int) (h1 : -9223372036854775808 ≤ x) (h2 : x ≤ 9223372036854775807) : Calls Tryz.prog 12 #[.pointer (some ⟨dp, 0, none⟩), .int .i64 x] w fun r w' => r = .returned (.tuple #[]) ∧ Lv w0 w' f fs sp dp (s.fuse x) t ∧ Tn w w' f fs f fs := by
  refine (fuse_any h.d x h1 h2).mono fun r w' ⟨hr, hd, hm⟩ => ?_
  have ht : Tn w w' f fs f fs := ⟨hm.mono fun _ h => .inl h, fun _ h => .inl h, fun _ h => .inl h⟩
  exact ⟨hr, h.tn hd (h.st.md hm h.dis) h.dis ht, ht⟩
/-- A store is opened anew: the one that was there is left. -/
theorem open_lv (h : Lv w0 w f fs sp dp s t) (hL : s.L.length ≤ 1000000) {s2 : St} {t2 : Ste} (hr : s.openT = (0, s2, some t2)) : Calls Tryz.prog 9 #[.pointer (some ⟨dp, 0, none⟩)] w fun r w' => ∃ sp2 f' fs', r = .returned (.tuple #[.pointer (some ⟨sp2, 0, none⟩), .int .i64 0]) ∧ Lv w0 w' f' fs' sp2 dp s2 t2 ∧ Tn w w' f fs f' fs' := by
  have := open_any h.d hL
  rw [hr] at this
  refine this.mono fun r w' hc => ?_
  obtain ⟨f', hd, hf, hm, sp2, fs', rfl, hst, -, hfs⟩ := hc
  have ht : Tn w w' f fs f' fs' := ⟨hm.mono fun _ h => .inl h, hf, fun k hk => .inr ⟨(hfs k hk).1, hst.lt k hk⟩⟩
  refine ⟨sp2, f', fs', rfl, ⟨hd, hst, fun k hk => (hfs k hk).2, fun k hk => ?_, fun k hk => Nat.le_trans h.g.size (hfs k hk).1, hm.grown h.g h.fn⟩, ht⟩
  rcases hf k hk with h1 | h1
  · exact h.fn k h1
  · exact Nat.le_trans h.g.size h1.1
/-- A store is opened on a new disk. -/
theorem open_new {f1 : Nat → Prop} (hd1 : Dsk w f1 dp s) (hf1 : ∀ k, f1 k → w0.heap.size ≤ k) (hg : w0.grownBy w none) (hL : s.L.length ≤ 1000000) {s2 : St} {t2 : Ste} (hr : s.openT = (0, s2, some t2)) : Calls Tryz.prog 9 #[.pointer (some ⟨dp, 0, none⟩)] w fun r w' => ∃ sp2 f' fs', r = .returned (.tuple #[.pointer (some ⟨sp2, 0, none⟩), .int .i64 0]) ∧ Lv w0 w' f' fs' sp2 dp s2 t2 := by
  have := open_any hd1 hL
  rw [hr] at this
  refine this.mono fun r w' hc => ?_
  obtain ⟨f', hd, hf, hm, sp2, fs', rfl, hst, -, hfs⟩ := hc
  refine ⟨sp2, f', fs', rfl, ⟨hd, hst, fun k hk => (hfs k hk).2, fun k hk => ?_, fun k hk => Nat.le_trans hg.size (hfs k hk).1, hm.grown hg hf1⟩⟩
  rcases hf k hk with h1 | h1
  · exact hf1 k h1
  · exact Nat.le_trans hg.size h1.1
end
/-- One change in a block of its own. -/
theorem chs_one {w : World} {ok : Nat → Prop} {g : Nat} {nm vl : List UInt8} {gn : Bool} {A : Option Addr} {c : Nat} (hb : Blk w g 56 (ccells ⟨nm, vl, gn⟩ (.slice A vl.length c))) (hg : ok g) (hc : vl.length ≤ c) (hm : c ≤ maxLen) (hnm : nm.length ≤ maxLen) (hy : Byt w ok A vl) : Chs w ok (some ⟨g, 0, none⟩) [⟨nm, vl, gn⟩] := fun j hj => by
  obtain rfl : j = 0 := by simpa using hj
  refine ⟨g, 0, A, c, rfl, hg, fun i u hu => ?_, hc, hm, hnm, hy⟩
  rw [Nat.zero_mul, Nat.add_zero, Nat.zero_add]
  exact hb.get i u hu
/-- A commit that has room is done where no fuse burns. -/
theorem commit_ok {s : St} {t : Ste} (h : Hld s.n s.K t) (hL : s.L = []) (hd : s.dead = false) (hf : s.f = -1) {l : List Chg} (hg : Good l) (h0 : l ≠ []) (h64 : l.length ≤ 64) (h642 : (doAll t.L l).length ≤ 64) (hfit : t.n + nblk (8 + (payB l).length) ≤ s.n / 2) : ∃ s' t', s.commitT t l = (0, s', t') ∧ ComDone s t (doAll t.L l) s' t' := by
  rcases commit_out h hL hd l with ⟨s', t', h1, h2, -⟩ | ⟨e, h1, h2, h3⟩ | ⟨s', -, h2⟩
  · exact ⟨s', t', h1, h2⟩
  · exfalso
    have hfn : l.find? (fun c => c.err ≠ 0) = none := List.find?_eq_none.2 fun c hc => by simp [hg c hc]
    have hmm : nblk (recB t.e (t.c + 1) (payB l)).length = nblk (8 + (payB l).length) := by rw [recB_length]; unfold nblk; omega
    unfold St.commitT at h1
    rw [hfn] at h1
    dsimp only at h1
    rw [if_neg (by omega), if_neg (by omega), if_neg (by rw [hd]; decide), if_neg h0, St.keepT, hmm, if_pos hfit] at h1
    rcases lays_out hd hL t.hf t.n (recB t.e (t.c + 1) (payB l)) t.e (t.c + 1) (t.n + nblk (8 + (payB l).length)) with ⟨f, h4, -⟩ | ⟨f, K, L, h4, h5, -⟩
    · rw [h4] at h1
      exact h2 (congrArg Prod.fst h1).symm
    · exact h5 hf
  · exact absurd hf h2.f
end Go.Proofs.YtonpcenjipigpaaGreat
/- The laws' example: alive answers true. Conditions: none. -/
namespace Go.Proofs.YtonpcenjipigpaaGreat
open Go.RowKit
theorem crash_img {s : St} {t : Ste} (h : Hld s.n s.K t) (hL : s.L = []) (k : Int) : (s.crash k).openT = (0, s.crash k, some t) := by
  have e : (s.crash k).K = s.K := by simp [St.crash, hL, redo]
  refine Hld.opens (s := s.crash k) ?_ rfl rfl
  rw [e]
  exact h
theorem ex_one (w : World) {W : World} (hW : W = (mk (w.alloc (.cells #[.int .u8 120] 5)) w.heap.size).alloc (.cells #[.string ⟨#[97]⟩, .slice (some ⟨w.heap.size, 0, none⟩) 1 1, .bool false] 56)) :
    Chs W (fun b => b < W.heap.size) (some ⟨(mk (w.alloc (.cells #[.int .u8 120] 5)) w.heap.size).heap.size, 0, none⟩) [⟨[97], [120], false⟩] ∧ w.grownBy W none := by
  obtain ⟨W2, hW2⟩ : ∃ W2, W2 = mk (w.alloc (.cells #[.int .u8 120] 5)) w.heap.size := ⟨_, rfl⟩
  rw [← hW2] at hW ⊢
  have hb2 : Below w.heap.size w W2 := by rw [hW2]; exact bel_mk (below_alloc _ _) (Nat.le_refl _)
  have hz2 : W2.heap.size = w.heap.size + 1 := by rw [hW2, mk_size]; simp
  have y2 : W2.cell? ⟨w.heap.size, 0, none⟩ = some (.int .u8 120) := by
    rw [hW2]
    exact (cel_mk _ w.heap.size).cell _ _ ((Blk.of_alloc w #[.int .u8 120] 5).get 0 _ rfl)
  have hg3 : W2.grownBy W none := by rw [hW]; exact World.grownBy_alloc _ _ _
  have hz3 : W.heap.size = w.heap.size + 2 := by rw [hW]; simp [hz2]
  have hb : Blk W W2.heap.size 56 [.string ⟨#[97]⟩, .slice (some ⟨w.heap.size, 0, none⟩) 1 1, .bool false] := by rw [hW]; exact Blk.of_alloc _ _ _
  refine ⟨chs_one (c := 1) (A := some ⟨w.heap.size, 0, none⟩) hb (by omega) (by decide) (by decide) (by decide) fun j hj => ?_, (grown_of_below hb2).trans hg3⟩
  obtain rfl : j = 0 := by simpa using hj
  exact ⟨_, rfl, by show w.heap.size < _; omega, hg3.cell y2 (by simp)⟩
set_option maxRecDepth 100000 in
set_option maxHeartbeats 4000000 in
theorem alive_any (w : World) : Calls Tryz.prog 6 #[] w fun e w' => e = .returned (.bool true) ∧ w.grownBy w' none := by
  have hN := new_any w 8
  rw [show nOf 8 = 8 from rfl] at hN
  have HN := Lib.hid hN
  obtain ⟨s1, ho1, hh1, hL1, hd1, hf1, hn1⟩ := start_out (n := 8) (by decide) (by decide)
  have hg0 : Good [⟨[97], [120], false⟩] := by intro c hc; simp at hc; subst hc; rfl
  rw [← hn1] at hh1
  obtain ⟨s2, t2, hc2, hD2⟩ := commit_ok hh1 hL1 hd1 hf1 hg0 (by simp) (by decide) (by decide) (by rw [hn1]; decide)
  have hh2 := hD2.held
  rw [← hD2.n] at hh2
  have ho3 := crash_img hh2 hD2.wait 0
  have htL : t2.L = [([97], [120])] := hD2.L
  have HO1 : Hid (s1.L = []) := Lib.hid hL1
  have HOK1 : Hid (Ste.ok ⟨0, 1, 0, 1, []⟩ (s1.n / 2)) := Lib.hid hh1.ok
  have HW2 := Lib.hid hD2.wait
  have HTL := Lib.hid htL
  have HC2 := Lib.hid hc2
  have HO := Lib.hid ho1
  have HO3 := Lib.hid ho3
  clear hN ho1 hh1 hL1 hd1 hf1 hn1 hg0 hc2 hD2 hh2 ho3 htL
  have hcv := run_convert_mk
  go_enter Tryz.func6, Tryz.ntmps6
  go_wp2_with (first
    | (go_at_call 7
       refine HN.out.mono ?_
       rintro _ w1 ⟨p, f1, rfl, hd1, hf1, hg1⟩
       have hop1 := open_new (w0 := w) hd1 hf1 hg1 (by show 0 ≤ 1000000; decide) HO.out
       clear HN hd1 hf1 hg1)
    | (go_at_call 9
       refine hop1.mono ?_
       rintro _ w2 ⟨sp, f2, fs2, rfl, hv2⟩
       have HV2 := Lib.hid hv2
       have hep := epoch_any hv2.st
       clear hop1 hv2)
    | (go_at_call 17
       refine hep.mono ?_
       rintro _ _ ⟨rfl, rfl⟩
       clear hep)
    | (go_at_call 13
       obtain ⟨hx, hgx⟩ := ex_one w2 rfl
       refine (commit_lv (cl := 1) (HV2.out.grown hgx) HOK1.out Gd.nil hx (fun b hb => hb) rfl (by decide) (by rw [HO1.out]; decide) HC2.out).mono ?_
       rintro _ w3 ⟨rfl, f3, fs3, hv3, -⟩
       have hcr := crash_lv hv3 (by rw [HW2.out]; decide) 0
       clear hx hgx hv3 HV2)
    | (go_at_call 18
       refine hcr.mono ?_
       rintro _ w4 ⟨rfl, hv4, -⟩
       have hop2 := open_lv hv4 (by show 0 ≤ 1000000; decide) HO3.out
       clear hcr hv4)
    | (go_at_call 9
       refine hop2.mono ?_
       rintro _ w5 ⟨sp5, f5, fs5, rfl, hv5, -⟩
       have HV5 := Lib.hid hv5
       have hge : Calls Tryz.prog 20 #[.pointer (some ⟨sp5, 0, none⟩), .string ⟨#[97]⟩] w5 (GetE w5 (some [120])) := by
         have := get_sto hv5.st [97] (by decide)
         rw [HTL.out] at this
         exact this
       clear hop2 hv5)
    | (go_at_call 20
       refine hge.mono ?_
       rintro _ w6 ⟨A6, c6, rfl, -, -, hy6, hb6⟩
       have hst6 : (convert 40 9 (.slice A6 1 c6)).run Tryz.prog w6 = .ok (.string ⟨#[120]⟩) w6 := hy6.str c6
       have hv6 := HV5.out.grown (grown_of_below hb6)
       have hal := all_sto hv6.st (by rw [HTL.out]; decide)
       have hcl : (chgs t2.L).length = 1 := by rw [HTL.out]; rfl
       have hg6 := Lib.hid hv6.g
       clear hge hv6)
    | (go_at_call 16
       refine hal.mono ?_
       rintro _ w7 ⟨g7, c7, rfl, -, -, -, hg7⟩
       rw [hcl])
    | fail)
  go_ret
  exact ⟨rfl, hg6.out.trans hg7⟩
end Go.Proofs.YtonpcenjipigpaaGreat
