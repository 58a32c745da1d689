/- Write of a disk. Conditions: at most 2^20 writes wait. -/
import Derived.Test.YtonpcenjipigpaaGreatZ12
namespace Go.Proofs.YtonpcenjipigpaaGreat
open Go.RowKit
/-- The disk goes on as s': its blocks are those that it had, and new ones. -/
def Nxt (w : World) (foot : Nat → Prop) (p : Nat) (s' : St) (w' : World) : Prop := ∃ foot', Dsk w' foot' p s' ∧ (∀ k, foot' k → foot k ∨ (w.heap.size ≤ k ∧ k < w'.heap.size)) ∧ Md foot w w'
section
variable {foot : Nat → Prop} {w : World} {p : Nat} {s : St}
theorem write_arg (h : Dsk w foot p s) {a : Int} {A : Option Addr} {n c : Nat} (ha : ¬ (0 ≤ a ∧ a < (s.n : Int)) ∨ n ≠ 64) : Calls Tryz.prog 24 #[.pointer (some ⟨p, 0, none⟩), .int .i64 a, .slice A n c] w fun e w' => e = .returned (.int .i64 1) ∧ w = w' := by
  by_cases ha1 : 0 ≤ a ∧ a < (s.n : Int)
  · have hn : n ≠ 64 := by rcases ha with ha | ha; exact absurd ha1 ha; exact ha
    obtain ⟨i, rfl⟩ : ∃ i : Nat, a = (i : Int) := ⟨a.toNat, by omega⟩
    have HC := Lib.hid (has_yes h (i := i) (by omega))
    have d1 : ((n : Int) == 64) = false := by simp; omega
    have d2 : ((n : Int) != 64) = true := by simp; omega
    clear ha ha1 hn h
    go_enter Tryz.func24, Tryz.ntmps24
    go_wp2_with (first | (go_at_call 49; refine HC.out.mono ?_; rintro e w1 ⟨rfl, rfl⟩) | fail)
    go_ret
    exact ⟨rfl, rfl⟩
  · have HC := Lib.hid (has_no h ha1)
    clear ha ha1 h
    go_enter Tryz.func24, Tryz.ntmps24
    go_wp2_with (first | (go_at_call 49; refine HC.out.mono ?_; rintro e w1 ⟨rfl, rfl⟩) | fail)
    go_ret
    exact ⟨rfl, rfl⟩
theorem write_dead (h : Dsk w foot p s) {i : Nat} (hi : i < s.n) {A : Option Addr} {c : Nat} (hg : s.goes = false) : Calls Tryz.prog 24 #[.pointer (some ⟨p, 0, none⟩), .int .i64 (i : Int), .slice A 64 c] w fun e w' => e = .returned (.int .i64 150) ∧ Dsk w' foot p s.burn ∧ Md foot w w' := by
  have HC := Lib.hid (has_yes h hi)
  have hc := burn_any h
  rw [hg] at hc
  have HB := Lib.hid hc
  clear hc h hi hg
  go_enter Tryz.func24, Tryz.ntmps24
  go_wp2_with (first | (go_at_call 49; refine HC.out.mono ?_; rintro e w1 ⟨rfl, rfl⟩) | (go_at_call 50; refine HB.out.mono ?_; rintro e w1 ⟨rfl, hd, hm⟩) | fail)
  go_ret
  exact ⟨rfl, hd, hm⟩
set_option maxRecDepth 100000 in
set_option maxHeartbeats 1600000 in
theorem write_yes (h : Dsk w foot p s) {i : Nat} (hi : i < s.n) {ok : Nat → Prop} {A : Option Addr} {c : Nat} {b : List UInt8} (hb : Byt w ok A b) (hbl : b.length = 64) (hok : ∀ k, ok k → k < w.heap.size ∧ ¬ foot k) (hg : s.goes = true) (hL : s.L.length ≤ 1048576) :
    Calls Tryz.prog 24 #[.pointer (some ⟨p, 0, none⟩), .int .i64 (i : Int), .slice A 64 c] w fun e w' => e = .returned (.int .i64 0) ∧ Nxt w foot p (s.burn.write i b) w' := by
  have HC := Lib.hid (has_yes h hi)
  have hc := burn_any h
  rw [hg] at hc
  have HBU := Lib.hid hc
  have HL := Lib.hid hL
  have HX := Lib.hid hb
  have HBL := Lib.hid hbl
  obtain ⟨i59, hi0, hz0, hz1, hz2⟩ := info_parts Tryz.info99
  clear hc h hg hL hb hbl
  go_enter Tryz.func24, Tryz.ntmps24
  go_wp2_with (first | (go_at_call 49; refine HC.out.mono ?_; rintro e w1 ⟨rfl, rfl⟩) | (go_at_call 50; refine HBU.out.mono ?_; rintro e w1 ⟨rfl, hd, hm⟩) | fail)
  obtain ⟨gb, Wv, B, W, h1, h2, h3, h4, h5⟩ := hd
  obtain ⟨Aw, cw, rfl⟩ := own_shape h3
  have hi' : i < s.burn.n := hi
  have hl : (blk B i).length = 64 := blk_length h5.len hi'
  have c1 : w1.cell? ⟨p, 1, none⟩ = some (.slice Aw W.length cw) := h1.get 1 _ rfl
  have c0 : w1.cell? ⟨p, 0, none⟩ = some (.slice (some ⟨gb, 0, none⟩) s.burn.n s.burn.n) := h1.get 0 _ rfl
  have hx0 : w1.rangeAt gb (64 * i) (u8s (blk B i)) := fun j v hv => by
    obtain ⟨hj, rfl⟩ := u8s_get _ j v hv
    rw [mid_parts B i] at h2
    obtain ⟨ad, e, _, hc⟩ := h2.byt (o := 64 * i) (by rw [u8s_length, List.length_take, h5.len]; omega) j hj
    cases e
    rwa [Addr.add_mid] at hc
  have hix := fun w => run_index52 w gb s.burn.n s.burn.n i hi'
  have hbd := fun w => run_build59 w i (blk B i) hl
  have hbs := fun w => run_buildSlice53 w i (blk B i) hl
  have hu := Tryz.underlying96
  have hsz : (Tryz.prog.info? 96).map (·.size) = some (u8s (blk B i)).length := by rw [size57, u8s_length, hl]
  have hlen := h5.inv.1
  have H1 := Lib.hid h1
  have H2 := Lib.hid h2
  have H3 := Lib.hid h3
  have H4 := Lib.hid h4
  have H5 := Lib.hid h5
  have HLN := Lib.hid hlen
  have HBK := Lib.hid hl
  have hi1 : (0 : Int) ≤ (i : Int) := by omega
  have hi2 : (i : Int) < (s.burn.n : Int) := by omega
  clear h1 h2 h3 h4 h5 hlen hl hi'
  have HOW := Lib.hid (H3.out.kept (w' := w1.drew) (grown_drewN 1) (by cases (Value.slice Aw W.length cw).ownBlock <;> simp))
  have HMD := Lib.hid (hm.trans (Md.of_grown (w' := w1.drew) (grown_drewN 1) (by simp)))
  have HI : Hid (i < s.burn.n) := hi
  have HSZ := Lib.hid hsz
  have HOKK := Lib.hid hok
  have HLW : Hid (W.length ≤ 1048576) := by
    show W.length ≤ 1048576
    rw [HLN.out]
    exact HL.out
  have hh : HeldW p gb s.burn.n (64 * i) (u8s (blk B i)) w1 := ⟨c0, hx0⟩
  have hh' : HeldW p gb s.burn.n (64 * i) (u8s (blk B i)) w1.drew := hh.grown (grown_drewN 1) (by simp) (by simp)
  have c1' : w1.drew.cell? ⟨p, 1, none⟩ = some (.slice Aw W.length cw) := c1
  have H1' : Hid (Blk w1.drew p 70 (dcells gb s.burn.n (.slice Aw W.length cw) s.burn.f s.burn.dead)) := H1.out
  have H2' : Hid (Blk w1.drew gb 96 (u8s B)) := H2.out
  have HPL : Hid (p < w1.drew.heap.size) := H4.out.lt p H4.out.hp
  have HVS : Hid (w1.heap.size = w1.drew.heap.size) := rfl
  obtain ⟨v, hv⟩ : ∃ v, v = w1.drew := ⟨_, rfl⟩
  refine wp_region_held_drew (S := HeldW p gb s.burn.n (64 * i) (u8s (blk B i))) (by kernel_rfl) hh' (fun hHeld => ?_)
  rw [← hv] at hHeld HOW HMD c1' H1' H2' HPL HVS ⊢
  clear hv hh hh' c1 c0 hx0 hix hbd hbs hsz hu  hm hi hok H1 H2 H3 hi1 hi2
  have c1 := c1'
  have H1 := H1'
  have H2 := H2'
  clear c1' H1' H2'
  refine' wpAnyH_take (i := 0) (oi := { dst := some 19, op := Op.move (Operand.tmp 0), type := 24, pos := "disk.go:61", after := #[], guard := none }) (v := .pointer (some ⟨p, 0, none⟩)) rfl (by kernel_rfl) (by kernel_rfl) (by kernel_rfl) (fun _ _ _ h => h) (Or.inl ⟨by rfl, fun _ _ => rfl⟩) (by assumption) ?qz1
  try simp only [Act.put, List.setIfInBounds_toArray, List.set_cons_zero, List.set_cons_succ]
  refine' wpAnyH_take (i := 1) (oi := { dst := some 20, op := Op.move (Operand.tmp 0), type := 24, pos := "disk.go:61", after := #[], guard := none }) (v := .pointer (some ⟨p, 0, none⟩)) rfl (by kernel_rfl) (by kernel_rfl) (by kernel_rfl) (fun _ _ _ h => h) (Or.inl ⟨by rfl, fun _ _ => rfl⟩) (by assumption) ?qz2
  try simp only [Act.put, List.setIfInBounds_toArray, List.set_cons_zero, List.set_cons_succ]
  refine' wpAnyH_take (i := 2) (oi := { dst := some 21, op := Op.nilCheck (Operand.tmp 20), type := 0, pos := "disk.go:61", after := #[{ on := 1, ground := Ground.data }], guard := none }) (v := .pointer (some ⟨p, 0, none⟩)) rfl (by kernel_rfl) (by kernel_rfl) (by kernel_rfl) (fun _ _ _ h => h) (Or.inl ⟨by rfl, fun w' hSw => by go_simp⟩) (by assumption) ?qz3
  try simp only [Act.put, List.setIfInBounds_toArray, List.set_cons_zero, List.set_cons_succ]
  refine' wpAnyH_take (i := 3) (oi := { dst := some 22, op := Op.fieldAddr 70 (Operand.tmp 21) 1, type := 0, pos := "disk.go:61", after := #[{ on := 2, ground := Ground.data }], guard := none }) (v := .pointer (some ⟨p, 1, none⟩)) rfl (by kernel_rfl) (by kernel_rfl) (by kernel_rfl) (fun _ _ _ h => h) (Or.inl ⟨by rfl, fun w' hSw => by go_simp⟩) (by assumption) ?qz4
  try simp only [Act.put, List.setIfInBounds_toArray, List.set_cons_zero, List.set_cons_succ]
  refine' wpAnyH_take (i := 5) (oi := { dst := some 24, op := Op.move (Operand.tmp 1), type := 3, pos := "disk.go:61", after := #[], guard := none }) (v := .int .i64 (i : Int)) rfl (by kernel_rfl) (by kernel_rfl) (by kernel_rfl) (fun _ _ _ h => h) (Or.inl ⟨by rfl, fun _ _ => rfl⟩) (by assumption) ?qz5
  try simp only [Act.put, List.setIfInBounds_toArray, List.set_cons_zero, List.set_cons_succ]
  refine' wpAnyH_take (i := 6) (oi := { dst := some 25, op := Op.move (Operand.tmp 0), type := 24, pos := "disk.go:61", after := #[], guard := none }) (v := .pointer (some ⟨p, 0, none⟩)) rfl (by kernel_rfl) (by kernel_rfl) (by kernel_rfl) (fun _ _ _ h => h) (Or.inl ⟨by rfl, fun _ _ => rfl⟩) (by assumption) ?qz6
  try simp only [Act.put, List.setIfInBounds_toArray, List.set_cons_zero, List.set_cons_succ]
  refine' wpAnyH_take (i := 7) (oi := { dst := some 26, op := Op.nilCheck (Operand.tmp 25), type := 0, pos := "disk.go:61", after := #[{ on := 6, ground := Ground.data }], guard := none }) (v := .pointer (some ⟨p, 0, none⟩)) rfl (by kernel_rfl) (by kernel_rfl) (by kernel_rfl) (fun _ _ _ h => h) (Or.inl ⟨by rfl, fun w' hSw => by go_simp⟩) (by assumption) ?qz7
  try simp only [Act.put, List.setIfInBounds_toArray, List.set_cons_zero, List.set_cons_succ]
  refine' wpAnyH_take (i := 8) (oi := { dst := some 27, op := Op.fieldAddr 70 (Operand.tmp 26) 0, type := 0, pos := "disk.go:61", after := #[{ on := 7, ground := Ground.data }], guard := none }) (v := .pointer (some ⟨p, 0, none⟩)) rfl (by kernel_rfl) (by kernel_rfl) (by kernel_rfl) (fun _ _ _ h => h) (Or.inl ⟨by rfl, fun w' hSw => by go_simp⟩) (by assumption) ?qz8
  try simp only [Act.put, List.setIfInBounds_toArray, List.set_cons_zero, List.set_cons_succ]
  refine' wpAnyH_take (i := 9) (oi := { dst := some 28, op := Op.load 67 (Operand.tmp 27), type := 67, pos := "disk.go:61", after := #[{ on := 8, ground := Ground.data }], guard := none }) (v := .slice (some ⟨gb, 0, none⟩) s.burn.n s.burn.n) rfl (by kernel_rfl) (by kernel_rfl) (by kernel_rfl) (fun _ _ _ h => h) (Or.inl ⟨by rfl, fun w' hSw => by (obtain ⟨s1, _⟩ := hSw; go_simp)⟩) (by assumption) ?qz9
  try simp only [Act.put, List.setIfInBounds_toArray, List.set_cons_zero, List.set_cons_succ]
  refine' wpAnyH_take (i := 10) (oi := { dst := some 29, op := Op.move (Operand.tmp 1), type := 3, pos := "disk.go:61", after := #[], guard := none }) (v := .int .i64 (i : Int)) rfl (by kernel_rfl) (by kernel_rfl) (by kernel_rfl) (fun _ _ _ h => h) (Or.inl ⟨by rfl, fun _ _ => rfl⟩) (by assumption) ?qz10
  try simp only [Act.put, List.setIfInBounds_toArray, List.set_cons_zero, List.set_cons_succ]
  refine' wpAnyH_take (i := 11) (oi := { dst := some 30, op := Op.indexAddr 67 (Operand.tmp 28) (Operand.tmp 29), type := 0, pos := "disk.go:61", after := #[{ on := 9, ground := Ground.data }, { on := 10, ground := Ground.data }], guard := none }) (v := .pointer (some ⟨gb, 64 * i, none⟩)) rfl (by kernel_rfl) (by kernel_rfl) (by kernel_rfl) (fun _ _ _ h => h) (yieldsIf_index52 (by rfl) _ _ rfl gb _ _ i rfl rfl HI.out) (by assumption) ?qz11
  try simp only [Act.put, List.setIfInBounds_toArray, List.set_cons_zero, List.set_cons_succ]
  refine' wpAnyH_take (i := 12) (oi := { dst := some 31, op := Op.load 96 (Operand.tmp 30), type := 96, pos := "disk.go:61", after := #[{ on := 11, ground := Ground.data }], guard := none }) (v := .agg (u8s (blk B i)).toArray) rfl (by kernel_rfl) (by kernel_rfl) (by kernel_rfl) (fun _ _ _ h => h) (yieldsIf_load_mid (by rfl) _ _ rfl gb (64 * i) rfl (u8s (blk B i)) _ (fun w' hs => hs.2) Tryz.underlying96 rfl HSZ.out) (by assumption) ?qz12
  try simp only [Act.put, List.setIfInBounds_toArray, List.set_cons_zero, List.set_cons_succ]
  refine' wpAnyH_take (i := 13) (oi := { dst := some 32, op := Op.build 99 #[(0, Operand.tmp 24), (1, Operand.tmp 31)], type := 99, pos := "disk.go:61", after := #[{ on := 5, ground := Ground.data }, { on := 12, ground := Ground.data }], guard := none }) (v := .agg (wcell i (blk B i)).toArray) rfl (by kernel_rfl) (by kernel_rfl) (by kernel_rfl) (fun _ _ _ h => h) (yieldsIf_build59 (by rfl) _ _ rfl i (blk B i) HBK.out rfl rfl) (by assumption) ?qz13
  try simp only [Act.put, List.setIfInBounds_toArray, List.set_cons_zero, List.set_cons_succ]
  refine wpAnyH_ready (rs := [4, 14]) (by kernel_rfl) (by simp) ?_
  refine AllReadyH.cons (o := { dst := some 23, op := Op.load 68 (Operand.tmp 22), type := 68, pos := "disk.go:61", after := #[{ on := 3, ground := Ground.data }], guard := none }) rfl (fun K hK => ?_) (AllReadyH.cons (o := { dst := some 33, op := Op.buildSlice 68 1 #[(0, Operand.tmp 32)], type := 68, pos := "disk.go:61", after := #[{ on := 13, ground := Ground.data }], guard := none }) rfl (fun K hK => ?_) AllReadyH.nil)
  · rw [if_pos (by rfl)]
    go_simp
    refine hK.out _ _ hHeld (fun hHeld => ?_)
    clear hK K
    try simp only [Act.put, List.setIfInBounds_toArray, List.set_cons_zero, List.set_cons_succ]
    refine wpAnyH_ready (rs := [14]) (by kernel_rfl) (by simp) ?_
    refine AllReadyH.cons (o := { dst := some 33, op := Op.buildSlice 68 1 #[(0, Operand.tmp 32)], type := 68, pos := "disk.go:61", after := #[{ on := 13, ground := Ground.data }], guard := none }) rfl (fun K hK => ?_) AllReadyH.nil
    rw [if_pos (by rfl)]
    refine wp_buildSlice53 (.tmp 32) rfl i (blk B i) HBK.out rfl ?_
    intro v1 k1 g1 z1
    have c1 : v1.cell? ⟨p, 1, none⟩ = some (.slice Aw W.length cw) := (World.cell?_of_block (g1.out.block p HPL.out (by simp))).trans c1
    refine hK.out _ _ (hHeld.grown g1.out (by simp) (by simp)) (fun hHeld => ?_)
    clear hK K
    dsimp only [Act.put]
    refine wpAnyH_ready (rs := [15]) (by kernel_rfl) (by simp) ?_
    refine AllReadyH.cons (o := { dst := some 34, op := Op.call { callee := Callee.builtin Builtin.append, args := #[Operand.tmp 23, Operand.tmp 33], argTypes := #[68, 68] }, type := 68, pos := "disk.go:61", after := #[{ on := 4, ground := Ground.data }, { on := 14, ground := Ground.data }], guard := none }) rfl (fun K hK => ?_) AllReadyH.nil
    rw [if_pos (by rfl)]
    have OW1 := HOW.out.kept g1.out (by cases (Value.slice Aw W.length cw).ownBlock <;> simp)
    refine wp_append_lies _ (.tmp 23) (.tmp 33) 68 rfl 0 99 i59 _ 65 72 Tryz.underlying68 hi0 hz0 hz1 hz2 (by simp [Value.cells, wcell, u8s_length, zb_length]) (by omega) (.slice Aw W.length cw) W.length (wcells W) rfl OW1 ⟨v.heap.size, 0, none⟩ 1 1 (wcell i (blk B i)) rfl (by rw [wcell_length HBK.out]) (World.news_of_block k1.out) (wcell_one _ _) Nat.one_pos (by have := HLW.out; unfold maxLen; omega) (by have := HLW.out; omega) (Nat.zero_le _) v1.heap.size rfl ?_
    intro g2 cap2 v2 own2 gr2 at2 lt2
    have OWN2 := Lib.hid own2
    have GR2 := Lib.hid gr2
    have AT2 := Lib.hid at2
    have LT2 := Lib.hid lt2
    clear own2 gr2 at2 lt2
    refine hK.out _ _ (hHeld.grown GR2.out (fun e => (H4.out.wv p e.symm).2.1 rfl) (fun e => (H4.out.wv gb e.symm).2.2 rfl)) (fun hHeld => ?_)
    clear hK K
    dsimp only [Act.put]
    refine' wpAnyH_take (i := 16) (oi := { dst := some 35, op := Op.nilCheck (Operand.tmp 19), type := 0, pos := "disk.go:61", after := #[{ on := 0, ground := Ground.data }, { on := 0, ground := Ground.phase }, { on := 1, ground := Ground.phase }, { on := 2, ground := Ground.phase }, { on := 3, ground := Ground.phase }, { on := 4, ground := Ground.phase }, { on := 5, ground := Ground.phase }, { on := 6, ground := Ground.phase }, { on := 7, ground := Ground.phase }, { on := 8, ground := Ground.phase }, { on := 9, ground := Ground.phase }, { on := 10, ground := Ground.phase }, { on := 11, ground := Ground.phase }, { on := 12, ground := Ground.phase }, { on := 13, ground := Ground.phase }, { on := 14, ground := Ground.phase }, { on := 15, ground := Ground.phase }], guard := none }) (v := .pointer (some ⟨p, 0, none⟩)) rfl (by kernel_rfl) (by kernel_rfl) (by kernel_rfl) (fun _ _ _ h => h) (Or.inl ⟨by rfl, fun w' hSw => by go_simp⟩) (by assumption) ?qz14
    try simp only [Act.put, List.setIfInBounds_toArray, List.set_cons_zero, List.set_cons_succ]
    refine' wpAnyH_take (i := 17) (oi := { dst := some 36, op := Op.fieldAddr 70 (Operand.tmp 35) 1, type := 0, pos := "disk.go:61", after := #[{ on := 16, ground := Ground.data }, { on := 0, ground := Ground.phase }, { on := 1, ground := Ground.phase }, { on := 2, ground := Ground.phase }, { on := 3, ground := Ground.phase }, { on := 4, ground := Ground.phase }, { on := 5, ground := Ground.phase }, { on := 6, ground := Ground.phase }, { on := 7, ground := Ground.phase }, { on := 8, ground := Ground.phase }, { on := 9, ground := Ground.phase }, { on := 10, ground := Ground.phase }, { on := 11, ground := Ground.phase }, { on := 12, ground := Ground.phase }, { on := 13, ground := Ground.phase }, { on := 14, ground := Ground.phase }, { on := 15, ground := Ground.phase }], guard := none }) (v := .pointer (some ⟨p, 1, none⟩)) rfl (by kernel_rfl) (by kernel_rfl) (by kernel_rfl) (fun _ _ _ h => h) (Or.inl ⟨by rfl, fun w' hSw => by go_simp⟩) (by assumption) ?qz15
    try simp only [Act.put, List.setIfInBounds_toArray, List.set_cons_zero, List.set_cons_succ]
    refine wpAnyH_ready (rs := [18]) (by kernel_rfl) (by simp) ?_
    refine AllReadyH.cons (o := { dst := none, op := Op.store 68 (Operand.tmp 36) (Operand.tmp 34), type := 0, pos := "disk.go:61", after := #[{ on := 17, ground := Ground.data }, { on := 15, ground := Ground.data }, { on := 15, ground := Ground.chain }, { on := 0, ground := Ground.phase }, { on := 1, ground := Ground.phase }, { on := 2, ground := Ground.phase }, { on := 3, ground := Ground.phase }, { on := 4, ground := Ground.phase }, { on := 5, ground := Ground.phase }, { on := 6, ground := Ground.phase }, { on := 7, ground := Ground.phase }, { on := 8, ground := Ground.phase }, { on := 9, ground := Ground.phase }, { on := 10, ground := Ground.phase }, { on := 11, ground := Ground.phase }, { on := 12, ground := Ground.phase }, { on := 13, ground := Ground.phase }, { on := 14, ground := Ground.phase }, { on := 15, ground := Ground.phase }], guard := none }) rfl (fun K hK => ?_) AllReadyH.nil
    rw [if_pos (by rfl)]
    have b2 : Blk v2 p 70 (dcells gb s.burn.n (.slice Aw W.length cw) s.burn.f s.burn.dead) := (H1.out.grown g1.out (by simp)).grown GR2.out (fun e => (H4.out.wv p e.symm).2.1 rfl)
    refine wp_store_cell 68 _ _ rfl size53 p 1 (.slice (some ⟨g2, 0, none⟩) (W.length + 1) cap2) rfl rfl rfl _ _ b2 (by simp [dcells]) ?_
    intro v3 b3 r3
    refine hK.out _ _ (hHeld.wr r3.out H4.out.ne b3.out rfl) (fun hHeld => ?_)
    clear hK K
    dsimp only [Act.put]
    refine wpAnyH_done (by kernel_rfl) ?_ _
    have HM3 : Hid (Md foot w v3) := ((HMD.out.trans (Md.of_grown g1.out (by simp))).trans (Md.of_grown GR2.out (fun r e => (H4.out.wv r e).1))).trans (Md.of_wr r3.out H4.out.hp)
    have HX3 : Hid (Byt v3 ok A b) := HX.out.keep fun k hk => HM3.out.block k (HOKK.out k hk).1 (HOKK.out k hk).2
    have hb3 : Blk v3 gb 96 (u8s (B.take (64 * i)) ++ u8s (blk B i) ++ u8s (B.drop (64 * i + 64))) := by
      rw [← mid_parts]
      exact ((H2.out.grown g1.out (by simp)).grown GR2.out (fun e => (H4.out.wv gb e.symm).2.2 rfl)).keep (r3.out.block gb (fun e => H4.out.ne e.symm))
    have HB3 := Lib.hid hb3
    have c03 : v3.cell? ⟨p, 0, none⟩ = some (.slice (some ⟨gb, 0, none⟩) s.burn.n s.burn.n) := Blk.get b3.out 0 _ rfl
    have hix := fun w => run_index52 w gb s.burn.n s.burn.n i HI.out
    clear hb3 c1
    go_wp2_with (first | (refine wpList_copy_blk rfl _ _ rfl gb (64 * i) 64 64 64 c A b (blk B i) rfl rfl HBL.out HBK.out 96 (u8s (B.take (64 * i))) (u8s (B.drop (64 * i + 64))) HB3.out (by rw [u8s_length, List.length_take, H5.out.len]; have := HI.out; omega) ok HX3.out 64 (by rw [HBL.out, HBK.out]; rfl) ?_) | fail)
    intro w4 hb4 hg4 hz4
    rw [lay_full (by rw [HBL.out, HBK.out])] at hb4
    go_wp2
    go_ret
    have hv1 : w.heap.size ≤ v1.heap.size := Nat.le_trans HMD.out.size g1.out.size
    have h24 : v2.heap.size = w4.heap.size := r3.out.size.symm.trans hz4.symm
    have hg2p : g2 ≠ p ∧ g2 ≠ gb := by
      rcases AT2.out with e | e
      · exact (H4.out.wv g2 e).2
      · have h1 := H4.out.lt p H4.out.hp
        have h2 := H4.out.lt gb H4.out.hgb
        have h3 : v.heap.size ≤ v1.heap.size := g1.out.size
        have h4 : w1.heap.size = v.heap.size := HVS.out
        omega
    refine ⟨rfl, fun k => foot k ∨ (w.heap.size ≤ k ∧ k < w4.heap.size), ⟨gb, .slice (some ⟨g2, 0, none⟩) (W.length + 1) cap2, put i b B, W ++ [(i, blk B i)], b3.out.grown hg4 (by have := H4.out.ne; simpa using this), ?_, ?_, ⟨.inl H4.out.hp, .inl H4.out.hgb, H4.out.ne, ?_, ?_⟩, ⟨St.write_ok H5.out.ok HI.out HBL.out, put_length H5.out.len HI.out HBL.out, H5.out.fit.snoc HI.out HBK.out, H5.out.inv.write H5.out.len HI.out HBL.out⟩⟩, fun k hk => hk, HM3.out.trans (Md.of_grown hg4 (by rintro _ ⟨⟩; exact H4.out.hgb))⟩
    · exact hb4.to (by rw [← u8s_append, ← u8s_append]; rfl)
    · rw [List.length_append, List.length_singleton, wcells_snoc]
      exact (OWN2.out.kept r3.out.grown (.inr (by simpa [Value.ownBlock] using hg2p.1))).kept hg4 (.inr (by simpa [Value.ownBlock] using hg2p.2))
    · intro k hk
      obtain rfl : g2 = k := by simpa [Value.ownBlock] using hk
      refine ⟨?_, hg2p.1, hg2p.2⟩
      rcases AT2.out with e | e
      · exact .inl (H4.out.wv g2 e).1
      · exact .inr ⟨by omega, by have := LT2.out; omega⟩
    · intro k hk
      rcases hk with hk | hk
      · exact Nat.lt_of_lt_of_le (H4.out.lt k hk) (by have := g1.out.size; have := GR2.out.size; show w1.heap.size ≤ w4.heap.size; have hvs : w1.heap.size = v.heap.size := HVS.out; omega)
      · exact hk.2
  · rw [if_pos (by rfl)]
    refine wp_buildSlice53 (.tmp 32) rfl i (blk B i) HBK.out rfl ?_
    intro v1 k1 g1 z1
    have c1 : v1.cell? ⟨p, 1, none⟩ = some (.slice Aw W.length cw) := (World.cell?_of_block (g1.out.block p HPL.out (by simp))).trans c1
    refine hK.out _ _ (hHeld.grown g1.out (by simp) (by simp)) (fun hHeld => ?_)
    clear hK K
    dsimp only [Act.put]
    refine wpAnyH_ready (rs := [4]) (by kernel_rfl) (by simp) ?_
    refine AllReadyH.cons (o := { dst := some 23, op := Op.load 68 (Operand.tmp 22), type := 68, pos := "disk.go:61", after := #[{ on := 3, ground := Ground.data }], guard := none }) rfl (fun K hK => ?_) AllReadyH.nil
    rw [if_pos (by rfl)]
    go_simp
    refine hK.out _ _ hHeld (fun hHeld => ?_)
    clear hK K
    try simp only [Act.put, List.setIfInBounds_toArray, List.set_cons_zero, List.set_cons_succ]
    refine wpAnyH_ready (rs := [15]) (by kernel_rfl) (by simp) ?_
    refine AllReadyH.cons (o := { dst := some 34, op := Op.call { callee := Callee.builtin Builtin.append, args := #[Operand.tmp 23, Operand.tmp 33], argTypes := #[68, 68] }, type := 68, pos := "disk.go:61", after := #[{ on := 4, ground := Ground.data }, { on := 14, ground := Ground.data }], guard := none }) rfl (fun K hK => ?_) AllReadyH.nil
    rw [if_pos (by rfl)]
    have OW1 := HOW.out.kept g1.out (by cases (Value.slice Aw W.length cw).ownBlock <;> simp)
    refine wp_append_lies _ (.tmp 23) (.tmp 33) 68 rfl 0 99 i59 _ 65 72 Tryz.underlying68 hi0 hz0 hz1 hz2 (by simp [Value.cells, wcell, u8s_length, zb_length]) (by omega) (.slice Aw W.length cw) W.length (wcells W) rfl OW1 ⟨v.heap.size, 0, none⟩ 1 1 (wcell i (blk B i)) rfl (by rw [wcell_length HBK.out]) (World.news_of_block k1.out) (wcell_one _ _) Nat.one_pos (by have := HLW.out; unfold maxLen; omega) (by have := HLW.out; omega) (Nat.zero_le _) v1.heap.size rfl ?_
    intro g2 cap2 v2 own2 gr2 at2 lt2
    have OWN2 := Lib.hid own2
    have GR2 := Lib.hid gr2
    have AT2 := Lib.hid at2
    have LT2 := Lib.hid lt2
    clear own2 gr2 at2 lt2
    refine hK.out _ _ (hHeld.grown GR2.out (fun e => (H4.out.wv p e.symm).2.1 rfl) (fun e => (H4.out.wv gb e.symm).2.2 rfl)) (fun hHeld => ?_)
    clear hK K
    dsimp only [Act.put]
    refine' wpAnyH_take (i := 16) (oi := { dst := some 35, op := Op.nilCheck (Operand.tmp 19), type := 0, pos := "disk.go:61", after := #[{ on := 0, ground := Ground.data }, { on := 0, ground := Ground.phase }, { on := 1, ground := Ground.phase }, { on := 2, ground := Ground.phase }, { on := 3, ground := Ground.phase }, { on := 4, ground := Ground.phase }, { on := 5, ground := Ground.phase }, { on := 6, ground := Ground.phase }, { on := 7, ground := Ground.phase }, { on := 8, ground := Ground.phase }, { on := 9, ground := Ground.phase }, { on := 10, ground := Ground.phase }, { on := 11, ground := Ground.phase }, { on := 12, ground := Ground.phase }, { on := 13, ground := Ground.phase }, { on := 14, ground := Ground.phase }, { on := 15, ground := Ground.phase }], guard := none }) (v := .pointer (some ⟨p, 0, none⟩)) rfl (by kernel_rfl) (by kernel_rfl) (by kernel_rfl) (fun _ _ _ h => h) (Or.inl ⟨by rfl, fun w' hSw => by go_simp⟩) (by assumption) ?qz16
    try simp only [Act.put, List.setIfInBounds_toArray, List.set_cons_zero, List.set_cons_succ]
    refine' wpAnyH_take (i := 17) (oi := { dst := some 36, op := Op.fieldAddr 70 (Operand.tmp 35) 1, type := 0, pos := "disk.go:61", after := #[{ on := 16, ground := Ground.data }, { on := 0, ground := Ground.phase }, { on := 1, ground := Ground.phase }, { on := 2, ground := Ground.phase }, { on := 3, ground := Ground.phase }, { on := 4, ground := Ground.phase }, { on := 5, ground := Ground.phase }, { on := 6, ground := Ground.phase }, { on := 7, ground := Ground.phase }, { on := 8, ground := Ground.phase }, { on := 9, ground := Ground.phase }, { on := 10, ground := Ground.phase }, { on := 11, ground := Ground.phase }, { on := 12, ground := Ground.phase }, { on := 13, ground := Ground.phase }, { on := 14, ground := Ground.phase }, { on := 15, ground := Ground.phase }], guard := none }) (v := .pointer (some ⟨p, 1, none⟩)) rfl (by kernel_rfl) (by kernel_rfl) (by kernel_rfl) (fun _ _ _ h => h) (Or.inl ⟨by rfl, fun w' hSw => by go_simp⟩) (by assumption) ?qz17
    try simp only [Act.put, List.setIfInBounds_toArray, List.set_cons_zero, List.set_cons_succ]
    refine wpAnyH_ready (rs := [18]) (by kernel_rfl) (by simp) ?_
    refine AllReadyH.cons (o := { dst := none, op := Op.store 68 (Operand.tmp 36) (Operand.tmp 34), type := 0, pos := "disk.go:61", after := #[{ on := 17, ground := Ground.data }, { on := 15, ground := Ground.data }, { on := 15, ground := Ground.chain }, { on := 0, ground := Ground.phase }, { on := 1, ground := Ground.phase }, { on := 2, ground := Ground.phase }, { on := 3, ground := Ground.phase }, { on := 4, ground := Ground.phase }, { on := 5, ground := Ground.phase }, { on := 6, ground := Ground.phase }, { on := 7, ground := Ground.phase }, { on := 8, ground := Ground.phase }, { on := 9, ground := Ground.phase }, { on := 10, ground := Ground.phase }, { on := 11, ground := Ground.phase }, { on := 12, ground := Ground.phase }, { on := 13, ground := Ground.phase }, { on := 14, ground := Ground.phase }, { on := 15, ground := Ground.phase }], guard := none }) rfl (fun K hK => ?_) AllReadyH.nil
    rw [if_pos (by rfl)]
    have b2 : Blk v2 p 70 (dcells gb s.burn.n (.slice Aw W.length cw) s.burn.f s.burn.dead) := (H1.out.grown g1.out (by simp)).grown GR2.out (fun e => (H4.out.wv p e.symm).2.1 rfl)
    refine wp_store_cell 68 _ _ rfl size53 p 1 (.slice (some ⟨g2, 0, none⟩) (W.length + 1) cap2) rfl rfl rfl _ _ b2 (by simp [dcells]) ?_
    intro v3 b3 r3
    refine hK.out _ _ (hHeld.wr r3.out H4.out.ne b3.out rfl) (fun hHeld => ?_)
    clear hK K
    dsimp only [Act.put]
    refine wpAnyH_done (by kernel_rfl) ?_ _
    have HM3 : Hid (Md foot w v3) := ((HMD.out.trans (Md.of_grown g1.out (by simp))).trans (Md.of_grown GR2.out (fun r e => (H4.out.wv r e).1))).trans (Md.of_wr r3.out H4.out.hp)
    have HX3 : Hid (Byt v3 ok A b) := HX.out.keep fun k hk => HM3.out.block k (HOKK.out k hk).1 (HOKK.out k hk).2
    have hb3 : Blk v3 gb 96 (u8s (B.take (64 * i)) ++ u8s (blk B i) ++ u8s (B.drop (64 * i + 64))) := by
      rw [← mid_parts]
      exact ((H2.out.grown g1.out (by simp)).grown GR2.out (fun e => (H4.out.wv gb e.symm).2.2 rfl)).keep (r3.out.block gb (fun e => H4.out.ne e.symm))
    have HB3 := Lib.hid hb3
    have c03 : v3.cell? ⟨p, 0, none⟩ = some (.slice (some ⟨gb, 0, none⟩) s.burn.n s.burn.n) := Blk.get b3.out 0 _ rfl
    have hix := fun w => run_index52 w gb s.burn.n s.burn.n i HI.out
    clear hb3 c1
    go_wp2_with (first | (refine wpList_copy_blk rfl _ _ rfl gb (64 * i) 64 64 64 c A b (blk B i) rfl rfl HBL.out HBK.out 96 (u8s (B.take (64 * i))) (u8s (B.drop (64 * i + 64))) HB3.out (by rw [u8s_length, List.length_take, H5.out.len]; have := HI.out; omega) ok HX3.out 64 (by rw [HBL.out, HBK.out]; rfl) ?_) | fail)
    intro w4 hb4 hg4 hz4
    rw [lay_full (by rw [HBL.out, HBK.out])] at hb4
    go_wp2
    go_ret
    have hv1 : w.heap.size ≤ v1.heap.size := Nat.le_trans HMD.out.size g1.out.size
    have h24 : v2.heap.size = w4.heap.size := r3.out.size.symm.trans hz4.symm
    have hg2p : g2 ≠ p ∧ g2 ≠ gb := by
      rcases AT2.out with e | e
      · exact (H4.out.wv g2 e).2
      · have h1 := H4.out.lt p H4.out.hp
        have h2 := H4.out.lt gb H4.out.hgb
        have h3 : v.heap.size ≤ v1.heap.size := g1.out.size
        have h4 : w1.heap.size = v.heap.size := HVS.out
        omega
    refine ⟨rfl, fun k => foot k ∨ (w.heap.size ≤ k ∧ k < w4.heap.size), ⟨gb, .slice (some ⟨g2, 0, none⟩) (W.length + 1) cap2, put i b B, W ++ [(i, blk B i)], b3.out.grown hg4 (by have := H4.out.ne; simpa using this), ?_, ?_, ⟨.inl H4.out.hp, .inl H4.out.hgb, H4.out.ne, ?_, ?_⟩, ⟨St.write_ok H5.out.ok HI.out HBL.out, put_length H5.out.len HI.out HBL.out, H5.out.fit.snoc HI.out HBK.out, H5.out.inv.write H5.out.len HI.out HBL.out⟩⟩, fun k hk => hk, HM3.out.trans (Md.of_grown hg4 (by rintro _ ⟨⟩; exact H4.out.hgb))⟩
    · exact hb4.to (by rw [← u8s_append, ← u8s_append]; rfl)
    · rw [List.length_append, List.length_singleton, wcells_snoc]
      exact (OWN2.out.kept r3.out.grown (.inr (by simpa [Value.ownBlock] using hg2p.1))).kept hg4 (.inr (by simpa [Value.ownBlock] using hg2p.2))
    · intro k hk
      obtain rfl : g2 = k := by simpa [Value.ownBlock] using hk
      refine ⟨?_, hg2p.1, hg2p.2⟩
      rcases AT2.out with e | e
      · exact .inl (H4.out.wv g2 e).1
      · exact .inr ⟨by omega, by have := LT2.out; omega⟩
    · intro k hk
      rcases hk with hk | hk
      · exact Nat.lt_of_lt_of_le (H4.out.lt k hk) (by have := g1.out.size; have := GR2.out.size; show w1.heap.size ≤ w4.heap.size; have hvs : w1.heap.size = v.heap.size := HVS.out; omega)
      · exact hk.2
end
end Go.Proofs.YtonpcenjipigpaaGreat
