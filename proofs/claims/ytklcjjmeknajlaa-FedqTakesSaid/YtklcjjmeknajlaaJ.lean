/- wire.PutItem of an item that asks. Conditions: the asker is one of five. -/
import Derived.Test.YtklcjjmeknajlaaI
namespace Go.Proofs.Ytklcjjmeknajlaa
open Go.RowKit
theorem Wtr.new {w : World} {B g : Nat} (h : Blk w g 67 (wv nl)) (hB : B ≤ g) : Wtr w B g nl [] := ⟨h, ⟨[], World.ownsRow_nil _ _ _ _, rfl, fun i hi => absurd hi (Nat.not_lt_zero _)⟩, by simp [nl, Value.ownBlock], hB⟩
/-- Pieces of an item that asks. -/
def ps (k : Nat) : List (List UInt8) := [[2], [UInt8.ofNat k], [0]]
theorem ps_fit (k : Nat) : Fit (ps k) := ⟨by show 3 ≤ 64; omega, fun p hp => by
  simp only [ps, List.mem_cons, List.not_mem_nil, or_false] at hp
  rcases hp with rfl | rfl | rfl <;> simp⟩
theorem ps_jn (k : Nat) : (jn (ps k)).length = 10 := rfl
/-- What a writer's call leaves of other blocks. -/
theorem oth_keep {w w' : World} {g b : Nat} {v v' : Value} {t : TypeId} {vs : List Value} (h : ∀ b, Oth w g v b → w'.heap[b]? = w.heap[b]? ∧ Oth w' g v' b) (ho : Oth w g v b) (hb : Blk w b t vs) : Oth w' g v' b ∧ Blk w' b t vs := ⟨(h b ho).2, hb.keep (h b ho).1⟩
theorem oth_new {w w' : World} {B g b : Nat} {v : Value} {L : List (List UInt8)} (h : Wtr w B g v L) (hb : w.heap.size ≤ b) (hb' : b < w'.heap.size) : Oth w' g v b :=
  ⟨hb', fun e => by have := h.blk.lt; omega, fun e => by have := (h.row.own _ e.symm).2; omega⟩
/-- Ten bytes are answered, and true; there is new memory. -/
def PutE (w : World) (e : Ending) (w' : World) : Prop := ∃ A c, e = .returned (.tuple #[.slice A 10 c, .bool true]) ∧ 10 ≤ c ∧ c ≤ maxLen ∧ w.grownBy w' none
theorem below_in {w w1 w2 : World} {B g : Nat} (h1 : Below B w w1) (h2 : w1.grownBy w2 (some g)) (hg : B ≤ g) (hB : B ≤ w1.heap.size) : Below B w w2 := ⟨h2.os.trans h1.os, h2.tape.trans h1.tape, h2.output.trans h1.output, Nat.le_trans h1.size h2.size, fun k hk => (h2.block k (Nat.lt_of_lt_of_le hk hB) (by simp; omega)).trans (h1.block k hk)⟩
section
variable {w : World} {o : Oper} {a : Act} {K : Act → World → Prop} {Q : Exit → Act → World → Prop}
theorem wp_store_cell (ty : TypeId) (x y : Operand) (ho : o.op = .store ty x y) (hs : (Try.prog.info? ty).map (·.size) = some 1) (b i : Nat) (v : Value) (hx : a.eval x = .pointer (some ⟨b, i, none⟩)) (hy : a.eval y = v) (h1 : v.oneCell' = true)
    (cs : List Value) (t : TypeId) (hb : w.heap[b]? = some (.cells cs.toArray t (0, 0))) (hi : i < cs.length)
    (h : ∀ w', Hid (w'.heap[b]? = some (.cells (cs.set i v).toArray t (0, 0))) → Hid (Wr b w w') → K (a.put o.dst undef) w') : o.wp Try.prog a w K Q := by
  have hrun := run_storeAt_cell w ty b i v h1 cs t hb hi hs
  unfold Oper.wp execOp
  simp only [ho, hx, hy, Sem.run_bind, hrun, Sem.run_pure, Result.andThen_ok]
  exact h _ (setRow_heap w b _ _ t _ hb) (wr_setRow w b _)
end
theorem size5 : (Try.prog.info? 5).map (·.size) = some 1 := by kernel_rfl
theorem Wr.grown {b : Nat} {w w' : World} (h : Wr b w w') : w.grownBy w' (some b) := ⟨h.os, h.tape, h.output, Nat.le_of_eq h.size.symm, fun k _ hk => h.block k fun e => hk (by rw [e])⟩
set_option maxRecDepth 100000 in
set_option maxHeartbeats 4000000 in
theorem put_any (w : World) (k : Nat) (hk : k < 5) : Calls Try.prog 13 #[.agg (kv k).toArray] w (PutE w) := by
  obtain ⟨z, hz⟩ : ∃ z, z = kv k := ⟨_, rfl⟩
  have HZ := Lib.hid hz
  have HK := Lib.hid hk
  rw [← hz]
  clear hz hk
  go_enter Try.func13, Try.ntmps13
  go_wp2_with (first | (refine wpList_boxG rfl _ rfl (vs := z) rfl ?_) | fail)
  intro g1 w1 e1 b1 q1
  have E1 := Lib.hid e1.out
  have B1 : Hid (Blk w1 g1 49 (ic 2 (k : Int) 0)) := by have h := b1.out; rw [HZ.out] at h; exact h
  have Q1 := Lib.hid q1.out
  clear e1 b1 q1
  go_wp2_with (first | (refine wpList_zeroG zeW rfl rfl ?_) | (refine wpList_boxG rfl _ rfl (vs := wv nl) rfl ?_) | fail)
  intro g w2 e2 b2 q2
  have hsz1 : g1 < w1.heap.size := B1.out.lt
  have hw2 : Wtr w2 w.heap.size g nl [] := Wtr.new b2.out (by rw [e2.out]; exact Q1.out.size)
  have ho2 : Oth w2 g nl g1 := ⟨Nat.lt_of_lt_of_le hsz1 q2.out.size, by rw [e2.out]; omega, by simp [nl, Value.ownBlock]⟩
  have hb2 := B1.out.grown q2.out (by simp)
  have c20 : w2.cell? ⟨g1, 0, none⟩ = some (.int .u8 2) := hb2.get 0 _ rfl
  have hbel2 := (grown_below Q1.out).trans ((grown_below q2.out).mono Q1.out.size)
  have hc2 := one_any 2 2 rfl hw2 hbel2.size (Nat.zero_le _)
  have C2 := Lib.hid hc2
  have O2 := Lib.hid ho2
  have B2 := Lib.hid hb2
  have L2 := Lib.hid hbel2
  clear hsz1 hw2 ho2 hb2 hbel2 hc2 e2 b2 q2 B1 Q1 E1
  go_wp2_with (first | (go_at_call 15; refine C2.out.mono ?_; rintro _ w3 ⟨rfl, v3, hw3, hl3, hf3⟩; obtain ⟨ho3, hb3⟩ := oth_keep hf3 O2.out B2.out; have c30 : w3.cell? ⟨g1, 0, none⟩ = some (.int .u8 2) := hb3.get 0 _ rfl; have W3 := Lib.hid hw3; have L3 := Lib.hid (L2.out.trans hl3); have O3 := Lib.hid ho3; have B3 := Lib.hid hb3; clear hw3 hl3 hf3 ho3 hb3 c20 C2 O2 B2 L2) | (refine wpList_buildI1 rfl (.tmp 13) rfl 2 rfl ?_) | (refine wpList_allocG zeI rfl rfl ?_) | fail)
  intro g5 w4 e4 b4 q4
  have B4 := Lib.hid b4.out
  have N5 : Hid (w3.heap.size ≤ g5) := by rw [e4.out]; exact Nat.le_refl _
  have Q4 := Lib.hid q4.out
  clear e4 b4 q4
  go_wp2_with (first | (refine wpList_storeG agI rfl (.tmp 5) (.tmp 14) rfl g5 rfl rfl B4.out (ic_length _ _ _) (ic_length _ _ _) (ic_one _ _ _) ?_) | fail)
  intro w5 b5 q5 z5
  have hq5 : Below w3.heap.size w3 w5 := below_in (grown_below Q4.out) q5.out N5.out Q4.out.size
  have hb5 : Blk w5 g1 49 (ic 2 (k : Int) 0) := B3.out.below hq5 O3.out.1
  have hne : g1 ≠ g5 := fun e => by have := O3.out.1; have := N5.out; omega
  have c50 : w5.cell? ⟨g1, 0, none⟩ = some (.int .u8 2) := hb5.get 0 _ rfl
  have B5 := Lib.hid hb5
  have NE := Lib.hid hne
  have B6 := Lib.hid b5.out
  have Q5 := Lib.hid hq5
  clear hq5 hb5 hne b5 q5 z5 c30 B4 Q4
  go_wp2_with fail
  refine wp_region_held_drew (S := fun W => Blk W g1 49 (ic 2 (k : Int) 0)) (by kernel_rfl) B5.out (fun hHeld => ?_)
  obtain ⟨W, hW⟩ : ∃ W, W = w5.drew := ⟨_, rfl⟩
  have HBW : Hid (Blk W g5 49 (ic 2 0 0)) := by rw [hW]; exact B6.out
  have HQW : Hid (Below w3.heap.size w3 W) := by rw [hW]; exact Q5.out.trans ((grown_below (grown_drew w5)).mono Q5.out.size)
  rw [← hW] at hHeld ⊢
  clear hW c50
  refine' wpAnyH_take (i := 0) (oi := { dst := some 34, op := Op.fieldAddr 49 (Operand.tmp 1) 1, type := 0, pos := "item.go:15", after := #[], guard := none }) (v := .pointer (some ⟨g1, 1, none⟩)) rfl (by kernel_rfl) (by kernel_rfl) (by kernel_rfl) (fun _ _ _ h => h) (Or.inl ⟨by rfl, fun w' hSw => by go_simp⟩) (by assumption) ?qz1
  try simp only [Act.put, List.setIfInBounds_toArray, List.set_cons_zero, List.set_cons_succ]
  refine' wpAnyH_take (i := 1) (oi := { dst := some 35, op := Op.load 5 (Operand.tmp 34), type := 5, pos := "item.go:15", after := #[{ on := 0, ground := Ground.data }], guard := none }) (v := .int .u8 (k : Int)) rfl (by kernel_rfl) (by kernel_rfl) (by kernel_rfl) (fun _ _ _ h => h) (Or.inl ⟨by rfl, fun w' hSw => by have h3 := hSw.get 1 _ (by rfl); go_simp⟩) (by assumption) ?qz2
  try simp only [Act.put, List.setIfInBounds_toArray, List.set_cons_zero, List.set_cons_succ]
  refine' wpAnyH_take (i := 2) (oi := { dst := some 36, op := Op.fieldAddr 49 (Operand.tmp 1) 2, type := 0, pos := "item.go:15", after := #[{ on := 5, ground := Ground.gcOnly Departure.lateStores }], guard := none }) (v := .pointer (some ⟨g1, 2, none⟩)) rfl (by kernel_rfl) (by kernel_rfl) (by kernel_rfl) (fun _ _ _ h => h) (Or.inl ⟨by rfl, fun w' hSw => by go_simp⟩) (by assumption) ?qz3
  try simp only [Act.put, List.setIfInBounds_toArray, List.set_cons_zero, List.set_cons_succ]
  refine' wpAnyH_take (i := 3) (oi := { dst := some 37, op := Op.load 5 (Operand.tmp 36), type := 5, pos := "item.go:15", after := #[{ on := 2, ground := Ground.data }, { on := 5, ground := Ground.gcOnly Departure.lateStores }], guard := none }) (v := .int .u8 0) rfl (by kernel_rfl) (by kernel_rfl) (by kernel_rfl) (fun _ _ _ h => h) (Or.inl ⟨by rfl, fun w' hSw => by have h3 := hSw.get 2 _ (by rfl); go_simp⟩) (by assumption) ?qz4
  try simp only [Act.put, List.setIfInBounds_toArray, List.set_cons_zero, List.set_cons_succ]
  refine' wpAnyH_take (i := 4) (oi := { dst := some 38, op := Op.fieldAddr 49 (Operand.tmp 5) 1, type := 0, pos := "item.go:15", after := #[{ on := 0, ground := Ground.phase }, { on := 1, ground := Ground.phase }, { on := 2, ground := Ground.textOnly Departure.lateStores }, { on := 3, ground := Ground.textOnly Departure.lateStores }], guard := none }) (v := .pointer (some ⟨g5, 1, none⟩)) rfl (by kernel_rfl) (by kernel_rfl) (by kernel_rfl) (fun _ _ _ h => h) (Or.inl ⟨by rfl, fun w' hSw => by go_simp⟩) (by assumption) ?qz5
  try simp only [Act.put, List.setIfInBounds_toArray, List.set_cons_zero, List.set_cons_succ]
  refine wpAnyH_ready (rs := [5]) (by kernel_rfl) (by simp) ?_
  refine AllReadyH.cons (o := { dst := none, op := Op.store 5 (Operand.tmp 38) (Operand.tmp 35), type := 0, pos := "item.go:15", after := #[{ on := 4, ground := Ground.data }, { on := 1, ground := Ground.data }, { on := 0, ground := Ground.phase }, { on := 1, ground := Ground.phase }, { on := 2, ground := Ground.textOnly Departure.lateStores }, { on := 3, ground := Ground.textOnly Departure.lateStores }], guard := none }) rfl (fun K hK => ?_) AllReadyH.nil
  rw [if_pos (by rfl)]
  refine wp_store_cell 5 _ _ rfl size5 g5 1 (.int .u8 (k : Int)) rfl rfl rfl _ 49 HBW.out (by rw [ic_length]; omega) (fun vz6 hz7 rz8 => ?_)
  have bz9 : Blk vz6 g5 49 (ic 2 (k : Int) 0) := hz7.out
  have qz10 := below_in HQW.out rz8.out.grown N5.out HQW.out.size
  refine hK.out _ _ (hHeld.grown rz8.out.grown (by simpa using NE.out)) (fun hHeld => ?_)
  clear hK K
  dsimp only [Act.put]
  refine' wpAnyH_take (i := 6) (oi := { dst := some 39, op := Op.fieldAddr 49 (Operand.tmp 5) 2, type := 0, pos := "item.go:15", after := #[{ on := 0, ground := Ground.phase }, { on := 1, ground := Ground.phase }, { on := 2, ground := Ground.phase }, { on := 3, ground := Ground.phase }, { on := 4, ground := Ground.phase }, { on := 5, ground := Ground.phase }], guard := none }) (v := .pointer (some ⟨g5, 2, none⟩)) rfl (by kernel_rfl) (by kernel_rfl) (by kernel_rfl) (fun _ _ _ h => h) (Or.inl ⟨by rfl, fun w' hSw => by go_simp⟩) (by assumption) ?qz11
  try simp only [Act.put, List.setIfInBounds_toArray, List.set_cons_zero, List.set_cons_succ]
  refine wpAnyH_ready (rs := [7]) (by kernel_rfl) (by simp) ?_
  refine AllReadyH.cons (o := { dst := none, op := Op.store 5 (Operand.tmp 39) (Operand.tmp 37), type := 0, pos := "item.go:15", after := #[{ on := 6, ground := Ground.data }, { on := 3, ground := Ground.data }, { on := 5, ground := Ground.chain }, { on := 0, ground := Ground.phase }, { on := 1, ground := Ground.phase }, { on := 2, ground := Ground.phase }, { on := 3, ground := Ground.phase }, { on := 4, ground := Ground.phase }, { on := 5, ground := Ground.phase }], guard := none }) rfl (fun K hK => ?_) AllReadyH.nil
  rw [if_pos (by rfl)]
  refine wp_store_cell 5 _ _ rfl size5 g5 2 (.int .u8 0) rfl rfl rfl _ 49 bz9 (by rw [ic_length]; omega) (fun vz12 hz13 rz14 => ?_)
  have bz15 : Blk vz12 g5 49 (ic 2 (k : Int) 0) := hz13.out
  have qz16 := below_in qz10 rz14.out.grown N5.out qz10.size
  refine hK.out _ _ (hHeld.grown rz14.out.grown (by simpa using NE.out)) (fun hHeld => ?_)
  clear hK K
  dsimp only [Act.put]
  refine wpAnyH_done (by kernel_rfl) ?_ _
  have Q7 := Lib.hid qz16
  have B7 := Lib.hid bz15
  have A7 := Lib.hid hHeld
  obtain ⟨w7, hW7⟩ : ∃ w7, w7 = vz12 := ⟨_, rfl⟩
  rw [← hW7] at Q7 B7 A7 ⊢
  clear hW7
  have hw7 := W3.out.up Q7.out
  have hl7 := L3.out.trans (Q7.out.mono L3.out.size)
  have ho7 : Oth w7 g v3 g1 := O3.out.up Q7.out.size
  have hn7 : Oth w7 g v3 g5 := oth_new W3.out N5.out B7.out.lt
  have c71 : w7.cell? ⟨g1, 1, none⟩ = some (.int .u8 (k : Int)) := A7.out.get 1 _ rfl
  have hc7 := one_any (UInt8.ofNat k) (k : Int) (by have := HK.out; simp; omega) hw7 hl7.size (by show 1 ≤ 900; omega)
  have C7 := Lib.hid hc7
  have O7 := Lib.hid ho7
  have N7 := Lib.hid hn7
  have L7 := Lib.hid hl7
  clear hw7 hl7 ho7 hn7 hc7 B5 B6 Q5 HBW HQW W3 L3 O3 B3 N5 Q7 hHeld
  go_wp2_with (first | (go_at_call 15; refine C7.out.mono ?_; rintro _ w8 ⟨rfl, v8, hw8, hl8, hf8⟩; obtain ⟨ho8, ha8⟩ := oth_keep hf8 O7.out A7.out; obtain ⟨hn8, hb8⟩ := oth_keep hf8 N7.out B7.out; have c82 : w8.cell? ⟨g1, 2, none⟩ = some (.int .u8 0) := ha8.get 2 _ rfl; have hl88 := L7.out.trans hl8; have hc8 := one_any 0 0 rfl hw8 hl88.size (by show 2 ≤ 900; omega); have C8 := Lib.hid hc8; have L8 := Lib.hid hl88; have O8 := Lib.hid ho8; have N8 := Lib.hid hn8; have A8 := Lib.hid ha8; have B8 := Lib.hid hb8; clear hw8 hl8 hf8 ho8 hn8 ha8 hb8 hl88 hc8 c71 C7 O7 N7 L7 A7 B7) | (go_at_call 15; refine C8.out.mono ?_; rintro _ w9 ⟨rfl, v9, hw9, hl9, hf9⟩; obtain ⟨ho9, ha9⟩ := oth_keep hf9 O8.out A8.out; obtain ⟨hn9, hb9⟩ := oth_keep hf9 N8.out B8.out; have hl99 := L8.out.trans hl9; have W9 := Lib.hid hw9; have L9 := Lib.hid hl99; have A9 := Lib.hid ha9; have B9 := Lib.hid hb9; clear hw9 hl9 hf9 ho9 hn9 ha9 hb9 hl99 c82 C8 O8 N8 L8 A8 B8) | fail)
  refine wp_region_held_drew (S := fun W => Blk W g1 49 (ic 2 (k : Int) 0) ∧ Blk W g5 49 (ic 2 (k : Int) 0)) (by kernel_rfl) ⟨A9.out, B9.out⟩ (fun hHeld => ?_)
  obtain ⟨V, hV⟩ : ∃ V, V = w9.drew := ⟨_, rfl⟩
  have HGV : Hid (w9.grownBy V none) := by rw [hV]; exact grown_drew w9
  rw [← hV] at hHeld ⊢
  clear hV
  refine' wpAnyH_take (i := 0) (oi := { dst := some 80, op := Op.move (Operand.tmp 4), type := 64, pos := "item.go:28", after := #[], guard := none }) (v := .pointer (some ⟨g, 0, none⟩)) rfl (by kernel_rfl) (by kernel_rfl) (by kernel_rfl) (fun _ _ _ h => h) (Or.inl ⟨by rfl, fun w' hSw => by go_simp⟩) (by assumption) ?qz17
  try simp only [Act.put, List.setIfInBounds_toArray, List.set_cons_zero, List.set_cons_succ]
  refine' wpAnyH_take (i := 1) (oi := { dst := some 81, op := Op.load 49 (Operand.tmp 1), type := 49, pos := "item.go:28", after := #[], guard := none }) (v := .agg (ic 2 (k : Int) 0).toArray) rfl (by kernel_rfl) (by kernel_rfl) (by kernel_rfl) (fun _ _ _ h => h) (yieldsIf_loadR agI (by rfl) (.tmp 1) rfl g1 0 rfl (ic_length _ _ _) (fun _ h => range_of h.1)) (by assumption) ?qz18
  try simp only [Act.put, List.setIfInBounds_toArray, List.set_cons_zero, List.set_cons_succ]
  refine' wpAnyH_take (i := 3) (oi := { dst := some 83, op := Op.load 49 (Operand.tmp 5), type := 49, pos := "item.go:28", after := #[], guard := none }) (v := .agg (ic 2 (k : Int) 0).toArray) rfl (by kernel_rfl) (by kernel_rfl) (by kernel_rfl) (fun _ _ _ h => h) (yieldsIf_loadR agI (by rfl) (.tmp 5) rfl g5 0 rfl (ic_length _ _ _) (fun _ h => range_of h.2)) (by assumption) ?qz19
  try simp only [Act.put, List.setIfInBounds_toArray, List.set_cons_zero, List.set_cons_succ]
  refine wpAnyH_ready (rs := [2]) (by kernel_rfl) (by simp) ?_
  refine AllReadyH.cons (o := { dst := some 82, op := Op.call { callee := Callee.value (Operand.func 21), args := #[Operand.tmp 81], argTypes := #[49] }, type := 79, pos := "item.go:28", after := #[{ on := 1, ground := Ground.data }], guard := none }) rfl (fun K hK => ?_) AllReadyH.nil
  rw [if_pos (by rfl)]
  go_simp
  with_reducible refine (ishape_any _ 2 (k : Int) 0).mono ?_
  rintro _ vz20 ⟨rfl, gz21⟩
  have hz22 := World.grownBy.trans HGV.out gz21
  refine hK.out _ _ ⟨hHeld.1.grown gz21 (by simp), hHeld.2.grown gz21 (by simp)⟩ (fun hHeld => ?_)
  clear hK K
  try simp only [Act.put, List.setIfInBounds_toArray, List.set_cons_zero, List.set_cons_succ]
  refine wpAnyH_ready (rs := [4]) (by kernel_rfl) (by simp) ?_
  refine AllReadyH.cons (o := { dst := some 84, op := Op.call { callee := Callee.value (Operand.func 21), args := #[Operand.tmp 83], argTypes := #[49] }, type := 79, pos := "item.go:28", after := #[{ on := 3, ground := Ground.data }, { on := 2, ground := Ground.chain }], guard := none }) rfl (fun K hK => ?_) AllReadyH.nil
  rw [if_pos (by rfl)]
  go_simp
  with_reducible refine (ishape_any _ 2 (k : Int) 0).mono ?_
  rintro _ vz23 ⟨rfl, gz24⟩
  have hz25 := World.grownBy.trans hz22 gz24
  refine hK.out _ _ ⟨hHeld.1.grown gz24 (by simp), hHeld.2.grown gz24 (by simp)⟩ (fun hHeld => ?_)
  clear hK K
  try simp only [Act.put, List.setIfInBounds_toArray, List.set_cons_zero, List.set_cons_succ]
  refine' wpAnyH_take (i := 5) (oi := { dst := some 85, op := Op.binOp BinOp.eql 79 (Operand.tmp 82) (Operand.tmp 84) 79, type := 4, pos := "item.go:28", after := #[{ on := 2, ground := Ground.data }, { on := 4, ground := Ground.data }], guard := none }) (v := .bool true) rfl (by kernel_rfl) (by kernel_rfl) (by kernel_rfl) (fun _ _ _ h => h) (yieldsIf_eqs (eqsS k HK.out) (by rfl) (.tmp 82) (.tmp 84) rfl rfl rfl) (by assumption) ?qz26
  try simp only [Act.put, List.setIfInBounds_toArray, List.set_cons_zero, List.set_cons_succ]
  refine wpAnyH_ready (rs := [6]) (by kernel_rfl) (by simp) ?_
  refine AllReadyH.cons (o := { dst := some 86, op := Op.call { callee := Callee.value (Operand.func 20), args := #[Operand.tmp 80, Operand.tmp 85], argTypes := #[64, 4] }, type := 0, pos := "item.go:28", after := #[{ on := 0, ground := Ground.data }, { on := 5, ground := Ground.data }, { on := 4, ground := Ground.chain }], guard := none }) rfl (fun K hK => ?_) AllReadyH.nil
  rw [if_pos (by rfl)]
  go_simp
  with_reducible refine (need_any _ _).mono ?_
  rintro _ _ ⟨rfl, rfl⟩
  refine hK.out _ _ hHeld (fun hHeld => ?_)
  clear hK K
  try simp only [Act.put, List.setIfInBounds_toArray, List.set_cons_zero, List.set_cons_succ]
  refine wpAnyH_done (by kernel_rfl) ?_ _
  obtain ⟨w10, hW10⟩ : ∃ w10, w10 = vz23 := ⟨_, rfl⟩
  have hg10 : w9.grownBy w10 none := by rw [hW10]; exact hz25
  rw [← hW10]
  clear hW10
  have hj := joined_any (W9.out.up (grown_below hg10)) (ps_fit k)
  have HJ := Lib.hid hj
  have HL := Lib.hid (L9.out.trans ((grown_below hg10).mono L9.out.size))
  clear hj hg10
  go_wp2_with (go_at_call 22; refine HJ.out.mono ?_; rintro _ w11 ⟨A2, c2, rfl, hc1, hc2, _, hb11⟩; have HC1 := Lib.hid hc1; have HC2 := Lib.hid hc2; have HB11 := Lib.hid hb11; clear hc1 hc2 hb11)
  go_ret2
  exact ⟨A2, c2, rfl, HC1.out, HC2.out, below_grown (HL.out.trans (HB11.out.mono HL.out.size))⟩
end Go.Proofs.Ytklcjjmeknajlaa
