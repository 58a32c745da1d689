/- A header as it is written. Conditions: numbers that have room. -/
import Derived.Test.YtonpcenjipigpaaGreatZ9
import Derived.Deep.CutRange
import Derived.Deep.CutBlock
namespace Go.Proofs.YtonpcenjipigpaaGreat
open Go.RowKit
/-- "head". -/
def head4 : List UInt8 := [104, 101, 97, 100]
/-- A header's first 20 bytes. -/
def hdr0 (e c n : Nat) : List UInt8 := head4 ++ be 8 e ++ be 4 c ++ be 4 n
theorem hdr0_length (e c n : Nat) : (hdr0 e c n).length = 20 := by simp [hdr0, head4, be_length]
/-- A header's first 24 bytes. -/
def hdr1 (e c n : Nat) : List UInt8 := hdr0 e c n ++ be 4 (sumS (hdr0 e c n))
theorem hdr1_length (e c n : Nat) : (hdr1 e c n).length = 24 := by rw [hdr1, List.length_append, hdr0_length, be_length]
/-- A header's block. -/
def hdrB (e c n : Nat) : List UInt8 := fillB (hdr1 e c n)
theorem hdrB_length (e c n : Nat) : (hdrB e c n).length = 64 := by rw [hdrB, fillB_length, hdr1_length]; rfl
theorem hdrB_eq (e c n : Nat) : hdrB e c n = hdr1 e c n ++ zb 40 := by rw [hdrB, fillB, hdr1_length]; rfl

/-- A slice of bytes whose blocks are there. -/
def Sb (w : World) (v : Value) (xs : List UInt8) : Prop := ∃ A c, v = .slice A xs.length c ∧ xs.length ≤ c ∧ c ≤ maxLen ∧ Byt w (fun b => b < w.heap.size) A xs
theorem Sb.of_own {w : World} {base n : Nat} {v : Value} {xs : List UInt8} (h : w.ownsRow base 5 1 v n (u8s xs)) : Sb w v xs := by
  obtain ⟨A, c, h1, _, h2, h3, h4⟩ := own_byt h
  exact ⟨A, c, h1, h2, h3, h4⟩
theorem Sb.old {w w' : World} {v : Value} {xs : List UInt8} (h : Sb w v xs) (hb : Below w.heap.size w w') : Sb w' v xs := by
  obtain ⟨A, c, h1, h2, h3, h4⟩ := h
  exact ⟨A, c, h1, h2, h3, h4.old hb⟩
theorem below_alloc (w : World) (o : Obj) : Below w.heap.size w (w.alloc o) := (Below.refl _ _).alloc (Nat.le_refl _) _
theorem Sb.alloc {w : World} {v : Value} {xs : List UInt8} (h : Sb w v xs) (o : Obj) : Sb (w.alloc o) v xs := h.old (below_alloc w o)
theorem sb_head (w : World) : Sb (w.alloc (.cells #[.int .u8 104, .int .u8 101, .int .u8 97, .int .u8 100] 5)) (.slice (some ⟨w.heap.size, 0, none⟩) 4 4) head4 := by
  refine ⟨_, 4, rfl, by decide, by unfold maxLen; omega, ?_⟩
  have hb : Blk (w.alloc (.cells #[.int .u8 104, .int .u8 101, .int .u8 97, .int .u8 100] 5)) w.heap.size 5 ([] ++ u8s head4 ++ []) := Blk.of_alloc w _ 5
  exact (hb.byt rfl).imp fun b hb => by subst hb; simp
theorem sb_headD (w : World) : Sb (w.alloc (.cells #[.int .u8 104, .int .u8 101, .int .u8 97, .int .u8 100] 5)).drew (.slice (some ⟨w.heap.size, 0, none⟩) 4 4) head4 := (sb_head w).old (below_of_grown (grown_drewN 1))
/-- Nothing old has turned, from w on. -/
theorem below_then {w w1 w2 : World} (h : Below w.heap.size w w1) (k : Below w1.heap.size w1 w2) : Below w.heap.size w w2 := h.trans (k.mono h.size)
/-- What lay there lies there still, cell by cell. -/
structure Cel (w w' : World) : Prop where
  size : w.heap.size ≤ w'.heap.size
  cell : ∀ a v, w.cell? a = some v → w'.cell? a = some v
theorem Cel.refl (w : World) : Cel w w := ⟨Nat.le_refl _, fun _ _ h => h⟩
theorem Cel.trans {w w1 w2 : World} (h : Cel w w1) (k : Cel w1 w2) : Cel w w2 := ⟨Nat.le_trans h.size k.size, fun a v hv => k.cell a v (h.cell a v hv)⟩
theorem cel_b {w w' : World} (h : Below w.heap.size w w') : Cel w w' := ⟨h.size, fun _ _ hv => (World.cell?_of_block (h.block _ (World.block_lt_of_cell? w _ hv))).trans hv⟩
theorem cel_alloc (w : World) (o : Obj) : Cel w (w.alloc o) := cel_b (below_alloc w o)
theorem cel_drew (w : World) : Cel w w.drew := cel_b (below_of_grown (grown_drewN 1))
/-- '[]byte("..")' marks the block g. -/
def mk (w : World) (g : Nat) : World := match w.shape? g with | some (_, n) => w.freeze ⟨g, n, none⟩ 1 | none => w
theorem mk_heap (w : World) (g k : Nat) (h : k ≠ g) : (mk w g).heap[k]? = w.heap[k]? := by
  unfold mk
  split
  · unfold World.freeze
    rw [if_neg (by decide)]
    simp only [Array.getElem?_modify]
    rw [if_neg (fun e => h e.symm)]
  · rfl
theorem mk_size (w : World) (g : Nat) : (mk w g).heap.size = w.heap.size := by
  unfold mk
  split
  · unfold World.freeze
    rw [if_neg (by decide)]
    simp
  · rfl
theorem mk_rest (w : World) (g : Nat) : (mk w g).os = w.os ∧ (mk w g).tape = w.tape ∧ (mk w g).output = w.output := by
  unfold mk
  split
  · unfold World.freeze
    rw [if_neg (by decide)]
    exact ⟨rfl, rfl, rfl⟩
  · exact ⟨rfl, rfl, rfl⟩
theorem cel_mk (w : World) (g : Nat) : Cel w (mk w g) := by
  refine ⟨Nat.le_of_eq (mk_size w g).symm, fun a v hv => ?_⟩
  rw [← hv]
  unfold mk
  split
  · unfold World.freeze World.cell?
    rw [if_neg (by decide)]
    simp only [Array.getElem?_modify]
    by_cases hg : g = a.block
    · simp only [if_pos hg]
      cases w.heap[a.block]? with
      | none => rfl
      | some o => cases o <;> rfl
    · simp only [if_neg hg]
  · rfl
theorem run_convert_mk (W : World) (g n c : Nat) : (convert 40 40 (.slice (some ⟨g, 0, none⟩) n c)).run Tryz.prog W = .ok (.slice (some ⟨g, 0, none⟩) n c) (mk W g) := by
  unfold mk
  cases hs : W.shape? g with
  | none => simp [convert, run_underlying Tryz.underlying40, run_underlying Tryz.underlying5, markStringish, hs]
  | some x => obtain ⟨t, n⟩ := x; simp [convert, run_underlying Tryz.underlying40, run_underlying Tryz.underlying5, markStringish, hs]
theorem bel_mk {B W : World} {g : Nat} (h : Below B.heap.size B W) (hg : B.heap.size ≤ g) : Below B.heap.size B (mk W g) := by
  obtain ⟨h1, h2, h3⟩ := mk_rest W g
  exact ⟨h1.trans h.os, h2.trans h.tape, h3.trans h.output, by rw [mk_size]; exact h.size, fun k hk => (mk_heap W g k (by omega)).trans (h.block k hk)⟩
theorem bel_alloc {B W : World} (o : Obj) (h : Below B.heap.size B W) : Below B.heap.size B (W.alloc o) := below_then h (below_alloc _ _)
theorem bel_drew {B W : World} (h : Below B.heap.size B W) : Below B.heap.size B W.drew := below_then h (below_of_grown (grown_drewN 1))
theorem Sb.up {w w' : World} {v : Value} {xs : List UInt8} (h : Sb w v xs) (hc : Cel w w') : Sb w' v xs := by
  obtain ⟨A, c, h1, h2, h3, h4⟩ := h
  refine ⟨A, c, h1, h2, h3, fun j hj => ?_⟩
  obtain ⟨ad, e, ho, hcl⟩ := h4 j hj
  exact ⟨ad, e, Nat.lt_of_lt_of_le ho hc.size, hc.cell _ _ hcl⟩
theorem Sb.sls {w : World} {vs : List Value} {ps : List (List UInt8)} {v : Value} {p : List UInt8} (h : Sb w v p) (k : Sls w (fun b => b < w.heap.size) vs ps) : Sls w (fun b => b < w.heap.size) (v :: vs) (p :: ps) := by
  obtain ⟨A, c, rfl, h2, h3, h4⟩ := h
  exact k.cons h4 rfl h2 h3
theorem hdr_cat {w : World} {vH vE vC vN : Value} {e c n : Nat} (fH : Sb w vH head4) (fE : Sb w vE (be 8 e)) (fC : Sb w vC (be 4 c)) (fN : Sb w vN (be 4 n)) :
    Calls Tryz.prog 80 #[.slice (some ⟨w.heap.size, 0, none⟩) 4 4] (w.alloc (.cells #[vH, vE, vC, vN] 40)) (OwnB (w.alloc (.cells #[vH, vE, vC, vN] 40)) (hdr0 e c n)) := by
  have hs := fH.sls (fE.sls (fC.sls (fN.sls (Sls.nil w _))))
  have hl := (hs.old (below_alloc w (.cells #[vH, vE, vC, vN] 40))).lst (Blk.of_alloc w #[vH, vE, vC, vN] 40) (by simp)
  have hfl := flat4 head4 (be 8 e) (be 4 c) (be 4 n)
  have hln := hdr0_length e c n
  have := concat_any (c := 4) hl (fun _ hb => hb) rfl (by simp) (by rw [hfl]; unfold hdr0 at hln; omega) (by rw [hfl]; unfold hdr0 at hln; omega)
  rw [hfl] at this
  exact this
theorem wp_head {W : World} {o : Oper} {a : Act} {K : Act → World → Prop} {Q : Exit → Act → World → Prop}
    (ho : o.op = .buildSlice 40 4 #[(0, .const (.int .u8 104)), (1, .const (.int .u8 101)), (2, .const (.int .u8 97)), (3, .const (.int .u8 100))])
    (h : ∀ g W', Sb W' (.slice (some ⟨g, 0, none⟩) 4 4) head4 → W.heap.size ≤ g → Below W.heap.size W W' → K (a.put o.dst (.slice (some ⟨g, 0, none⟩) 4 4)) W') : o.wp Tryz.prog a W K Q := by
  have hr : (Instr.buildSlice 40 4 #[(0, .int .u8 104), (1, .int .u8 101), (2, .int .u8 97), (3, .int .u8 100)]).run Tryz.prog W = .ok (.slice (some ⟨W.heap.size, 0, none⟩) 4 4) (W.alloc (.cells #[.int .u8 104, .int .u8 101, .int .u8 97, .int .u8 100] 5)) := by kernel_rfl
  unfold Oper.wp execOp
  simp only [ho, List.map_toArray, List.map_cons, List.map_nil, Act.eval, hr, Sem.run_bind, Sem.run_pure, Result.andThen_ok]
  exact h _ _ (sb_head W) (Nat.le_refl _) (below_alloc _ _)
theorem wp_mark {W : World} {o : Oper} {a : Act} {K : Act → World → Prop} {Q : Exit → Act → World → Prop} {g n c : Nat} (x : Operand) (ho : o.op = .convert 40 40 x) (hx : a.eval x = .slice (some ⟨g, 0, none⟩) n c)
    (h : ∀ W', Cel W W' → (∀ B : World, Below B.heap.size B W → B.heap.size ≤ g → Below B.heap.size B W') → K (a.put o.dst (.slice (some ⟨g, 0, none⟩) n c)) W') : o.wp Tryz.prog a W K Q := by
  have hr := run_convert_mk W g n c
  unfold Oper.wp execOp
  simp only [ho, hx, hr, Sem.run_bind, Sem.run_pure, Result.andThen_ok]
  exact h _ (cel_mk W g) (fun B hB hg => bel_mk hB hg)
theorem own_low {w : World} {base b0 n : Nat} {e : TypeId} {sz : Nat} {v : Value} {xs : List Value} (h : w.ownsRow base e sz v n xs) (hb : b0 ≤ base) : w.ownsRow b0 e sz v n xs := by
  refine ⟨h.1, ?_⟩
  rcases h.2 with hn | ⟨g, cap, cur, e1, h1, rest⟩
  · exact .inl hn
  · exact .inr ⟨g, cap, cur, e1, Nat.le_trans hb h1, rest⟩
set_option maxRecDepth 100000 in
set_option maxHeartbeats 4000000 in
theorem block_any (e c n : Nat) (w : World) (he : e < 18446744073709551616) (hc : c < 4294967296) (hn : n < 4294967296) :
    Calls Tryz.prog 57 #[.agg #[.int .u64 (e : Int), .int .u64 (c : Int), .int .u64 (n : Int)]] w (OwnB w (hdrB e c n)) := by
  have kE : ∀ w, Calls Tryz.prog 81 #[.int .u64 (e : Int), .int .i64 8] w (OwnB w (be 8 e)) := fun w => sput_any e 8 w (by decide) (by decide) (by omega)
  have kC : ∀ w, Calls Tryz.prog 81 #[.int .u64 (c : Int), .int .i64 4] w (OwnB w (be 4 c)) := fun w => sput_any c 4 w (by decide) (by decide) (by omega)
  have kN : ∀ w, Calls Tryz.prog 81 #[.int .u64 (n : Int), .int .i64 4] w (OwnB w (be 4 n)) := fun w => sput_any n 4 w (by decide) (by decide) (by omega)
  go_enter Tryz.func57, Tryz.ntmps57
  go_wp2
  have hb0 := Blk.of_alloc w #[.int .u64 (e : Int), .int .u64 (c : Int), .int .u64 (n : Int)] 73
  have hg0 := below_alloc w (.cells #[.int .u64 (e : Int), .int .u64 (c : Int), .int .u64 (n : Int)] 73)
  have hlt : w.heap.size < (w.alloc (.cells #[.int .u64 (e : Int), .int .u64 (c : Int), .int .u64 (n : Int)] 73)).heap.size := by simp
  obtain ⟨B, hB⟩ : ∃ B, B = w.heap.size := ⟨_, rfl⟩
  rw [← hB] at hb0 hlt ⊢
  generalize w.alloc (.cells #[.int .u64 (e : Int), .int .u64 (c : Int), .int .u64 (n : Int)] 73) = w0 at *
  have KP : Hid (∀ W, Below w0.heap.size w0 W → W.cell? ⟨B, 0, none⟩ = some (.int .u64 (e : Int)) ∧ W.cell? ⟨B, 1, none⟩ = some (.int .u64 (c : Int)) ∧ W.cell? ⟨B, 2, none⟩ = some (.int .u64 (n : Int))) := fun W h =>
    ⟨(hb0.below h hlt).get 0 _ rfl, (hb0.below h hlt).get 1 _ rfl, (hb0.below h hlt).get 2 _ rfl⟩
  have hq0 : Below w0.heap.size w0 w0.drew := below_of_grown (grown_drewN 1)
  have hcv := run_convert_mk
  have HG0 := Lib.hid hg0
  clear hb0 hg0 hlt hB
  go_cut [3] from 4 to 17 (fun v W => W.ownsRow w0.heap.size 5 1 v (hdr0 e c n).length (u8s (hdr0 e c n)) ∧ Below w0.heap.size w0 W)
  case first =>
    refine wp_region_held_drew (S := fun W => W.cell? ⟨B, 0, none⟩ = some (.int .u64 (e : Int)) ∧ W.cell? ⟨B, 1, none⟩ = some (.int .u64 (c : Int)) ∧ W.cell? ⟨B, 2, none⟩ = some (.int .u64 (n : Int))) (by kernel_rfl) (KP.out _ hq0) (fun hHeld => ?_)
    refine' wpAnyH_take (i := 2) (oi := { dst := some 6, op := Op.fieldAddr 73 (Operand.tmp 1) 0, type := 0, pos := "bytes.go:22", after := #[], guard := none }) (v := .pointer (some ⟨B, 0, none⟩)) rfl (by kernel_rfl) (by kernel_rfl) (by kernel_rfl) (fun _ _ _ h => h) (Or.inl ⟨by rfl, fun w' hSw => by go_simp⟩) (by assumption) ?qz1
    try simp only [Act.put, List.setIfInBounds_toArray, List.set_cons_zero, List.set_cons_succ]
    refine' wpAnyH_take (i := 3) (oi := { dst := some 7, op := Op.load 49 (Operand.tmp 6), type := 49, pos := "bytes.go:22", after := #[{ on := 2, ground := Ground.data }], guard := none }) (v := .int .u64 (e : Int)) rfl (by kernel_rfl) (by kernel_rfl) (by kernel_rfl) (fun _ _ _ h => h) (Or.inl ⟨by rfl, fun w' hSw => by (obtain ⟨s1, s2, s3⟩ := hSw; go_simp)⟩) (by assumption) ?qz2
    try simp only [Act.put, List.setIfInBounds_toArray, List.set_cons_zero, List.set_cons_succ]
    refine' wpAnyH_take (i := 5) (oi := { dst := some 9, op := Op.fieldAddr 73 (Operand.tmp 1) 1, type := 0, pos := "bytes.go:22", after := #[], guard := none }) (v := .pointer (some ⟨B, 1, none⟩)) rfl (by kernel_rfl) (by kernel_rfl) (by kernel_rfl) (fun _ _ _ h => h) (Or.inl ⟨by rfl, fun w' hSw => by go_simp⟩) (by assumption) ?qz3
    try simp only [Act.put, List.setIfInBounds_toArray, List.set_cons_zero, List.set_cons_succ]
    refine' wpAnyH_take (i := 6) (oi := { dst := some 10, op := Op.load 49 (Operand.tmp 9), type := 49, pos := "bytes.go:22", after := #[{ on := 5, ground := Ground.data }], guard := none }) (v := .int .u64 (c : Int)) rfl (by kernel_rfl) (by kernel_rfl) (by kernel_rfl) (fun _ _ _ h => h) (Or.inl ⟨by rfl, fun w' hSw => by (obtain ⟨s1, s2, s3⟩ := hSw; go_simp)⟩) (by assumption) ?qz4
    try simp only [Act.put, List.setIfInBounds_toArray, List.set_cons_zero, List.set_cons_succ]
    refine' wpAnyH_take (i := 8) (oi := { dst := some 12, op := Op.fieldAddr 73 (Operand.tmp 1) 2, type := 0, pos := "bytes.go:22", after := #[], guard := none }) (v := .pointer (some ⟨B, 2, none⟩)) rfl (by kernel_rfl) (by kernel_rfl) (by kernel_rfl) (fun _ _ _ h => h) (Or.inl ⟨by rfl, fun w' hSw => by go_simp⟩) (by assumption) ?qz5
    try simp only [Act.put, List.setIfInBounds_toArray, List.set_cons_zero, List.set_cons_succ]
    refine' wpAnyH_take (i := 9) (oi := { dst := some 13, op := Op.load 49 (Operand.tmp 12), type := 49, pos := "bytes.go:22", after := #[{ on := 8, ground := Ground.data }], guard := none }) (v := .int .u64 (n : Int)) rfl (by kernel_rfl) (by kernel_rfl) (by kernel_rfl) (fun _ _ _ h => h) (Or.inl ⟨by rfl, fun w' hSw => by (obtain ⟨s1, s2, s3⟩ := hSw; go_simp)⟩) (by assumption) ?qz6
    try simp only [Act.put, List.setIfInBounds_toArray, List.set_cons_zero, List.set_cons_succ]
    refine wpAnyH_ready (rs := [0, 4]) (by kernel_rfl) (by simp) ?_
    refine AllReadyH.cons (o := { dst := some 4, op := Op.buildSlice 40 4 #[(0, Operand.const (Value.int IntKind.u8 104)), (1, Operand.const (Value.int IntKind.u8 101)), (2, Operand.const (Value.int IntKind.u8 97)), (3, Operand.const (Value.int IntKind.u8 100))], type := 40, pos := "bytes.go:22", after := #[], guard := none }) rfl (fun K hK => ?_) (AllReadyH.cons (o := { dst := some 8, op := Op.call { callee := Callee.value (Operand.func 81), args := #[Operand.tmp 7, Operand.const (Value.int IntKind.i64 8)], argTypes := #[49, 3] }, type := 40, pos := "bytes.go:22", after := #[{ on := 3, ground := Ground.data }], guard := none }) rfl (fun K hK => ?_) AllReadyH.nil)
    · rw [if_pos (by rfl)]
      refine wp_head rfl (fun ghz11 wz7 hfz8 hzz9 hbz10 => ?_)
      have hzz12 := Nat.le_trans (hq0).size hzz9
      have hqz13 := below_then hq0 hbz10
      refine hK.out _ _ (KP.out _ hqz13) (fun hHeld => ?_)
      clear hK K
      try simp only [Act.put, List.setIfInBounds_toArray, List.set_cons_zero, List.set_cons_succ]
      refine wpAnyH_ready (rs := [1, 4]) (by kernel_rfl) (by simp) ?_
      refine AllReadyH.cons (o := { dst := some 5, op := Op.convert 40 40 (Operand.tmp 4), type := 40, pos := "bytes.go:22", after := #[{ on := 0, ground := Ground.data }], guard := none }) rfl (fun K hK => ?_) (AllReadyH.cons (o := { dst := some 8, op := Op.call { callee := Callee.value (Operand.func 81), args := #[Operand.tmp 7, Operand.const (Value.int IntKind.i64 8)], argTypes := #[49, 3] }, type := 40, pos := "bytes.go:22", after := #[{ on := 3, ground := Ground.data }], guard := none }) rfl (fun K hK => ?_) AllReadyH.nil)
      · rw [if_pos (by rfl)]
        refine wp_mark _ rfl rfl (fun wz14 hcz15 hbz16 => ?_)
        have hfz17 := hfz8.up hcz15
        have hqz18 := hbz16 _ hqz13 hzz12
        refine hK.out _ _ (KP.out _ hqz18) (fun hHeld => ?_)
        clear hK K
        try simp only [Act.put, List.setIfInBounds_toArray, List.set_cons_zero, List.set_cons_succ]
        refine wpAnyH_ready (rs := [4]) (by kernel_rfl) (by simp) ?_
        refine AllReadyH.cons (o := { dst := some 8, op := Op.call { callee := Callee.value (Operand.func 81), args := #[Operand.tmp 7, Operand.const (Value.int IntKind.i64 8)], argTypes := #[49, 3] }, type := 40, pos := "bytes.go:22", after := #[{ on := 3, ground := Ground.data }], guard := none }) rfl (fun K hK => ?_) AllReadyH.nil
        rw [if_pos (by rfl)]
        go_simp
        with_reducible refine (kE _).mono ?_
        rintro _ wz19 ⟨vE, rfl, hoz20, hbz21⟩
        have hfz22 := hfz17.up (cel_b hbz21)
        have hqz23 := below_then hqz18 hbz21
        have hfz24 := Sb.of_own hoz20
        clear hoz20
        obtain ⟨AE, cE, rfl, lE, mE, yE⟩ := hfz24
        have hfz24 : Sb wz19 (.slice AE (be 8 e).length cE) _ := ⟨AE, cE, rfl, lE, mE, yE⟩
        clear lE mE yE
        refine hK.out _ _ (KP.out _ hqz23) (fun hHeld => ?_)
        clear hK K
        try simp only [Act.put, List.setIfInBounds_toArray, List.set_cons_zero, List.set_cons_succ]
        refine wpAnyH_ready (rs := [7]) (by kernel_rfl) (by simp) ?_
        refine AllReadyH.cons (o := { dst := some 11, op := Op.call { callee := Callee.value (Operand.func 81), args := #[Operand.tmp 10, Operand.const (Value.int IntKind.i64 4)], argTypes := #[49, 3] }, type := 40, pos := "bytes.go:22", after := #[{ on := 6, ground := Ground.data }, { on := 4, ground := Ground.chain }], guard := none }) rfl (fun K hK => ?_) AllReadyH.nil
        rw [if_pos (by rfl)]
        go_simp
        with_reducible refine (kC _).mono ?_
        rintro _ wz25 ⟨vC, rfl, hoz26, hbz27⟩
        have hfz28 := hfz22.up (cel_b hbz27)
        have hfz29 := hfz24.up (cel_b hbz27)
        have hqz30 := below_then hqz23 hbz27
        have hfz31 := Sb.of_own hoz26
        clear hoz26
        obtain ⟨AC, cC, rfl, lC, mC, yC⟩ := hfz31
        have hfz31 : Sb wz25 (.slice AC (be 4 c).length cC) _ := ⟨AC, cC, rfl, lC, mC, yC⟩
        clear lC mC yC
        refine hK.out _ _ (KP.out _ hqz30) (fun hHeld => ?_)
        clear hK K
        try simp only [Act.put, List.setIfInBounds_toArray, List.set_cons_zero, List.set_cons_succ]
        refine wpAnyH_ready (rs := [10]) (by kernel_rfl) (by simp) ?_
        refine AllReadyH.cons (o := { dst := some 14, op := Op.call { callee := Callee.value (Operand.func 81), args := #[Operand.tmp 13, Operand.const (Value.int IntKind.i64 4)], argTypes := #[49, 3] }, type := 40, pos := "bytes.go:22", after := #[{ on := 9, ground := Ground.data }, { on := 7, ground := Ground.chain }], guard := none }) rfl (fun K hK => ?_) AllReadyH.nil
        rw [if_pos (by rfl)]
        go_simp
        with_reducible refine (kN _).mono ?_
        rintro _ wz32 ⟨vN, rfl, hoz33, hbz34⟩
        have hfz35 := hfz28.up (cel_b hbz34)
        have hfz36 := hfz29.up (cel_b hbz34)
        have hfz37 := hfz31.up (cel_b hbz34)
        have hqz38 := below_then hqz30 hbz34
        have hfz39 := Sb.of_own hoz33
        clear hoz33
        obtain ⟨AN, cN, rfl, lN, mN, yN⟩ := hfz39
        have hfz39 : Sb wz32 (.slice AN (be 4 n).length cN) _ := ⟨AN, cN, rfl, lN, mN, yN⟩
        clear lN mN yN
        refine hK.out _ _ (KP.out _ hqz38) (fun hHeld => ?_)
        clear hK K
        try simp only [Act.put, List.setIfInBounds_toArray, List.set_cons_zero, List.set_cons_succ]
        refine wpAnyH_ready (rs := [11]) (by kernel_rfl) (by simp) ?_
        refine AllReadyH.cons (o := { dst := some 15, op := Op.buildSlice 42 4 #[(0, Operand.tmp 5), (1, Operand.tmp 8), (2, Operand.tmp 11), (3, Operand.tmp 14)], type := 42, pos := "bytes.go:22", after := #[{ on := 1, ground := Ground.data }, { on := 4, ground := Ground.data }, { on := 7, ground := Ground.data }, { on := 10, ground := Ground.data }], guard := none }) rfl (fun K hK => ?_) AllReadyH.nil
        rw [if_pos (by rfl)]
        go_simp
        have hqz40 := bel_alloc (.cells #[.slice (some ⟨ghz11, 0, none⟩) 4 4, .slice AE (be 8 e).length cE, .slice AC (be 4 c).length cC, .slice AN (be 4 n).length cN] 40) hqz38
        refine hK.out _ _ (KP.out _ hqz40) (fun hHeld => ?_)
        clear hK K
        try simp only [Act.put, List.setIfInBounds_toArray, List.set_cons_zero, List.set_cons_succ]
        refine wpAnyH_ready (rs := [12]) (by kernel_rfl) (by simp) ?_
        refine AllReadyH.cons (o := { dst := some 16, op := Op.call { callee := Callee.value (Operand.func 80), args := #[Operand.tmp 15], argTypes := #[42] }, type := 40, pos := "bytes.go:22", after := #[{ on := 11, ground := Ground.data }, { on := 10, ground := Ground.chain }], guard := none }) rfl (fun K hK => ?_) AllReadyH.nil
        rw [if_pos (by rfl)]
        go_simp
        with_reducible refine (hdr_cat hfz35 hfz36 hfz37 hfz39).mono ?_
        rintro _ wz41 ⟨v9, rfl, hoz42, hbz43⟩
        have hqz44 := below_then (below_then hqz38 (below_alloc _ _)) hbz43
        refine hK.out _ _ (KP.out _ hqz44) (fun hHeld => ?_)
        clear hK K
        try simp only [Act.put, List.setIfInBounds_toArray, List.set_cons_zero, List.set_cons_succ]
        refine wpAnyH_ready (rs := [13]) (by kernel_rfl) (by simp) ?_
        refine AllReadyH.cons (o := { dst := some 3, op := Op.assign (Operand.tmp 16), type := 40, pos := "bytes.go:22", after := #[{ on := 12, ground := Ground.data }, { on := 12, ground := Ground.chain }, { on := 0, ground := Ground.phase }, { on := 1, ground := Ground.phase }, { on := 2, ground := Ground.phase }, { on := 3, ground := Ground.phase }, { on := 4, ground := Ground.phase }, { on := 5, ground := Ground.phase }, { on := 6, ground := Ground.phase }, { on := 7, ground := Ground.phase }, { on := 8, ground := Ground.phase }, { on := 9, ground := Ground.phase }, { on := 10, ground := Ground.phase }, { on := 11, ground := Ground.phase }, { on := 12, ground := Ground.phase }], guard := none }) rfl (fun K hK => ?_) AllReadyH.nil
        rw [if_pos (by rfl)]
        go_simp
        refine hK.out _ _ (KP.out _ hqz44) (fun hHeld => ?_)
        clear hK K
        try simp only [Act.put, List.setIfInBounds_toArray, List.set_cons_zero, List.set_cons_succ]
        refine wpAnyH_done (by kernel_rfl) ?_ _
        go_wp2_with fail
        go_meet
        case rel => exact ⟨own_low hoz42 (Nat.le_trans hqz38.size (by simp)), hqz44⟩
      · rw [if_pos (by rfl)]
        go_simp
        with_reducible refine (kE _).mono ?_
        rintro _ wz45 ⟨vE, rfl, hoz46, hbz47⟩
        have hfz48 := hfz8.up (cel_b hbz47)
        have hqz49 := below_then hqz13 hbz47
        have hfz50 := Sb.of_own hoz46
        clear hoz46
        obtain ⟨AE, cE, rfl, lE, mE, yE⟩ := hfz50
        have hfz50 : Sb wz45 (.slice AE (be 8 e).length cE) _ := ⟨AE, cE, rfl, lE, mE, yE⟩
        clear lE mE yE
        refine hK.out _ _ (KP.out _ hqz49) (fun hHeld => ?_)
        clear hK K
        try simp only [Act.put, List.setIfInBounds_toArray, List.set_cons_zero, List.set_cons_succ]
        refine wpAnyH_ready (rs := [1, 7]) (by kernel_rfl) (by simp) ?_
        refine AllReadyH.cons (o := { dst := some 5, op := Op.convert 40 40 (Operand.tmp 4), type := 40, pos := "bytes.go:22", after := #[{ on := 0, ground := Ground.data }], guard := none }) rfl (fun K hK => ?_) (AllReadyH.cons (o := { dst := some 11, op := Op.call { callee := Callee.value (Operand.func 81), args := #[Operand.tmp 10, Operand.const (Value.int IntKind.i64 4)], argTypes := #[49, 3] }, type := 40, pos := "bytes.go:22", after := #[{ on := 6, ground := Ground.data }, { on := 4, ground := Ground.chain }], guard := none }) rfl (fun K hK => ?_) AllReadyH.nil)
        · rw [if_pos (by rfl)]
          refine wp_mark _ rfl rfl (fun wz51 hcz52 hbz53 => ?_)
          have hfz54 := hfz48.up hcz52
          have hfz55 := hfz50.up hcz52
          have hqz56 := hbz53 _ hqz49 hzz12
          refine hK.out _ _ (KP.out _ hqz56) (fun hHeld => ?_)
          clear hK K
          try simp only [Act.put, List.setIfInBounds_toArray, List.set_cons_zero, List.set_cons_succ]
          refine wpAnyH_ready (rs := [7]) (by kernel_rfl) (by simp) ?_
          refine AllReadyH.cons (o := { dst := some 11, op := Op.call { callee := Callee.value (Operand.func 81), args := #[Operand.tmp 10, Operand.const (Value.int IntKind.i64 4)], argTypes := #[49, 3] }, type := 40, pos := "bytes.go:22", after := #[{ on := 6, ground := Ground.data }, { on := 4, ground := Ground.chain }], guard := none }) rfl (fun K hK => ?_) AllReadyH.nil
          rw [if_pos (by rfl)]
          go_simp
          with_reducible refine (kC _).mono ?_
          rintro _ wz57 ⟨vC, rfl, hoz58, hbz59⟩
          have hfz60 := hfz54.up (cel_b hbz59)
          have hfz61 := hfz55.up (cel_b hbz59)
          have hqz62 := below_then hqz56 hbz59
          have hfz63 := Sb.of_own hoz58
          clear hoz58
          obtain ⟨AC, cC, rfl, lC, mC, yC⟩ := hfz63
          have hfz63 : Sb wz57 (.slice AC (be 4 c).length cC) _ := ⟨AC, cC, rfl, lC, mC, yC⟩
          clear lC mC yC
          refine hK.out _ _ (KP.out _ hqz62) (fun hHeld => ?_)
          clear hK K
          try simp only [Act.put, List.setIfInBounds_toArray, List.set_cons_zero, List.set_cons_succ]
          refine wpAnyH_ready (rs := [10]) (by kernel_rfl) (by simp) ?_
          refine AllReadyH.cons (o := { dst := some 14, op := Op.call { callee := Callee.value (Operand.func 81), args := #[Operand.tmp 13, Operand.const (Value.int IntKind.i64 4)], argTypes := #[49, 3] }, type := 40, pos := "bytes.go:22", after := #[{ on := 9, ground := Ground.data }, { on := 7, ground := Ground.chain }], guard := none }) rfl (fun K hK => ?_) AllReadyH.nil
          rw [if_pos (by rfl)]
          go_simp
          with_reducible refine (kN _).mono ?_
          rintro _ wz64 ⟨vN, rfl, hoz65, hbz66⟩
          have hfz67 := hfz60.up (cel_b hbz66)
          have hfz68 := hfz61.up (cel_b hbz66)
          have hfz69 := hfz63.up (cel_b hbz66)
          have hqz70 := below_then hqz62 hbz66
          have hfz71 := Sb.of_own hoz65
          clear hoz65
          obtain ⟨AN, cN, rfl, lN, mN, yN⟩ := hfz71
          have hfz71 : Sb wz64 (.slice AN (be 4 n).length cN) _ := ⟨AN, cN, rfl, lN, mN, yN⟩
          clear lN mN yN
          refine hK.out _ _ (KP.out _ hqz70) (fun hHeld => ?_)
          clear hK K
          try simp only [Act.put, List.setIfInBounds_toArray, List.set_cons_zero, List.set_cons_succ]
          refine wpAnyH_ready (rs := [11]) (by kernel_rfl) (by simp) ?_
          refine AllReadyH.cons (o := { dst := some 15, op := Op.buildSlice 42 4 #[(0, Operand.tmp 5), (1, Operand.tmp 8), (2, Operand.tmp 11), (3, Operand.tmp 14)], type := 42, pos := "bytes.go:22", after := #[{ on := 1, ground := Ground.data }, { on := 4, ground := Ground.data }, { on := 7, ground := Ground.data }, { on := 10, ground := Ground.data }], guard := none }) rfl (fun K hK => ?_) AllReadyH.nil
          rw [if_pos (by rfl)]
          go_simp
          have hqz72 := bel_alloc (.cells #[.slice (some ⟨ghz11, 0, none⟩) 4 4, .slice AE (be 8 e).length cE, .slice AC (be 4 c).length cC, .slice AN (be 4 n).length cN] 40) hqz70
          refine hK.out _ _ (KP.out _ hqz72) (fun hHeld => ?_)
          clear hK K
          try simp only [Act.put, List.setIfInBounds_toArray, List.set_cons_zero, List.set_cons_succ]
          refine wpAnyH_ready (rs := [12]) (by kernel_rfl) (by simp) ?_
          refine AllReadyH.cons (o := { dst := some 16, op := Op.call { callee := Callee.value (Operand.func 80), args := #[Operand.tmp 15], argTypes := #[42] }, type := 40, pos := "bytes.go:22", after := #[{ on := 11, ground := Ground.data }, { on := 10, ground := Ground.chain }], guard := none }) rfl (fun K hK => ?_) AllReadyH.nil
          rw [if_pos (by rfl)]
          go_simp
          with_reducible refine (hdr_cat hfz67 hfz68 hfz69 hfz71).mono ?_
          rintro _ wz73 ⟨v9, rfl, hoz74, hbz75⟩
          have hqz76 := below_then (below_then hqz70 (below_alloc _ _)) hbz75
          refine hK.out _ _ (KP.out _ hqz76) (fun hHeld => ?_)
          clear hK K
          try simp only [Act.put, List.setIfInBounds_toArray, List.set_cons_zero, List.set_cons_succ]
          refine wpAnyH_ready (rs := [13]) (by kernel_rfl) (by simp) ?_
          refine AllReadyH.cons (o := { dst := some 3, op := Op.assign (Operand.tmp 16), type := 40, pos := "bytes.go:22", after := #[{ on := 12, ground := Ground.data }, { on := 12, ground := Ground.chain }, { on := 0, ground := Ground.phase }, { on := 1, ground := Ground.phase }, { on := 2, ground := Ground.phase }, { on := 3, ground := Ground.phase }, { on := 4, ground := Ground.phase }, { on := 5, ground := Ground.phase }, { on := 6, ground := Ground.phase }, { on := 7, ground := Ground.phase }, { on := 8, ground := Ground.phase }, { on := 9, ground := Ground.phase }, { on := 10, ground := Ground.phase }, { on := 11, ground := Ground.phase }, { on := 12, ground := Ground.phase }], guard := none }) rfl (fun K hK => ?_) AllReadyH.nil
          rw [if_pos (by rfl)]
          go_simp
          refine hK.out _ _ (KP.out _ hqz76) (fun hHeld => ?_)
          clear hK K
          try simp only [Act.put, List.setIfInBounds_toArray, List.set_cons_zero, List.set_cons_succ]
          refine wpAnyH_done (by kernel_rfl) ?_ _
          go_wp2_with fail
          go_meet
          case rel => exact ⟨own_low hoz74 (Nat.le_trans hqz70.size (by simp)), hqz76⟩
        · rw [if_pos (by rfl)]
          go_simp
          with_reducible refine (kC _).mono ?_
          rintro _ wz77 ⟨vC, rfl, hoz78, hbz79⟩
          have hfz80 := hfz48.up (cel_b hbz79)
          have hfz81 := hfz50.up (cel_b hbz79)
          have hqz82 := below_then hqz49 hbz79
          have hfz83 := Sb.of_own hoz78
          clear hoz78
          obtain ⟨AC, cC, rfl, lC, mC, yC⟩ := hfz83
          have hfz83 : Sb wz77 (.slice AC (be 4 c).length cC) _ := ⟨AC, cC, rfl, lC, mC, yC⟩
          clear lC mC yC
          refine hK.out _ _ (KP.out _ hqz82) (fun hHeld => ?_)
          clear hK K
          try simp only [Act.put, List.setIfInBounds_toArray, List.set_cons_zero, List.set_cons_succ]
          refine wpAnyH_ready (rs := [1, 10]) (by kernel_rfl) (by simp) ?_
          refine AllReadyH.cons (o := { dst := some 5, op := Op.convert 40 40 (Operand.tmp 4), type := 40, pos := "bytes.go:22", after := #[{ on := 0, ground := Ground.data }], guard := none }) rfl (fun K hK => ?_) (AllReadyH.cons (o := { dst := some 14, op := Op.call { callee := Callee.value (Operand.func 81), args := #[Operand.tmp 13, Operand.const (Value.int IntKind.i64 4)], argTypes := #[49, 3] }, type := 40, pos := "bytes.go:22", after := #[{ on := 9, ground := Ground.data }, { on := 7, ground := Ground.chain }], guard := none }) rfl (fun K hK => ?_) AllReadyH.nil)
          · rw [if_pos (by rfl)]
            refine wp_mark _ rfl rfl (fun wz84 hcz85 hbz86 => ?_)
            have hfz87 := hfz80.up hcz85
            have hfz88 := hfz81.up hcz85
            have hfz89 := hfz83.up hcz85
            have hqz90 := hbz86 _ hqz82 hzz12
            refine hK.out _ _ (KP.out _ hqz90) (fun hHeld => ?_)
            clear hK K
            try simp only [Act.put, List.setIfInBounds_toArray, List.set_cons_zero, List.set_cons_succ]
            refine wpAnyH_ready (rs := [10]) (by kernel_rfl) (by simp) ?_
            refine AllReadyH.cons (o := { dst := some 14, op := Op.call { callee := Callee.value (Operand.func 81), args := #[Operand.tmp 13, Operand.const (Value.int IntKind.i64 4)], argTypes := #[49, 3] }, type := 40, pos := "bytes.go:22", after := #[{ on := 9, ground := Ground.data }, { on := 7, ground := Ground.chain }], guard := none }) rfl (fun K hK => ?_) AllReadyH.nil
            rw [if_pos (by rfl)]
            go_simp
            with_reducible refine (kN _).mono ?_
            rintro _ wz91 ⟨vN, rfl, hoz92, hbz93⟩
            have hfz94 := hfz87.up (cel_b hbz93)
            have hfz95 := hfz88.up (cel_b hbz93)
            have hfz96 := hfz89.up (cel_b hbz93)
            have hqz97 := below_then hqz90 hbz93
            have hfz98 := Sb.of_own hoz92
            clear hoz92
            obtain ⟨AN, cN, rfl, lN, mN, yN⟩ := hfz98
            have hfz98 : Sb wz91 (.slice AN (be 4 n).length cN) _ := ⟨AN, cN, rfl, lN, mN, yN⟩
            clear lN mN yN
            refine hK.out _ _ (KP.out _ hqz97) (fun hHeld => ?_)
            clear hK K
            try simp only [Act.put, List.setIfInBounds_toArray, List.set_cons_zero, List.set_cons_succ]
            refine wpAnyH_ready (rs := [11]) (by kernel_rfl) (by simp) ?_
            refine AllReadyH.cons (o := { dst := some 15, op := Op.buildSlice 42 4 #[(0, Operand.tmp 5), (1, Operand.tmp 8), (2, Operand.tmp 11), (3, Operand.tmp 14)], type := 42, pos := "bytes.go:22", after := #[{ on := 1, ground := Ground.data }, { on := 4, ground := Ground.data }, { on := 7, ground := Ground.data }, { on := 10, ground := Ground.data }], guard := none }) rfl (fun K hK => ?_) AllReadyH.nil
            rw [if_pos (by rfl)]
            go_simp
            have hqz99 := bel_alloc (.cells #[.slice (some ⟨ghz11, 0, none⟩) 4 4, .slice AE (be 8 e).length cE, .slice AC (be 4 c).length cC, .slice AN (be 4 n).length cN] 40) hqz97
            refine hK.out _ _ (KP.out _ hqz99) (fun hHeld => ?_)
            clear hK K
            try simp only [Act.put, List.setIfInBounds_toArray, List.set_cons_zero, List.set_cons_succ]
            refine wpAnyH_ready (rs := [12]) (by kernel_rfl) (by simp) ?_
            refine AllReadyH.cons (o := { dst := some 16, op := Op.call { callee := Callee.value (Operand.func 80), args := #[Operand.tmp 15], argTypes := #[42] }, type := 40, pos := "bytes.go:22", after := #[{ on := 11, ground := Ground.data }, { on := 10, ground := Ground.chain }], guard := none }) rfl (fun K hK => ?_) AllReadyH.nil
            rw [if_pos (by rfl)]
            go_simp
            with_reducible refine (hdr_cat hfz94 hfz95 hfz96 hfz98).mono ?_
            rintro _ wz100 ⟨v9, rfl, hoz101, hbz102⟩
            have hqz103 := below_then (below_then hqz97 (below_alloc _ _)) hbz102
            refine hK.out _ _ (KP.out _ hqz103) (fun hHeld => ?_)
            clear hK K
            try simp only [Act.put, List.setIfInBounds_toArray, List.set_cons_zero, List.set_cons_succ]
            refine wpAnyH_ready (rs := [13]) (by kernel_rfl) (by simp) ?_
            refine AllReadyH.cons (o := { dst := some 3, op := Op.assign (Operand.tmp 16), type := 40, pos := "bytes.go:22", after := #[{ on := 12, ground := Ground.data }, { on := 12, ground := Ground.chain }, { on := 0, ground := Ground.phase }, { on := 1, ground := Ground.phase }, { on := 2, ground := Ground.phase }, { on := 3, ground := Ground.phase }, { on := 4, ground := Ground.phase }, { on := 5, ground := Ground.phase }, { on := 6, ground := Ground.phase }, { on := 7, ground := Ground.phase }, { on := 8, ground := Ground.phase }, { on := 9, ground := Ground.phase }, { on := 10, ground := Ground.phase }, { on := 11, ground := Ground.phase }, { on := 12, ground := Ground.phase }], guard := none }) rfl (fun K hK => ?_) AllReadyH.nil
            rw [if_pos (by rfl)]
            go_simp
            refine hK.out _ _ (KP.out _ hqz103) (fun hHeld => ?_)
            clear hK K
            try simp only [Act.put, List.setIfInBounds_toArray, List.set_cons_zero, List.set_cons_succ]
            refine wpAnyH_done (by kernel_rfl) ?_ _
            go_wp2_with fail
            go_meet
            case rel => exact ⟨own_low hoz101 (Nat.le_trans hqz97.size (by simp)), hqz103⟩
          · rw [if_pos (by rfl)]
            go_simp
            with_reducible refine (kN _).mono ?_
            rintro _ wz104 ⟨vN, rfl, hoz105, hbz106⟩
            have hfz107 := hfz80.up (cel_b hbz106)
            have hfz108 := hfz81.up (cel_b hbz106)
            have hfz109 := hfz83.up (cel_b hbz106)
            have hqz110 := below_then hqz82 hbz106
            have hfz111 := Sb.of_own hoz105
            clear hoz105
            obtain ⟨AN, cN, rfl, lN, mN, yN⟩ := hfz111
            have hfz111 : Sb wz104 (.slice AN (be 4 n).length cN) _ := ⟨AN, cN, rfl, lN, mN, yN⟩
            clear lN mN yN
            refine hK.out _ _ (KP.out _ hqz110) (fun hHeld => ?_)
            clear hK K
            try simp only [Act.put, List.setIfInBounds_toArray, List.set_cons_zero, List.set_cons_succ]
            refine wpAnyH_ready (rs := [1]) (by kernel_rfl) (by simp) ?_
            refine AllReadyH.cons (o := { dst := some 5, op := Op.convert 40 40 (Operand.tmp 4), type := 40, pos := "bytes.go:22", after := #[{ on := 0, ground := Ground.data }], guard := none }) rfl (fun K hK => ?_) AllReadyH.nil
            rw [if_pos (by rfl)]
            refine wp_mark _ rfl rfl (fun wz112 hcz113 hbz114 => ?_)
            have hfz115 := hfz107.up hcz113
            have hfz116 := hfz108.up hcz113
            have hfz117 := hfz109.up hcz113
            have hfz118 := hfz111.up hcz113
            have hqz119 := hbz114 _ hqz110 hzz12
            refine hK.out _ _ (KP.out _ hqz119) (fun hHeld => ?_)
            clear hK K
            try simp only [Act.put, List.setIfInBounds_toArray, List.set_cons_zero, List.set_cons_succ]
            refine wpAnyH_ready (rs := [11]) (by kernel_rfl) (by simp) ?_
            refine AllReadyH.cons (o := { dst := some 15, op := Op.buildSlice 42 4 #[(0, Operand.tmp 5), (1, Operand.tmp 8), (2, Operand.tmp 11), (3, Operand.tmp 14)], type := 42, pos := "bytes.go:22", after := #[{ on := 1, ground := Ground.data }, { on := 4, ground := Ground.data }, { on := 7, ground := Ground.data }, { on := 10, ground := Ground.data }], guard := none }) rfl (fun K hK => ?_) AllReadyH.nil
            rw [if_pos (by rfl)]
            go_simp
            have hqz120 := bel_alloc (.cells #[.slice (some ⟨ghz11, 0, none⟩) 4 4, .slice AE (be 8 e).length cE, .slice AC (be 4 c).length cC, .slice AN (be 4 n).length cN] 40) hqz119
            refine hK.out _ _ (KP.out _ hqz120) (fun hHeld => ?_)
            clear hK K
            try simp only [Act.put, List.setIfInBounds_toArray, List.set_cons_zero, List.set_cons_succ]
            refine wpAnyH_ready (rs := [12]) (by kernel_rfl) (by simp) ?_
            refine AllReadyH.cons (o := { dst := some 16, op := Op.call { callee := Callee.value (Operand.func 80), args := #[Operand.tmp 15], argTypes := #[42] }, type := 40, pos := "bytes.go:22", after := #[{ on := 11, ground := Ground.data }, { on := 10, ground := Ground.chain }], guard := none }) rfl (fun K hK => ?_) AllReadyH.nil
            rw [if_pos (by rfl)]
            go_simp
            with_reducible refine (hdr_cat hfz115 hfz116 hfz117 hfz118).mono ?_
            rintro _ wz121 ⟨v9, rfl, hoz122, hbz123⟩
            have hqz124 := below_then (below_then hqz119 (below_alloc _ _)) hbz123
            refine hK.out _ _ (KP.out _ hqz124) (fun hHeld => ?_)
            clear hK K
            try simp only [Act.put, List.setIfInBounds_toArray, List.set_cons_zero, List.set_cons_succ]
            refine wpAnyH_ready (rs := [13]) (by kernel_rfl) (by simp) ?_
            refine AllReadyH.cons (o := { dst := some 3, op := Op.assign (Operand.tmp 16), type := 40, pos := "bytes.go:22", after := #[{ on := 12, ground := Ground.data }, { on := 12, ground := Ground.chain }, { on := 0, ground := Ground.phase }, { on := 1, ground := Ground.phase }, { on := 2, ground := Ground.phase }, { on := 3, ground := Ground.phase }, { on := 4, ground := Ground.phase }, { on := 5, ground := Ground.phase }, { on := 6, ground := Ground.phase }, { on := 7, ground := Ground.phase }, { on := 8, ground := Ground.phase }, { on := 9, ground := Ground.phase }, { on := 10, ground := Ground.phase }, { on := 11, ground := Ground.phase }, { on := 12, ground := Ground.phase }], guard := none }) rfl (fun K hK => ?_) AllReadyH.nil
            rw [if_pos (by rfl)]
            go_simp
            refine hK.out _ _ (KP.out _ hqz124) (fun hHeld => ?_)
            clear hK K
            try simp only [Act.put, List.setIfInBounds_toArray, List.set_cons_zero, List.set_cons_succ]
            refine wpAnyH_done (by kernel_rfl) ?_ _
            go_wp2_with fail
            go_meet
            case rel => exact ⟨own_low hoz122 (Nat.le_trans hqz119.size (by simp)), hqz124⟩
    · rw [if_pos (by rfl)]
      go_simp
      with_reducible refine (kE _).mono ?_
      rintro _ wz125 ⟨vE, rfl, hoz126, hbz127⟩
      have hqz128 := below_then hq0 hbz127
      have hfz129 := Sb.of_own hoz126
      clear hoz126
      obtain ⟨AE, cE, rfl, lE, mE, yE⟩ := hfz129
      have hfz129 : Sb wz125 (.slice AE (be 8 e).length cE) _ := ⟨AE, cE, rfl, lE, mE, yE⟩
      clear lE mE yE
      refine hK.out _ _ (KP.out _ hqz128) (fun hHeld => ?_)
      clear hK K
      try simp only [Act.put, List.setIfInBounds_toArray, List.set_cons_zero, List.set_cons_succ]
      refine wpAnyH_ready (rs := [0, 7]) (by kernel_rfl) (by simp) ?_
      refine AllReadyH.cons (o := { dst := some 4, op := Op.buildSlice 40 4 #[(0, Operand.const (Value.int IntKind.u8 104)), (1, Operand.const (Value.int IntKind.u8 101)), (2, Operand.const (Value.int IntKind.u8 97)), (3, Operand.const (Value.int IntKind.u8 100))], type := 40, pos := "bytes.go:22", after := #[], guard := none }) rfl (fun K hK => ?_) (AllReadyH.cons (o := { dst := some 11, op := Op.call { callee := Callee.value (Operand.func 81), args := #[Operand.tmp 10, Operand.const (Value.int IntKind.i64 4)], argTypes := #[49, 3] }, type := 40, pos := "bytes.go:22", after := #[{ on := 6, ground := Ground.data }, { on := 4, ground := Ground.chain }], guard := none }) rfl (fun K hK => ?_) AllReadyH.nil)
      · rw [if_pos (by rfl)]
        refine wp_head rfl (fun ghz134 wz130 hfz131 hzz132 hbz133 => ?_)
        have hzz135 := Nat.le_trans (hqz128).size hzz132
        have hfz136 := hfz129.up (cel_b hbz133)
        have hqz137 := below_then hqz128 hbz133
        refine hK.out _ _ (KP.out _ hqz137) (fun hHeld => ?_)
        clear hK K
        try simp only [Act.put, List.setIfInBounds_toArray, List.set_cons_zero, List.set_cons_succ]
        refine wpAnyH_ready (rs := [1, 7]) (by kernel_rfl) (by simp) ?_
        refine AllReadyH.cons (o := { dst := some 5, op := Op.convert 40 40 (Operand.tmp 4), type := 40, pos := "bytes.go:22", after := #[{ on := 0, ground := Ground.data }], guard := none }) rfl (fun K hK => ?_) (AllReadyH.cons (o := { dst := some 11, op := Op.call { callee := Callee.value (Operand.func 81), args := #[Operand.tmp 10, Operand.const (Value.int IntKind.i64 4)], argTypes := #[49, 3] }, type := 40, pos := "bytes.go:22", after := #[{ on := 6, ground := Ground.data }, { on := 4, ground := Ground.chain }], guard := none }) rfl (fun K hK => ?_) AllReadyH.nil)
        · rw [if_pos (by rfl)]
          refine wp_mark _ rfl rfl (fun wz138 hcz139 hbz140 => ?_)
          have hfz141 := hfz136.up hcz139
          have hfz142 := hfz131.up hcz139
          have hqz143 := hbz140 _ hqz137 hzz135
          refine hK.out _ _ (KP.out _ hqz143) (fun hHeld => ?_)
          clear hK K
          try simp only [Act.put, List.setIfInBounds_toArray, List.set_cons_zero, List.set_cons_succ]
          refine wpAnyH_ready (rs := [7]) (by kernel_rfl) (by simp) ?_
          refine AllReadyH.cons (o := { dst := some 11, op := Op.call { callee := Callee.value (Operand.func 81), args := #[Operand.tmp 10, Operand.const (Value.int IntKind.i64 4)], argTypes := #[49, 3] }, type := 40, pos := "bytes.go:22", after := #[{ on := 6, ground := Ground.data }, { on := 4, ground := Ground.chain }], guard := none }) rfl (fun K hK => ?_) AllReadyH.nil
          rw [if_pos (by rfl)]
          go_simp
          with_reducible refine (kC _).mono ?_
          rintro _ wz144 ⟨vC, rfl, hoz145, hbz146⟩
          have hfz147 := hfz141.up (cel_b hbz146)
          have hfz148 := hfz142.up (cel_b hbz146)
          have hqz149 := below_then hqz143 hbz146
          have hfz150 := Sb.of_own hoz145
          clear hoz145
          obtain ⟨AC, cC, rfl, lC, mC, yC⟩ := hfz150
          have hfz150 : Sb wz144 (.slice AC (be 4 c).length cC) _ := ⟨AC, cC, rfl, lC, mC, yC⟩
          clear lC mC yC
          refine hK.out _ _ (KP.out _ hqz149) (fun hHeld => ?_)
          clear hK K
          try simp only [Act.put, List.setIfInBounds_toArray, List.set_cons_zero, List.set_cons_succ]
          refine wpAnyH_ready (rs := [10]) (by kernel_rfl) (by simp) ?_
          refine AllReadyH.cons (o := { dst := some 14, op := Op.call { callee := Callee.value (Operand.func 81), args := #[Operand.tmp 13, Operand.const (Value.int IntKind.i64 4)], argTypes := #[49, 3] }, type := 40, pos := "bytes.go:22", after := #[{ on := 9, ground := Ground.data }, { on := 7, ground := Ground.chain }], guard := none }) rfl (fun K hK => ?_) AllReadyH.nil
          rw [if_pos (by rfl)]
          go_simp
          with_reducible refine (kN _).mono ?_
          rintro _ wz151 ⟨vN, rfl, hoz152, hbz153⟩
          have hfz154 := hfz147.up (cel_b hbz153)
          have hfz155 := hfz148.up (cel_b hbz153)
          have hfz156 := hfz150.up (cel_b hbz153)
          have hqz157 := below_then hqz149 hbz153
          have hfz158 := Sb.of_own hoz152
          clear hoz152
          obtain ⟨AN, cN, rfl, lN, mN, yN⟩ := hfz158
          have hfz158 : Sb wz151 (.slice AN (be 4 n).length cN) _ := ⟨AN, cN, rfl, lN, mN, yN⟩
          clear lN mN yN
          refine hK.out _ _ (KP.out _ hqz157) (fun hHeld => ?_)
          clear hK K
          try simp only [Act.put, List.setIfInBounds_toArray, List.set_cons_zero, List.set_cons_succ]
          refine wpAnyH_ready (rs := [11]) (by kernel_rfl) (by simp) ?_
          refine AllReadyH.cons (o := { dst := some 15, op := Op.buildSlice 42 4 #[(0, Operand.tmp 5), (1, Operand.tmp 8), (2, Operand.tmp 11), (3, Operand.tmp 14)], type := 42, pos := "bytes.go:22", after := #[{ on := 1, ground := Ground.data }, { on := 4, ground := Ground.data }, { on := 7, ground := Ground.data }, { on := 10, ground := Ground.data }], guard := none }) rfl (fun K hK => ?_) AllReadyH.nil
          rw [if_pos (by rfl)]
          go_simp
          have hqz159 := bel_alloc (.cells #[.slice (some ⟨ghz134, 0, none⟩) 4 4, .slice AE (be 8 e).length cE, .slice AC (be 4 c).length cC, .slice AN (be 4 n).length cN] 40) hqz157
          refine hK.out _ _ (KP.out _ hqz159) (fun hHeld => ?_)
          clear hK K
          try simp only [Act.put, List.setIfInBounds_toArray, List.set_cons_zero, List.set_cons_succ]
          refine wpAnyH_ready (rs := [12]) (by kernel_rfl) (by simp) ?_
          refine AllReadyH.cons (o := { dst := some 16, op := Op.call { callee := Callee.value (Operand.func 80), args := #[Operand.tmp 15], argTypes := #[42] }, type := 40, pos := "bytes.go:22", after := #[{ on := 11, ground := Ground.data }, { on := 10, ground := Ground.chain }], guard := none }) rfl (fun K hK => ?_) AllReadyH.nil
          rw [if_pos (by rfl)]
          go_simp
          with_reducible refine (hdr_cat hfz155 hfz154 hfz156 hfz158).mono ?_
          rintro _ wz160 ⟨v9, rfl, hoz161, hbz162⟩
          have hqz163 := below_then (below_then hqz157 (below_alloc _ _)) hbz162
          refine hK.out _ _ (KP.out _ hqz163) (fun hHeld => ?_)
          clear hK K
          try simp only [Act.put, List.setIfInBounds_toArray, List.set_cons_zero, List.set_cons_succ]
          refine wpAnyH_ready (rs := [13]) (by kernel_rfl) (by simp) ?_
          refine AllReadyH.cons (o := { dst := some 3, op := Op.assign (Operand.tmp 16), type := 40, pos := "bytes.go:22", after := #[{ on := 12, ground := Ground.data }, { on := 12, ground := Ground.chain }, { on := 0, ground := Ground.phase }, { on := 1, ground := Ground.phase }, { on := 2, ground := Ground.phase }, { on := 3, ground := Ground.phase }, { on := 4, ground := Ground.phase }, { on := 5, ground := Ground.phase }, { on := 6, ground := Ground.phase }, { on := 7, ground := Ground.phase }, { on := 8, ground := Ground.phase }, { on := 9, ground := Ground.phase }, { on := 10, ground := Ground.phase }, { on := 11, ground := Ground.phase }, { on := 12, ground := Ground.phase }], guard := none }) rfl (fun K hK => ?_) AllReadyH.nil
          rw [if_pos (by rfl)]
          go_simp
          refine hK.out _ _ (KP.out _ hqz163) (fun hHeld => ?_)
          clear hK K
          try simp only [Act.put, List.setIfInBounds_toArray, List.set_cons_zero, List.set_cons_succ]
          refine wpAnyH_done (by kernel_rfl) ?_ _
          go_wp2_with fail
          go_meet
          case rel => exact ⟨own_low hoz161 (Nat.le_trans hqz157.size (by simp)), hqz163⟩
        · rw [if_pos (by rfl)]
          go_simp
          with_reducible refine (kC _).mono ?_
          rintro _ wz164 ⟨vC, rfl, hoz165, hbz166⟩
          have hfz167 := hfz136.up (cel_b hbz166)
          have hfz168 := hfz131.up (cel_b hbz166)
          have hqz169 := below_then hqz137 hbz166
          have hfz170 := Sb.of_own hoz165
          clear hoz165
          obtain ⟨AC, cC, rfl, lC, mC, yC⟩ := hfz170
          have hfz170 : Sb wz164 (.slice AC (be 4 c).length cC) _ := ⟨AC, cC, rfl, lC, mC, yC⟩
          clear lC mC yC
          refine hK.out _ _ (KP.out _ hqz169) (fun hHeld => ?_)
          clear hK K
          try simp only [Act.put, List.setIfInBounds_toArray, List.set_cons_zero, List.set_cons_succ]
          refine wpAnyH_ready (rs := [1, 10]) (by kernel_rfl) (by simp) ?_
          refine AllReadyH.cons (o := { dst := some 5, op := Op.convert 40 40 (Operand.tmp 4), type := 40, pos := "bytes.go:22", after := #[{ on := 0, ground := Ground.data }], guard := none }) rfl (fun K hK => ?_) (AllReadyH.cons (o := { dst := some 14, op := Op.call { callee := Callee.value (Operand.func 81), args := #[Operand.tmp 13, Operand.const (Value.int IntKind.i64 4)], argTypes := #[49, 3] }, type := 40, pos := "bytes.go:22", after := #[{ on := 9, ground := Ground.data }, { on := 7, ground := Ground.chain }], guard := none }) rfl (fun K hK => ?_) AllReadyH.nil)
          · rw [if_pos (by rfl)]
            refine wp_mark _ rfl rfl (fun wz171 hcz172 hbz173 => ?_)
            have hfz174 := hfz167.up hcz172
            have hfz175 := hfz168.up hcz172
            have hfz176 := hfz170.up hcz172
            have hqz177 := hbz173 _ hqz169 hzz135
            refine hK.out _ _ (KP.out _ hqz177) (fun hHeld => ?_)
            clear hK K
            try simp only [Act.put, List.setIfInBounds_toArray, List.set_cons_zero, List.set_cons_succ]
            refine wpAnyH_ready (rs := [10]) (by kernel_rfl) (by simp) ?_
            refine AllReadyH.cons (o := { dst := some 14, op := Op.call { callee := Callee.value (Operand.func 81), args := #[Operand.tmp 13, Operand.const (Value.int IntKind.i64 4)], argTypes := #[49, 3] }, type := 40, pos := "bytes.go:22", after := #[{ on := 9, ground := Ground.data }, { on := 7, ground := Ground.chain }], guard := none }) rfl (fun K hK => ?_) AllReadyH.nil
            rw [if_pos (by rfl)]
            go_simp
            with_reducible refine (kN _).mono ?_
            rintro _ wz178 ⟨vN, rfl, hoz179, hbz180⟩
            have hfz181 := hfz174.up (cel_b hbz180)
            have hfz182 := hfz175.up (cel_b hbz180)
            have hfz183 := hfz176.up (cel_b hbz180)
            have hqz184 := below_then hqz177 hbz180
            have hfz185 := Sb.of_own hoz179
            clear hoz179
            obtain ⟨AN, cN, rfl, lN, mN, yN⟩ := hfz185
            have hfz185 : Sb wz178 (.slice AN (be 4 n).length cN) _ := ⟨AN, cN, rfl, lN, mN, yN⟩
            clear lN mN yN
            refine hK.out _ _ (KP.out _ hqz184) (fun hHeld => ?_)
            clear hK K
            try simp only [Act.put, List.setIfInBounds_toArray, List.set_cons_zero, List.set_cons_succ]
            refine wpAnyH_ready (rs := [11]) (by kernel_rfl) (by simp) ?_
            refine AllReadyH.cons (o := { dst := some 15, op := Op.buildSlice 42 4 #[(0, Operand.tmp 5), (1, Operand.tmp 8), (2, Operand.tmp 11), (3, Operand.tmp 14)], type := 42, pos := "bytes.go:22", after := #[{ on := 1, ground := Ground.data }, { on := 4, ground := Ground.data }, { on := 7, ground := Ground.data }, { on := 10, ground := Ground.data }], guard := none }) rfl (fun K hK => ?_) AllReadyH.nil
            rw [if_pos (by rfl)]
            go_simp
            have hqz186 := bel_alloc (.cells #[.slice (some ⟨ghz134, 0, none⟩) 4 4, .slice AE (be 8 e).length cE, .slice AC (be 4 c).length cC, .slice AN (be 4 n).length cN] 40) hqz184
            refine hK.out _ _ (KP.out _ hqz186) (fun hHeld => ?_)
            clear hK K
            try simp only [Act.put, List.setIfInBounds_toArray, List.set_cons_zero, List.set_cons_succ]
            refine wpAnyH_ready (rs := [12]) (by kernel_rfl) (by simp) ?_
            refine AllReadyH.cons (o := { dst := some 16, op := Op.call { callee := Callee.value (Operand.func 80), args := #[Operand.tmp 15], argTypes := #[42] }, type := 40, pos := "bytes.go:22", after := #[{ on := 11, ground := Ground.data }, { on := 10, ground := Ground.chain }], guard := none }) rfl (fun K hK => ?_) AllReadyH.nil
            rw [if_pos (by rfl)]
            go_simp
            with_reducible refine (hdr_cat hfz182 hfz181 hfz183 hfz185).mono ?_
            rintro _ wz187 ⟨v9, rfl, hoz188, hbz189⟩
            have hqz190 := below_then (below_then hqz184 (below_alloc _ _)) hbz189
            refine hK.out _ _ (KP.out _ hqz190) (fun hHeld => ?_)
            clear hK K
            try simp only [Act.put, List.setIfInBounds_toArray, List.set_cons_zero, List.set_cons_succ]
            refine wpAnyH_ready (rs := [13]) (by kernel_rfl) (by simp) ?_
            refine AllReadyH.cons (o := { dst := some 3, op := Op.assign (Operand.tmp 16), type := 40, pos := "bytes.go:22", after := #[{ on := 12, ground := Ground.data }, { on := 12, ground := Ground.chain }, { on := 0, ground := Ground.phase }, { on := 1, ground := Ground.phase }, { on := 2, ground := Ground.phase }, { on := 3, ground := Ground.phase }, { on := 4, ground := Ground.phase }, { on := 5, ground := Ground.phase }, { on := 6, ground := Ground.phase }, { on := 7, ground := Ground.phase }, { on := 8, ground := Ground.phase }, { on := 9, ground := Ground.phase }, { on := 10, ground := Ground.phase }, { on := 11, ground := Ground.phase }, { on := 12, ground := Ground.phase }], guard := none }) rfl (fun K hK => ?_) AllReadyH.nil
            rw [if_pos (by rfl)]
            go_simp
            refine hK.out _ _ (KP.out _ hqz190) (fun hHeld => ?_)
            clear hK K
            try simp only [Act.put, List.setIfInBounds_toArray, List.set_cons_zero, List.set_cons_succ]
            refine wpAnyH_done (by kernel_rfl) ?_ _
            go_wp2_with fail
            go_meet
            case rel => exact ⟨own_low hoz188 (Nat.le_trans hqz184.size (by simp)), hqz190⟩
          · rw [if_pos (by rfl)]
            go_simp
            with_reducible refine (kN _).mono ?_
            rintro _ wz191 ⟨vN, rfl, hoz192, hbz193⟩
            have hfz194 := hfz167.up (cel_b hbz193)
            have hfz195 := hfz168.up (cel_b hbz193)
            have hfz196 := hfz170.up (cel_b hbz193)
            have hqz197 := below_then hqz169 hbz193
            have hfz198 := Sb.of_own hoz192
            clear hoz192
            obtain ⟨AN, cN, rfl, lN, mN, yN⟩ := hfz198
            have hfz198 : Sb wz191 (.slice AN (be 4 n).length cN) _ := ⟨AN, cN, rfl, lN, mN, yN⟩
            clear lN mN yN
            refine hK.out _ _ (KP.out _ hqz197) (fun hHeld => ?_)
            clear hK K
            try simp only [Act.put, List.setIfInBounds_toArray, List.set_cons_zero, List.set_cons_succ]
            refine wpAnyH_ready (rs := [1]) (by kernel_rfl) (by simp) ?_
            refine AllReadyH.cons (o := { dst := some 5, op := Op.convert 40 40 (Operand.tmp 4), type := 40, pos := "bytes.go:22", after := #[{ on := 0, ground := Ground.data }], guard := none }) rfl (fun K hK => ?_) AllReadyH.nil
            rw [if_pos (by rfl)]
            refine wp_mark _ rfl rfl (fun wz199 hcz200 hbz201 => ?_)
            have hfz202 := hfz194.up hcz200
            have hfz203 := hfz195.up hcz200
            have hfz204 := hfz196.up hcz200
            have hfz205 := hfz198.up hcz200
            have hqz206 := hbz201 _ hqz197 hzz135
            refine hK.out _ _ (KP.out _ hqz206) (fun hHeld => ?_)
            clear hK K
            try simp only [Act.put, List.setIfInBounds_toArray, List.set_cons_zero, List.set_cons_succ]
            refine wpAnyH_ready (rs := [11]) (by kernel_rfl) (by simp) ?_
            refine AllReadyH.cons (o := { dst := some 15, op := Op.buildSlice 42 4 #[(0, Operand.tmp 5), (1, Operand.tmp 8), (2, Operand.tmp 11), (3, Operand.tmp 14)], type := 42, pos := "bytes.go:22", after := #[{ on := 1, ground := Ground.data }, { on := 4, ground := Ground.data }, { on := 7, ground := Ground.data }, { on := 10, ground := Ground.data }], guard := none }) rfl (fun K hK => ?_) AllReadyH.nil
            rw [if_pos (by rfl)]
            go_simp
            have hqz207 := bel_alloc (.cells #[.slice (some ⟨ghz134, 0, none⟩) 4 4, .slice AE (be 8 e).length cE, .slice AC (be 4 c).length cC, .slice AN (be 4 n).length cN] 40) hqz206
            refine hK.out _ _ (KP.out _ hqz207) (fun hHeld => ?_)
            clear hK K
            try simp only [Act.put, List.setIfInBounds_toArray, List.set_cons_zero, List.set_cons_succ]
            refine wpAnyH_ready (rs := [12]) (by kernel_rfl) (by simp) ?_
            refine AllReadyH.cons (o := { dst := some 16, op := Op.call { callee := Callee.value (Operand.func 80), args := #[Operand.tmp 15], argTypes := #[42] }, type := 40, pos := "bytes.go:22", after := #[{ on := 11, ground := Ground.data }, { on := 10, ground := Ground.chain }], guard := none }) rfl (fun K hK => ?_) AllReadyH.nil
            rw [if_pos (by rfl)]
            go_simp
            with_reducible refine (hdr_cat hfz203 hfz202 hfz204 hfz205).mono ?_
            rintro _ wz208 ⟨v9, rfl, hoz209, hbz210⟩
            have hqz211 := below_then (below_then hqz206 (below_alloc _ _)) hbz210
            refine hK.out _ _ (KP.out _ hqz211) (fun hHeld => ?_)
            clear hK K
            try simp only [Act.put, List.setIfInBounds_toArray, List.set_cons_zero, List.set_cons_succ]
            refine wpAnyH_ready (rs := [13]) (by kernel_rfl) (by simp) ?_
            refine AllReadyH.cons (o := { dst := some 3, op := Op.assign (Operand.tmp 16), type := 40, pos := "bytes.go:22", after := #[{ on := 12, ground := Ground.data }, { on := 12, ground := Ground.chain }, { on := 0, ground := Ground.phase }, { on := 1, ground := Ground.phase }, { on := 2, ground := Ground.phase }, { on := 3, ground := Ground.phase }, { on := 4, ground := Ground.phase }, { on := 5, ground := Ground.phase }, { on := 6, ground := Ground.phase }, { on := 7, ground := Ground.phase }, { on := 8, ground := Ground.phase }, { on := 9, ground := Ground.phase }, { on := 10, ground := Ground.phase }, { on := 11, ground := Ground.phase }, { on := 12, ground := Ground.phase }], guard := none }) rfl (fun K hK => ?_) AllReadyH.nil
            rw [if_pos (by rfl)]
            go_simp
            refine hK.out _ _ (KP.out _ hqz211) (fun hHeld => ?_)
            clear hK K
            try simp only [Act.put, List.setIfInBounds_toArray, List.set_cons_zero, List.set_cons_succ]
            refine wpAnyH_done (by kernel_rfl) ?_ _
            go_wp2_with fail
            go_meet
            case rel => exact ⟨own_low hoz209 (Nat.le_trans hqz206.size (by simp)), hqz211⟩
      · rw [if_pos (by rfl)]
        go_simp
        with_reducible refine (kC _).mono ?_
        rintro _ wz212 ⟨vC, rfl, hoz213, hbz214⟩
        have hfz215 := hfz129.up (cel_b hbz214)
        have hqz216 := below_then hqz128 hbz214
        have hfz217 := Sb.of_own hoz213
        clear hoz213
        obtain ⟨AC, cC, rfl, lC, mC, yC⟩ := hfz217
        have hfz217 : Sb wz212 (.slice AC (be 4 c).length cC) _ := ⟨AC, cC, rfl, lC, mC, yC⟩
        clear lC mC yC
        refine hK.out _ _ (KP.out _ hqz216) (fun hHeld => ?_)
        clear hK K
        try simp only [Act.put, List.setIfInBounds_toArray, List.set_cons_zero, List.set_cons_succ]
        refine wpAnyH_ready (rs := [0, 10]) (by kernel_rfl) (by simp) ?_
        refine AllReadyH.cons (o := { dst := some 4, op := Op.buildSlice 40 4 #[(0, Operand.const (Value.int IntKind.u8 104)), (1, Operand.const (Value.int IntKind.u8 101)), (2, Operand.const (Value.int IntKind.u8 97)), (3, Operand.const (Value.int IntKind.u8 100))], type := 40, pos := "bytes.go:22", after := #[], guard := none }) rfl (fun K hK => ?_) (AllReadyH.cons (o := { dst := some 14, op := Op.call { callee := Callee.value (Operand.func 81), args := #[Operand.tmp 13, Operand.const (Value.int IntKind.i64 4)], argTypes := #[49, 3] }, type := 40, pos := "bytes.go:22", after := #[{ on := 9, ground := Ground.data }, { on := 7, ground := Ground.chain }], guard := none }) rfl (fun K hK => ?_) AllReadyH.nil)
        · rw [if_pos (by rfl)]
          refine wp_head rfl (fun ghz222 wz218 hfz219 hzz220 hbz221 => ?_)
          have hzz223 := Nat.le_trans (hqz216).size hzz220
          have hfz224 := hfz215.up (cel_b hbz221)
          have hfz225 := hfz217.up (cel_b hbz221)
          have hqz226 := below_then hqz216 hbz221
          refine hK.out _ _ (KP.out _ hqz226) (fun hHeld => ?_)
          clear hK K
          try simp only [Act.put, List.setIfInBounds_toArray, List.set_cons_zero, List.set_cons_succ]
          refine wpAnyH_ready (rs := [1, 10]) (by kernel_rfl) (by simp) ?_
          refine AllReadyH.cons (o := { dst := some 5, op := Op.convert 40 40 (Operand.tmp 4), type := 40, pos := "bytes.go:22", after := #[{ on := 0, ground := Ground.data }], guard := none }) rfl (fun K hK => ?_) (AllReadyH.cons (o := { dst := some 14, op := Op.call { callee := Callee.value (Operand.func 81), args := #[Operand.tmp 13, Operand.const (Value.int IntKind.i64 4)], argTypes := #[49, 3] }, type := 40, pos := "bytes.go:22", after := #[{ on := 9, ground := Ground.data }, { on := 7, ground := Ground.chain }], guard := none }) rfl (fun K hK => ?_) AllReadyH.nil)
          · rw [if_pos (by rfl)]
            refine wp_mark _ rfl rfl (fun wz227 hcz228 hbz229 => ?_)
            have hfz230 := hfz224.up hcz228
            have hfz231 := hfz225.up hcz228
            have hfz232 := hfz219.up hcz228
            have hqz233 := hbz229 _ hqz226 hzz223
            refine hK.out _ _ (KP.out _ hqz233) (fun hHeld => ?_)
            clear hK K
            try simp only [Act.put, List.setIfInBounds_toArray, List.set_cons_zero, List.set_cons_succ]
            refine wpAnyH_ready (rs := [10]) (by kernel_rfl) (by simp) ?_
            refine AllReadyH.cons (o := { dst := some 14, op := Op.call { callee := Callee.value (Operand.func 81), args := #[Operand.tmp 13, Operand.const (Value.int IntKind.i64 4)], argTypes := #[49, 3] }, type := 40, pos := "bytes.go:22", after := #[{ on := 9, ground := Ground.data }, { on := 7, ground := Ground.chain }], guard := none }) rfl (fun K hK => ?_) AllReadyH.nil
            rw [if_pos (by rfl)]
            go_simp
            with_reducible refine (kN _).mono ?_
            rintro _ wz234 ⟨vN, rfl, hoz235, hbz236⟩
            have hfz237 := hfz230.up (cel_b hbz236)
            have hfz238 := hfz231.up (cel_b hbz236)
            have hfz239 := hfz232.up (cel_b hbz236)
            have hqz240 := below_then hqz233 hbz236
            have hfz241 := Sb.of_own hoz235
            clear hoz235
            obtain ⟨AN, cN, rfl, lN, mN, yN⟩ := hfz241
            have hfz241 : Sb wz234 (.slice AN (be 4 n).length cN) _ := ⟨AN, cN, rfl, lN, mN, yN⟩
            clear lN mN yN
            refine hK.out _ _ (KP.out _ hqz240) (fun hHeld => ?_)
            clear hK K
            try simp only [Act.put, List.setIfInBounds_toArray, List.set_cons_zero, List.set_cons_succ]
            refine wpAnyH_ready (rs := [11]) (by kernel_rfl) (by simp) ?_
            refine AllReadyH.cons (o := { dst := some 15, op := Op.buildSlice 42 4 #[(0, Operand.tmp 5), (1, Operand.tmp 8), (2, Operand.tmp 11), (3, Operand.tmp 14)], type := 42, pos := "bytes.go:22", after := #[{ on := 1, ground := Ground.data }, { on := 4, ground := Ground.data }, { on := 7, ground := Ground.data }, { on := 10, ground := Ground.data }], guard := none }) rfl (fun K hK => ?_) AllReadyH.nil
            rw [if_pos (by rfl)]
            go_simp
            have hqz242 := bel_alloc (.cells #[.slice (some ⟨ghz222, 0, none⟩) 4 4, .slice AE (be 8 e).length cE, .slice AC (be 4 c).length cC, .slice AN (be 4 n).length cN] 40) hqz240
            refine hK.out _ _ (KP.out _ hqz242) (fun hHeld => ?_)
            clear hK K
            try simp only [Act.put, List.setIfInBounds_toArray, List.set_cons_zero, List.set_cons_succ]
            refine wpAnyH_ready (rs := [12]) (by kernel_rfl) (by simp) ?_
            refine AllReadyH.cons (o := { dst := some 16, op := Op.call { callee := Callee.value (Operand.func 80), args := #[Operand.tmp 15], argTypes := #[42] }, type := 40, pos := "bytes.go:22", after := #[{ on := 11, ground := Ground.data }, { on := 10, ground := Ground.chain }], guard := none }) rfl (fun K hK => ?_) AllReadyH.nil
            rw [if_pos (by rfl)]
            go_simp
            with_reducible refine (hdr_cat hfz239 hfz237 hfz238 hfz241).mono ?_
            rintro _ wz243 ⟨v9, rfl, hoz244, hbz245⟩
            have hqz246 := below_then (below_then hqz240 (below_alloc _ _)) hbz245
            refine hK.out _ _ (KP.out _ hqz246) (fun hHeld => ?_)
            clear hK K
            try simp only [Act.put, List.setIfInBounds_toArray, List.set_cons_zero, List.set_cons_succ]
            refine wpAnyH_ready (rs := [13]) (by kernel_rfl) (by simp) ?_
            refine AllReadyH.cons (o := { dst := some 3, op := Op.assign (Operand.tmp 16), type := 40, pos := "bytes.go:22", after := #[{ on := 12, ground := Ground.data }, { on := 12, ground := Ground.chain }, { on := 0, ground := Ground.phase }, { on := 1, ground := Ground.phase }, { on := 2, ground := Ground.phase }, { on := 3, ground := Ground.phase }, { on := 4, ground := Ground.phase }, { on := 5, ground := Ground.phase }, { on := 6, ground := Ground.phase }, { on := 7, ground := Ground.phase }, { on := 8, ground := Ground.phase }, { on := 9, ground := Ground.phase }, { on := 10, ground := Ground.phase }, { on := 11, ground := Ground.phase }, { on := 12, ground := Ground.phase }], guard := none }) rfl (fun K hK => ?_) AllReadyH.nil
            rw [if_pos (by rfl)]
            go_simp
            refine hK.out _ _ (KP.out _ hqz246) (fun hHeld => ?_)
            clear hK K
            try simp only [Act.put, List.setIfInBounds_toArray, List.set_cons_zero, List.set_cons_succ]
            refine wpAnyH_done (by kernel_rfl) ?_ _
            go_wp2_with fail
            go_meet
            case rel => exact ⟨own_low hoz244 (Nat.le_trans hqz240.size (by simp)), hqz246⟩
          · rw [if_pos (by rfl)]
            go_simp
            with_reducible refine (kN _).mono ?_
            rintro _ wz247 ⟨vN, rfl, hoz248, hbz249⟩
            have hfz250 := hfz224.up (cel_b hbz249)
            have hfz251 := hfz225.up (cel_b hbz249)
            have hfz252 := hfz219.up (cel_b hbz249)
            have hqz253 := below_then hqz226 hbz249
            have hfz254 := Sb.of_own hoz248
            clear hoz248
            obtain ⟨AN, cN, rfl, lN, mN, yN⟩ := hfz254
            have hfz254 : Sb wz247 (.slice AN (be 4 n).length cN) _ := ⟨AN, cN, rfl, lN, mN, yN⟩
            clear lN mN yN
            refine hK.out _ _ (KP.out _ hqz253) (fun hHeld => ?_)
            clear hK K
            try simp only [Act.put, List.setIfInBounds_toArray, List.set_cons_zero, List.set_cons_succ]
            refine wpAnyH_ready (rs := [1]) (by kernel_rfl) (by simp) ?_
            refine AllReadyH.cons (o := { dst := some 5, op := Op.convert 40 40 (Operand.tmp 4), type := 40, pos := "bytes.go:22", after := #[{ on := 0, ground := Ground.data }], guard := none }) rfl (fun K hK => ?_) AllReadyH.nil
            rw [if_pos (by rfl)]
            refine wp_mark _ rfl rfl (fun wz255 hcz256 hbz257 => ?_)
            have hfz258 := hfz250.up hcz256
            have hfz259 := hfz251.up hcz256
            have hfz260 := hfz252.up hcz256
            have hfz261 := hfz254.up hcz256
            have hqz262 := hbz257 _ hqz253 hzz223
            refine hK.out _ _ (KP.out _ hqz262) (fun hHeld => ?_)
            clear hK K
            try simp only [Act.put, List.setIfInBounds_toArray, List.set_cons_zero, List.set_cons_succ]
            refine wpAnyH_ready (rs := [11]) (by kernel_rfl) (by simp) ?_
            refine AllReadyH.cons (o := { dst := some 15, op := Op.buildSlice 42 4 #[(0, Operand.tmp 5), (1, Operand.tmp 8), (2, Operand.tmp 11), (3, Operand.tmp 14)], type := 42, pos := "bytes.go:22", after := #[{ on := 1, ground := Ground.data }, { on := 4, ground := Ground.data }, { on := 7, ground := Ground.data }, { on := 10, ground := Ground.data }], guard := none }) rfl (fun K hK => ?_) AllReadyH.nil
            rw [if_pos (by rfl)]
            go_simp
            have hqz263 := bel_alloc (.cells #[.slice (some ⟨ghz222, 0, none⟩) 4 4, .slice AE (be 8 e).length cE, .slice AC (be 4 c).length cC, .slice AN (be 4 n).length cN] 40) hqz262
            refine hK.out _ _ (KP.out _ hqz263) (fun hHeld => ?_)
            clear hK K
            try simp only [Act.put, List.setIfInBounds_toArray, List.set_cons_zero, List.set_cons_succ]
            refine wpAnyH_ready (rs := [12]) (by kernel_rfl) (by simp) ?_
            refine AllReadyH.cons (o := { dst := some 16, op := Op.call { callee := Callee.value (Operand.func 80), args := #[Operand.tmp 15], argTypes := #[42] }, type := 40, pos := "bytes.go:22", after := #[{ on := 11, ground := Ground.data }, { on := 10, ground := Ground.chain }], guard := none }) rfl (fun K hK => ?_) AllReadyH.nil
            rw [if_pos (by rfl)]
            go_simp
            with_reducible refine (hdr_cat hfz260 hfz258 hfz259 hfz261).mono ?_
            rintro _ wz264 ⟨v9, rfl, hoz265, hbz266⟩
            have hqz267 := below_then (below_then hqz262 (below_alloc _ _)) hbz266
            refine hK.out _ _ (KP.out _ hqz267) (fun hHeld => ?_)
            clear hK K
            try simp only [Act.put, List.setIfInBounds_toArray, List.set_cons_zero, List.set_cons_succ]
            refine wpAnyH_ready (rs := [13]) (by kernel_rfl) (by simp) ?_
            refine AllReadyH.cons (o := { dst := some 3, op := Op.assign (Operand.tmp 16), type := 40, pos := "bytes.go:22", after := #[{ on := 12, ground := Ground.data }, { on := 12, ground := Ground.chain }, { on := 0, ground := Ground.phase }, { on := 1, ground := Ground.phase }, { on := 2, ground := Ground.phase }, { on := 3, ground := Ground.phase }, { on := 4, ground := Ground.phase }, { on := 5, ground := Ground.phase }, { on := 6, ground := Ground.phase }, { on := 7, ground := Ground.phase }, { on := 8, ground := Ground.phase }, { on := 9, ground := Ground.phase }, { on := 10, ground := Ground.phase }, { on := 11, ground := Ground.phase }, { on := 12, ground := Ground.phase }], guard := none }) rfl (fun K hK => ?_) AllReadyH.nil
            rw [if_pos (by rfl)]
            go_simp
            refine hK.out _ _ (KP.out _ hqz267) (fun hHeld => ?_)
            clear hK K
            try simp only [Act.put, List.setIfInBounds_toArray, List.set_cons_zero, List.set_cons_succ]
            refine wpAnyH_done (by kernel_rfl) ?_ _
            go_wp2_with fail
            go_meet
            case rel => exact ⟨own_low hoz265 (Nat.le_trans hqz262.size (by simp)), hqz267⟩
        · rw [if_pos (by rfl)]
          go_simp
          with_reducible refine (kN _).mono ?_
          rintro _ wz268 ⟨vN, rfl, hoz269, hbz270⟩
          have hfz271 := hfz215.up (cel_b hbz270)
          have hfz272 := hfz217.up (cel_b hbz270)
          have hqz273 := below_then hqz216 hbz270
          have hfz274 := Sb.of_own hoz269
          clear hoz269
          obtain ⟨AN, cN, rfl, lN, mN, yN⟩ := hfz274
          have hfz274 : Sb wz268 (.slice AN (be 4 n).length cN) _ := ⟨AN, cN, rfl, lN, mN, yN⟩
          clear lN mN yN
          refine hK.out _ _ (KP.out _ hqz273) (fun hHeld => ?_)
          clear hK K
          try simp only [Act.put, List.setIfInBounds_toArray, List.set_cons_zero, List.set_cons_succ]
          refine wpAnyH_ready (rs := [0]) (by kernel_rfl) (by simp) ?_
          refine AllReadyH.cons (o := { dst := some 4, op := Op.buildSlice 40 4 #[(0, Operand.const (Value.int IntKind.u8 104)), (1, Operand.const (Value.int IntKind.u8 101)), (2, Operand.const (Value.int IntKind.u8 97)), (3, Operand.const (Value.int IntKind.u8 100))], type := 40, pos := "bytes.go:22", after := #[], guard := none }) rfl (fun K hK => ?_) AllReadyH.nil
          rw [if_pos (by rfl)]
          refine wp_head rfl (fun ghz279 wz275 hfz276 hzz277 hbz278 => ?_)
          have hzz280 := Nat.le_trans (hqz273).size hzz277
          have hfz281 := hfz271.up (cel_b hbz278)
          have hfz282 := hfz272.up (cel_b hbz278)
          have hfz283 := hfz274.up (cel_b hbz278)
          have hqz284 := below_then hqz273 hbz278
          refine hK.out _ _ (KP.out _ hqz284) (fun hHeld => ?_)
          clear hK K
          try simp only [Act.put, List.setIfInBounds_toArray, List.set_cons_zero, List.set_cons_succ]
          refine wpAnyH_ready (rs := [1]) (by kernel_rfl) (by simp) ?_
          refine AllReadyH.cons (o := { dst := some 5, op := Op.convert 40 40 (Operand.tmp 4), type := 40, pos := "bytes.go:22", after := #[{ on := 0, ground := Ground.data }], guard := none }) rfl (fun K hK => ?_) AllReadyH.nil
          rw [if_pos (by rfl)]
          refine wp_mark _ rfl rfl (fun wz285 hcz286 hbz287 => ?_)
          have hfz288 := hfz281.up hcz286
          have hfz289 := hfz282.up hcz286
          have hfz290 := hfz283.up hcz286
          have hfz291 := hfz276.up hcz286
          have hqz292 := hbz287 _ hqz284 hzz280
          refine hK.out _ _ (KP.out _ hqz292) (fun hHeld => ?_)
          clear hK K
          try simp only [Act.put, List.setIfInBounds_toArray, List.set_cons_zero, List.set_cons_succ]
          refine wpAnyH_ready (rs := [11]) (by kernel_rfl) (by simp) ?_
          refine AllReadyH.cons (o := { dst := some 15, op := Op.buildSlice 42 4 #[(0, Operand.tmp 5), (1, Operand.tmp 8), (2, Operand.tmp 11), (3, Operand.tmp 14)], type := 42, pos := "bytes.go:22", after := #[{ on := 1, ground := Ground.data }, { on := 4, ground := Ground.data }, { on := 7, ground := Ground.data }, { on := 10, ground := Ground.data }], guard := none }) rfl (fun K hK => ?_) AllReadyH.nil
          rw [if_pos (by rfl)]
          go_simp
          have hqz293 := bel_alloc (.cells #[.slice (some ⟨ghz279, 0, none⟩) 4 4, .slice AE (be 8 e).length cE, .slice AC (be 4 c).length cC, .slice AN (be 4 n).length cN] 40) hqz292
          refine hK.out _ _ (KP.out _ hqz293) (fun hHeld => ?_)
          clear hK K
          try simp only [Act.put, List.setIfInBounds_toArray, List.set_cons_zero, List.set_cons_succ]
          refine wpAnyH_ready (rs := [12]) (by kernel_rfl) (by simp) ?_
          refine AllReadyH.cons (o := { dst := some 16, op := Op.call { callee := Callee.value (Operand.func 80), args := #[Operand.tmp 15], argTypes := #[42] }, type := 40, pos := "bytes.go:22", after := #[{ on := 11, ground := Ground.data }, { on := 10, ground := Ground.chain }], guard := none }) rfl (fun K hK => ?_) AllReadyH.nil
          rw [if_pos (by rfl)]
          go_simp
          with_reducible refine (hdr_cat hfz291 hfz288 hfz289 hfz290).mono ?_
          rintro _ wz294 ⟨v9, rfl, hoz295, hbz296⟩
          have hqz297 := below_then (below_then hqz292 (below_alloc _ _)) hbz296
          refine hK.out _ _ (KP.out _ hqz297) (fun hHeld => ?_)
          clear hK K
          try simp only [Act.put, List.setIfInBounds_toArray, List.set_cons_zero, List.set_cons_succ]
          refine wpAnyH_ready (rs := [13]) (by kernel_rfl) (by simp) ?_
          refine AllReadyH.cons (o := { dst := some 3, op := Op.assign (Operand.tmp 16), type := 40, pos := "bytes.go:22", after := #[{ on := 12, ground := Ground.data }, { on := 12, ground := Ground.chain }, { on := 0, ground := Ground.phase }, { on := 1, ground := Ground.phase }, { on := 2, ground := Ground.phase }, { on := 3, ground := Ground.phase }, { on := 4, ground := Ground.phase }, { on := 5, ground := Ground.phase }, { on := 6, ground := Ground.phase }, { on := 7, ground := Ground.phase }, { on := 8, ground := Ground.phase }, { on := 9, ground := Ground.phase }, { on := 10, ground := Ground.phase }, { on := 11, ground := Ground.phase }, { on := 12, ground := Ground.phase }], guard := none }) rfl (fun K hK => ?_) AllReadyH.nil
          rw [if_pos (by rfl)]
          go_simp
          refine hK.out _ _ (KP.out _ hqz297) (fun hHeld => ?_)
          clear hK K
          try simp only [Act.put, List.setIfInBounds_toArray, List.set_cons_zero, List.set_cons_succ]
          refine wpAnyH_done (by kernel_rfl) ?_ _
          go_wp2_with fail
          go_meet
          case rel => exact ⟨own_low hoz295 (Nat.le_trans hqz292.size (by simp)), hqz297⟩
  case rest =>
    obtain ⟨ho1, hb1⟩ := hcut
    have hln := hdr0_length e c n
    obtain ⟨t, ht⟩ : ∃ t, t = hdr0 e c n := ⟨_, rfl⟩
    rw [← ht] at ho1 hln
    have hsl := sumTo_lt t t.length
    obtain ⟨sm, hsm⟩ : ∃ sm, sm = sumTo t t.length := ⟨_, rfl⟩
    obtain ⟨A1, c1, rfl, -, l1, m1, y1⟩ := own_byt ho1
    have hsum : Calls Tryz.prog 83 #[.slice A1 t.length c1] wc fun e w' => e = .returned (.int .u64 (sm : Nat)) ∧ wc = w' := by rw [hsm]; exact sum_any (c := c1) y1 rfl (by omega)
    rw [← hsm] at hsl
    have hcc := sput_any sm 4 wc (by decide) (by decide) (Nat.lt_trans hsl (by decide))
    have HLN := Lib.hid hln
    have HT := Lib.hid ht
    have HSM := Lib.hid hsm
    have hl20 : t.length ≤ 20 := by omega
    obtain ⟨i0, hi, hz0, hz1, hz2⟩ := info_parts Tryz.info5
    clear hln ht hsm kE kC kN KP hq0 y1 l1 m1
    go_wp2_with (go_at_call 83; refine hsum.mono ?_; rintro _ w6 ⟨rfl, rfl⟩)
    go_wp2_with (go_at_call 81; refine hcc.mono ?_)
    rintro _ w7 ⟨v7, rfl, ho7, hb7⟩
    have ho17 := own_up ho1 hb7
    have hb8 := below_then hb1 hb7
    obtain ⟨A7, c7, rfl, -, l7, m7, y7⟩ := own_byt ho7
    have hbl7 := be_length 4 sm
    have hbs := hb8.size
    clear ho1 ho7 hb7 hb1 hsum hcc
    go_wp2_with (at_builtin; refine wpList_append_byt _ rfl _ _ 40 rfl w0.heap.size i0 (.int .u8 0) Tryz.underlying40 hi hz0 hz1 hz2 rfl _ _ t rfl ho17 _ A7 _ (be 4 sm) rfl y7 (by omega) hbs ?_)
    intro v9 w9 ho9 hg9 _
    have hb9 : Below w0.heap.size w0 w9 := hb8.grown hg9 hb8.size fun g hg => (ho17.lt g hg).1
    clear hg9 ho17 hb8 y7
    go_wp2_with (go_at_call 82; refine (fill_any ho9 (by omega) hb9.size).mono ?_)
    rintro _ w3 ⟨v3, rfl, ho3, hg3⟩
    have hb3 : Below w0.heap.size w0 w3 := hb9.grown hg3 hb9.size fun g hg => (ho9.lt g hg).1
    have hr : fillB (t ++ be 4 sm) = hdrB e c n := by rw [HT.out] at *; rw [HSM.out, HT.out]; rfl
    rw [hr] at ho3
    have ho4 := own_low ho3 HG0.out.size
    have hb4 := below_then HG0.out hb3
    clear ho9 hg3 hb9 ho3 hb3
    go_wp2
    go_ret
    exact ⟨v3, rfl, ho4, hb4⟩
end Go.Proofs.YtonpcenjipigpaaGreat
