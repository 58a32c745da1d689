/- undo: the writes that wait are taken back, the last one first. Conditions: at most 2^20 of them. -/
import Derived.Test.YtonpcenjipigpaaGreatZ20
namespace Go.Proofs.YtonpcenjipigpaaGreat
open Go.RowKit Go.Shelf
attribute [local go_sem] Oper.semAt_some
/-- The blocks when 'pre' has come. -/
def bk {n : Nat} (B : List UInt8) (pre : List (Int × Wr64 n)) : List UInt8 := redo B (pre.map fun x => x.2.1)
theorem bk_snoc {n : Nat} (B : List UInt8) (pre : List (Int × Wr64 n)) (x : Int × Wr64 n) : bk B (pre ++ [x]) = put x.2.1.1 x.2.1.2 (bk B pre) := by simp [bk, redo]
theorem bk_length {n : Nat} {B : List UInt8} (h : B.length = 64 * n) (pre : List (Int × Wr64 n)) : (bk B pre).length = 64 * n :=
  redo_length (fun y hy => by obtain ⟨x, _, rfl⟩ := List.mem_map.1 hy; exact x.2.2) h
theorem bk_all {n : Nat} {B : List UInt8} {W : List (Nat × List UInt8)} {ys : List (Int × Wr64 n)} (h : Came W W.length ys) : bk B ys = undo B W := by
  unfold bk undo redo
  rw [h, List.take_of_length_le (by simp), List.foldl_reverse]
/-- 64 bytes are copied into the middle of a block. -/
theorem run_copy_mid {w : World} {g off c1 c2 : Nat} {ty : TypeId} {pre post : List Value} {xs ys : List UInt8} {A : Option Addr} {ok : Nat → Prop} {t : TypeId} (hb : Blk w g ty (pre ++ u8s ys ++ post)) (hp : pre.length = off) (hy : ys.length = 64) (hx : xs.length = 64) (hB : Byt w ok A xs) :
    ∃ w', (Builtin.copy_ #[40, 40] t #[.slice (some ⟨g, off, none⟩) 64 c1, .slice A 64 c2]).run Tryz.prog w = .ok (.int .i64 64) w' ∧ Blk w' g ty (pre ++ u8s xs ++ post) ∧ w.grownBy w' (some g) ∧ w'.heap.size = w.heap.size := by
  subst hp
  obtain ⟨ad, rfl, _, hcell⟩ := hB.some_ (by omega)
  have hrun := run_copy_row (P := Tryz.prog) w 40 40 t 5 g pre.length 64 c1 ad 64 c2 _ ty (u8s xs) Tryz.underlying40 (by kernel_rfl) hb (by rw [u8s_length, hx]; rfl) (fun j v hv => by
    obtain ⟨hj, rfl⟩ := u8s_get _ j v hv
    exact hcell j hj) (by simp only [List.size_toArray, List.length_append, u8s_length]; omega) (u8s_one _)
  have e : ((pre ++ u8s ys ++ post).take pre.length ++ u8s xs ++ (pre ++ u8s ys ++ post).drop (pre.length + (u8s xs).length)) = pre ++ u8s xs ++ post := by
    rw [List.append_assoc pre, List.take_left' rfl, u8s_length, hx, List.drop_append, List.drop_eq_nil_of_le (by omega), List.nil_append, Nat.add_sub_cancel_left, ← hy, ← u8s_length ys, List.drop_left]
  simp only [] at hrun
  rw [e, u8s_length, hx] at hrun
  exact ⟨_, hrun, Blk.setRow hb, grown_setRow _ _ _, by simp [World.setRow]⟩
set_option maxRecDepth 100000 in
set_option maxHeartbeats 4000000 in
theorem undo_in (Fe : Fence) (n : Nat) (h29 : Fe.fn 45) (h31 : Fe.fn 73) (h32 : Fe.fn 92) (hro : Fe.round = none) (hn : 6 ≤ n) {nb gb cb cw : Nat} {A : Option Addr} {B : List UInt8} {W : List (Nat × List UInt8)} {tl : List Value} {w : World}
    (hb : Blk w gb 96 (u8s B ++ tl)) (hB : B.length = 64 * nb) (hW : Fit nb W) (hlen : W.length ≤ 1048577) (hr : Lies w w.heap.size gb A W) :
    CallsIn Fe n Tryz.prog 45 #[.slice (some ⟨gb, 0, none⟩) nb cb, .slice A W.length cw] w fun e w' => e = .returned (.tuple #[]) ∧ Blk w' gb 96 (u8s (undo B W) ++ tl) ∧ w.grownBy w' (some gb) := by
  have h1 : 1 ≤ n := by omega
  refine callsIn_of_wp_marks Tryz.func45 rfl h29 ?_ hro
  simp only [Tryz.ntmps45, List.size_toArray, List.length_cons, List.length_nil, Nat.reduceAdd, Nat.reduceSub, Array.replicate_succ, Array.replicate_zero, List.push_toArray, List.append_toArray, List.nil_append, List.cons_append]
  gi_wp2_with (gi_at_call 73; refine (backward_make Fe (n - 1) h31 hro _ _ _ _).mono ?_; rintro e w' ⟨rfl, rfl⟩)
  have hgb := hb.lt
  have b0 : Blk ((w.alloc (.cells #[.slice (some ⟨gb, 0, none⟩) nb cb] 67)).alloc (.cells #[.slice A W.length cw] 68)) w.heap.size 67 [.slice (some ⟨gb, 0, none⟩) nb cb] := heap_alloc2_old w _ _
  have bs : Blk ((w.alloc (.cells #[.slice (some ⟨gb, 0, none⟩) nb cb] 67)).alloc (.cells #[.slice A W.length cw] 68)) (w.heap.size + 1) 68 [.slice A W.length cw] := heap_alloc2_new w _ _
  have hg0 : w.grownBy ((w.alloc (.cells #[.slice (some ⟨gb, 0, none⟩) nb cb] 67)).alloc (.cells #[.slice A W.length cw] 68)) none := (World.grownBy_alloc _ _ _).trans (World.grownBy_alloc _ _ _)
  have hz0 : ((w.alloc (.cells #[.slice (some ⟨gb, 0, none⟩) nb cb] 67)).alloc (.cells #[.slice A W.length cw] 68)).heap.size = w.heap.size + 2 := by simp
  obtain ⟨W0, hW0⟩ : ∃ W0, (w.alloc (.cells #[.slice (some ⟨gb, 0, none⟩) nb cb] 67)).alloc (.cells #[.slice A W.length cw] 68) = W0 := ⟨_, rfl⟩
  rw [hW0] at b0 bs hg0 hz0 ⊢
  clear hW0
  have hb0 : Blk W0 gb 96 (u8s B ++ tl) := hb.grown hg0 (by simp)
  have hr0 : Lies W0 W0.heap.size gb A W := (hr.keep fun k hk _ => hg0.block k hk (by simp)).mono hg0.size
  refine wpIn_rangeFunc_ownH hro h1 (gf := 92) (lb := #[.pointer (some ⟨w.heap.size + 1, 0, none⟩)]) rfl h32 (enters_of Tryz.func92 (by kernel_rfl) rfl)
    (backward_stops Fe (n - 1) h32 hro (by omega) (w.heap.size + 1) gb nb A cw W hW hlen W0 ⟨by omega, by omega⟩ (bs.get 0 _ rfl) hr0) (But.trans) (But.putObj (Nat.le_refl _)) (Below.refl _ _) (fun _ => rfl)
    (fun pre V => Blk V gb 96 (u8s (bk B pre) ++ tl) ∧ Blk V w.heap.size 67 [.slice (some ⟨gb, 0, none⟩) nb cb] ∧ w.grownBy V (some gb) ∧ W0.heap.size ≤ V.heap.size)
    (fun _ _ _ => False)
    (fun pre X Y row hs hg hr => ⟨hs.1.grown hg (fun e => by have := (hr gb e.symm).1; omega), hs.2.1.grown hg (fun e => by have := (hr _ e.symm).1; omega), World.grownBy.andThen hs.2.2.1 hg (fun j e => by have := (hr j e).1; left; omega), Nat.le_trans hs.2.2.2 hg.size⟩)
    (fun _ _ _ _ _ hs _ _ => hs)
    ⟨hb0, b0, ⟨hg0.os, hg0.tape, hg0.output, hg0.size, fun k hk _ => hg0.block k hk (by simp)⟩, Nat.le_refl _⟩
    (fun x a' V => ∃ Bx, W0.heap.size ≤ Bx ∧ Blk V Bx 99 (wcell x.2.1.1 x.2.1.2) ∧ a' = { tmps := #[.slice (some ⟨gb, 0, none⟩) nb cb, .slice A W.length cw, .pointer (some ⟨w.heap.size, 0, none⟩), undef, undef, .pointer (some ⟨Bx, 0, none⟩), .slice A W.length cw, .func (.func 92) #[] #[.pointer (some ⟨w.heap.size + 1, 0, none⟩)], .int .i64 x.1, .agg (wcell x.2.1.1 x.2.1.2).toArray, undef, undef, undef, undef, undef, undef, undef, undef], defers := [] })
    (fun x a' _ X Y row hs hg hr => by
      obtain ⟨Bx, h1, h2, h3⟩ := hs
      refine ⟨Bx, h1, h2.grown hg (fun e => ?_), h3⟩
      obtain ⟨o, ho, hc⟩ := (hr Bx e.symm).2
      rw [show X.heap[Bx]? = some _ from h2] at ho
      cases ho
      simp [Obj.isCells] at hc)
    ?assign ?body ?done ?stop
  case assign =>
    rintro l pre x V K ⟨i1, i2, i3, i4⟩ hK
    obtain ⟨z, x⟩ := x
    refine wpIn_region_lit ?_
    refine wpListIn_alloc59 rfl rfl ?_
    intro V1 k1 g1 z1
    refine wpListIn_store59 rfl _ _ rfl V.heap.size x.1.1 0 x.1.2 (zb 64) (by simp [Act.eval, Act.put]) (by simp [Act.eval, Act.put]) x.2.2 (zb_length _) k1.out ?_
    intro V2 k2 g2 z2
    refine wpListIn_nil ?_
    have hgl := i1.lt
    have hwl := i2.lt
    have g12 : V.grownBy V2 none := World.grownBy.andThen g1.out g2.out (by rintro j ⟨⟩; exact .inl (Nat.le_refl _))
    refine hK _ _ (KeepsFrom.of_grownBy g12 (by simp)) (fun k hk _ => g12.block k (by omega) (by simp)) ⟨i1.grown g12 (by simp), i2.grown g12 (by simp), World.grownBy.andThen i3 g12 (by simp), Nat.le_trans i4 g12.size⟩ ⟨V.heap.size, i4, k2.out, by simp [Act.put]⟩
  case body =>
    rintro l pre x a' V hl ⟨r, hr'⟩ ⟨i1, i2, i3, i4⟩ ⟨Bx, hBx, bX, rfl⟩ hlt
    have c0 : V.cell? ⟨w.heap.size, 0, none⟩ = some (.slice (some ⟨gb, 0, none⟩) nb cb) := i2.get 0 _ rfl
    have c1 : V.cell? ⟨Bx, 0, none⟩ = some (.int .i64 (x.2.1.1 : Int)) := bX.get 0 _ rfl
    have hx64 := x.2.2.2
    have hl64 : (bk B pre).length = 64 * nb := bk_length hB pre
    have hbl : (blk (bk B pre) x.2.1.1).length = 64 := blk_length hl64 x.2.2.1
    have i1' : Blk V.drew gb 96 (u8s ((bk B pre).take (64 * x.2.1.1)) ++ u8s (blk (bk B pre) x.2.1.1) ++ (u8s ((bk B pre).drop (64 * x.2.1.1 + 64)) ++ tl)) := by
      rw [← List.append_assoc, ← mid_parts]
      exact i1
    have hxb : Byt V.drew (fun b => b = Bx) (some ⟨Bx, 1, none⟩) x.2.1.2 := by
      have := Blk.byt (w := V.drew) (g := Bx) (ty := 99) (pre := [.int .i64 (x.2.1.1 : Int)]) (xs := x.2.1.2) (post := []) (show Blk V.drew Bx 99 _ by simpa [wcell] using (show Blk V.drew Bx 99 _ from bX)) (o := 1) rfl
      exact this
    obtain ⟨V2, hrun, hb2, hg2, hz2⟩ := run_copy_mid (t := 3) (c1 := 64) (c2 := 64) (off := 64 * x.2.1.1) i1' (by rw [u8s_length, List.length_take, hl64]; have := x.2.2.1; omega) hbl hx64 hxb
    have hix := fun w => run_index52 w gb nb cb x.2.1.1 x.2.2.1
    have gV : V.grownBy V2 (some gb) := ⟨hg2.os, hg2.tape, hg2.output, hg2.size, hg2.block⟩
    have hwl : w.heap.size < V.heap.size := i2.lt
    have FIN : Hid (KeepsFrom W0.heap.size V V2 ∧ But gb W0.heap.size V V2 ∧ (Blk V2 gb 96 (u8s (bk B (pre ++ [x])) ++ tl) ∧ Blk V2 w.heap.size 67 [.slice (some ⟨gb, 0, none⟩) nb cb] ∧ w.grownBy V2 (some gb) ∧ W0.heap.size ≤ V2.heap.size)) := by
      refine ⟨KeepsFrom.of_grownBy gV (by rintro j ⟨⟩; omega), fun k hk hn => gV.block k (by omega) (by simpa using hn), ?_, i2.grown gV (by simp; omega), World.grownBy.andThen i3 gV (fun j e => .inr e), Nat.le_trans i4 gV.size⟩
      rw [bk_snoc]
      unfold put
      exact hb2.to (by rw [u8s_append, u8s_append]; simp only [List.append_assoc])
    clear hb2 hg2 hz2 hxb i1' i1 i2 i3 bX hr' hr0 hb0 b0 bs hg0 hr hb gV
    gi_wp2
    gi_region
    all_goals
      gi_wp2
      exact FIN.out
  case done =>
    rintro D ys V hD hS ⟨i1, i2, i3, i4⟩ hK
    gi_wp2
    rw [bk_all hS] at i1
    refine ⟨by simp, .inl ⟨_, _, rfl, run_takeDeferred hK, ?_⟩⟩
    refine ⟨_, results_none rfl _ _ _, rfl, i1.grown (grownBy_putObj' _ D (.deferred none)) (by simp; omega), World.grownBy.andThen i3 (grownBy_putObj' _ D (.deferred none)) (by rintro j ⟨⟩; left; omega)⟩
  case stop =>
    rintro D c pre V _ _ h _
    exact h.elim
theorem undo_any {nb gb cb cw : Nat} {A : Option Addr} {B : List UInt8} {W : List (Nat × List UInt8)} {tl : List Value} {w : World}
    (hb : Blk w gb 96 (u8s B ++ tl)) (hB : B.length = 64 * nb) (hW : Fit nb W) (hlen : W.length ≤ 1048577) (hr : Lies w w.heap.size gb A W) :
    Calls Tryz.prog 45 #[.slice (some ⟨gb, 0, none⟩) nb cb, .slice A W.length cw] w fun e w' => e = .returned (.tuple #[]) ∧ Blk w' gb 96 (u8s (undo B W) ++ tl) ∧ w.grownBy w' (some gb) :=
  (callsIn_wide (n := 6)).1 (undo_in Fence.wide 6 trivial trivial trivial rfl (by omega) hb hB hW hlen hr)
end Go.Proofs.YtonpcenjipigpaaGreat
