/- The writer: its pieces, its small calls. Conditions: there are no more than 900 pieces. -/
import Derived.Test.YtklcjjmeknajlaaG
namespace Go.Proofs.Ytklcjjmeknajlaa
open Go.RowKit
section
variable {w : World} {ops : Array Oper} {rest : List Oper} {o : Oper} {a : Act} {Q : Exit → Act → World → Prop}
theorem wpList_store_cell (hgd : o.guard = none) (ty : TypeId) (x y : Operand) (ho : o.op = .store ty x y) (hs : (Try.prog.info? ty).map (·.size) = some 1) (b i : Nat) (v : Value) (hx : a.eval x = .pointer (some ⟨b, i, none⟩)) (hy : a.eval y = v) (h1 : v.oneCell' = true)
    (cs : List Value) (t : TypeId) (hb : w.heap[b]? = some (.cells cs.toArray t (0, 0))) (hi : i < cs.length)
    (h : ∀ w', Hid (w'.heap[b]? = some (.cells (cs.set i v).toArray t (0, 0))) → Hid (Wr b w w') → wpList Try.prog ops Q rest (a.put o.dst undef) w') : wpList Try.prog ops Q (o :: rest) a w :=
  wpList_plain hgd fun _ hK => by
    have hrun := run_storeAt_cell w ty b i v h1 cs t hb hi hs
    unfold Oper.wp execOp
    simp only [ho, hx, hy, Sem.run_bind, hrun, Sem.run_pure, Result.andThen_ok]
    exact hK _ _ (h _ (setRow_heap w b _ _ t _ hb) (wr_setRow w b _))
end
theorem size65 : (Try.prog.info? 65).map (·.size) = some 1 := by kernel_rfl
/-- A writer in block g, whose pieces are these. -/
structure Wtr (w : World) (B g : Nat) (v : Value) (L : List (List UInt8)) : Prop where
  blk : Blk w g 67 (wv v)
  row : Row22 (fun b => b ≠ g) B w v L.length L
  ne : some g ≠ v.ownBlock
  low : B ≤ g
/-- A block that is not the writer's. -/
def Oth (w : World) (g : Nat) (v : Value) (b : Nat) : Prop := b < w.heap.size ∧ b ≠ g ∧ some b ≠ v.ownBlock
theorem Wtr.up {w w' : World} {B g : Nat} {v : Value} {L : List (List UInt8)} (h : Wtr w B g v L) (hb : Below w.heap.size w w') : Wtr w' B g v L := ⟨h.blk.keep (hb.block g h.blk.lt), h.row.up hb, h.ne, h.low⟩
theorem Oth.up {w w' : World} {g b : Nat} {v : Value} (h : Oth w g v b) (hb : w.heap.size ≤ w'.heap.size) : Oth w' g v b := ⟨Nat.lt_of_lt_of_le h.1 hb, h.2⟩
theorem Row22.over {w w' : World} {B g n : Nat} {v : Value} {L : List (List UInt8)} (h : Row22 (fun b => b ≠ g) B w v n L) (hn : some g ≠ v.ownBlock) (hw : Wr g w w') : Row22 (fun b => b ≠ g) B w' v n L := by
  obtain ⟨ss, h1, h2, h3⟩ := h
  refine ⟨ss, ownsRow_keep h1 fun q hq => hw.block q fun e => hn (by rw [hq, e]), h2, fun i hi => ?_⟩
  obtain ⟨A, c, q1, q2, q3, q4⟩ := h3 i hi
  exact ⟨A, c, q1, q2, q3, (q4.keep fun b hb => hw.block b hb.1).imp fun b hb => ⟨hb.1, by rw [hw.size]; exact hb.2.1, hb.2.2⟩⟩
/-- A writer's call: its pieces are these then. -/
def WtrE (w : World) (B g : Nat) (v : Value) (L : List (List UInt8)) (e : Ending) (w' : World) : Prop := e = .returned (.tuple #[]) ∧ ∃ v', Wtr w' B g v' L ∧ Below B w w' ∧ ∀ b, Oth w g v b → w'.heap[b]? = w.heap[b]? ∧ Oth w' g v' b
set_option maxRecDepth 100000 in
set_option maxHeartbeats 1600000 in
theorem text_any {w : World} {B g m c : Nat} {v : Value} {L : List (List UInt8)} {ok : Nat → Prop} {A : Option Addr} {xs : List UInt8} (h : Wtr w B g v L) (hB : B ≤ w.heap.size) (hL : L.length ≤ 900)
    (hx : Byt w ok A xs) (hok : ∀ b, ok b → b < w.heap.size ∧ b ≠ g ∧ some b ≠ v.ownBlock) (hm : xs.length = m) (h1 : m ≤ c) (h2 : c ≤ maxLen) :
    Calls Try.prog 23 #[.pointer (some ⟨g, 0, none⟩), .slice A m c] w (WtrE w B g v (L ++ [xs])) := by
  obtain ⟨n, hn⟩ : ∃ n, n = L.length := ⟨_, rfl⟩
  obtain ⟨A1, c1, rfl, _, _, _⟩ := h.row.lst
  have hrow := h.row
  rw [← hn] at hrow hL h hok ⊢
  have HW := Lib.hid h
  have HN := Lib.hid hn
  have c0 : w.cell? ⟨g, 0, none⟩ = some (.slice A1 n c1) := by have := h.blk.get 0 _ rfl; exact this
  have HL := Lib.hid hL
  have HX := Lib.hid hx
  have HO := Lib.hid hok
  have HM := Lib.hid hm
  have HR := Lib.hid (hrow.up (Below.alloc (Below.refl _ w) (Nat.le_refl _) (.cells #[.slice A m c] 37)))
  have hlst : Lst (w.alloc (.cells #[.slice A m c] 37)) (fun b => b ≠ g ∧ b < (w.alloc (.cells #[.slice A m c] 37)).heap.size ∧ some b ≠ (Value.slice A1 n c1).ownBlock) (some ⟨w.heap.size, 0, none⟩) [xs] := by
    refine (lst_lit1 hm h1 h2 hx fun b hb => (hok b hb).1).imp fun b hb => ?_
    rw [World.size_alloc]
    rcases hb with hb | rfl
    · exact ⟨(hok b hb).2.1, Nat.lt_succ_of_lt (hok b hb).1, (hok b hb).2.2⟩
    · refine ⟨fun e => ?_, Nat.lt_succ_self _, fun e => ?_⟩
      · have := HW.out.blk.lt
        omega
      · have := (hrow.own _ e.symm).2
        omega
  have HLS := Lib.hid hlst
  have HB1 : Hid (B ≤ (w.alloc (.cells #[.slice A m c] 37)).heap.size) := by show _ ≤ _; rw [World.size_alloc]; omega
  have H1 : Hid ([xs].length = 1) := rfl
  have HK : Hid (n + 1 = n + 1) := rfl
  have HK2 : Hid (n + 1 ≤ 1000) := by show _ ≤ _; omega
  have HBB := Lib.hid hB
  clear h hn hL hx hok hm hrow hlst h1 h2 hB
  go_enter Try.func23, Try.ntmps23
  go_wp2_with (first | (at_builtin; refine wpList_app22 rfl (.tmp 8) (.tmp 10) rfl (v := .slice A1 n c1) (c2 := 1) (k := n + 1) rfl rfl HR.out HLS.out H1.out HK.out HK2.out HB1.out ?_) | fail)
  intro A2 c2 w2 r2 l2 f2
  have HB2 : Hid (Blk w2 g 67 (wv (.slice A1 n c1))) := by
    have hb := (HW.out.blk.grown (World.grownBy_alloc w (.cells #[.slice A m c] 37) none) (by simp))
    exact hb.keep (f2 g (Nat.lt_succ_of_lt HW.out.blk.lt) HW.out.ne).1
  have R2 := Lib.hid r2
  have L2 := Lib.hid l2
  have F2 := Lib.hid f2
  clear r2 l2 f2
  go_wp2_with (first | (refine wpList_store_cell rfl 65 (.tmp 13) (.tmp 11) rfl size65 g 0 (.slice A2 (n + 1) c2) rfl rfl rfl (wv (.slice A1 n c1)) 67 HB2.out (by show 0 < 2; omega) ?_) | fail)
  intro w3 hb3 wr3
  have B3 := Lib.hid hb3.out
  have W3 := Lib.hid wr3.out
  clear hb3 wr3
  go_wp2
  go_end0
  have hne2 := (F2.out g (Nat.lt_succ_of_lt HW.out.blk.lt) HW.out.ne).2
  have hlen : (L ++ [xs]).length = n + 1 := by rw [List.length_append, HN.out]; rfl
  refine ⟨rfl, .slice A2 (n + 1) c2, ⟨B3.out, ?_, hne2, HW.out.low⟩, ?_, fun b hb => ?_⟩
  · rw [hlen]
    exact R2.out.over hne2 W3.out
  · have hlow := HW.out.low
    exact (Below.alloc (Below.refl _ w) HBB.out _).trans (L2.out.trans ⟨W3.out.os, W3.out.tape, W3.out.output, Nat.le_of_eq W3.out.size.symm, fun k hk => W3.out.block k (by omega)⟩)
  · have h2 := F2.out b (Nat.lt_succ_of_lt hb.1) hb.2.2
    have hsz : w2.heap.size ≤ w3.heap.size := Nat.le_of_eq W3.out.size.symm
    refine ⟨(W3.out.block b hb.2.1).trans (h2.1.trans (Below.heap_alloc _ _ _ hb.1)), Nat.lt_of_lt_of_le hb.1 ?_, hb.2.1, h2.2⟩
    have := L2.out.size
    rw [World.size_alloc] at this
    omega
theorem byt_lit (w : World) {a : Int} {x : UInt8} (ha : a = x.toNat) : Byt (w.alloc (.cells #[.int .u8 a] 5)) (fun b => b = w.heap.size) (some ⟨w.heap.size, 0, none⟩) [x] := by
  intro j hj
  obtain rfl : j = 0 := by simp at hj; omega
  subst ha
  exact ⟨_, rfl, rfl, by simp [go_sem]⟩
/-- A piece of one byte. -/
theorem one_any {w : World} {B g : Nat} {v : Value} {L : List (List UInt8)} (x : UInt8) (a : Int) (ha : a = x.toNat) (h : Wtr w B g v L) (hB : B ≤ w.heap.size) (hL : L.length ≤ 900) :
    Calls Try.prog 15 #[.pointer (some ⟨g, 0, none⟩), .int .u8 a] w (WtrE w B g v (L ++ [[x]])) := by
  have hbel : Below w.heap.size w (w.alloc (.cells #[.int .u8 a] 5)) := Below.alloc (Below.refl _ w) (Nat.le_refl _) _
  have hc := text_any (m := 1) (c := 1) (h.up hbel) (Nat.le_trans hB hbel.size) hL (byt_lit w ha) (fun b hb => by
    subst hb
    refine ⟨by rw [World.size_alloc]; exact Nat.lt_succ_self _, fun e => ?_, fun e => ?_⟩
    · have := h.blk.lt
      omega
    · have := (h.row.own _ e.symm).2
      omega) rfl (Nat.le_refl _) (by unfold maxLen; omega)
  have HC := Lib.hid hc
  have HB := Lib.hid hbel
  have HBB := Lib.hid hB
  clear hc hbel h hB hL ha
  go_enter Try.func15, Try.ntmps15
  go_wp2_with (go_at_call 23; go_loud (refine HC.out.mono ?_; rintro _ w2 ⟨rfl, hw⟩; have HWW := Lib.hid hw; clear hw))
  go_end0
  obtain ⟨v', q1, q2, q3⟩ := HWW.out
  refine ⟨rfl, v', q1, (Below.alloc (Below.refl _ w) HBB.out _).trans q2, fun b hb => ?_⟩
  obtain ⟨q4, q5⟩ := q3 b (hb.up HB.out.size)
  exact ⟨q4.trans (HB.out.block b hb.1), q5⟩
end Go.Proofs.Ytklcjjmeknajlaa
