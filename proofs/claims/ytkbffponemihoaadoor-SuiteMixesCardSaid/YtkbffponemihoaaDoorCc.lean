/- and, or, xor and shifts of whole numbers below 2^63 in kind int. Conditions: none. The reference's product in the field. Conditions: the factors are bytes. Bytes as values; the bytes that lie at an address. Conditions: none. A block of cells, as a list: what is read of it, and what a written cell makes of it. Conditions: none. Bytes are copied into, and cleared in, the middle of a block. Conditions: none. Bytes behind a row of bytes of the call's own. Conditions: none. The reference's table of S. Conditions: none. What the reference's Lock reads and lays: words as slices of numbers, a block of 16 bytes, a table of four rows of four numbers. Conditions: none. The reference's Lock. Conditions: its words and its table lie as they should. -/
import Derived.Test.YtkbffponemihoaaDoorRows
import Derived.WalkKit
import Derived.IntWalk
import Derived.Laws.BitsAllLaws
import Derived.Test.YtkbffponemihoaaDoorCa
import Derived.WalkSpells
import Derived.WalkLawsBesides
import Derived.Lib.Hide
import Derived.Maps.AppendAt
import Derived.Laws.CopyOwn
import Derived.Lib.SliceRun
import Derived.Deep.CutRange
import Derived.Deep.MidRow
import Derived.StillTailTactics
namespace Go.Proofs.YtkbffponemihoaaDoor.C
open Go.RowKit
theorem i64_keep (n : Nat) (h : n < 9223372036854775808) : IntKind.i64.wrap (n : Int) = (n : Int) := by rw [IntKind.wrap_i64]; omega
open Go.RowKit
open Go.RowKit
/-- Bytes as values. -/
def u8s (xs : List UInt8) : List Value := xs.map fun x => Value.int .u8 (x.toNat : Int)
theorem u8s_append (xs ys : List UInt8) : u8s (xs ++ ys) = u8s xs ++ u8s ys := by simp [u8s]
theorem u8s_length (xs : List UInt8) : (u8s xs).length = xs.length := by simp [u8s]
theorem u8s_get (xs : List UInt8) (j : Nat) (v : Value) (h : (u8s xs)[j]? = some v) : ∃ hj : j < xs.length, v = .int .u8 (xs[j].toNat : Int) := by
  unfold u8s at h
  rw [List.getElem?_map] at h
  by_cases hj : j < xs.length
  · rw [List.getElem?_eq_getElem hj] at h
    exact ⟨hj, by simpa using h.symm⟩
  · rw [List.getElem?_eq_none (by omega)] at h; simp at h
theorem u8s_one (xs : List UInt8) : ∀ u ∈ u8s xs, u.oneCell' = true := by
  intro u hu
  obtain ⟨x, _, rfl⟩ := List.mem_map.1 hu
  rfl
/-- The bytes xs lie at A, in blocks that are 'ok'. -/
def Byt (w : World) (ok : Nat → Prop) (A : Option Addr) (xs : List UInt8) : Prop :=
  ∀ j (h : j < xs.length), ∃ ad, A = some ad ∧ ok ad.block ∧ w.cell? (ad.add j) = some (.int .u8 (xs[j].toNat : Int))
section
variable {w w' : World} {ok ok' : Nat → Prop} {A : Option Addr} {xs : List UInt8}
theorem Byt.nil : Byt w ok A [] := fun _ h => absurd h (by simp)
theorem Byt.some_ (h : Byt w ok A xs) (hl : 0 < xs.length) : ∃ ad, A = some ad ∧ ok ad.block ∧ ∀ j (h : j < xs.length), w.cell? (ad.add j) = some (.int .u8 (xs[j].toNat : Int)) := by
  obtain ⟨ad, rfl, hok, _⟩ := h 0 hl
  refine ⟨ad, rfl, hok, fun j hj => ?_⟩
  obtain ⟨ad', e, _, hc⟩ := h j hj
  cases e
  exact hc
theorem Byt.imp (h : Byt w ok A xs) (hi : ∀ b, ok b → ok' b) : Byt w ok' A xs := fun j hj => by
  obtain ⟨ad, e, ho, hc⟩ := h j hj
  exact ⟨ad, e, hi _ ho, hc⟩
theorem block_of_plus (a : Addr) (n : Nat) : (a.add n).block = a.block := by unfold Addr.add; split <;> rfl
theorem Byt.keep (h : Byt w ok A xs) (hk : ∀ b, ok b → w'.heap[b]? = w.heap[b]?) : Byt w' ok A xs := fun j hj => by
  obtain ⟨ad, e, ho, hc⟩ := h j hj
  exact ⟨ad, e, ho, (World.cell?_of_block (by rw [block_of_plus]; exact hk _ ho)).trans hc⟩
theorem Byt.below {B : Nat} (h : Byt w ok A xs) (hb : Below B w w') (hok : ∀ b, ok b → b < B) : Byt w' ok A xs := h.keep fun b hbb => hb.block b (hok b hbb)
theorem Byt.grown {row : Option Nat} (h : Byt w ok A xs) (hg : w.grownBy w' row) (hok : ∀ b, ok b → b < w.heap.size ∧ some b ≠ row) : Byt w' ok A xs := h.keep fun b hbb => hg.block b (hok b hbb).1 (hok b hbb).2
theorem plus_plus (a : Addr) (i j : Nat) : (a.add i).add j = a.add (i + j) := by
  by_cases hi : i = 0 <;> by_cases hj : j = 0 <;> simp [Addr.add, hi, hj, Nat.add_assoc]
theorem Byt.drop {k c : Nat} (h : Byt w ok A xs) (hk : k ≤ xs.length) (hc : xs.length ≤ c) : Byt w ok (if c = k then A else A.map (·.add k)) (xs.drop k) := fun j hj => by
  have hj' : k + j < xs.length := by simp at hj; omega
  obtain ⟨ad, rfl, ho, hcell⟩ := h (k + j) hj'
  rw [if_neg (by omega)]
  refine ⟨ad.add k, rfl, by rw [block_of_plus]; exact ho, ?_⟩
  rw [plus_plus, hcell]
  simp
theorem Byt.take (h : Byt w ok A xs) (k : Nat) : Byt w ok A (xs.take k) := fun j hj => by
  have hj' : j < xs.length := by simp at hj; omega
  obtain ⟨ad, rfl, ho, hcell⟩ := h j hj'
  refine ⟨ad, rfl, ho, ?_⟩
  rw [hcell]
  simp
end
open Go.RowKit
/-- Block g is just these cells. -/
def Blk (w : World) (g : Nat) (ty : TypeId) (cs : List Value) : Prop := w.heap[g]? = some (.cells cs.toArray ty (0, 0))
section
variable {w w' : World} {g : Nat} {ty : TypeId} {cs : List Value}
theorem Blk.lt (h : Blk w g ty cs) : g < w.heap.size := (Array.getElem?_eq_some_iff.1 h).1
theorem Blk.get (h : Blk w g ty cs) (i : Nat) (v : Value) (hv : cs[i]? = some v) : w.cell? ⟨g, i, none⟩ = some v := by
  unfold Blk at h
  simp [World.cell?, h, hv]
theorem Blk.cell (h : Blk w g ty cs) (i : Nat) (hi : i < cs.length) : w.cell? ⟨g, i, none⟩ = some cs[i] := h.get i _ (List.getElem?_eq_getElem hi)
theorem Blk.frozen (h : Blk w g ty cs) (i : Nat) : w.frozen? ⟨g, i, none⟩ = false := by
  unfold Blk at h
  simp [World.frozen?, h]
theorem Blk.set (h : Blk w g ty cs) (i : Nat) (v : Value) : Blk (w.setCell ⟨g, i, none⟩ v) g ty (cs.set i v) := by
  unfold Blk at h ⊢
  have hlt := Blk.lt h
  simp only [World.setCell, Array.getElem?_modify, h]
  simp
theorem Blk.keep (h : Blk w g ty cs) (hk : w'.heap[g]? = w.heap[g]?) : Blk w' g ty cs := hk.trans h
theorem Blk.grown {row : Option Nat} (h : Blk w g ty cs) (hg : w.grownBy w' row) (hr : some g ≠ row) : Blk w' g ty cs := h.keep (hg.block g h.lt hr)
theorem Blk.below {B : Nat} (h : Blk w g ty cs) (hb : Below B w w') (hr : g < B) : Blk w' g ty cs := h.keep (hb.block g hr)
theorem Blk.to (h : Blk w g ty cs) {ds : List Value} (e : cs = ds) : Blk w g ty ds := e ▸ h
theorem Blk.byt {pre post : List Value} {xs : List UInt8} (h : Blk w g ty (pre ++ u8s xs ++ post)) {o : Nat} (ho : pre.length = o) : Byt w (fun b => b = g) (some ⟨g, o, none⟩) xs := fun j hj => by
  subst ho
  refine ⟨_, rfl, rfl, ?_⟩
  rw [Addr.add_lit]
  refine h.get _ _ ?_
  rw [List.append_assoc, List.getElem?_append_right (by omega), Nat.add_sub_cancel_left, List.getElem?_append_left (by rw [u8s_length]; exact hj)]
  unfold u8s
  rw [List.getElem?_map, List.getElem?_eq_getElem hj]
  rfl
end
theorem grown_set (w : World) (g i : Nat) (v : Value) : w.grownBy (w.setCell ⟨g, i, none⟩ v) (some g) :=
  ⟨rfl, rfl, rfl, by simp [World.setCell], fun k _ hk => Below.heap_setCell w ⟨g, i, none⟩ v k (fun e => hk (by rw [e]))⟩
theorem size_set (w : World) (a : Addr) (v : Value) : (w.setCell a v).heap.size = w.heap.size := by simp [World.setCell]
theorem Blk.of_alloc (w : World) (cs : Array Value) (ty : TypeId) : Blk (w.alloc (.cells cs ty)) w.heap.size ty cs.toList := by
  unfold Blk
  rw [heap_alloc_new]
theorem grown_new {w wr : World} {g : Nat} (hg : w.grownBy wr none) (hB : w.heap.size ≤ g) (i : Nat) (v : Value) : w.grownBy (wr.setCell ⟨g, i, none⟩ v) none :=
  World.grownBy.andThen hg (grown_set _ _ _ _) (by rintro _ ⟨⟩; exact .inl hB)
theorem Blk.of_owns_e {w : World} {base g n : Nat} {e : TypeId} {xs : List Value} (h : w.ownsRow base e 1 (.slice (some ⟨g, 0, none⟩) n n) n xs) : Blk w g e xs := by
  rcases h.2 with ⟨e1, _⟩ | ⟨g', cap, cur, e1, _, hg, _, _, hs, ht⟩
  · cases e1
  · cases e1
    unfold Blk
    rw [hg]
    have : cur.toList = xs := by
      rw [← ht, List.take_of_length_le]
      simp [hs]
    rw [← this]
/-- Numbers as values. -/
def ints (l : List Nat) : List Value := l.map fun n : Nat => Value.int .i64 (n : Int)
theorem ints_length (l : List Nat) : (ints l).length = l.length := by simp [ints]
theorem ints_get (l : List Nat) (j : Nat) (h : j < l.length) : (ints l)[j]? = some (.int .i64 ((l.getD j 0 : Nat) : Int)) := by
  unfold ints
  rw [List.getElem?_map, List.getElem?_eq_getElem h, List.getD_eq_getElem?_getD, List.getElem?_eq_getElem h]
  rfl
theorem ints_set (l : List Nat) (j n : Nat) : (ints l).set j (.int .i64 (n : Int)) = ints (l.set j n) := by simp [ints, List.map_set]
theorem Tryd.info3 : (Tryd.prog.info? 3).map (fun i => (i.zero, i.size, i.bytes)) = some (some (.int .i64 0), 1, 8) := by kernel_rfl
open Go.RowKit
/-- Bytes 0. -/
def zs (k : Nat) : List UInt8 := List.replicate k 0
theorem zs_length (k : Nat) : (zs k).length = k := by simp [zs]
theorem zs_drop (k j : Nat) : (zs k).drop j = zs (k - j) := by simp [zs]
/-- What copying xs makes of ys. -/
def lay (xs ys : List UInt8) : List UInt8 := xs.take ys.length ++ ys.drop xs.length
theorem lay_length (xs ys : List UInt8) : (lay xs ys).length = ys.length := by simp [lay]; omega
section
variable {w : World} {ops : Array Oper} {rest : List Oper} {o : Oper} {a : Act} {Q : Exit → Act → World → Prop}
theorem Blk.setRow {g : Nat} {ty : TypeId} {cs ds : List Value} (h : Blk w g ty cs) : Blk (w.setRow g ds.toArray) g ty ds := setRow_heap w g _ _ ty _ h
theorem grown_setRow (w : World) (g : Nat) (ds : Array Value) : w.grownBy (w.setRow g ds) (some g) :=
  ⟨rfl, rfl, rfl, by simp [World.setRow], fun k _ hk => setRow_other w g k ds (fun e => hk (by rw [e]))⟩
theorem wpList_copy_blk (hgd : o.guard = none) (d s : Operand) (ho : o.op = .call { callee := .builtin .copy, args := #[d, s], argTypes := #[40, 40] })
    (g off dLen dCap sLen sCap : Nat) (A : Option Addr) (xs ys : List UInt8) (hd : a.eval d = .slice (some ⟨g, off, none⟩) dLen dCap) (hs : a.eval s = .slice A sLen sCap) (hxl : xs.length = sLen) (hyl : ys.length = dLen)
    (ty : TypeId) (pre post : List Value) (hb : Blk w g ty (pre ++ u8s ys ++ post)) (hp : pre.length = off) (ok : Nat → Prop) (hx : Byt w ok A xs) (m : Nat) (hm : Nat.min xs.length ys.length = m)
    (h : ∀ w', Blk w' g ty (pre ++ u8s (lay xs ys) ++ post) → w.grownBy w' (some g) → w'.heap.size = w.heap.size → wpList Tryd.prog ops Q rest (a.put o.dst (goInt (m : Int))) w') :
    wpList Tryd.prog ops Q (o :: rest) a w := by
  subst hm hxl hyl hp
  have hcs : (u8s (xs.take ys.length)).length = Nat.min xs.length ys.length := by rw [u8s_length, List.length_take, Nat.min_comm]
  by_cases h0 : Nat.min xs.length ys.length = 0
  · refine wpList_copy_nothing hgd d s 40 40 ho 5 Tryd.underlying40 (by kernel_rfl) _ _ ys.length dCap xs.length sCap hd hs h0 ?_
    have e : lay xs ys = ys := by
      rcases xs with _ | ⟨x, xs⟩
      · simp [lay]
      · rcases ys with _ | ⟨y, ys⟩
        · simp [lay]
        · simp [Nat.min] at h0
    have := h w (by rw [e]; exact hb) (World.grownBy.refl _ _) rfl
    rw [h0] at this
    exact this
  · obtain ⟨ad, rfl, _, hcell⟩ := hx.some_ (by have : Nat.min xs.length ys.length ≤ xs.length := Nat.min_le_left _ _; omega)
    refine wpList_copy_own hgd d s 40 40 ho 5 Tryd.underlying40 (by kernel_rfl) g pre.length ys.length dCap ad xs.length sCap hd hs _ ty hb (u8s (xs.take ys.length)) hcs ?_ ?_ (u8s_one _) ?_
    · intro j v hv
      obtain ⟨hj, rfl⟩ := u8s_get _ j v hv
      rw [List.length_take] at hj
      rw [hcell j (by omega)]
      simp
    · rw [hcs]
      have : Nat.min xs.length ys.length ≤ ys.length := Nat.min_le_right _ _
      simp only [List.size_toArray, List.length_append, u8s_length]
      omega
    · rw [hcs]
      have e : List.take pre.length (pre ++ u8s ys ++ post) ++ (u8s (xs.take ys.length) ++ List.drop (pre.length + Nat.min xs.length ys.length) (pre ++ u8s ys ++ post)) = pre ++ u8s (lay xs ys) ++ post := by
        rw [List.append_assoc pre, List.take_left', List.drop_append, List.drop_eq_nil_of_le (by omega), Nat.add_sub_cancel_left, List.nil_append, List.drop_append_of_le_length (by rw [u8s_length]; exact Nat.min_le_right _ _)]
        rw [lay, u8s_append]
        have e2 : List.drop (Nat.min xs.length ys.length) (u8s ys) = u8s (ys.drop xs.length) := by
          unfold u8s
          rw [← List.map_drop]
          congr 1
          rcases Nat.le_total xs.length ys.length with hle | hle
          · rw [show Nat.min xs.length ys.length = xs.length from Nat.min_eq_left hle]
          · rw [show Nat.min xs.length ys.length = ys.length from Nat.min_eq_right hle, List.drop_eq_nil_of_le (Nat.le_refl _), List.drop_eq_nil_of_le hle]
        rw [e2]
        simp only [List.append_assoc]
        rfl
      simp only []
      rw [e]
      exact h _ (Blk.setRow hb) (grown_setRow _ _ _) (by simp [World.setRow])
end
open Go.RowKit
theorem Tryd.info5 : (Tryd.prog.info? 5).map (fun i => (i.zero, i.size, i.bytes)) = some (some (.int .u8 0), 1, 1) := by kernel_rfl
theorem Byt.str {w : World} {ok : Nat → Prop} {A : Option Addr} {xs : List UInt8} (h : Byt w ok A xs) (c : Nat) : (convert 40 9 (.slice A xs.length c)).run Tryd.prog w = .ok (.string ⟨xs.toArray⟩) w := by
  rcases A with _ | ad
  · have : xs = [] := by
      rcases xs with _ | ⟨x, xs⟩
      · rfl
      · obtain ⟨_, e, _⟩ := h 0 (by simp)
        cases e
    subst this
    rw [run_convert_bytes_nil w 40 5 Tryd.underlying40 Tryd.underlying5 _ _ 9 Tryd.underlying9]
    rfl
  · refine run_convert_bytes_back w 40 9 5 ad c xs Tryd.underlying40 Tryd.underlying5 Tryd.underlying9 fun j hj => ?_
    obtain ⟨ad', e, _, hc⟩ := h j hj
    cases e
    exact hc
open Go.RowKit
open Go.RowKit
/-- Words of four numbers lie at A, all of it in blocks that are 'ok'. -/
def Wds (w : World) (ok : Nat → Prop) (A : Addr) (ws : List (List Nat)) : Prop :=
  ∀ n, n < ws.length → ∃ (ad : Addr) (c : Nat), w.cell? (A.add n) = some (.slice (some ad) 4 c) ∧ ok A.block ∧ ok ad.block ∧ 4 ≤ c ∧ ∀ r, r < 4 → w.cell? (ad.add r) = some (.int .i64 ((wb ws n r : Nat) : Int))
theorem Wds.keep {w w' : World} {ok : Nat → Prop} {A : Addr} {ws : List (List Nat)} (h : Wds w ok A ws) (hk : ∀ b, ok b → w'.heap[b]? = w.heap[b]?) : Wds w' ok A ws := fun n hn => by
  obtain ⟨ad, c, h1, h2, h3, h4, h5⟩ := h n hn
  refine ⟨ad, c, (World.cell?_of_block (by rw [block_of_plus]; exact hk _ h2)).trans h1, h2, h3, h4, fun r hr => ?_⟩
  exact (World.cell?_of_block (by rw [block_of_plus]; exact hk _ h3)).trans (h5 r hr)
theorem Wds.grown {w w' : World} {ok : Nat → Prop} {A : Addr} {ws : List (List Nat)} {row : Option Nat} (h : Wds w ok A ws) (hg : w.grownBy w' row) (hok : ∀ b, ok b → b < w.heap.size ∧ some b ≠ row) : Wds w' ok A ws := h.keep fun b hb => hg.block b (hok b hb).1 (hok b hb).2
/-- The bytes of a state, as values. -/
def bytesOf (s : State) : List Value := (List.finRange 16).map fun i => Value.int .u8 ((s i).toNat : Int)
theorem bytesOf_length (s : State) : (bytesOf s).length = 16 := by simp [bytesOf]
theorem bytesOf_get (s : State) (i : Nat) (h : i < 16) : (bytesOf s)[i]? = some (.int .u8 ((s ⟨i, h⟩).toNat : Int)) := by
  unfold bytesOf
  rw [List.getElem?_map, List.getElem?_eq_getElem (by simpa using h)]
  simp
theorem run_box23 (w : World) (s : State) : (Instr.box 78 (.agg (bytesOf s).toArray)).run Tryd.prog w = .ok (.pointer (some ⟨w.heap.size, 0, none⟩)) (w.alloc (.cells (bytesOf s).toArray 78)) := by kernel_rfl
theorem run_alloc23 (w : World) : (Instr.alloc 78 true (.tuple #[])).run Tryd.prog w = .ok (.pointer (some ⟨w.heap.size, 0, none⟩)) (w.alloc (.cells (bytesOf (fun _ => 0)).toArray 78)) := by kernel_rfl
open Go.RowKit
section
variable {w : World} {ops : Array Oper} {rest : List Oper} {o : Oper} {a : Act} {Q : Exit → Act → World → Prop}
theorem wpList_box23 (hgd : o.guard = none) (x : Operand) (s : State) (ho : o.op = .box 78 x) (hx : a.eval x = .agg (bytesOf s).toArray)
    (h : ∀ w', Blk w' w.heap.size 78 (bytesOf s) → w.grownBy w' none → w'.heap.size = w.heap.size + 1 → wpList Tryd.prog ops Q rest (a.put o.dst (.pointer (some ⟨w.heap.size, 0, none⟩))) w') : wpList Tryd.prog ops Q (o :: rest) a w := by
  refine wpList_plain hgd fun K hK => ?_
  have hrun := run_box23 w s
  generalize bytesOf s = z at hrun h hx
  unfold Oper.wp
  simp only [execOp, ho, hx, Sem.run_bind, hrun, Result.andThen_ok, Sem.run_pure]
  exact hK _ _ (h _ (Blk.of_alloc w _ 78) (World.grownBy_alloc w _ none) (World.size_alloc w _))
theorem wpList_alloc23 (hgd : o.guard = none) (ho : o.op = .alloc 78)
    (h : ∀ w', Blk w' w.heap.size 78 (bytesOf (fun _ => 0)) → w.grownBy w' none → w'.heap.size = w.heap.size + 1 → wpList Tryd.prog ops Q rest (a.put o.dst (.pointer (some ⟨w.heap.size, 0, none⟩))) w') : wpList Tryd.prog ops Q (o :: rest) a w := by
  refine wpList_plain hgd fun K hK => ?_
  have hrun := run_alloc23 w
  generalize bytesOf (fun _ => 0) = z at hrun h
  unfold Oper.wp
  simp only [execOp, ho, Sem.run_bind, hrun, Result.andThen_ok, Sem.run_pure]
  exact hK _ _ (h _ (Blk.of_alloc w _ 78) (World.grownBy_alloc w _ none) (World.size_alloc w _))
end
theorem grown_drew {w wr : World} {row : Option Nat} (h : w.grownBy wr row) : w.grownBy wr.drew row := ⟨h.os, h.tape, h.output, h.size, h.block⟩
theorem bytesOf_one (s : State) : ∀ u ∈ bytesOf s, u.oneCell' = true := by
  intro u hu
  simp only [bytesOf, List.mem_map] at hu
  obtain ⟨_, _, rfl⟩ := hu
  rfl
theorem size23 : (Tryd.prog.info? 78).map (·.size) = some 16 := by kernel_rfl
theorem bytesOf_range {w : World} {g : Nat} {s : State} (h : Blk w g 78 (bytesOf s)) : w.rangeAt g 0 (bytesOf s) := fun j v hv => by
  have := h.get j v hv
  simpa using this
end Go.Proofs.YtkbffponemihoaaDoor.C
