/- Bytes and numbers as values, blocks as lists of cells. Conditions: none. -/
import Derived.Test.YtoookolekpblhaaDoorRows
import Derived.WalkKit
import Derived.WalkSpells
import Derived.WalkLawsBesides
import Derived.IntWalk
import Derived.Maps.AppendAt
import Derived.Lib.Hide
import Derived.Laws.CopyOwn
import Derived.Lib.SliceRun
import Derived.Deep.CutRange
import Derived.Deep.MidRow
import Derived.StillTailTactics
namespace Go.Proofs.YtoookolekpblhaaDoor
open Go.RowKit
/-- Bytes as values. -/
def u8s (xs : List UInt8) : List Value := xs.map fun x => Value.int .u8 (x.toNat : Int)
theorem u8s_append (xs ys : List UInt8) : u8s (xs ++ ys) = u8s xs ++ u8s ys := by simp [u8s]
theorem u8s_length (xs : List UInt8) : (u8s xs).length = xs.length := by simp [u8s]
theorem u8s_get (xs : List UInt8) (j : Nat) (v : Value) (h : (u8s xs)[j]? = some v) : ∃ hj : j < xs.length, v = .int .u8 (xs[j].toNat : Int) := by
  unfold u8s at h
  rw [List.getElem?_map] at h
  by_cases hj : j < xs.length
  · rw [List.getElem?_eq_getElem hj] at h
    exact ⟨hj, by simpa using h.symm⟩
  · rw [List.getElem?_eq_none (by omega)] at h; simp at h
theorem u8s_one (xs : List UInt8) : ∀ u ∈ u8s xs, u.oneCell' = true := by
  intro u hu
  obtain ⟨x, _, rfl⟩ := List.mem_map.1 hu
  rfl

/-- The bytes xs lie at A, in blocks that are 'ok'. -/
def Byt (w : World) (ok : Nat → Prop) (A : Option Addr) (xs : List UInt8) : Prop :=
  ∀ j (h : j < xs.length), ∃ ad, A = some ad ∧ ok ad.block ∧ w.cell? (ad.add j) = some (.int .u8 (xs[j].toNat : Int))

section
variable {w w' : World} {ok ok' : Nat → Prop} {A : Option Addr} {xs : List UInt8}
theorem Byt.nil : Byt w ok A [] := fun _ h => absurd h (by simp)
theorem Byt.some_ (h : Byt w ok A xs) (hl : 0 < xs.length) : ∃ ad, A = some ad ∧ ok ad.block ∧ ∀ j (h : j < xs.length), w.cell? (ad.add j) = some (.int .u8 (xs[j].toNat : Int)) := by
  obtain ⟨ad, rfl, hok, _⟩ := h 0 hl
  refine ⟨ad, rfl, hok, fun j hj => ?_⟩
  obtain ⟨ad', e, _, hc⟩ := h j hj
  cases e
  exact hc
theorem Byt.imp (h : Byt w ok A xs) (hi : ∀ b, ok b → ok' b) : Byt w ok' A xs := fun j hj => by
  obtain ⟨ad, e, ho, hc⟩ := h j hj
  exact ⟨ad, e, hi _ ho, hc⟩
theorem block_of_plus (a : Addr) (n : Nat) : (a.add n).block = a.block := by unfold Addr.add; split <;> rfl
theorem Byt.keep (h : Byt w ok A xs) (hk : ∀ b, ok b → w'.heap[b]? = w.heap[b]?) : Byt w' ok A xs := fun j hj => by
  obtain ⟨ad, e, ho, hc⟩ := h j hj
  exact ⟨ad, e, ho, (World.cell?_of_block (by rw [block_of_plus]; exact hk _ ho)).trans hc⟩
theorem Byt.below {B : Nat} (h : Byt w ok A xs) (hb : Below B w w') (hok : ∀ b, ok b → b < B) : Byt w' ok A xs := h.keep fun b hbb => hb.block b (hok b hbb)
theorem Byt.grown {row : Option Nat} (h : Byt w ok A xs) (hg : w.grownBy w' row) (hok : ∀ b, ok b → b < w.heap.size ∧ some b ≠ row) : Byt w' ok A xs := h.keep fun b hbb => hg.block b (hok b hbb).1 (hok b hbb).2
theorem plus_plus (a : Addr) (i j : Nat) : (a.add i).add j = a.add (i + j) := by
  by_cases hi : i = 0 <;> by_cases hj : j = 0 <;> simp [Addr.add, hi, hj, Nat.add_assoc]
theorem Byt.drop {k c : Nat} (h : Byt w ok A xs) (hk : k ≤ xs.length) (hc : xs.length ≤ c) : Byt w ok (if c = k then A else A.map (·.add k)) (xs.drop k) := fun j hj => by
  have hj' : k + j < xs.length := by simp at hj; omega
  obtain ⟨ad, rfl, ho, hcell⟩ := h (k + j) hj'
  rw [if_neg (by omega)]
  refine ⟨ad.add k, rfl, by rw [block_of_plus]; exact ho, ?_⟩
  rw [plus_plus, hcell]
  simp
theorem Byt.take (h : Byt w ok A xs) (k : Nat) : Byt w ok A (xs.take k) := fun j hj => by
  have hj' : j < xs.length := by simp at hj; omega
  obtain ⟨ad, rfl, ho, hcell⟩ := h j hj'
  refine ⟨ad, rfl, ho, ?_⟩
  rw [hcell]
  simp
end

/-- Block g is just these cells. -/
def Blk (w : World) (g : Nat) (ty : TypeId) (cs : List Value) : Prop := w.heap[g]? = some (.cells cs.toArray ty (0, 0))
section
variable {w w' : World} {g : Nat} {ty : TypeId} {cs : List Value}
theorem Blk.lt (h : Blk w g ty cs) : g < w.heap.size := (Array.getElem?_eq_some_iff.1 h).1
theorem Blk.get (h : Blk w g ty cs) (i : Nat) (v : Value) (hv : cs[i]? = some v) : w.cell? ⟨g, i, none⟩ = some v := by
  unfold Blk at h
  simp [World.cell?, h, hv]
theorem Blk.cell (h : Blk w g ty cs) (i : Nat) (hi : i < cs.length) : w.cell? ⟨g, i, none⟩ = some cs[i] := h.get i _ (List.getElem?_eq_getElem hi)
theorem Blk.frozen (h : Blk w g ty cs) (i : Nat) : w.frozen? ⟨g, i, none⟩ = false := by
  unfold Blk at h
  simp [World.frozen?, h]
theorem Blk.set (h : Blk w g ty cs) (i : Nat) (v : Value) : Blk (w.setCell ⟨g, i, none⟩ v) g ty (cs.set i v) := by
  unfold Blk at h ⊢
  have hlt := Blk.lt h
  simp only [World.setCell, Array.getElem?_modify, h]
  simp
theorem Blk.keep (h : Blk w g ty cs) (hk : w'.heap[g]? = w.heap[g]?) : Blk w' g ty cs := hk.trans h
theorem Blk.grown {row : Option Nat} (h : Blk w g ty cs) (hg : w.grownBy w' row) (hr : some g ≠ row) : Blk w' g ty cs := h.keep (hg.block g h.lt hr)
theorem Blk.below {B : Nat} (h : Blk w g ty cs) (hb : Below B w w') (hr : g < B) : Blk w' g ty cs := h.keep (hb.block g hr)
theorem Blk.to (h : Blk w g ty cs) {ds : List Value} (e : cs = ds) : Blk w g ty ds := e ▸ h
theorem Blk.byt {pre post : List Value} {xs : List UInt8} (h : Blk w g ty (pre ++ u8s xs ++ post)) {o : Nat} (ho : pre.length = o) : Byt w (fun b => b = g) (some ⟨g, o, none⟩) xs := fun j hj => by
  subst ho
  refine ⟨_, rfl, rfl, ?_⟩
  rw [Addr.add_lit]
  refine h.get _ _ ?_
  rw [List.append_assoc, List.getElem?_append_right (by omega), Nat.add_sub_cancel_left, List.getElem?_append_left (by rw [u8s_length]; exact hj)]
  unfold u8s
  rw [List.getElem?_map, List.getElem?_eq_getElem hj]
  rfl
end
theorem grown_set (w : World) (g i : Nat) (v : Value) : w.grownBy (w.setCell ⟨g, i, none⟩ v) (some g) :=
  ⟨rfl, rfl, rfl, by simp [World.setCell], fun k _ hk => Below.heap_setCell w ⟨g, i, none⟩ v k (fun e => hk (by rw [e]))⟩
theorem size_set (w : World) (a : Addr) (v : Value) : (w.setCell a v).heap.size = w.heap.size := by simp [World.setCell]
theorem Blk.of_alloc (w : World) (cs : Array Value) (ty : TypeId) : Blk (w.alloc (.cells cs ty)) w.heap.size ty cs.toList := by
  unfold Blk
  rw [heap_alloc_new]
theorem grown_new {w wr : World} {g : Nat} (hg : w.grownBy wr none) (hB : w.heap.size ≤ g) (i : Nat) (v : Value) : w.grownBy (wr.setCell ⟨g, i, none⟩ v) none :=
  World.grownBy.andThen hg (grown_set _ _ _ _) (by rintro _ ⟨⟩; exact .inl hB)
theorem Blk.of_owns_e {w : World} {base g n : Nat} {e : TypeId} {xs : List Value} (h : w.ownsRow base e 1 (.slice (some ⟨g, 0, none⟩) n n) n xs) : Blk w g e xs := by
  rcases h.2 with ⟨e1, _⟩ | ⟨g', cap, cur, e1, _, hg, _, _, hs, ht⟩
  · cases e1
  · cases e1
    unfold Blk
    rw [hg]
    have : cur.toList = xs := by
      rw [← ht, List.take_of_length_le]
      simp [hs]
    rw [← this]
/-- Numbers as values. -/
def ints (l : List Nat) : List Value := l.map fun n : Nat => Value.int .i64 (n : Int)
theorem ints_length (l : List Nat) : (ints l).length = l.length := by simp [ints]
theorem ints_get (l : List Nat) (j : Nat) (h : j < l.length) : (ints l)[j]? = some (.int .i64 ((l.getD j 0 : Nat) : Int)) := by
  unfold ints
  rw [List.getElem?_map, List.getElem?_eq_getElem h, List.getD_eq_getElem?_getD, List.getElem?_eq_getElem h]
  rfl
theorem ints_set (l : List Nat) (j n : Nat) : (ints l).set j (.int .i64 (n : Int)) = ints (l.set j n) := by simp [ints, List.map_set]
theorem Tryd.info3 : (Tryd.prog.info? 3).map (fun i => (i.zero, i.size, i.bytes)) = some (some (.int .i64 0), 1, 8) := by kernel_rfl
theorem made_ints (s : Nat) : (madeCells #[Value.int .i64 0] s).toList = ints (List.replicate s 0) := by
  rw [toList_madeCells_one]
  simp [ints]

/-- Bytes 0. -/
def zs (k : Nat) : List UInt8 := List.replicate k 0
theorem zs_length (k : Nat) : (zs k).length = k := by simp [zs]
theorem zs_drop (k j : Nat) : (zs k).drop j = zs (k - j) := by simp [zs]
/-- What copying xs makes of ys. -/
def lay (xs ys : List UInt8) : List UInt8 := xs.take ys.length ++ ys.drop xs.length
theorem lay_length (xs ys : List UInt8) : (lay xs ys).length = ys.length := by simp [lay]; omega
section
variable {w : World} {ops : Array Oper} {rest : List Oper} {o : Oper} {a : Act} {Q : Exit → Act → World → Prop}
theorem Blk.setRow {g : Nat} {ty : TypeId} {cs ds : List Value} (h : Blk w g ty cs) : Blk (w.setRow g ds.toArray) g ty ds := setRow_heap w g _ _ ty _ h
theorem grown_setRow (w : World) (g : Nat) (ds : Array Value) : w.grownBy (w.setRow g ds) (some g) :=
  ⟨rfl, rfl, rfl, by simp [World.setRow], fun k _ hk => setRow_other w g k ds (fun e => hk (by rw [e]))⟩
end
theorem grown_drew {w wr : World} {row : Option Nat} (h : w.grownBy wr row) : w.grownBy wr.drew row := ⟨h.os, h.tape, h.output, h.size, h.block⟩
theorem range_blk {w : World} {g : Nat} {ty : TypeId} {vs : List Value} (h : Blk w g ty vs) : w.rangeAt g 0 vs := fun j v hv => by
  have := h.get j v hv
  rwa [Nat.zero_add]
theorem i64_keep (n : Nat) (h : n < 9223372036854775808) : IntKind.i64.wrap (n : Int) = (n : Int) := by rw [IntKind.wrap_i64]; omega
end Go.Proofs.YtoookolekpblhaaDoor
