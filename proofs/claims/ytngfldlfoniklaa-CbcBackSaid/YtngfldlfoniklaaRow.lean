/- A block of cells, as a list: what is read of it, and what a written cell makes of it. Conditions: none. -/
import Derived.Test.YtngfldlfoniklaaMem
namespace Go.Proofs.Ytngfldlfoniklaa
open Go.RowKit

/-- Block g is just these cells. -/
def Blk (w : World) (g : Nat) (ty : TypeId) (cs : List Value) : Prop := w.heap[g]? = some (.cells cs.toArray ty (0, 0))
section
variable {w w' : World} {g : Nat} {ty : TypeId} {cs : List Value}
theorem Blk.lt (h : Blk w g ty cs) : g < w.heap.size := (Array.getElem?_eq_some_iff.1 h).1
theorem Blk.get (h : Blk w g ty cs) (i : Nat) (v : Value) (hv : cs[i]? = some v) : w.cell? ⟨g, i, none⟩ = some v := by
  unfold Blk at h
  simp [World.cell?, h, hv]
theorem Blk.cell (h : Blk w g ty cs) (i : Nat) (hi : i < cs.length) : w.cell? ⟨g, i, none⟩ = some cs[i] := h.get i _ (List.getElem?_eq_getElem hi)
theorem Blk.frozen (h : Blk w g ty cs) (i : Nat) : w.frozen? ⟨g, i, none⟩ = false := by
  unfold Blk at h
  simp [World.frozen?, h]
theorem Blk.set (h : Blk w g ty cs) (i : Nat) (v : Value) : Blk (w.setCell ⟨g, i, none⟩ v) g ty (cs.set i v) := by
  unfold Blk at h ⊢
  have hlt := Blk.lt h
  simp only [World.setCell, Array.getElem?_modify, h]
  simp
theorem Blk.keep (h : Blk w g ty cs) (hk : w'.heap[g]? = w.heap[g]?) : Blk w' g ty cs := hk.trans h
theorem Blk.grown {row : Option Nat} (h : Blk w g ty cs) (hg : w.grownBy w' row) (hr : some g ≠ row) : Blk w' g ty cs := h.keep (hg.block g h.lt hr)
theorem Blk.below {B : Nat} (h : Blk w g ty cs) (hb : Below B w w') (hr : g < B) : Blk w' g ty cs := h.keep (hb.block g hr)
theorem Blk.to (h : Blk w g ty cs) {ds : List Value} (e : cs = ds) : Blk w g ty ds := e ▸ h
theorem Blk.byt {pre post : List Value} {xs : List UInt8} (h : Blk w g ty (pre ++ u8s xs ++ post)) {o : Nat} (ho : pre.length = o) : Byt w (fun b => b = g) (some ⟨g, o, none⟩) xs := fun j hj => by
  subst ho
  refine ⟨_, rfl, rfl, ?_⟩
  rw [Addr.add_lit]
  refine h.get _ _ ?_
  rw [List.append_assoc, List.getElem?_append_right (by omega), Nat.add_sub_cancel_left, List.getElem?_append_left (by rw [u8s_length]; exact hj)]
  unfold u8s
  rw [List.getElem?_map, List.getElem?_eq_getElem hj]
  rfl
end
theorem grown_set (w : World) (g i : Nat) (v : Value) : w.grownBy (w.setCell ⟨g, i, none⟩ v) (some g) :=
  ⟨rfl, rfl, rfl, by simp [World.setCell], fun k _ hk => Below.heap_setCell w ⟨g, i, none⟩ v k (fun e => hk (by rw [e]))⟩
theorem size_set (w : World) (a : Addr) (v : Value) : (w.setCell a v).heap.size = w.heap.size := by simp [World.setCell]
theorem Blk.of_alloc (w : World) (cs : Array Value) (ty : TypeId) : Blk (w.alloc (.cells cs ty)) w.heap.size ty cs.toList := by
  unfold Blk
  rw [heap_alloc_new]
theorem grown_new {w wr : World} {g : Nat} (hg : w.grownBy wr none) (hB : w.heap.size ≤ g) (i : Nat) (v : Value) : w.grownBy (wr.setCell ⟨g, i, none⟩ v) none :=
  World.grownBy.andThen hg (grown_set _ _ _ _) (by rintro _ ⟨⟩; exact .inl hB)
theorem Blk.of_owns_e {w : World} {base g n : Nat} {e : TypeId} {xs : List Value} (h : w.ownsRow base e 1 (.slice (some ⟨g, 0, none⟩) n n) n xs) : Blk w g e xs := by
  rcases h.2 with ⟨e1, _⟩ | ⟨g', cap, cur, e1, _, hg, _, _, hs, ht⟩
  · cases e1
  · cases e1
    unfold Blk
    rw [hg]
    have : cur.toList = xs := by
      rw [← ht, List.take_of_length_le]
      simp [hs]
    rw [← this]
/-- Numbers as values. -/
def ints (l : List Nat) : List Value := l.map fun n : Nat => Value.int .i64 (n : Int)
theorem ints_length (l : List Nat) : (ints l).length = l.length := by simp [ints]
theorem ints_get (l : List Nat) (j : Nat) (h : j < l.length) : (ints l)[j]? = some (.int .i64 ((l.getD j 0 : Nat) : Int)) := by
  unfold ints
  rw [List.getElem?_map, List.getElem?_eq_getElem h, List.getD_eq_getElem?_getD, List.getElem?_eq_getElem h]
  rfl
theorem ints_set (l : List Nat) (j n : Nat) : (ints l).set j (.int .i64 (n : Int)) = ints (l.set j n) := by simp [ints, List.map_set]
theorem Try.info3 : (Try.prog.info? 3).map (fun i => (i.zero, i.size, i.bytes)) = some (some (.int .i64 0), 1, 8) := by kernel_rfl
theorem made_ints (s : Nat) : (madeCells #[Value.int .i64 0] s).toList = ints (List.replicate s 0) := by
  rw [toList_madeCells_one]
  simp [ints]
end Go.Proofs.Ytngfldlfoniklaa
