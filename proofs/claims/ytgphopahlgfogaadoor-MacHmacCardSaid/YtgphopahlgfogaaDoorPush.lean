/- Bytes behind rows of the call's own. Conditions: none. -/
import Derived.Test.YtgphopahlgfogaaDoorShort
import Derived.Deep.Onto
namespace Go.Proofs.YtgphopahlgfogaaDoor
open Go.RowKit
theorem wpList_append_byt_n {P : Program} (w : World) {ops : Array Oper} {rest : List Oper} {o : Oper} {a : Act} {Q : Exit → Act → World → Prop} (hgd : o.guard = none) (s x : Operand) (t : TypeId)
    (ho : o.op = .call { callee := .builtin .append, args := #[s, x], argTypes := #[t, t] })
    (base : Nat) (i : TypeInfo) (z : Value) (ht : P.underlying t = some (.slice 5)) (hi : P.info? 5 = some i) (hz : i.zero = some z)
    (hsize : i.size = 1) (hby : i.bytes = 1) (hzs : z.cells.size = 1)
    (v : Value) (n : Nat) (ys : List UInt8) (hs : a.eval s = v) (hown : w.ownsRow base 5 1 v n (u8s ys)) (ok : Nat → Prop) (A : Option Addr) (c m : Nat) (xs : List UInt8) (hm : xs.length = m) (hx : a.eval x = .slice A m c) (hr : Byt w ok A xs)
    (h63 : n + m ≤ 140737488355328) (hbase : base ≤ w.heap.size)
    (h : ∀ v' w', w'.ownsRow base 5 1 v' (n + m) (u8s (ys ++ xs)) → w.grownBy w' v.ownBlock → (v'.ownBlock = v.ownBlock ∨ v'.ownBlock = some w.heap.size) → wpList P ops Q rest (a.put o.dst v') w') :
    wpList P ops Q (o :: rest) a w := by
  subst hm
  exact wpList_append_byt w hgd s x t ho base i z ht hi hz hsize hby hzs v n ys hs hown ok A c xs hx hr h63 hbase h
theorem own_keep {w w' : World} {base n : Nat} {e : TypeId} {size : Nat} {v : Value} {xs : List Value} (h : w.ownsRow base e size v n xs) (hg : w.grownBy w' none) : w'.ownsRow base e size v n xs :=
  h.kept hg (by cases v.ownBlock <;> simp)
theorem own_grown {B w0 w' : World} {n : Nat} {e : TypeId} {size : Nat} {v : Value} {xs : List Value} (h : w0.ownsRow B.heap.size e size v n xs) (hB : B.grownBy w0 none) (hg : w0.grownBy w' v.ownBlock) : B.grownBy w' none :=
  World.grownBy.andThen hB hg (fun j hj => .inl (h.lt j hj).1)
theorem one_u8 (z : Int) : ∀ u ∈ [Value.int .u8 z], u.oneCell' = true := by
  intro u hu
  rw [List.mem_singleton] at hu
  subst hu
  rfl
/-- One byte behind a row of bytes. -/
theorem wpList_push {B w0 : World} {ops : Array Oper} {rest : List Oper} {o : Oper} {a : Act} {Q : Exit → Act → World → Prop} (hgd : o.guard = none) (s x : Operand) (ho : o.op = .call { callee := .builtin .append, args := #[s, x], argTypes := #[22, 22] })
    (v : Value) (n : Nat) (ys : List UInt8) (hs : a.eval s = v) (hown : w0.ownsRow B.heap.size 5 1 v n (u8s ys)) (hB : B.grownBy w0 none) (b : UInt8) (z : Int) (hz : z = (b.toNat : Int)) (hx : a.eval x = .slice (some ⟨w0.heap.size, 0, none⟩) 1 1) (hn : n < 1000000)
    (h : ∀ v' w', w'.ownsRow B.heap.size 5 1 v' (n + 1) (u8s (ys ++ [b])) → B.grownBy w' none → wpList Tryd.prog ops Q rest (a.put o.dst v') w') : wpList Tryd.prog ops Q (o :: rest) a (w0.alloc (.cells #[.int .u8 z] 5)) := by
  subst hz
  obtain ⟨i0, hi, hz0, hz1, hz2⟩ := info_parts Tryd.info5
  have hB1 : B.grownBy (w0.alloc (.cells #[.int .u8 (b.toNat : Int)] 5)) none := World.grownBy.trans hB (World.grownBy_alloc w0 _ none)
  have hown1 := own_keep hown (World.grownBy_alloc w0 (.cells #[.int .u8 (b.toNat : Int)] 5) none)
  refine wpList_append_own_at _ hgd s x 22 ho B.heap.size 5 i0 (.int .u8 0) 1 1 Tryd.underlying22 hi hz0 hz1 hz2 rfl Nat.one_pos v n (u8s ys) hs hown1 ⟨w0.heap.size, 0, none⟩ 1 1 [.int .u8 (b.toNat : Int)] hx rfl ?_ (one_u8 _) (by unfold maxLen; omega) (by omega) hB1.size ?_
  · intro j u hu
    obtain rfl : j = 0 := by
      have := (List.getElem?_eq_some_iff.1 hu).1
      simpa using this
    rw [Addr.add_lit]
    exact (Blk.of_alloc w0 #[.int .u8 (b.toNat : Int)] 5).get 0 _ hu
  · intro v' w' h1 h2 _ _
    refine h v' w' ?_ (own_grown hown1 hB1 h2)
    rw [u8s_append]
    exact h1
end Go.Proofs.YtgphopahlgfogaaDoor
