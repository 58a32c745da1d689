/- Bytes are copied into, and cleared in, the middle of a block. Conditions: none. -/
import Derived.Test.YtngfldlfoniklaaRow
import Derived.Laws.CopyOwn
import Derived.Lib.SliceRun
namespace Go.Proofs.Ytngfldlfoniklaa
open Go.RowKit

/-- Bytes 0. -/
def zs (k : Nat) : List UInt8 := List.replicate k 0
theorem zs_length (k : Nat) : (zs k).length = k := by simp [zs]
theorem zs_drop (k j : Nat) : (zs k).drop j = zs (k - j) := by simp [zs]
/-- What copying xs makes of ys. -/
def lay (xs ys : List UInt8) : List UInt8 := xs.take ys.length ++ ys.drop xs.length
theorem lay_length (xs ys : List UInt8) : (lay xs ys).length = ys.length := by simp [lay]; omega
section
variable {w : World} {ops : Array Oper} {rest : List Oper} {o : Oper} {a : Act} {Q : Exit → Act → World → Prop}
theorem Blk.setRow {g : Nat} {ty : TypeId} {cs ds : List Value} (h : Blk w g ty cs) : Blk (w.setRow g ds.toArray) g ty ds := setRow_heap w g _ _ ty _ h
theorem grown_setRow (w : World) (g : Nat) (ds : Array Value) : w.grownBy (w.setRow g ds) (some g) :=
  ⟨rfl, rfl, rfl, by simp [World.setRow], fun k _ hk => setRow_other w g k ds (fun e => hk (by rw [e]))⟩
theorem wpList_copy_blk (hgd : o.guard = none) (d s : Operand) (ho : o.op = .call { callee := .builtin .copy, args := #[d, s], argTypes := #[24, 24] })
    (g off dLen dCap sLen sCap : Nat) (A : Option Addr) (xs ys : List UInt8) (hd : a.eval d = .slice (some ⟨g, off, none⟩) dLen dCap) (hs : a.eval s = .slice A sLen sCap) (hxl : xs.length = sLen) (hyl : ys.length = dLen)
    (ty : TypeId) (pre post : List Value) (hb : Blk w g ty (pre ++ u8s ys ++ post)) (hp : pre.length = off) (ok : Nat → Prop) (hx : Byt w ok A xs) (m : Nat) (hm : Nat.min xs.length ys.length = m)
    (h : ∀ w', Blk w' g ty (pre ++ u8s (lay xs ys) ++ post) → w.grownBy w' (some g) → w'.heap.size = w.heap.size → wpList Try.prog ops Q rest (a.put o.dst (goInt (m : Int))) w') :
    wpList Try.prog ops Q (o :: rest) a w := by
  subst hm hxl hyl hp
  have hcs : (u8s (xs.take ys.length)).length = Nat.min xs.length ys.length := by rw [u8s_length, List.length_take, Nat.min_comm]
  by_cases h0 : Nat.min xs.length ys.length = 0
  · refine wpList_copy_nothing hgd d s 24 24 ho 5 Try.underlying24 (by kernel_rfl) _ _ ys.length dCap xs.length sCap hd hs h0 ?_
    have e : lay xs ys = ys := by
      rcases xs with _ | ⟨x, xs⟩
      · simp [lay]
      · rcases ys with _ | ⟨y, ys⟩
        · simp [lay]
        · simp [Nat.min] at h0
    have := h w (by rw [e]; exact hb) (World.grownBy.refl _ _) rfl
    rw [h0] at this
    exact this
  · obtain ⟨ad, rfl, _, hcell⟩ := hx.some_ (by have : Nat.min xs.length ys.length ≤ xs.length := Nat.min_le_left _ _; omega)
    refine wpList_copy_own hgd d s 24 24 ho 5 Try.underlying24 (by kernel_rfl) g pre.length ys.length dCap ad xs.length sCap hd hs _ ty hb (u8s (xs.take ys.length)) hcs ?_ ?_ (u8s_one _) ?_
    · intro j v hv
      obtain ⟨hj, rfl⟩ := u8s_get _ j v hv
      rw [List.length_take] at hj
      rw [hcell j (by omega)]
      simp
    · rw [hcs]
      have : Nat.min xs.length ys.length ≤ ys.length := Nat.min_le_right _ _
      simp only [List.size_toArray, List.length_append, u8s_length]
      omega
    · rw [hcs]
      have e : List.take pre.length (pre ++ u8s ys ++ post) ++ (u8s (xs.take ys.length) ++ List.drop (pre.length + Nat.min xs.length ys.length) (pre ++ u8s ys ++ post)) = pre ++ u8s (lay xs ys) ++ post := by
        rw [List.append_assoc pre, List.take_left', List.drop_append, List.drop_eq_nil_of_le (by omega), Nat.add_sub_cancel_left, List.nil_append, List.drop_append_of_le_length (by rw [u8s_length]; exact Nat.min_le_right _ _)]
        rw [lay, u8s_append]
        have e2 : List.drop (Nat.min xs.length ys.length) (u8s ys) = u8s (ys.drop xs.length) := by
          unfold u8s
          rw [← List.map_drop]
          congr 1
          rcases Nat.le_total xs.length ys.length with hle | hle
          · rw [show Nat.min xs.length ys.length = xs.length from Nat.min_eq_left hle]
          · rw [show Nat.min xs.length ys.length = ys.length from Nat.min_eq_right hle, List.drop_eq_nil_of_le (Nat.le_refl _), List.drop_eq_nil_of_le hle]
        rw [e2]
        simp only [List.append_assoc]
        rfl
      simp only []
      rw [e]
      exact h _ (Blk.setRow hb) (grown_setRow _ _ _) (by simp [World.setRow])
end
end Go.Proofs.Ytngfldlfoniklaa
