/- Eight words are laid as a new slice. Conditions: none. -/
import Derived.Test.YtgphopahlgfogaaDoorPush
namespace Go.Proofs.YtgphopahlgfogaaDoor
open Go.RowKit
theorem run_build8 (w : World) (v0 v1 v2 v3 v4 v5 v6 v7 : Int) : (Instr.buildSlice 55 8 #[(0, .int .u64 v0), (1, .int .u64 v1), (2, .int .u64 v2), (3, .int .u64 v3), (4, .int .u64 v4), (5, .int .u64 v5), (6, .int .u64 v6), (7, .int .u64 v7)]).run Tryd.prog w = .ok (.slice (some ⟨w.heap.size, 0, none⟩) 8 8) (w.alloc (.cells #[.int .u64 v0, .int .u64 v1, .int .u64 v2, .int .u64 v3, .int .u64 v4, .int .u64 v5, .int .u64 v6, .int .u64 v7] 47)) := by kernel_rfl
theorem wpList_build8 {w : World} {ops : Array Oper} {rest : List Oper} {o : Oper} {a : Act} {Q : Exit → Act → World → Prop} (hgd : o.guard = none) (x0 x1 x2 x3 x4 x5 x6 x7 : Operand)
    (ho : o.op = .buildSlice 55 8 #[(0, x0), (1, x1), (2, x2), (3, x3), (4, x4), (5, x5), (6, x6), (7, x7)]) (v0 v1 v2 v3 v4 v5 v6 v7 : Int)
    (h0 : a.eval x0 = .int .u64 v0) (h1 : a.eval x1 = .int .u64 v1) (h2 : a.eval x2 = .int .u64 v2) (h3 : a.eval x3 = .int .u64 v3) (h4 : a.eval x4 = .int .u64 v4) (h5 : a.eval x5 = .int .u64 v5) (h6 : a.eval x6 = .int .u64 v6) (h7 : a.eval x7 = .int .u64 v7)
    (h : ∀ w', w' = w.alloc (.cells #[.int .u64 v0, .int .u64 v1, .int .u64 v2, .int .u64 v3, .int .u64 v4, .int .u64 v5, .int .u64 v6, .int .u64 v7] 47) → wpList Tryd.prog ops Q rest (a.put o.dst (.slice (some ⟨w.heap.size, 0, none⟩) 8 8)) w') :
    wpList Tryd.prog ops Q (o :: rest) a w := by
  refine wpList_plain hgd fun K hK => ?_
  have hrun := run_build8 w v0 v1 v2 v3 v4 v5 v6 v7
  unfold Oper.wp
  simp only [execOp, ho, List.map_toArray, List.map_cons, List.map_nil, h0, h1, h2, h3, h4, h5, h6, h7, Sem.run_bind, hrun, Result.andThen_ok, Sem.run_pure]
  exact hK _ _ (h _ rfl)
theorem alloc_rnd (w : World) (g : Nat) (hg : g = w.heap.size) (r : St) (k v : UInt32) : (w.alloc (.cells #[.int .u64 ((t1 r k v + t2 r).toNat : Int), .int .u64 (r.a.toNat : Int), .int .u64 (r.b.toNat : Int), .int .u64 (r.c.toNat : Int), .int .u64 ((r.d + t1 r k v).toNat : Int), .int .u64 (r.e.toNat : Int), .int .u64 (r.f.toNat : Int), .int .u64 (r.g.toNat : Int)] 47)).rangeAt g 0 (d64 (rnd r k v).list) := by
  subst hg
  exact Blk.range (pre := []) (post := []) ((Blk.of_alloc _ _ 47).to rfl) rfl
theorem lt_alloc_drew (w : World) (o : Obj) : w.heap.size < (w.drew.alloc o).heap.size := Nat.lt_of_lt_of_eq (show w.heap.size < w.drew.heap.size + 1 from Nat.lt_succ_self _) (World.size_alloc w.drew o).symm
theorem size_drew (w : World) : w.heap.size = w.drew.heap.size := rfl
end Go.Proofs.YtgphopahlgfogaaDoor
