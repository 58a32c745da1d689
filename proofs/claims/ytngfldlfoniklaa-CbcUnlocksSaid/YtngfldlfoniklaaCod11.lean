/- A new cipher. Conditions: none. -/
import Derived.Test.YtngfldlfoniklaaCod10
namespace Go.Proofs.Ytngfldlfoniklaa
open Go.RowKit
def cells39 : Array Value := (cph (tabS 0) (tabB 0) (fl 240 px 0)).toArray
set_option maxRecDepth 100000 in
theorem run_build39 (w : World) : (Instr.build 49 #[]).run Try.prog w = .ok (.agg cells39) w := by kernel_rfl
set_option maxRecDepth 100000 in
theorem run_box39 (w : World) : (Instr.box 49 (.agg cells39)).run Try.prog w = .ok (.pointer (some ⟨w.heap.size, 0, none⟩)) (w.alloc (.cells cells39 49)) := by kernel_rfl
section
variable {w : World} {ops : Array Oper} {rest : List Oper} {o : Oper} {a : Act} {Q : Exit → Act → World → Prop}
theorem wpList_build39 (hgd : o.guard = none) (ho : o.op = .build 49 #[])
    (h : wpList Try.prog ops Q rest (a.put o.dst (.agg cells39)) w) : wpList Try.prog ops Q (o :: rest) a w := by
  refine wpList_plain hgd fun K hK => ?_
  have hrun := run_build39 w
  generalize cells39 = z at hrun h
  unfold Oper.wp
  simp only [execOp, ho, List.map_toArray, List.map_nil, Sem.run_bind, hrun, Result.andThen_ok, Sem.run_pure]
  exact hK _ _ h
theorem wpList_box39 (hgd : o.guard = none) (x : Operand) (ho : o.op = .box 49 x) (hx : a.eval x = .agg cells39)
    (h : ∀ w', Blk w' w.heap.size 49 (cph (tabS 0) (tabB 0) (fl 240 px 0)) → w.grownBy w' none → w'.heap.size = w.heap.size + 1 → wpList Try.prog ops Q rest (a.put o.dst (.pointer (some ⟨w.heap.size, 0, none⟩))) w') : wpList Try.prog ops Q (o :: rest) a w := by
  refine wpList_plain hgd fun K hK => ?_
  have hrun := run_box39 w
  have hb := Blk.of_alloc w cells39 49
  have hb' : Blk (w.alloc (.cells cells39 49)) w.heap.size 49 (cph (tabS 0) (tabB 0) (fl 240 px 0)) := hb
  clear hb
  generalize cells39 = z at hrun hx hb'
  unfold Oper.wp
  simp only [execOp, ho, hx, Sem.run_bind, hrun, Result.andThen_ok, Sem.run_pure]
  exact hK _ _ (h _ hb' (World.grownBy_alloc w _ none) (World.size_alloc w _))
end
theorem size22 : (Try.prog.info? 22).map (·.size) = some 32 := by kernel_rfl
set_option maxRecDepth 100000 in
set_option maxHeartbeats 1600000 in
theorem new_any (W : World) (k : Fin 32 → UInt8) :
    Calls Try.prog 15 #[.agg (u8s (k32 k)).toArray] W fun e w' => ∃ g, e = .returned (.pointer (some ⟨g, 0, none⟩)) ∧ Blk w' g 49 (cph (tabS 256) (tabB 256) (fl 240 (kf (k32 k)) 240)) ∧ W.grownBy w' none ∧ W.heap.size ≤ g := by
  go_enter Try.func15, Try.ntmps15
  go_wp2_with (refine wpList_box22 rfl _ k rfl rfl ?_)
  intro w2 hb2 hg2 hz2
  obtain ⟨gk, hgk⟩ : ∃ g, g = W.heap.size := ⟨_, rfl⟩
  rw [← hgk] at hb2 ⊢
  have HB2 := Lib.hid hb2
  have HG2 := Lib.hid hg2
  have HZ2 := Lib.hid hz2
  have HGK := Lib.hid hgk
  clear hb2 hg2 hz2 hgk
  go_wp2_with (first
    | (refine wpList_build39 rfl rfl ?_)
    | (refine wpList_box39 rfl _ rfl rfl ?_
       intro w3 hb3 hg3 hz3
       obtain ⟨g, hg⟩ : ∃ g, g = w2.heap.size := ⟨_, rfl⟩
       rw [← hg] at hb3 ⊢
       have hlt : W.heap.size ≤ g := by have := HZ2.out; omega
       have hne : gk ≠ g := by have h1 := HZ2.out; have h2 := HGK.out; omega
       have HLT := Lib.hid hlt
       have HNE := Lib.hid hne
       have hk3 : Blk w3 gk 22 (u8s (k32 k)) := HB2.out.grown hg3 (by simp)
       have hw3 : W.grownBy w3 none := World.grownBy.trans HG2.out hg3
       clear hg3 hz3 hg hlt hne)
    | (go_at_call 24
       refine (fill_any hb3).mono ?_
       rintro _ w4 ⟨rfl, hb4, hg4⟩
       have hk4 : Blk w4 gk 22 (u8s (k32 k)) := hk3.grown hg4 (fun e => HNE.out (Option.some.inj e))
       have hw4 : W.grownBy w4 none := World.grownBy.andThen hw3 hg4 (by rintro _ ⟨⟩; exact .inl HLT.out)
       clear hb3 hg4 hk3 hw3)
    | (refine wpList_load_mid rfl 22 _ rfl gk 0 rfl (u8s (k32 k)) _ (range_blk hk4) Try.underlying22 rfl (by rw [size22, u8s_length, k32_length]) ?_)
    | (go_at_call 25
       refine (lay_any hb4 (tabB_length _) k).mono ?_
       rintro _ w5 ⟨rfl, hb5, hg5⟩
       have hw5 : W.grownBy w5 none := World.grownBy.andThen hw4 hg5 (by rintro _ ⟨⟩; exact .inl HLT.out)
       clear hb4 hg5 hk4 hw4))
  go_ret
  exact ⟨g, rfl, hb5, hw5, HLT.out⟩
end Go.Proofs.Ytngfldlfoniklaa
