/- What the laws of cbc ask first: a text there and back, and two sizes. Conditions: what is asked of the code's three functions. -/
import Derived.Test.YtngfldlfoniklaaSays
import Derived.Lib.SlBytesConst
namespace Go.Proofs.Ytngfldlfoniklaa
open Go.RowKit
def kOne : Fin 32 → UInt8 := fun i => if i.val = 0 then 1 else 0
def vTwo : State := fun i => if i.val = 0 then 2 else 0
def tx : List UInt8 := [116, 101, 120, 116]
theorem tx_length : tx.length = 4 := rfl
theorem tx_array : tx.toArray = #[116, 101, 120, 116] := rfl
theorem run_build22 (w : World) : (Instr.build 22 #[(0, .int .u8 1)]).run Try.prog w = .ok (.agg (u8s (k32 kOne)).toArray) w := by kernel_rfl
theorem run_build23 (w : World) : (Instr.build 23 #[(0, .int .u8 2)]).run Try.prog w = .ok (.agg (bytesOf vTwo).toArray) w := by kernel_rfl
theorem run_text (w : World) : (Instr.buildSlice 24 4 #[(0, .int .u8 116), (1, .int .u8 101), (2, .int .u8 120), (3, .int .u8 116)]).run Try.prog w = .ok (.slice (some ⟨w.heap.size, 0, none⟩) 4 4) (w.alloc (.cells (u8s tx).toArray 5)) := by kernel_rfl
theorem byt_marked (w : World) (x : List UInt8) (fr : Nat × Nat) : Byt (w.alloc (.cells (u8s x).toArray 5 fr)) (fun b => b = w.heap.size) (some ⟨w.heap.size, 0, none⟩) x := fun j hj => by
  refine ⟨_, rfl, rfl, ?_⟩
  rw [Addr.add_lit, Nat.zero_add, World.cell?_alloc_mark]
  unfold u8s
  rw [List.getElem?_toArray, List.getElem?_map, List.getElem?_eq_getElem hj]
  rfl
section
variable {w : World} {ops : Array Oper} {rest : List Oper} {o : Oper} {a : Act} {Q : Exit → Act → World → Prop}
theorem wpList_build22 (hgd : o.guard = none) (ho : o.op = .build 22 #[(0, .const (.int .u8 1))]) (h : wpList Try.prog ops Q rest (a.put o.dst (.agg (u8s (k32 kOne)).toArray)) w) : wpList Try.prog ops Q (o :: rest) a w := by
  refine wpList_plain hgd fun K hK => ?_
  have hrun := run_build22 w
  generalize u8s (k32 kOne) = z at hrun h
  have he : a.eval (.const (.int .u8 1)) = .int .u8 1 := rfl
  unfold Oper.wp
  simp only [execOp, ho, List.map_toArray, List.map_cons, List.map_nil, he, Sem.run_bind, hrun, Result.andThen_ok, Sem.run_pure]
  exact hK _ _ h
theorem wpList_build23 (hgd : o.guard = none) (ho : o.op = .build 23 #[(0, .const (.int .u8 2))]) (h : wpList Try.prog ops Q rest (a.put o.dst (.agg (bytesOf vTwo).toArray)) w) : wpList Try.prog ops Q (o :: rest) a w := by
  refine wpList_plain hgd fun K hK => ?_
  have hrun := run_build23 w
  generalize bytesOf vTwo = z at hrun h
  have he : a.eval (.const (.int .u8 2)) = .int .u8 2 := rfl
  unfold Oper.wp
  simp only [execOp, ho, List.map_toArray, List.map_cons, List.map_nil, he, Sem.run_bind, hrun, Result.andThen_ok, Sem.run_pure]
  exact hK _ _ h
theorem wpList_text {o2 : Oper} (hgd : o.guard = none) (hgd2 : o2.guard = none) (ho : o.op = .buildSlice 24 4 #[(0, .const (.int .u8 116)), (1, .const (.int .u8 101)), (2, .const (.int .u8 120)), (3, .const (.int .u8 116))])
    (x : Operand) (ho2 : o2.op = .convert 24 24 x) (hx2 : (a.put o.dst (.slice (some ⟨w.heap.size, 0, none⟩) 4 4)).eval x = .slice (some ⟨w.heap.size, 0, none⟩) 4 4)
    (h : ∀ w', Byt w' (fun b => b = w.heap.size) (some ⟨w.heap.size, 0, none⟩) tx → w.grownBy w' none → w.heap.size < w'.heap.size → wpList Try.prog ops Q rest ((a.put o.dst (.slice (some ⟨w.heap.size, 0, none⟩) 4 4)).put o2.dst (.slice (some ⟨w.heap.size, 0, none⟩) 4 4)) w') : wpList Try.prog ops Q (o :: o2 :: rest) a w := by
  refine wpList_plain hgd fun K hK => ?_
  have hrun := run_text w
  have hconv := Lib.run_convert_bytes_const (P := Try.prog) w 24 5 (u8s tx).toArray 4 4 Try.underlying24 Try.underlying5
  have hb := byt_marked w tx
  generalize (u8s tx).toArray = z at hrun hconv hb
  have e0 : a.eval (.const (.int .u8 116)) = .int .u8 116 := rfl
  have e1 : a.eval (.const (.int .u8 101)) = .int .u8 101 := rfl
  have e2 : a.eval (.const (.int .u8 120)) = .int .u8 120 := rfl
  unfold Oper.wp
  simp only [execOp, ho, List.map_toArray, List.map_cons, List.map_nil, e0, e1, e2, Sem.run_bind, hrun, Result.andThen_ok, Sem.run_pure]
  refine hK _ _ ?_
  refine wpList_plain hgd2 fun K2 hK2 => ?_
  unfold Oper.wp
  simp only [execOp, ho2, hx2, Sem.run_bind, hconv, Result.andThen_ok, Sem.run_pure]
  exact hK2 _ _ (h _ (hb _) (World.grownBy_alloc w _ none) (by rw [World.size_alloc]; omega))
end
def AliveSays : Prop := ∀ w : World, Calls Try.prog 9 #[] w fun e w' => e = .returned (.bool true) ∧ w.grownBy w' none
set_option maxRecDepth 100000 in
set_option maxHeartbeats 300000 in
theorem alive6 (hL : LockSays) (hU : UnlockSays) (hZ : SizeSays) : AliveSays := fun w => by
  have HL := Lib.hid hL
  have HU := Lib.hid hU
  have HZ := Lib.hid hZ
  clear hL hU hZ
  have hl16 : (lockB (kn (k32 kOne)) vTwo tx).length = 16 := by rw [lockB_length]; rfl
  have hul := unlock_lockB (kn (k32 kOne)) vTwo tx
  obtain ⟨b, hb⟩ : ∃ b, b = lockB (kn (k32 kOne)) vTwo tx := ⟨_, rfl⟩
  rw [← hb] at hl16 hul
  have HB := Lib.hid hb
  have HL16 := Lib.hid hl16
  have HUL := Lib.hid hul
  clear hb hl16 hul
  have z15 : sizeZ 15 = 16 := by decide
  have z16 : sizeZ 16 = 32 := by decide
  have HZ15 : Hid (∀ W, Calls Try.prog 14 #[.int .i64 15] W fun e w' => e = .returned (.int .i64 16) ∧ W.grownBy w' none) := Lib.hid fun W => by
    have := HZ.out W 15 (by decide)
    rwa [z15] at this
  have HZ16 : Hid (∀ W, Calls Try.prog 14 #[.int .i64 16] W fun e w' => e = .returned (.int .i64 32) ∧ W.grownBy w' none) := Lib.hid fun W => by
    have := HZ.out W 16 (by decide)
    rwa [z16] at this
  clear z15 z16
  go_enter Try.func9, Try.ntmps9
  go_wp2_with (first
    | (refine wpList_build22 rfl rfl ?_)
    | (refine wpList_build23 rfl rfl ?_)
    | (refine wpList_text rfl rfl rfl _ rfl rfl ?_
       intro w1 hb1 hg1 hlt1
       obtain ⟨gt, hgt⟩ : ∃ g, g = w.heap.size := ⟨_, rfl⟩
       rw [← hgt] at hb1 hlt1 ⊢
       have HB1 := Lib.hid hb1
       have HG1 := Lib.hid hg1
       have HLT := Lib.hid hlt1
       clear hb1 hg1 hlt1 hgt)
    | (go_at_call 11
       refine (HL.out w1 (fun g => g = gt) (some ⟨gt, 0, none⟩) tx 4 4 HB1.out (fun g hg => by rw [hg]; exact HLT.out) rfl (Nat.le_refl _) (by unfold maxLen; omega) (by omega) kOne vTwo).mono ?_
       rintro _ w2 ⟨A2, c2, rfl, hc2, hm2, hx2, hg2⟩
       rw [← HB.out] at hc2 hx2 ⊢
       rw [HL16.out] at hc2 ⊢
       have HX2 := Lib.hid hx2
       have HG2 := Lib.hid (World.grownBy.trans HG1.out hg2)
       have HC2 := Lib.hid hc2
       have HM2 := Lib.hid hm2
       clear hc2 hm2 hx2 hg2))
  have h0 := HU.out.yes (s := tx) HX2.out (fun g hg => hg.2) HL16.out HC2.out HM2.out (by omega) kOne vTwo HUL.out
  refine h0.mono ?_
  rintro _ w3 ⟨A3, c3, rfl, hc3, hm3, hx3, hg3⟩
  have hst := hx3.str c3
  have HG3 := Lib.hid (World.grownBy.trans HG2.out hg3)
  rw [tx_length, tx_array] at hst
  rw [tx_length]
  clear hc3 hm3 hx3 hg3
  clear h0
  go_wp2_with (first
    | (go_at_call 14; with_reducible refine (HZ15.out _).mono ?_; rintro _ w4 ⟨rfl, hg4⟩; have HG4 := Lib.hid hg4; clear hg4)
    | (go_at_call 14; with_reducible refine (HZ16.out _).mono ?_; rintro _ w5 ⟨rfl, hg5⟩; have HG5 := Lib.hid hg5; clear hg5))
  go_ret
  exact ⟨rfl, World.grownBy.trans HG3.out (World.grownBy.trans HG4.out HG5.out)⟩
end Go.Proofs.Ytngfldlfoniklaa
