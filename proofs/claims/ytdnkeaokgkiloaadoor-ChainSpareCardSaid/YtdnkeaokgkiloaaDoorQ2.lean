/- chain.place, chain.laid, chain.reach. Conditions: the lists have no more than 1,000 keys. -/
import Derived.Test.YtdnkeaokgkiloaaDoorQ1
import Derived.WalkLawsBesides
namespace Go.Proofs.YtdnkeaokgkiloaaDoor
open Go.RowKit T
theorem run_indexK (w : World) (g o n c i : Nat) (hi : i < n) : (Instr.indexAt 47 (.slice (some ⟨g, o, none⟩) n c) (.int .i64 (i : Int))).run Tryd.prog w = .ok (.pointer (some ⟨g, o + 65 * i, none⟩)) w := by
  have h := run_indexAt_slice (P := Tryd.prog) w 47 ⟨g, o, none⟩ n c .i64 (i : Int) (by kernel_rfl)
  have hc : (0 : Int) ≤ (i : Int) ∧ (i : Int) < (n : Int) := by omega
  have hs : (sizeOf (Tryd.prog.elem 47)).run Tryd.prog w = .ok 65 w := by kernel_rfl
  rw [if_pos hc, hs] at h
  rw [h]
  simp [Addr.add_mid, Nat.mul_comm]
section
variable {w : World} {ops : Array Oper} {rest : List Oper} {S : World → Prop} {o : Oper} {a : Act} {K : Act → World → Prop} {Q : Exit → Act → World → Prop}
theorem wpList_indexK (hgd : o.guard = none) (x y : Operand) (ho : o.op = .indexAddr 47 x y) (g off n c i : Nat) (hx : a.eval x = .slice (some ⟨g, off, none⟩) n c) (hy : a.eval y = .int .i64 (i : Int)) (hi : i < n)
    (h : wpList Tryd.prog ops Q rest (a.put o.dst (.pointer (some ⟨g, off + 65 * i, none⟩))) w) : wpList Tryd.prog ops Q (o :: rest) a w := by
  refine wpList_plain hgd fun K hK => ?_
  have hrun := run_indexK w g off n c i hi
  unfold Oper.wp execOp
  simp only [ho, hx, hy, hrun, Sem.run_bind, Sem.run_pure, Result.andThen_ok]
  exact hK _ _ h
theorem yieldsIf_indexK (hw : Region.wanted o (yielded ops a.tmps) = true) (x y : Operand) (ho : o.op = .indexAddr 47 x y) (g off n c i : Nat) (hx : a.eval x = .slice (some ⟨g, off, none⟩) n c) (hy : a.eval y = .int .i64 (i : Int)) (hi : i < n) : YieldsIf Tryd.prog ops S o (.pointer (some ⟨g, off + 65 * i, none⟩)) a :=
  .inl ⟨hw, fun w _ => by
    have hrun := run_indexK w g off n c i hi
    unfold execOp
    simp only [ho, hx, hy, hrun, Sem.run_bind, Sem.run_pure, Result.andThen_ok]⟩
end
set_option maxRecDepth 100000 in
set_option maxHeartbeats 1600000 in
theorem index_any {w : World} {ok : Nat → Prop} {A : Option Addr} {L : List Kep} {m c g1 g2 : Nat} {r : List UInt8} {n : Nat} (hL : Kps w ok A L) (hK : KAll L) (hm : L.length = m) (hle : m ≤ 1000) (hr : r.length = 32) (h1 : C.Blk w g1 24 (u8s r)) (h2 : w.cell? ⟨g2, 0, none⟩ = some (.int .u16 (n : Int))) :
    Calls Tryd.prog 37 #[.slice A m c, .func (.func 38) #[] #[.pointer (some ⟨g1, 0, none⟩), .pointer (some ⟨g2, 0, none⟩)]] w fun e w' => e = .returned (.int .i64 (plc L r n)) ∧ w.grownBy w' none := by
  have HL := Lib.hid hL
  have HK := Lib.hid hK
  have HM := Lib.hid hm
  have HR := Lib.hid hr
  have H1 := Lib.hid h1
  have H2 := Lib.hid h2
  clear hL hK hm hr h1 h2
  go_enter Tryd.func37, Tryd.ntmps37
  go_wp2_with (fail)
  go_loopw [8] (fun u wr => ∃ i : Nat, i ≤ m ∧ u = .int .i64 (i : Int) ∧ (∀ j (hj : j < L.length), j < i → hit r n L[j] = false) ∧ w.grownBy wr none) (fun u _ => m - (intOf u).toNat)
  case atStart => exact ⟨0, by omega, rfl, fun j _ hj => absurd hj (by omega), World.grownBy.refl _ _⟩
  case round =>
    obtain ⟨i, hi, rfl, hno, hg⟩ := hrel
    have HNO := Lib.hid hno
    have HG := Lib.hid hg
    clear hno hg
    by_cases hlt : i < m
    · have hil : i < L.length := by rw [HM.out]; exact hlt
      obtain ⟨b, o, rfl, _, hrg⟩ := HL.out i hil
      obtain ⟨x, hx⟩ : ∃ x, x = L[i] := ⟨_, rfl⟩
      have hxk : KOk x := by rw [hx]; exact HK.out.at i hil
      rw [← hx] at hrg
      have HX := Lib.hid hx
      have HXK := Lib.hid hxk
      have HRG : Hid (wr.rangeAt b (o + 65 * i) (kv x)) := fun j v hv => (World.cell?_of_block (HG.out.block b (World.block_lt_of_cell? w _ (hrg j v hv)) (by simp))).trans (hrg j v hv)
      have hcl := hit_any (w := wr) HXK.out (n := n) HR.out (H1.out.grown HG.out (by simp)) ((World.cell?_of_block (HG.out.block g2 (World.block_lt_of_cell? w _ H2.out) (by simp))).trans H2.out)
      obtain ⟨z, hz⟩ : ∃ z, z = kv x := ⟨_, rfl⟩
      rw [← hz] at hcl
      have HZ := Lib.hid hz
      have HCL := Lib.hid hcl
      have d1 : (i : Int) < (m : Int) := by omega
      obtain ⟨bb, hbb⟩ : ∃ bb, hit r n x = bb := ⟨_, rfl⟩
      rw [hbb] at hcl
      have HBB := Lib.hid hbb
      have HCL := Lib.hid hcl
      clear hx hxk hrg hz hbb hcl HL
      cases bb with
      | true =>
        go_wp2_with (first | (refine wpList_indexK rfl (.tmp 12) (.tmp 13) rfl b o m c i rfl rfl hlt ?_) | (refine wpList_loadR agK rfl (.tmp 14) rfl b (o + 65 * i) rfl (vs := z) (by rw [HZ.out]; exact HRG.out) (by rw [HZ.out]; exact kv_length HXK.out) ?_) | (go_at_call 38; refine HCL.out.mono ?_; rintro _ w2 ⟨rfl, hg2⟩; have HG2 := Lib.hid hg2; clear hg2) | fail)
        go_ret
        refine ⟨?_, HG.out.trans HG2.out⟩
        rw [plc_here hil HNO.out (by rw [← HX.out]; exact HBB.out)]
        rfl
      | false =>
        go_wp2_with (first | (refine wpList_indexK rfl (.tmp 12) (.tmp 13) rfl b o m c i rfl rfl hlt ?_) | (refine wpList_loadR agK rfl (.tmp 14) rfl b (o + 65 * i) rfl (vs := z) (by rw [HZ.out]; exact HRG.out) (by rw [HZ.out]; exact kv_length HXK.out) ?_) | (go_at_call 38; refine HCL.out.mono ?_; rintro _ w2 ⟨rfl, hg2⟩; have HG2 := Lib.hid hg2; clear hg2) | fail)
        go_roundw
        case rel =>
          refine ⟨i + 1, by omega, by go_num, fun j hj hji => ?_, HG.out.trans HG2.out⟩
          by_cases e : j = i
          · subst e
            rw [← HX.out]
            exact HBB.out
          · exact HNO.out j hj (by omega)
        case measure => simp [intOf]; omega
    · have d1 : ¬ (i : Int) < (m : Int) := by omega
      have hmi : i = m := by omega
      have HMI := Lib.hid hmi
      clear hmi
      go_wp2
      go_ret
      refine ⟨?_, HG.out⟩
      rw [plc_none fun j hj => HNO.out j hj (by rw [HMI.out, ← HM.out]; exact hj)]
      rfl
set_option maxRecDepth 100000 in
set_option maxHeartbeats 1600000 in
theorem place_any {w : World} {ok : Nat → Prop} {A : Option Addr} {L : List Kep} {m c : Nat} {r : List UInt8} {n : Nat} (hL : Kps w ok A L) (hK : KAll L) (hm : L.length = m) (hle : m ≤ 1000) (hr : r.length = 32) :
    Calls Tryd.prog 28 #[.slice A m c, .agg (u8s r).toArray, .int .u16 (n : Int)] w fun e w' => e = .returned (.int .i64 (plc L r n)) ∧ w.grownBy w' none := by
  have hmf : ∀ (fn : Fn) (first cap : Array Value) (w : World), (Instr.makeFunc fn first cap).run Tryd.prog w = .ok (.func fn first cap) w := fun _ _ _ _ => rfl
  have HL := Lib.hid hL
  have HK := Lib.hid hK
  have HM := Lib.hid hm
  have HR := Lib.hid hr
  clear hL hK hm hr
  obtain ⟨z, hz⟩ : ∃ z, z = u8s r := ⟨_, rfl⟩
  rw [← hz]
  have HZ := Lib.hid hz
  clear hz
  go_enter Tryd.func28, Tryd.ntmps28
  go_wp2_with (first | (refine wpList_boxG rfl (.tmp 1) (vs := z) rfl rfl ?_) | fail)
  intro g1 w1 hg1 hb1 hgr1
  have G2 := Lib.hid (World.grownBy_alloc w1 (.cells #[.int .u16 (n : Int)] 38) none)
  have hb2 : C.Blk (w1.alloc (.cells #[.int .u16 (n : Int)] 38)) w1.heap.size 38 [.int .u16 (n : Int)] := C.Blk.of_alloc w1 _ 38
  have B2 : Hid ((w1.alloc (.cells #[.int .u16 (n : Int)] 38)).cell? ⟨w1.heap.size, 0, none⟩ = some (.int .u16 (n : Int))) := hb2.get 0 _ rfl
  clear hb2
  have hcl := index_any (n := n) (c := c) ((HL.out.grown hgr1.out).grown G2.out) HK.out HM.out hle HR.out (by have h := hb1.out.grown G2.out (by simp); rw [HZ.out] at h; exact h) B2.out
  have HCL := Lib.hid hcl
  clear hcl hg1
  go_wp2_with (go_at_call 37; refine HCL.out.mono ?_; rintro _ w2 ⟨rfl, hg2⟩; have HG2 := Lib.hid hg2; clear hg2)
  go_ret
  exact ⟨rfl, (hgr1.out.trans G2.out).trans HG2.out⟩
end Go.Proofs.YtdnkeaokgkiloaaDoor
