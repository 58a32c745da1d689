/- missiveref17.At, Same, Without. Conditions: the lists have no more than 1,000 keys; of Same: both are alike. -/
import Derived.Test.YtdnkeaokgkiloaaDoorR9
namespace Go.Proofs.YtdnkeaokgkiloaaDoor
open Go.RowKit T
theorem yieldsIf_eqlY {ops : Array Oper} {S : World → Prop} {o : Oper} {a : Act} (hw : Region.wanted o (yielded ops a.tmps) = true) (x y : Operand) (ho : o.op = .binOp .eql 24 x y 24) (xs ys : List UInt8) (hx : a.eval x = .agg (u8s xs).toArray) (hy : a.eval y = .agg (u8s ys).toArray) (hxl : xs.length = 32) (hyl : ys.length = 32) (b : Bool) (hb : (xs == ys) = b) : YieldsIf Tryd.prog ops S o (.bool b) a :=
  .inl ⟨hw, fun w _ => by
    have hrun := eqlY xs ys hxl hyl w
    rw [hb] at hrun
    unfold execOp
    simp only [ho, hx, hy, hrun, run_eqGuard_agg _ _ _ _ _ _ _ guardY, Sem.run_bind, Sem.run_pure, Result.andThen_ok]⟩
theorem kv_r {w : World} {b o : Nat} {x : Kep} (h : w.rangeAt b o (kv x)) : w.rangeAt b o (u8s x.1) := fun j v hv => by
  have hj := (List.getElem?_eq_some_iff.1 hv).1
  exact h j v (by unfold kv; rw [List.getElem?_append_left hj]; exact hv)
theorem kv_n {w : World} {b o : Nat} {x : Kep} (hx : KOk x) (h : w.rangeAt b o (kv x)) : w.cell? ⟨b, o + 32, none⟩ = some (.int .u16 (x.2.1 : Int)) := h 32 _ (by
  unfold kv
  rw [List.getElem?_append_right (by rw [u8s_length, hx.1]; exact Nat.le_refl _), u8s_length, hx.1]
  rfl)
set_option maxRecDepth 100000 in
set_option maxHeartbeats 4000000 in
theorem at_any {w : World} {ok : Nat → Prop} {A : Option Addr} {L : List Kep} {m c : Nat} {r : List UInt8} {n : Nat} (hL : Kps w ok A L) (hK : KAll L) (hm : L.length = m) (hle : m ≤ 1000) (hr : r.length = 32) :
    Calls Tryd.prog 17 #[.slice A m c, .agg (u8s r).toArray, .int .u16 (n : Int)] w fun e w' => e = .returned (.int .i64 (plc L r n)) ∧ w.grownBy w' none := by
  have HL := Lib.hid hL
  have HK := Lib.hid hK
  have HM := Lib.hid hm
  have HR := Lib.hid hr
  obtain ⟨z, hz⟩ : ∃ z, z = u8s r := ⟨_, rfl⟩
  have HZ := Lib.hid hz
  rw [← hz]
  clear hL hK hm hr hz
  go_enter Tryd.func17, Tryd.ntmps17
  go_wp2_with (first | (refine wpList_boxG rfl (.tmp 1) (vs := z) rfl rfl ?_) | fail)
  intro g4 w1 e4 k4 q4
  have B4 : Hid (C.Blk w1 g4 22 (u8s r)) := by have h := k4.out; rw [HZ.out] at h; exact h
  have G1 := Lib.hid q4.out
  clear e4 k4 q4
  go_wp2_with (fail)
  go_loopw [7] (fun u wr => ∃ i : Nat, i ≤ m ∧ u = .int .i64 (i : Int) ∧ (∀ j (hj : j < L.length), j < i → hit r n L[j] = false) ∧ w1.grownBy wr none) (fun u _ => m - (intOf u).toNat)
  case atStart => exact ⟨0, by omega, rfl, fun j _ hj => absurd hj (by omega), World.grownBy.refl _ _⟩
  case round =>
    obtain ⟨i, hi, rfl, hno, hg⟩ := hrel
    have HNO := Lib.hid hno
    have HG := Lib.hid hg
    clear hno hg
    by_cases hlt : i < m
    · have hil : i < L.length := by rw [HM.out]; exact hlt
      obtain ⟨b, o, rfl, _, hrg⟩ := HL.out i hil
      obtain ⟨x, hx⟩ : ∃ x, x = L[i] := ⟨_, rfl⟩
      have hxk : KOk x := by rw [hx]; exact HK.out.at i hil
      rw [← hx] at hrg
      have hrw : wr.rangeAt b (o + 65 * i) (kv x) := range_keep hrg fun hlt => (G1.out.trans HG.out).block b hlt (by simp)
      obtain ⟨xr, xn, xk⟩ := x
      have HX := Lib.hid hx
      have HXK := Lib.hid hxk
      have RR : Hid (wr.rangeAt b (o + 65 * i) (u8s xr)) := kv_r hrw
      have RN : Hid (wr.cell? ⟨b, o + 65 * i + 32, none⟩ = some (.int .u16 (xn : Int))) := kv_n hxk hrw
      have RB : Hid (C.Blk wr g4 22 (u8s r)) := B4.out.grown HG.out (by simp)
      have XL : Hid (xr.length = 32) := hxk.1
      have d1 : (i : Int) < (m : Int) := by omega
      have HLT := Lib.hid hlt
      have hh : hit r n (xr, xn, xk) = ((xr == r) && (xn == n)) := rfl
      obtain ⟨bb, hbb⟩ : ∃ bb, (xr == r) = bb := ⟨_, rfl⟩
      rw [hbb] at hh
      have HBB := Lib.hid hbb
      have HH := Lib.hid hh
      clear hx hxk hrg hrw hbb hh hlt HL
      cases bb with
      | false =>
        go_wp2_with fail
        refine wp_region_held_drew (S := fun W => W.rangeAt b (o + 65 * i) (u8s xr) ∧ W.rangeAt g4 0 (u8s r) ∧ W.cell? ⟨b, o + 65 * i + 32, none⟩ = some (.int .u16 (xn : Int))) (by kernel_rfl) ⟨RR.out, range_of RB.out, RN.out⟩ (fun hHeld => ?_)
        refine' wpAnyH_take (i := 0) (oi := { dst := some 14, op := Op.move (Operand.tmp 0), type := 47, pos := "ref.go:29", after := #[], guard := none }) (v := .slice (some ⟨b, o, none⟩) m c) rfl (by kernel_rfl) (by kernel_rfl) (by kernel_rfl) (fun _ _ _ h => h) (Or.inl ⟨by rfl, fun w' hSw => by go_simp⟩) (by assumption) ?qz1
        try simp only [Act.put, List.setIfInBounds_toArray, List.set_cons_zero, List.set_cons_succ]
        refine' wpAnyH_take (i := 1) (oi := { dst := some 15, op := Op.move (Operand.tmp 7), type := 3, pos := "ref.go:29", after := #[], guard := none }) (v := .int .i64 (i : Int)) rfl (by kernel_rfl) (by kernel_rfl) (by kernel_rfl) (fun _ _ _ h => h) (Or.inl ⟨by rfl, fun w' hSw => by go_simp⟩) (by assumption) ?qz2
        try simp only [Act.put, List.setIfInBounds_toArray, List.set_cons_zero, List.set_cons_succ]
        refine' wpAnyH_take (i := 2) (oi := { dst := some 16, op := Op.indexAddr 47 (Operand.tmp 14) (Operand.tmp 15), type := 0, pos := "ref.go:29", after := #[{ on := 0, ground := Ground.data }, { on := 1, ground := Ground.data }], guard := none }) (v := .pointer (some ⟨b, o + 65 * i, none⟩)) rfl (by kernel_rfl) (by kernel_rfl) (by kernel_rfl) (fun _ _ _ h => h) (yieldsIf_indexK (by rfl) (.tmp 14) (.tmp 15) rfl b o m c i rfl rfl HLT.out) (by assumption) ?qz3
        try simp only [Act.put, List.setIfInBounds_toArray, List.set_cons_zero, List.set_cons_succ]
        refine' wpAnyH_take (i := 3) (oi := { dst := some 17, op := Op.fieldAddr 49 (Operand.tmp 16) 0, type := 0, pos := "ref.go:29", after := #[{ on := 2, ground := Ground.data }], guard := none }) (v := .pointer (some ⟨b, o + 65 * i, none⟩)) rfl (by kernel_rfl) (by kernel_rfl) (by kernel_rfl) (fun _ _ _ h => h) (Or.inl ⟨by rfl, fun w' hSw => by go_simp⟩) (by assumption) ?qz4
        try simp only [Act.put, List.setIfInBounds_toArray, List.set_cons_zero, List.set_cons_succ]
        refine' wpAnyH_take (i := 4) (oi := { dst := some 18, op := Op.load 24 (Operand.tmp 17), type := 24, pos := "ref.go:29", after := #[{ on := 3, ground := Ground.data }], guard := none }) (v := .agg (u8s xr).toArray) rfl (by kernel_rfl) (by kernel_rfl) (by kernel_rfl) (fun _ _ _ h => h) (yieldsIf_loadR agY (by rfl) (.tmp 17) rfl b (o + 65 * i) rfl (by rw [u8s_length, XL.out]) (fun _ h => h.1)) (by assumption) ?qz5
        try simp only [Act.put, List.setIfInBounds_toArray, List.set_cons_zero, List.set_cons_succ]
        refine' wpAnyH_take (i := 5) (oi := { dst := some 19, op := Op.load 22 (Operand.tmp 4), type := 22, pos := "ref.go:29", after := #[], guard := none }) (v := .agg (u8s r).toArray) rfl (by kernel_rfl) (by kernel_rfl) (by kernel_rfl) (fun _ _ _ h => h) (yieldsIf_loadR agA (by rfl) (.tmp 4) rfl g4 0 rfl (by rw [u8s_length, HR.out]) (fun _ h => h.2.1)) (by assumption) ?qz6
        try simp only [Act.put, List.setIfInBounds_toArray, List.set_cons_zero, List.set_cons_succ]
        refine' wpAnyH_take (i := 6) (oi := { dst := some 20, op := Op.binOp BinOp.eql 24 (Operand.tmp 18) (Operand.tmp 19) 24, type := 4, pos := "ref.go:29", after := #[{ on := 4, ground := Ground.data }, { on := 5, ground := Ground.data }], guard := none }) (v := .bool false) rfl (by kernel_rfl) (by kernel_rfl) (by kernel_rfl) (fun _ _ _ h => h) (yieldsIf_eqlY (by rfl) (.tmp 18) (.tmp 19) rfl xr r rfl rfl XL.out HR.out false HBB.out) (by assumption) ?qz7
        try simp only [Act.put, List.setIfInBounds_toArray, List.set_cons_zero, List.set_cons_succ]
        refine' wpAnyH_take (i := 7) (oi := { dst := some 21, op := Op.move (Operand.tmp 20), type := 4, pos := "ref.go:29", after := #[{ on := 6, ground := Ground.data }], guard := none }) (v := .bool false) rfl (by kernel_rfl) (by kernel_rfl) (by kernel_rfl) (fun _ _ _ h => h) (Or.inl ⟨by rfl, fun w' hSw => by go_simp⟩) (by assumption) ?qz8
        try simp only [Act.put, List.setIfInBounds_toArray, List.set_cons_zero, List.set_cons_succ]
        refine' wpAnyH_take (i := 8) (oi := { dst := some 22, op := Op.move (Operand.tmp 0), type := 47, pos := "ref.go:29", after := #[{ on := 7, ground := Ground.guard }], guard := some (7, true) }) (v := undef) rfl (by kernel_rfl) (by kernel_rfl) (by kernel_rfl) (fun _ _ _ h => h) (.inr ⟨by rfl, rfl⟩) (by assumption) ?qz9
        try simp only [Act.put, List.setIfInBounds_toArray, List.set_cons_zero, List.set_cons_succ]
        refine' wpAnyH_take (i := 9) (oi := { dst := some 23, op := Op.move (Operand.tmp 7), type := 3, pos := "ref.go:29", after := #[{ on := 7, ground := Ground.guard }], guard := some (7, true) }) (v := undef) rfl (by kernel_rfl) (by kernel_rfl) (by kernel_rfl) (fun _ _ _ h => h) (.inr ⟨by rfl, rfl⟩) (by assumption) ?qz10
        try simp only [Act.put, List.setIfInBounds_toArray, List.set_cons_zero, List.set_cons_succ]
        refine' wpAnyH_take (i := 10) (oi := { dst := some 24, op := Op.indexAddr 47 (Operand.tmp 22) (Operand.tmp 23), type := 0, pos := "ref.go:29", after := #[{ on := 8, ground := Ground.data }, { on := 9, ground := Ground.data }, { on := 7, ground := Ground.guard }], guard := some (7, true) }) (v := undef) rfl (by kernel_rfl) (by kernel_rfl) (by kernel_rfl) (fun _ _ _ h => h) (.inr ⟨by rfl, rfl⟩) (by assumption) ?qz11
        try simp only [Act.put, List.setIfInBounds_toArray, List.set_cons_zero, List.set_cons_succ]
        refine' wpAnyH_take (i := 11) (oi := { dst := some 25, op := Op.fieldAddr 49 (Operand.tmp 24) 1, type := 0, pos := "ref.go:29", after := #[{ on := 10, ground := Ground.data }, { on := 7, ground := Ground.guard }], guard := some (7, true) }) (v := undef) rfl (by kernel_rfl) (by kernel_rfl) (by kernel_rfl) (fun _ _ _ h => h) (.inr ⟨by rfl, rfl⟩) (by assumption) ?qz12
        try simp only [Act.put, List.setIfInBounds_toArray, List.set_cons_zero, List.set_cons_succ]
        refine' wpAnyH_take (i := 12) (oi := { dst := some 26, op := Op.load 38 (Operand.tmp 25), type := 38, pos := "ref.go:29", after := #[{ on := 11, ground := Ground.data }, { on := 7, ground := Ground.guard }], guard := some (7, true) }) (v := undef) rfl (by kernel_rfl) (by kernel_rfl) (by kernel_rfl) (fun _ _ _ h => h) (.inr ⟨by rfl, rfl⟩) (by assumption) ?qz13
        try simp only [Act.put, List.setIfInBounds_toArray, List.set_cons_zero, List.set_cons_succ]
        refine' wpAnyH_take (i := 13) (oi := { dst := some 27, op := Op.move (Operand.tmp 2), type := 38, pos := "ref.go:29", after := #[{ on := 7, ground := Ground.guard }], guard := some (7, true) }) (v := undef) rfl (by kernel_rfl) (by kernel_rfl) (by kernel_rfl) (fun _ _ _ h => h) (.inr ⟨by rfl, rfl⟩) (by assumption) ?qz14
        try simp only [Act.put, List.setIfInBounds_toArray, List.set_cons_zero, List.set_cons_succ]
        refine' wpAnyH_take (i := 14) (oi := { dst := some 28, op := Op.binOp BinOp.eql 38 (Operand.tmp 26) (Operand.tmp 27) 38, type := 4, pos := "ref.go:29", after := #[{ on := 12, ground := Ground.data }, { on := 13, ground := Ground.data }, { on := 7, ground := Ground.guard }], guard := some (7, true) }) (v := undef) rfl (by kernel_rfl) (by kernel_rfl) (by kernel_rfl) (fun _ _ _ h => h) (.inr ⟨by rfl, rfl⟩) (by assumption) ?qz15
        try simp only [Act.put, List.setIfInBounds_toArray, List.set_cons_zero, List.set_cons_succ]
        refine' wpAnyH_take (i := 15) (oi := { dst := some 29, op := Op.pick (Operand.tmp 21) (Operand.tmp 28) (Operand.const (Value.bool false)), type := 4, pos := "ref.go:29", after := #[{ on := 7, ground := Ground.data }, { on := 14, ground := Ground.data }], guard := none }) (v := .bool false) rfl (by kernel_rfl) (by kernel_rfl) (by kernel_rfl) (fun _ _ _ h => h) (Or.inl ⟨by rfl, fun w' hSw => by go_simp⟩) (by assumption) ?qz16
        try simp only [Act.put, List.setIfInBounds_toArray, List.set_cons_zero, List.set_cons_succ]
        refine wpAnyH_done (by kernel_rfl) ?_ _
        go_wp2_with fail
        go_roundw
        case rel =>
          refine ⟨i + 1, by omega, by go_num, fun j hj hji => ?_, HG.out.trans (grown_drew _)⟩
          by_cases e : j = i
          · subst e
            rw [← HX.out, HH.out]
            rfl
          · exact HNO.out j hj (by omega)
        case measure => simp [intOf]; omega
      | true =>
        by_cases hxn : xn = n
        · have e1 : (xn == n) = true := by simp [hxn]
          have E1 := Lib.hid e1
          have d2 : ((xn : Int) == (n : Int)) = true := by simp; omega
          have D2 := Lib.hid d2
          clear e1 d2 hxn
          go_wp2_with fail
          refine wp_region_held_drew (S := fun W => W.rangeAt b (o + 65 * i) (u8s xr) ∧ W.rangeAt g4 0 (u8s r) ∧ W.cell? ⟨b, o + 65 * i + 32, none⟩ = some (.int .u16 (xn : Int))) (by kernel_rfl) ⟨RR.out, range_of RB.out, RN.out⟩ (fun hHeld => ?_)
          refine' wpAnyH_take (i := 0) (oi := { dst := some 14, op := Op.move (Operand.tmp 0), type := 47, pos := "ref.go:29", after := #[], guard := none }) (v := .slice (some ⟨b, o, none⟩) m c) rfl (by kernel_rfl) (by kernel_rfl) (by kernel_rfl) (fun _ _ _ h => h) (Or.inl ⟨by rfl, fun w' hSw => by go_simp⟩) (by assumption) ?qz2001
          try simp only [Act.put, List.setIfInBounds_toArray, List.set_cons_zero, List.set_cons_succ]
          refine' wpAnyH_take (i := 1) (oi := { dst := some 15, op := Op.move (Operand.tmp 7), type := 3, pos := "ref.go:29", after := #[], guard := none }) (v := .int .i64 (i : Int)) rfl (by kernel_rfl) (by kernel_rfl) (by kernel_rfl) (fun _ _ _ h => h) (Or.inl ⟨by rfl, fun w' hSw => by go_simp⟩) (by assumption) ?qz2002
          try simp only [Act.put, List.setIfInBounds_toArray, List.set_cons_zero, List.set_cons_succ]
          refine' wpAnyH_take (i := 2) (oi := { dst := some 16, op := Op.indexAddr 47 (Operand.tmp 14) (Operand.tmp 15), type := 0, pos := "ref.go:29", after := #[{ on := 0, ground := Ground.data }, { on := 1, ground := Ground.data }], guard := none }) (v := .pointer (some ⟨b, o + 65 * i, none⟩)) rfl (by kernel_rfl) (by kernel_rfl) (by kernel_rfl) (fun _ _ _ h => h) (yieldsIf_indexK (by rfl) (.tmp 14) (.tmp 15) rfl b o m c i rfl rfl HLT.out) (by assumption) ?qz2003
          try simp only [Act.put, List.setIfInBounds_toArray, List.set_cons_zero, List.set_cons_succ]
          refine' wpAnyH_take (i := 3) (oi := { dst := some 17, op := Op.fieldAddr 49 (Operand.tmp 16) 0, type := 0, pos := "ref.go:29", after := #[{ on := 2, ground := Ground.data }], guard := none }) (v := .pointer (some ⟨b, o + 65 * i, none⟩)) rfl (by kernel_rfl) (by kernel_rfl) (by kernel_rfl) (fun _ _ _ h => h) (Or.inl ⟨by rfl, fun w' hSw => by go_simp⟩) (by assumption) ?qz2004
          try simp only [Act.put, List.setIfInBounds_toArray, List.set_cons_zero, List.set_cons_succ]
          refine' wpAnyH_take (i := 4) (oi := { dst := some 18, op := Op.load 24 (Operand.tmp 17), type := 24, pos := "ref.go:29", after := #[{ on := 3, ground := Ground.data }], guard := none }) (v := .agg (u8s xr).toArray) rfl (by kernel_rfl) (by kernel_rfl) (by kernel_rfl) (fun _ _ _ h => h) (yieldsIf_loadR agY (by rfl) (.tmp 17) rfl b (o + 65 * i) rfl (by rw [u8s_length, XL.out]) (fun _ h => h.1)) (by assumption) ?qz2005
          try simp only [Act.put, List.setIfInBounds_toArray, List.set_cons_zero, List.set_cons_succ]
          refine' wpAnyH_take (i := 5) (oi := { dst := some 19, op := Op.load 22 (Operand.tmp 4), type := 22, pos := "ref.go:29", after := #[], guard := none }) (v := .agg (u8s r).toArray) rfl (by kernel_rfl) (by kernel_rfl) (by kernel_rfl) (fun _ _ _ h => h) (yieldsIf_loadR agA (by rfl) (.tmp 4) rfl g4 0 rfl (by rw [u8s_length, HR.out]) (fun _ h => h.2.1)) (by assumption) ?qz2006
          try simp only [Act.put, List.setIfInBounds_toArray, List.set_cons_zero, List.set_cons_succ]
          refine' wpAnyH_take (i := 6) (oi := { dst := some 20, op := Op.binOp BinOp.eql 24 (Operand.tmp 18) (Operand.tmp 19) 24, type := 4, pos := "ref.go:29", after := #[{ on := 4, ground := Ground.data }, { on := 5, ground := Ground.data }], guard := none }) (v := .bool true) rfl (by kernel_rfl) (by kernel_rfl) (by kernel_rfl) (fun _ _ _ h => h) (yieldsIf_eqlY (by rfl) (.tmp 18) (.tmp 19) rfl xr r rfl rfl XL.out HR.out true HBB.out) (by assumption) ?qz2007
          try simp only [Act.put, List.setIfInBounds_toArray, List.set_cons_zero, List.set_cons_succ]
          refine' wpAnyH_take (i := 7) (oi := { dst := some 21, op := Op.move (Operand.tmp 20), type := 4, pos := "ref.go:29", after := #[{ on := 6, ground := Ground.data }], guard := none }) (v := .bool true) rfl (by kernel_rfl) (by kernel_rfl) (by kernel_rfl) (fun _ _ _ h => h) (Or.inl ⟨by rfl, fun w' hSw => by go_simp⟩) (by assumption) ?qz2008
          try simp only [Act.put, List.setIfInBounds_toArray, List.set_cons_zero, List.set_cons_succ]
          refine' wpAnyH_take (i := 8) (oi := { dst := some 22, op := Op.move (Operand.tmp 0), type := 47, pos := "ref.go:29", after := #[{ on := 7, ground := Ground.guard }], guard := some (7, true) }) (v := .slice (some ⟨b, o, none⟩) m c) rfl (by kernel_rfl) (by kernel_rfl) (by kernel_rfl) (fun _ _ _ h => h) (Or.inl ⟨by rfl, fun w' hSw => by go_simp⟩) (by assumption) ?qz2009
          try simp only [Act.put, List.setIfInBounds_toArray, List.set_cons_zero, List.set_cons_succ]
          refine' wpAnyH_take (i := 9) (oi := { dst := some 23, op := Op.move (Operand.tmp 7), type := 3, pos := "ref.go:29", after := #[{ on := 7, ground := Ground.guard }], guard := some (7, true) }) (v := .int .i64 (i : Int)) rfl (by kernel_rfl) (by kernel_rfl) (by kernel_rfl) (fun _ _ _ h => h) (Or.inl ⟨by rfl, fun w' hSw => by go_simp⟩) (by assumption) ?qz2010
          try simp only [Act.put, List.setIfInBounds_toArray, List.set_cons_zero, List.set_cons_succ]
          refine' wpAnyH_take (i := 10) (oi := { dst := some 24, op := Op.indexAddr 47 (Operand.tmp 22) (Operand.tmp 23), type := 0, pos := "ref.go:29", after := #[{ on := 8, ground := Ground.data }, { on := 9, ground := Ground.data }, { on := 7, ground := Ground.guard }], guard := some (7, true) }) (v := .pointer (some ⟨b, o + 65 * i, none⟩)) rfl (by kernel_rfl) (by kernel_rfl) (by kernel_rfl) (fun _ _ _ h => h) (yieldsIf_indexK (by rfl) (.tmp 22) (.tmp 23) rfl b o m c i rfl rfl HLT.out) (by assumption) ?qz2011
          try simp only [Act.put, List.setIfInBounds_toArray, List.set_cons_zero, List.set_cons_succ]
          refine' wpAnyH_take (i := 11) (oi := { dst := some 25, op := Op.fieldAddr 49 (Operand.tmp 24) 1, type := 0, pos := "ref.go:29", after := #[{ on := 10, ground := Ground.data }, { on := 7, ground := Ground.guard }], guard := some (7, true) }) (v := .pointer (some ⟨b, o + 65 * i + 32, none⟩)) rfl (by kernel_rfl) (by kernel_rfl) (by kernel_rfl) (fun _ _ _ h => h) (Or.inl ⟨by rfl, fun w' hSw => by go_simp⟩) (by assumption) ?qz2012
          try simp only [Act.put, List.setIfInBounds_toArray, List.set_cons_zero, List.set_cons_succ]
          refine' wpAnyH_take (i := 12) (oi := { dst := some 26, op := Op.load 38 (Operand.tmp 25), type := 38, pos := "ref.go:29", after := #[{ on := 11, ground := Ground.data }, { on := 7, ground := Ground.guard }], guard := some (7, true) }) (v := .int .u16 (xn : Int)) rfl (by kernel_rfl) (by kernel_rfl) (by kernel_rfl) (fun _ _ _ h => h) (Or.inl ⟨by rfl, fun w' hSw => by have h3 := hSw.2.2; go_simp⟩) (by assumption) ?qz2013
          try simp only [Act.put, List.setIfInBounds_toArray, List.set_cons_zero, List.set_cons_succ]
          refine' wpAnyH_take (i := 13) (oi := { dst := some 27, op := Op.move (Operand.tmp 2), type := 38, pos := "ref.go:29", after := #[{ on := 7, ground := Ground.guard }], guard := some (7, true) }) (v := .int .u16 (n : Int)) rfl (by kernel_rfl) (by kernel_rfl) (by kernel_rfl) (fun _ _ _ h => h) (Or.inl ⟨by rfl, fun w' hSw => by go_simp⟩) (by assumption) ?qz2014
          try simp only [Act.put, List.setIfInBounds_toArray, List.set_cons_zero, List.set_cons_succ]
          refine' wpAnyH_take (i := 14) (oi := { dst := some 28, op := Op.binOp BinOp.eql 38 (Operand.tmp 26) (Operand.tmp 27) 38, type := 4, pos := "ref.go:29", after := #[{ on := 12, ground := Ground.data }, { on := 13, ground := Ground.data }, { on := 7, ground := Ground.guard }], guard := some (7, true) }) (v := .bool true) rfl (by kernel_rfl) (by kernel_rfl) (by kernel_rfl) (fun _ _ _ h => h) (Or.inl ⟨by rfl, fun w' hSw => by have h4 := D2.out; go_simp⟩) (by assumption) ?qz2015
          try simp only [Act.put, List.setIfInBounds_toArray, List.set_cons_zero, List.set_cons_succ]
          refine' wpAnyH_take (i := 15) (oi := { dst := some 29, op := Op.pick (Operand.tmp 21) (Operand.tmp 28) (Operand.const (Value.bool false)), type := 4, pos := "ref.go:29", after := #[{ on := 7, ground := Ground.data }, { on := 14, ground := Ground.data }], guard := none }) (v := .bool true) rfl (by kernel_rfl) (by kernel_rfl) (by kernel_rfl) (fun _ _ _ h => h) (Or.inl ⟨by rfl, fun w' hSw => by go_simp⟩) (by assumption) ?qz2016
          try simp only [Act.put, List.setIfInBounds_toArray, List.set_cons_zero, List.set_cons_succ]
          refine wpAnyH_done (by kernel_rfl) ?_ _
          go_wp2_with fail
          go_ret
          refine ⟨?_, G1.out.trans (HG.out.trans (grown_drew _))⟩
          rw [plc_here hil HNO.out (by rw [← HX.out, HH.out, E1.out]; rfl)]
          rfl
        · have e1 : (xn == n) = false := by simp [hxn]
          have E1 := Lib.hid e1
          have d2 : ((xn : Int) == (n : Int)) = false := by simp; omega
          have D2 := Lib.hid d2
          clear e1 d2 hxn
          go_wp2_with fail
          refine wp_region_held_drew (S := fun W => W.rangeAt b (o + 65 * i) (u8s xr) ∧ W.rangeAt g4 0 (u8s r) ∧ W.cell? ⟨b, o + 65 * i + 32, none⟩ = some (.int .u16 (xn : Int))) (by kernel_rfl) ⟨RR.out, range_of RB.out, RN.out⟩ (fun hHeld => ?_)
          refine' wpAnyH_take (i := 0) (oi := { dst := some 14, op := Op.move (Operand.tmp 0), type := 47, pos := "ref.go:29", after := #[], guard := none }) (v := .slice (some ⟨b, o, none⟩) m c) rfl (by kernel_rfl) (by kernel_rfl) (by kernel_rfl) (fun _ _ _ h => h) (Or.inl ⟨by rfl, fun w' hSw => by go_simp⟩) (by assumption) ?qz1001
          try simp only [Act.put, List.setIfInBounds_toArray, List.set_cons_zero, List.set_cons_succ]
          refine' wpAnyH_take (i := 1) (oi := { dst := some 15, op := Op.move (Operand.tmp 7), type := 3, pos := "ref.go:29", after := #[], guard := none }) (v := .int .i64 (i : Int)) rfl (by kernel_rfl) (by kernel_rfl) (by kernel_rfl) (fun _ _ _ h => h) (Or.inl ⟨by rfl, fun w' hSw => by go_simp⟩) (by assumption) ?qz1002
          try simp only [Act.put, List.setIfInBounds_toArray, List.set_cons_zero, List.set_cons_succ]
          refine' wpAnyH_take (i := 2) (oi := { dst := some 16, op := Op.indexAddr 47 (Operand.tmp 14) (Operand.tmp 15), type := 0, pos := "ref.go:29", after := #[{ on := 0, ground := Ground.data }, { on := 1, ground := Ground.data }], guard := none }) (v := .pointer (some ⟨b, o + 65 * i, none⟩)) rfl (by kernel_rfl) (by kernel_rfl) (by kernel_rfl) (fun _ _ _ h => h) (yieldsIf_indexK (by rfl) (.tmp 14) (.tmp 15) rfl b o m c i rfl rfl HLT.out) (by assumption) ?qz1003
          try simp only [Act.put, List.setIfInBounds_toArray, List.set_cons_zero, List.set_cons_succ]
          refine' wpAnyH_take (i := 3) (oi := { dst := some 17, op := Op.fieldAddr 49 (Operand.tmp 16) 0, type := 0, pos := "ref.go:29", after := #[{ on := 2, ground := Ground.data }], guard := none }) (v := .pointer (some ⟨b, o + 65 * i, none⟩)) rfl (by kernel_rfl) (by kernel_rfl) (by kernel_rfl) (fun _ _ _ h => h) (Or.inl ⟨by rfl, fun w' hSw => by go_simp⟩) (by assumption) ?qz1004
          try simp only [Act.put, List.setIfInBounds_toArray, List.set_cons_zero, List.set_cons_succ]
          refine' wpAnyH_take (i := 4) (oi := { dst := some 18, op := Op.load 24 (Operand.tmp 17), type := 24, pos := "ref.go:29", after := #[{ on := 3, ground := Ground.data }], guard := none }) (v := .agg (u8s xr).toArray) rfl (by kernel_rfl) (by kernel_rfl) (by kernel_rfl) (fun _ _ _ h => h) (yieldsIf_loadR agY (by rfl) (.tmp 17) rfl b (o + 65 * i) rfl (by rw [u8s_length, XL.out]) (fun _ h => h.1)) (by assumption) ?qz1005
          try simp only [Act.put, List.setIfInBounds_toArray, List.set_cons_zero, List.set_cons_succ]
          refine' wpAnyH_take (i := 5) (oi := { dst := some 19, op := Op.load 22 (Operand.tmp 4), type := 22, pos := "ref.go:29", after := #[], guard := none }) (v := .agg (u8s r).toArray) rfl (by kernel_rfl) (by kernel_rfl) (by kernel_rfl) (fun _ _ _ h => h) (yieldsIf_loadR agA (by rfl) (.tmp 4) rfl g4 0 rfl (by rw [u8s_length, HR.out]) (fun _ h => h.2.1)) (by assumption) ?qz1006
          try simp only [Act.put, List.setIfInBounds_toArray, List.set_cons_zero, List.set_cons_succ]
          refine' wpAnyH_take (i := 6) (oi := { dst := some 20, op := Op.binOp BinOp.eql 24 (Operand.tmp 18) (Operand.tmp 19) 24, type := 4, pos := "ref.go:29", after := #[{ on := 4, ground := Ground.data }, { on := 5, ground := Ground.data }], guard := none }) (v := .bool true) rfl (by kernel_rfl) (by kernel_rfl) (by kernel_rfl) (fun _ _ _ h => h) (yieldsIf_eqlY (by rfl) (.tmp 18) (.tmp 19) rfl xr r rfl rfl XL.out HR.out true HBB.out) (by assumption) ?qz1007
          try simp only [Act.put, List.setIfInBounds_toArray, List.set_cons_zero, List.set_cons_succ]
          refine' wpAnyH_take (i := 7) (oi := { dst := some 21, op := Op.move (Operand.tmp 20), type := 4, pos := "ref.go:29", after := #[{ on := 6, ground := Ground.data }], guard := none }) (v := .bool true) rfl (by kernel_rfl) (by kernel_rfl) (by kernel_rfl) (fun _ _ _ h => h) (Or.inl ⟨by rfl, fun w' hSw => by go_simp⟩) (by assumption) ?qz1008
          try simp only [Act.put, List.setIfInBounds_toArray, List.set_cons_zero, List.set_cons_succ]
          refine' wpAnyH_take (i := 8) (oi := { dst := some 22, op := Op.move (Operand.tmp 0), type := 47, pos := "ref.go:29", after := #[{ on := 7, ground := Ground.guard }], guard := some (7, true) }) (v := .slice (some ⟨b, o, none⟩) m c) rfl (by kernel_rfl) (by kernel_rfl) (by kernel_rfl) (fun _ _ _ h => h) (Or.inl ⟨by rfl, fun w' hSw => by go_simp⟩) (by assumption) ?qz1009
          try simp only [Act.put, List.setIfInBounds_toArray, List.set_cons_zero, List.set_cons_succ]
          refine' wpAnyH_take (i := 9) (oi := { dst := some 23, op := Op.move (Operand.tmp 7), type := 3, pos := "ref.go:29", after := #[{ on := 7, ground := Ground.guard }], guard := some (7, true) }) (v := .int .i64 (i : Int)) rfl (by kernel_rfl) (by kernel_rfl) (by kernel_rfl) (fun _ _ _ h => h) (Or.inl ⟨by rfl, fun w' hSw => by go_simp⟩) (by assumption) ?qz1010
          try simp only [Act.put, List.setIfInBounds_toArray, List.set_cons_zero, List.set_cons_succ]
          refine' wpAnyH_take (i := 10) (oi := { dst := some 24, op := Op.indexAddr 47 (Operand.tmp 22) (Operand.tmp 23), type := 0, pos := "ref.go:29", after := #[{ on := 8, ground := Ground.data }, { on := 9, ground := Ground.data }, { on := 7, ground := Ground.guard }], guard := some (7, true) }) (v := .pointer (some ⟨b, o + 65 * i, none⟩)) rfl (by kernel_rfl) (by kernel_rfl) (by kernel_rfl) (fun _ _ _ h => h) (yieldsIf_indexK (by rfl) (.tmp 22) (.tmp 23) rfl b o m c i rfl rfl HLT.out) (by assumption) ?qz1011
          try simp only [Act.put, List.setIfInBounds_toArray, List.set_cons_zero, List.set_cons_succ]
          refine' wpAnyH_take (i := 11) (oi := { dst := some 25, op := Op.fieldAddr 49 (Operand.tmp 24) 1, type := 0, pos := "ref.go:29", after := #[{ on := 10, ground := Ground.data }, { on := 7, ground := Ground.guard }], guard := some (7, true) }) (v := .pointer (some ⟨b, o + 65 * i + 32, none⟩)) rfl (by kernel_rfl) (by kernel_rfl) (by kernel_rfl) (fun _ _ _ h => h) (Or.inl ⟨by rfl, fun w' hSw => by go_simp⟩) (by assumption) ?qz1012
          try simp only [Act.put, List.setIfInBounds_toArray, List.set_cons_zero, List.set_cons_succ]
          refine' wpAnyH_take (i := 12) (oi := { dst := some 26, op := Op.load 38 (Operand.tmp 25), type := 38, pos := "ref.go:29", after := #[{ on := 11, ground := Ground.data }, { on := 7, ground := Ground.guard }], guard := some (7, true) }) (v := .int .u16 (xn : Int)) rfl (by kernel_rfl) (by kernel_rfl) (by kernel_rfl) (fun _ _ _ h => h) (Or.inl ⟨by rfl, fun w' hSw => by have h3 := hSw.2.2; go_simp⟩) (by assumption) ?qz1013
          try simp only [Act.put, List.setIfInBounds_toArray, List.set_cons_zero, List.set_cons_succ]
          refine' wpAnyH_take (i := 13) (oi := { dst := some 27, op := Op.move (Operand.tmp 2), type := 38, pos := "ref.go:29", after := #[{ on := 7, ground := Ground.guard }], guard := some (7, true) }) (v := .int .u16 (n : Int)) rfl (by kernel_rfl) (by kernel_rfl) (by kernel_rfl) (fun _ _ _ h => h) (Or.inl ⟨by rfl, fun w' hSw => by go_simp⟩) (by assumption) ?qz1014
          try simp only [Act.put, List.setIfInBounds_toArray, List.set_cons_zero, List.set_cons_succ]
          refine' wpAnyH_take (i := 14) (oi := { dst := some 28, op := Op.binOp BinOp.eql 38 (Operand.tmp 26) (Operand.tmp 27) 38, type := 4, pos := "ref.go:29", after := #[{ on := 12, ground := Ground.data }, { on := 13, ground := Ground.data }, { on := 7, ground := Ground.guard }], guard := some (7, true) }) (v := .bool false) rfl (by kernel_rfl) (by kernel_rfl) (by kernel_rfl) (fun _ _ _ h => h) (Or.inl ⟨by rfl, fun w' hSw => by have h4 := D2.out; go_simp⟩) (by assumption) ?qz1015
          try simp only [Act.put, List.setIfInBounds_toArray, List.set_cons_zero, List.set_cons_succ]
          refine' wpAnyH_take (i := 15) (oi := { dst := some 29, op := Op.pick (Operand.tmp 21) (Operand.tmp 28) (Operand.const (Value.bool false)), type := 4, pos := "ref.go:29", after := #[{ on := 7, ground := Ground.data }, { on := 14, ground := Ground.data }], guard := none }) (v := .bool false) rfl (by kernel_rfl) (by kernel_rfl) (by kernel_rfl) (fun _ _ _ h => h) (Or.inl ⟨by rfl, fun w' hSw => by go_simp⟩) (by assumption) ?qz1016
          try simp only [Act.put, List.setIfInBounds_toArray, List.set_cons_zero, List.set_cons_succ]
          refine wpAnyH_done (by kernel_rfl) ?_ _
          go_wp2_with fail
          go_roundw
          case rel =>
            refine ⟨i + 1, by omega, by go_num, fun j hj hji => ?_, HG.out.trans (grown_drew _)⟩
            by_cases e : j = i
            · subst e
              rw [← HX.out, HH.out, E1.out]
              rfl
            · exact HNO.out j hj (by omega)
          case measure => simp [intOf]; omega
    · have d1 : ¬ (i : Int) < (m : Int) := by omega
      have hmi : i = m := by omega
      have HMI := Lib.hid hmi
      clear hmi
      go_wp2
      go_ret
      refine ⟨?_, G1.out.trans HG.out⟩
      rw [plc_none fun j hj => HNO.out j hj (by rw [HMI.out, ← HM.out]; exact hj)]
      rfl
end Go.Proofs.YtdnkeaokgkiloaaDoor
