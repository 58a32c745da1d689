/- number reads the number of the name with which bytes begin. Conditions: the limit is at most 100000. -/
import Derived.Test.YtbhfjjlfpgineaaName
import Derived.Test.YtbhfjjlfpgineaaShelf
namespace Go.Proofs.Ytbhfjjlfpgineaa
open Go.RowKit
open Extern.Stop (cell)

theorem size5 (w : World) : (sizeOf 5).run Try.prog w = .ok 1 w := by kernel_rfl
set_option maxRecDepth 100000 in
theorem run_neq_arr (T : TypeId) (n : Nat) (hT : Try.prog.underlying T = some (.array n 5)) (xs ys : List UInt8) (hx : xs.length = n) (hy : ys.length = n) (w : World) :
    (binOp .neq T (.agg (u8s xs).toArray) (.agg (u8s ys).toArray)).run Try.prog w = .ok (.bool (!(xs == ys))) w := by
  have h : (binOp .neq T (.agg (xs.map cell).toArray) (.agg (ys.map cell).toArray)).run Try.prog w = .ok (.bool (!(xs == ys))) w := by
    rw [run_neq_struct, run_equalIn_bytes w 9998 T 5 n hT Try.underlying5 size5 xs ys hx hy]
    rfl
  exact h
theorem guard94 : Try.prog.eqGuardType Try.prog.depth 94 = false := by kernel_rfl
theorem run_build94 (w : World) : (Instr.build 94 #[]).run Try.prog w = .ok (.agg (u8s (List.replicate 24 0)).toArray) w := by kernel_rfl
def z24 : List UInt8 := List.replicate 24 0
theorem z24_length : z24.length = 24 := rfl

section
variable {w : World} {ops : Array Oper} {rest : List Oper} {o : Oper} {a : Act} {Q : Exit → Act → World → Prop}
theorem wpList_load24 (hw : Region.wanted o (yielded ops a.tmps) = true) (x : Operand) (ho : o.op = .load 94 x) (b off : Nat) (hx : a.eval x = .pointer (some ⟨b, off, none⟩)) (xs : List UInt8) (hc : w.rangeAt b off (u8s xs)) (hl : xs.length = 24)
    (h : wpList Try.prog ops Q rest (a.put o.dst (.agg (u8s xs).toArray)) w) : wpList Try.prog ops Q (o :: rest) a w :=
  wpList_step fun K hK => by
    rw [if_pos hw]
    exact wp_load_mid 94 x ho b off hx (u8s xs) _ hc Try.underlying94 rfl (by rw [u8s_length, hl]; kernel_rfl) (hK _ _ h)
theorem wpList_build24 (hw : Region.wanted o (yielded ops a.tmps) = true) (ho : o.op = .build 94 #[])
    (h : wpList Try.prog ops Q rest (a.put o.dst (.agg (u8s z24).toArray)) w) : wpList Try.prog ops Q (o :: rest) a w :=
  wpList_step fun K hK => by
    rw [if_pos hw]
    have hrun : (Instr.build 94 #[]).run Try.prog w = .ok (.agg (u8s z24).toArray) w := run_build94 w
    unfold Oper.wp
    simp [execOp, ho, hrun, Result.andThen]
    exact hK _ _ h
theorem wpList_neq24 (hw : Region.wanted o (yielded ops a.tmps) = true) (x y : Operand) (ho : o.op = .binOp .neq 94 x y 94) (xs ys : List UInt8) (hx : a.eval x = .agg (u8s xs).toArray) (hy : a.eval y = .agg (u8s ys).toArray) (hlx : xs.length = 24) (hly : ys.length = 24) (t : Bool) (ht : (!(xs == ys)) = t)
    (h : wpList Try.prog ops Q rest (a.put o.dst (.bool t)) w) : wpList Try.prog ops Q (o :: rest) a w :=
  wpList_step fun K hK => by
    rw [if_pos hw]
    have hrun := run_neq_arr 94 24 Try.underlying94 xs ys hlx hly w
    rw [ht] at hrun
    unfold Oper.wp execOp
    simp only [ho, hx, hy, hrun, run_eqGuard_agg _ _ _ _ _ _ _ guard94, Sem.run_bind, Result.andThen_ok]
    exact hK _ _ h
end

theorem num_short (b : List UInt8) (below : Nat) (h : b.length < 32) : num b below = 0 := by
  unfold num; rw [if_neg (by omega)]
theorem num_other (b : List UInt8) (below : Nat) (h : b.take 4 ≠ mark) : num b below = 0 := by
  unfold num; rw [if_neg (fun hc => h hc.2.1)]
theorem num_tail (b : List UInt8) (below : Nat) (h : (b.drop 8).take 24 ≠ z24) : num b below = 0 := by
  unfold num; rw [if_neg (fun hc => h hc.2.2.1)]
theorem num_yes (b : List UInt8) (below k : Nat) (h1 : 32 ≤ b.length) (h2 : b.take 4 = mark) (h3 : (b.drop 8).take 24 = z24) (hk : nb ((b.drop 4).take 4) = k) : num b below = if k < below then k else 0 := by
  unfold num
  rw [hk]
  by_cases h : k < below
  · rw [if_pos ⟨h1, h2, h3, h⟩, if_pos h]
  · rw [if_neg (fun hc => h hc.2.2.2), if_neg h]

/-- A number is told, and nothing has turned. -/
def Num (w : World) (n : Nat) (e : Ending) (w' : World) : Prop := e = .returned (.int .i64 n) ∧ w = w'
theorem num_mk {w : World} {m n : Nat} (h : n = m) : Num w n (.returned (.int .i64 m)) w := ⟨by rw [h], rfl⟩

theorem getV_four (xs : List UInt8) (h : xs.length = 4) : getV xs = .returned (.tuple #[.int .u64 (nb xs), .bool true]) := by
  rw [getV, if_pos (by omega)]
theorem get_four {w : World} {ok : Nat → Prop} {A : Option Addr} {xs : List UInt8} {c : Nat} (hx : Byt w ok A xs) (h : xs.length = 4) {k : Nat} (hk : nb xs = k) :
    Calls Try.prog 40 #[.slice A 4 c] w fun e w' => e = .returned (.tuple #[.int .u64 k, .bool true]) ∧ w = w' := by
  have := get_any (c := c) hx (by rw [h]; unfold maxLen; omega)
  rw [getV_four xs h, h, hk] at this
  exact this

set_option maxRecDepth 100000 in
set_option maxHeartbeats 1000000 in
theorem number_any {w : World} {ok : Nat → Prop} {A : Option Addr} {b : List UInt8} {c below : Nat} (hx : Byt w ok A b) (hc : b.length ≤ c) (hm : c ≤ maxLen) (hb : below ≤ 100000) :
    Calls Try.prog 25 #[.slice A b.length c, .int .i64 below] w (Num w (num b below)) := by
  unfold maxLen at hm
  by_cases h1 : b.length < 32
  · have e := num_short b below h1
    have d1 : decide ((b.length : Int) < 32) = true := by simp; omega
    have E := Lib.hid e
    clear e hx
    go_enter Try.func25, Try.ntmps25
    go_wp2
    go_ret
    exact num_mk E.out
  have d1 : decide ((b.length : Int) < 32) = false := by simp; omega
  have q1 : (4 : Int) ≤ (c : Int) := by omega
  have q2 : (8 : Int) ≤ (32 : Int) := by omega
  have q3 : (32 : Int) ≤ (c : Int) := by omega
  have q4 : (8 : Int) ≤ (c : Int) := by omega
  obtain ⟨ab, ao, rfl, hoka, -, -⟩ := at_two hx (by omega)
  have ht4 : (b.take 4).length = 4 := by rw [List.length_take]; omega
  have r1 := (hx.take 4).str c
  rw [ht4] at r1
  by_cases h2 : b.take 4 = mark
  · rw [h2] at r1
    have r1' : (convert 41 9 (.slice (some ⟨ab, ao, none⟩) 4 c)).run Try.prog w = .ok (.string { data := #[116, 101, 114, 109] }) w := r1
    clear r1
    have hr : w.rangeAt ab (ao + 8) (u8s ((b.drop 8).take 24)) := fun j v hv => by
      obtain ⟨hj, rfl⟩ := u8s_get _ j v hv
      rw [List.length_take, List.length_drop] at hj
      obtain ⟨ad, e, _, hcell⟩ := hx (8 + j) (by omega)
      cases e
      rw [Addr.add_lit] at hcell
      rw [Nat.add_assoc, hcell]
      simp
    have hl24 : ((b.drop 8).take 24).length = 24 := by rw [List.length_take, List.length_drop]; omega
    have hs : ∀ W : World, (Instr.arrayAt 94 (.slice (some ⟨ab, ao + 8, none⟩) 24 (c - 8))).run Try.prog W = .ok (.pointer (some ⟨ab, ao + 8, none⟩)) W := fun W => by
      simp [Instr.arrayAt, run_underlying Try.underlying94]
    have HR := Lib.hid hr
    have H24 := Lib.hid hl24
    clear hr hl24
    by_cases h3 : (b.drop 8).take 24 = z24
    · obtain ⟨k, hk⟩ : ∃ k, nb ((b.drop 4).take 4) = k := ⟨_, rfl⟩
      have e := num_yes b below k (by omega) h2 h3 hk
      have hk32 : k < 4294967296 := by
        have := nb_lt 4 ((b.drop 4).take 4) (by rw [List.length_take, List.length_drop]; omega)
        rw [hk] at this
        omega
      have HB : Hid (Calls Try.prog 40 #[.slice (some ⟨ab, ao + 4, none⟩) 4 (c - 4)] w fun e w' => e = .returned (.tuple #[.int .u64 k, .bool true]) ∧ w = w') := by
        have hd := (hx.drop (k := 4) (c := c) (by omega) hc).take 4
        rw [if_neg (by omega)] at hd
        exact get_four hd (by rw [List.length_take, List.length_drop]; omega) hk
      have c1 : IntKind.u64.wrap (below : Int) = (below : Int) := IntWalk.u64_in _ (by omega)
      have c2 : IntKind.i64.wrap (k : Int) = (k : Int) := IntWalk.i64_in _ (by omega)
      have EH := Lib.hid e
      have EK := Lib.hid hk
      have HN : Hid ((!((b.drop 8).take 24 == z24)) = false) := by
        show (!((b.drop 8).take 24 == z24)) = false
        rw [h3]; simp
      clear e hk h2 h3 hx ht4
      by_cases h4 : k < below
      · have d4 : decide (below ≤ k) = false := by simp; omega
        go_enter Try.func25, Try.ntmps25
        go_wp2_with (first | (refine wpList_load24 rfl (.tmp 19) rfl ab (ao + 8) rfl _ HR.out H24.out ?_) | (refine wpList_build24 rfl rfl ?_) | (refine wpList_neq24 rfl _ _ rfl _ _ rfl rfl H24.out z24_length _ HN.out ?_) | fail)
        go_at_call 40
        refine HB.out.mono ?_
        rintro e w2 ⟨rfl, rfl⟩
        go_wp2
        go_ret
        exact num_mk (by rw [EH.out, if_pos h4])
      · have d4 : decide (below ≤ k) = true := by simp; omega
        go_enter Try.func25, Try.ntmps25
        go_wp2_with (first | (refine wpList_load24 rfl (.tmp 19) rfl ab (ao + 8) rfl _ HR.out H24.out ?_) | (refine wpList_build24 rfl rfl ?_) | (refine wpList_neq24 rfl _ _ rfl _ _ rfl rfl H24.out z24_length _ HN.out ?_) | fail)
        go_at_call 40
        refine HB.out.mono ?_
        rintro e w2 ⟨rfl, rfl⟩
        go_wp2
        go_ret
        exact num_mk (by rw [EH.out, if_neg h4])
    · have e := num_tail b below h3
      have EH := Lib.hid e
      have HN : Hid ((!((b.drop 8).take 24 == z24)) = true) := by
        show (!((b.drop 8).take 24 == z24)) = true
        simpa using h3
      clear e h2 h3 hx ht4
      go_enter Try.func25, Try.ntmps25
      go_wp2_with (first | (refine wpList_load24 rfl (.tmp 19) rfl ab (ao + 8) rfl _ HR.out H24.out ?_) | (refine wpList_build24 rfl rfl ?_) | (refine wpList_neq24 rfl _ _ rfl _ _ rfl rfl H24.out z24_length _ HN.out ?_) | fail)
      go_ret
      exact num_mk EH.out
  · have e := num_other b below h2
    have EH := Lib.hid e
    obtain ⟨s, hs⟩ : ∃ s : ByteArray, (⟨(b.take 4).toArray⟩ : ByteArray) = s := ⟨_, rfl⟩
    have ds : ¬ s.toList = [116, 101, 114, 109] := by
      rw [← hs, Lib.toList_data]
      exact h2
    rw [hs] at r1
    clear e h2 hx ht4 hs
    go_enter Try.func25, Try.ntmps25
    go_wp2
    go_ret
    exact num_mk EH.out
end Go.Proofs.Ytbhfjjlfpgineaa
