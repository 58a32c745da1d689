/- The document's examples that stand ahead of each statement: they come out as they should. Conditions: none. -/
import Derived.Test.YtaobbhihjeggiaaPlace
namespace Go.Proofs.Ytaobbhihjeggiaa
open Go.RowKit Go.Shelf

attribute [local go_sem] Oper.semAt_some run_store_complex

theorem call20 (n : Int) (w : World) : (callFunc 20 #[.int .u64 n]).run Try.prog w = .ok (.value (.float .f64 n.toNat)) w := by
  rw [run_callFunc_extern (P := Try.prog) Try.func20 (by kernel_rfl) (by kernel_rfl) (by kernel_rfl) (e := Extern.MathFloatBits.float64frombits) (by kernel_rfl)]
  rfl
theorem call21 (b : Nat) (w : World) : (callFunc 21 #[.float .f64 b]).run Try.prog w = .ok (.value (.int .u64 b)) w := by
  rw [run_callFunc_extern (P := Try.prog) Try.func21 (by kernel_rfl) (by kernel_rfl) (by kernel_rfl) (e := Extern.MathFloatBits.float64bits) (by kernel_rfl)]
  rfl
theorem call22 (b : Nat) (w : World) (h : (Extern.MathFloor.toIntegral "math.archTrunc" .zero #[.float .f64 b]).run Try.prog w = .ok (.float .f64 b) w) : (callFunc 22 #[.float .f64 b]).run Try.prog w = .ok (.value (.float .f64 b)) w := by
  rw [run_callFunc_extern (P := Try.prog) Try.func22 (by kernel_rfl) (by kernel_rfl) (by kernel_rfl) (e := Extern.MathFloor.toIntegral "math.archTrunc" .zero) (by kernel_rfl), h]
  rfl

set_option maxHeartbeats 400000 in
/-- A part that is whole and near enough to 0. -/
theorem part_any (x : Nat) (h1 : (FloatKind.f64.format.order x 13920626448202203136 == some .gt || FloatKind.f64.format.order x 13920626448202203136 == some .eq) = true)
    (h2 : (FloatKind.f64.format.order x 4697254411347427328 == some .lt || FloatKind.f64.format.order x 4697254411347427328 == some .eq) = true)
    (h3 : ∀ w, (Extern.MathFloor.toIntegral "math.archTrunc" .zero #[.float .f64 x]).run Try.prog w = .ok (.float .f64 x) w)
    (h4 : (FloatKind.f64.format.order x x == some .eq) = true) (w : World) :
    Calls Try.prog 17 #[.float .f64 x] w fun e w' => e = .returned (.bool true) ∧ w = w' := by
  have h22 := fun w => call22 x w (h3 w)
  clear h3
  go_enter Try.func17, Try.ntmps17
  go_wp2
  go_ret
  exact ⟨rfl, rfl⟩

theorem part_2 (w : World) : Calls Try.prog 17 #[.float .f64 4611686018427387904] w fun e w' => e = .returned (.bool true) ∧ w = w' := part_any _ (by kernel_rfl) (by kernel_rfl) (fun w => by kernel_rfl) (by kernel_rfl) w
theorem part_1 (w : World) : Calls Try.prog 17 #[.float .f64 4607182418800017408] w fun e w' => e = .returned (.bool true) ∧ w = w' := part_any _ (by kernel_rfl) (by kernel_rfl) (fun w => by kernel_rfl) (by kernel_rfl) w
theorem part_m2 (w : World) : Calls Try.prog 17 #[.float .f64 13835058055282163712] w fun e w' => e = .returned (.bool true) ∧ w = w' := part_any _ (by kernel_rfl) (by kernel_rfl) (fun w => by kernel_rfl) (by kernel_rfl) w
theorem part_5 (w : World) : Calls Try.prog 17 #[.float .f64 4617315517961601024] w fun e w' => e = .returned (.bool true) ∧ w = w' := part_any _ (by kernel_rfl) (by kernel_rfl) (fun w => by kernel_rfl) (by kernel_rfl) w

set_option maxHeartbeats 400000 in
theorem mayBe_any (x y : Nat) (hx : ∀ w, Calls Try.prog 17 #[.float .f64 x] w fun e w' => e = .returned (.bool true) ∧ w = w') (hy : ∀ w, Calls Try.prog 17 #[.float .f64 y] w fun e w' => e = .returned (.bool true) ∧ w = w') (w : World) :
    Calls Try.prog 15 #[.complex .f64 x y] w fun e w' => e = .returned (.bool true) ∧ w = w' := by
  go_enter Try.func15, Try.ntmps15
  go_wp2_with fail
  go_at_call 17
  refine (hx _).mono ?_
  rintro e w' ⟨rfl, rfl⟩
  go_wp2_with fail
  go_at_call 17
  refine (hy _).mono ?_
  rintro e w' ⟨rfl, rfl⟩
  go_wp2
  go_ret
  exact ⟨rfl, rfl⟩

set_option maxHeartbeats 400000 in
theorem turn_ex (w : World) : Calls Try.prog 10 #[.complex .f64 4611686018427387904 4607182418800017408, .int .i64 1] w fun e w' => e = .returned (.tuple #[.complex .f64 13830554455654793216 4611686018427387904, .bool true]) ∧ w = w' := by
  have hmul := fun t w => run_complex_mul (P := Try.prog) w t 4611686018427387904 4607182418800017408 0 4607182418800017408 13830554455654793216 4611686018427387904 (by kernel_rfl)
  have ha1 := fun t w => run_float_arith (P := Try.prog) w .add t .f64 13830554455654793216 0 13830554455654793216 (by kernel_rfl)
  have ha2 := fun t w => run_float_arith (P := Try.prog) w .add t .f64 4611686018427387904 0 4611686018427387904 (by kernel_rfl)
  have hand : ∀ t w, (binOp .and t (.int .i64 1) (.int .i64 3)).run Try.prog w = .ok (.int .i64 1) w := fun t w => by kernel_rfl
  go_enter Try.func10, Try.ntmps10
  go_wp2_with fail
  go_at_call 15
  refine (mayBe_any _ _ part_2 part_1 _).mono ?_
  rintro e w' ⟨rfl, rfl⟩
  go_wp2
  go_loop [0, 11] (fun z i => (z = .complex .f64 4611686018427387904 4607182418800017408 ∧ i = .int .i64 0) ∨ (z = .complex .f64 13830554455654793216 4611686018427387904 ∧ i = .int .i64 1)) (fun _ i => 1 - (intOf i).toNat)
  case atStart => exact .inl ⟨rfl, rfl⟩
  case round =>
    rcases hrel with ⟨rfl, rfl⟩ | ⟨rfl, rfl⟩
    · go_wp2
      go_round
      case rel => exact .inr ⟨rfl, rfl⟩
      case measure => simp [intOf]
    · go_wp2
      go_ret2
      exact ⟨rfl, rfl⟩

set_option maxHeartbeats 400000 in
theorem abs_any (x y : Nat) (n : Int) (hn : (x : Int) = n) (hm : (bits .andNot .u64 n 9223372036854775808).toNat = y) (w : World) :
    Calls Try.prog 18 #[.float .f64 x] w fun e w' => e = .returned (.float .f64 y) ∧ w = w' := by
  have h21 : ∀ w, (callFunc 21 #[.float .f64 x]).run Try.prog w = .ok (.value (.int .u64 n)) w := fun w => by rw [call21, hn]
  have h20 : ∀ w, (callFunc 20 #[.int .u64 (bits .andNot .u64 n 9223372036854775808)]).run Try.prog w = .ok (.value (.float .f64 y)) w := fun w => by rw [call20, hm]
  clear hn hm
  go_enter Try.func18, Try.ntmps18
  go_wp2
  go_ret
  exact ⟨rfl, rfl⟩
theorem abs_3 (w : World) : Calls Try.prog 18 #[.float .f64 4613937818241073152] w fun e w' => e = .returned (.float .f64 4613937818241073152) ∧ w = w' :=
  abs_any _ _ 4613937818241073152 rfl (by kernel_rfl) w
theorem abs_m4 (w : World) : Calls Try.prog 18 #[.float .f64 13839561654909534208] w fun e w' => e = .returned (.float .f64 4616189618054758400) ∧ w = w' :=
  abs_any _ _ 13839561654909534208 rfl (by kernel_rfl) w

set_option maxHeartbeats 400000 in
theorem far_ex (w : World) : Calls Try.prog 16 #[.complex .f64 4607182418800017408 4607182418800017408, .complex .f64 13835058055282163712 4617315517961601024] w fun e w' => e = .returned (.int .i64 4) ∧ w = w' := by
  have hsub := fun t w => run_complex_sum (P := Try.prog) w .sub (Or.inr rfl) t .f64 4607182418800017408 4607182418800017408 13835058055282163712 4617315517961601024 4613937818241073152 13839561654909534208 (by kernel_rfl)
  have hmax : ∀ ts t w, (Builtin.max_ ts t #[.float .f64 4613937818241073152, .float .f64 4616189618054758400]).run Try.prog w = .ok (.float .f64 4616189618054758400) w := fun ts t w => by kernel_rfl
  have hcv := fun w => run_convert_float_int (P := Try.prog) w 30 3 .f64 .i64 4616189618054758400 4 (by kernel_rfl) (by kernel_rfl) (by kernel_rfl)
  go_enter Try.func16, Try.ntmps16
  go_wp2_with fail
  go_at_call 18
  refine (abs_3 _).mono ?_
  rintro e w' ⟨rfl, rfl⟩
  go_wp2_with fail
  go_at_call 18
  refine (abs_m4 _).mono ?_
  rintro e w' ⟨rfl, rfl⟩
  go_wp2
  go_ret
  exact ⟨rfl, rfl⟩

set_option maxHeartbeats 400000 in
theorem Far_ex (w : World) : Calls Try.prog 11 #[.complex .f64 4607182418800017408 4607182418800017408, .complex .f64 13835058055282163712 4617315517961601024] w fun e w' => e = .returned (.tuple #[.int .i64 4, .bool true]) ∧ w = w' := by
  go_enter Try.func11, Try.ntmps11
  go_wp2_with fail
  go_at_call 15
  refine (mayBe_any _ _ part_1 part_1 _).mono ?_
  rintro e w' ⟨rfl, rfl⟩
  go_wp2_with fail
  go_at_call 15
  refine (mayBe_any _ _ part_m2 part_5 _).mono ?_
  rintro e w' ⟨rfl, rfl⟩
  go_wp2_with fail
  go_at_call 16
  refine (far_ex _).mono ?_
  rintro e w' ⟨rfl, rfl⟩
  go_wp2
  go_ret2
  exact ⟨rfl, rfl⟩

theorem F_9x : F (px 9) = 4611686018427387904 := by kernel_rfl
theorem F_9y : F (py 9) = 13830554455654793216 := by kernel_rfl
theorem F_6x : F (px 6) = 13830554455654793216 := by kernel_rfl
theorem F_6y : F (py 6) = 13830554455654793216 := by kernel_rfl

theorem spot_any (m : Int) (w : World) : Calls Try.prog 6 #[.int .i64 m] w fun e W' => SpotPost m e ∧ Below w.heap.size w W' :=
  (callsIn_wide (n := 3)).1 (spot_in Fence.wide 3 trivial trivial rfl (by omega) m w)
theorem place_any (k : Nat) (hk : k < 4096) (w : World) : Calls Try.prog 9 #[.complex .f64 (F (px k)) (F (py k))] w fun e W' => e = .returned (.tuple #[.int .i64 (k : Int), .bool true]) ∧ Below w.heap.size w W' :=
  (callsIn_wide (n := 3)).1 (place_in Fence.wide 3 trivial trivial rfl (by omega) k hk w)

theorem spot_9 (w : World) : Calls Try.prog 6 #[.int .i64 9] w fun e W' => e = .returned (.tuple #[.complex .f64 4611686018427387904 13830554455654793216, .bool true]) ∧ Below w.heap.size w W' := by
  refine (spot_any 9 w).mono ?_
  rintro e W' ⟨h, hb⟩
  rcases h with ⟨k, _, hk, rfl⟩ | ⟨hk, _⟩
  · obtain rfl : k = 9 := by omega
    rw [F_9x, F_9y]; exact ⟨rfl, hb⟩
  · omega
theorem place_6 (w : World) : Calls Try.prog 9 #[.complex .f64 13830554455654793216 13830554455654793216] w fun e W' => e = .returned (.tuple #[.int .i64 6, .bool true]) ∧ Below w.heap.size w W' := by
  have h := place_any 6 (by omega) w
  rw [F_6x, F_6y] at h
  exact h

set_option maxHeartbeats 400000 in
theorem alive_any (w : World) : Calls Try.prog 5 #[] w fun e w' => e = .returned (.bool true) ∧ Below w.heap.size w w' := by
  have q1 : (FloatKind.f64.format.order 4611686018427387904 4611686018427387904 == some .eq) = true := by kernel_rfl
  have q2 : (FloatKind.f64.format.order 13830554455654793216 13830554455654793216 == some .eq) = true := by kernel_rfl
  go_enter Try.func5, Try.ntmps5
  go_wp2_with fail
  go_at_call 6
  refine (spot_9 _).mono ?_
  rintro e w1 ⟨rfl, hb1⟩
  go_wp2_with fail
  go_at_call 9
  refine (place_6 _).mono ?_
  rintro e w2 ⟨rfl, hb2⟩
  go_wp2_with fail
  go_at_call 10
  refine (turn_ex _).mono ?_
  rintro e w' ⟨rfl, rfl⟩
  go_wp2_with fail
  go_at_call 11
  refine (Far_ex _).mono ?_
  rintro e w' ⟨rfl, rfl⟩
  go_wp2
  go_ret
  exact ⟨rfl, hb1.trans (hb2.mono hb1.size)⟩

end Go.Proofs.Ytaobbhihjeggiaa
