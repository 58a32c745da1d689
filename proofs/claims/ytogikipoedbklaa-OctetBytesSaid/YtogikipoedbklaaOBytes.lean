/- OctetBytes: what bytes say as a number, and as a key, is the document's, whatever the bytes are. Conditions: none. -/
import Derived.Test.YtogikipoedbklaaKey
import Derived.Stop.BytesEq
import Derived.Laws.CopyOwn
namespace Go.Proofs.Ytogikipoedbklaa
open Go.RowKit

theorem getV_form (xs : List UInt8) : ∃ (v : Nat) (t : Bool), getV xs = .returned (.tuple #[.int .u64 v, .bool t]) := by
  unfold getV
  split
  · exact ⟨nb xs, true, rfl⟩
  · exact ⟨0, false, rfl⟩
theorem size5 (w : World) : (sizeOf 5).run Try.prog w = .ok 1 w := by kernel_rfl
theorem key_same (ks : List UInt8) (hl : ks.length = 32) (w : World) : (binOp .eql 32 (.agg (u8s ks).toArray) (.agg (u8s ks).toArray)).run Try.prog w = .ok (.bool true) w := by
  have h := run_eql_bytes (P := Try.prog) w 32 5 32 Try.underlying32 Try.underlying5 size5 ks ks hl hl
  rw [beq_self_eq_true] at h
  exact h
theorem key_load {w : World} {g : Nat} {ks : List UInt8} (hk : Key32 w g ks) (hl : ks.length = 32) : (Instr.loadAt 32 (.pointer (some ⟨g, 0, none⟩))).run Try.prog w = .ok (.agg (u8s ks).toArray) w := by
  simp only [Instr.loadAt, Instr.sureAddr, Sem.run_bind, Sem.run_pure, Result.andThen_ok, run_loadVar_row w g 32 32 _ (0, 0) _ hk Try.underlying32 rfl (by simp [size32, u8s_length, hl])]
theorem wpList_load32_g {w : World} {ops : Array Oper} {rest : List Oper} {o : Oper} {a : Act} {Q : Exit → Act → World → Prop} (hw : Region.wanted o (yielded ops a.tmps) = true) (x : Operand) (ho : o.op = .load 32 x) (g : Nat) (hx : a.eval x = .pointer (some ⟨g, 0, none⟩))
    (ks : List UInt8) (hk : Key32 w g ks) (hl : ks.length = 32) (h : wpList Try.prog ops Q rest (a.put o.dst (.agg (u8s ks).toArray)) w) : wpList Try.prog ops Q (o :: rest) a w :=
  wpList_step fun K hK => by
    rw [if_pos hw]
    exact wp_load_row 32 x ho g hx 32 _ (0, 0) _ hk Try.underlying32 rfl (by simp [size32, u8s_length, hl]) (hK _ _ h)
theorem guard32 : Try.prog.eqGuardType Try.prog.depth 32 = false := by kernel_rfl
theorem wpList_same32_g {w : World} {ops : Array Oper} {rest : List Oper} {o : Oper} {a : Act} {Q : Exit → Act → World → Prop} (hw : Region.wanted o (yielded ops a.tmps) = true) (x y : Operand) (ho : o.op = .binOp .eql 32 x y 32)
    (ks : List UInt8) (hx : a.eval x = .agg (u8s ks).toArray) (hy : a.eval y = .agg (u8s ks).toArray) (hl : ks.length = 32) (h : wpList Try.prog ops Q rest (a.put o.dst (.bool true)) w) : wpList Try.prog ops Q (o :: rest) a w :=
  wpList_step fun K hK => by
    rw [if_pos hw]
    have hrun := key_same ks hl w
    unfold Oper.wp execOp
    simp only [ho, hx, hy, hrun, run_eqGuard_agg _ _ _ _ _ _ _ guard32, Sem.run_bind, Result.andThen_ok]
    exact hK _ _ h
theorem get_v {w : World} {ok : Nat → Prop} {A : Option Addr} {xs : List UInt8} {c : Nat} {v : Nat} {t : Bool} (hx : Byt w ok A xs) (hm : xs.length ≤ maxLen) (hv : getV xs = .returned (.tuple #[.int .u64 v, .bool t])) :
    Calls Try.prog 13 #[.slice A xs.length c] w fun e w' => e = .returned (.tuple #[.int .u64 v, .bool t]) ∧ w = w' := by rw [← hv]; exact get_any hx hm
theorem refget_v {w : World} {ok : Nat → Prop} {A : Option Addr} {xs : List UInt8} {c : Nat} {v : Nat} {t : Bool} (hx : Byt w ok A xs) (hm : xs.length ≤ maxLen) (hv : getV xs = .returned (.tuple #[.int .u64 v, .bool t])) :
    Calls Try.prog 14 #[.slice A xs.length c] w fun e w' => e = .returned (.tuple #[.int .u64 v, .bool t]) ∧ w = w' := by rw [← hv]; exact refget_any hx hm

set_option maxRecDepth 100000 in
set_option maxHeartbeats 1000000 in
theorem obytes_other {w : World} {A : Option Addr} {b : List UInt8} {c : Nat} (hx : Byt w (fun g => g < w.heap.size) A b) (hc : b.length ≤ c) (hm : c ≤ maxLen) (h32 : b.length ≠ 32) :
    Calls Try.prog 4 #[.slice A b.length c] w fun e w' => e = .returned (.bool true) ∧ Below w.heap.size w w' := by
  have d1 : ((b.length : Int) == 32) = false := by rw [beq_eq_false_iff_ne]; omega
  obtain ⟨v, t, hv⟩ := getV_form b
  have HV := Lib.hid hv
  have HN := Lib.hid h32
  clear hv h32
  go_enter Try.func4, Try.ntmps4
  go_wp2_with fail
  go_at_call 9
  refine (alive_any _).mono ?_
  rintro e w1 ⟨rfl, hb1⟩
  have hx1 := hx.below hb1 fun b hb => hb
  go_wp2_with fail
  go_at_call 13
  refine (get_v hx1 (Nat.le_trans hc hm) HV.out).mono ?_
  rintro e w2 ⟨rfl, rfl⟩
  go_wp2_with fail
  go_at_call 14
  refine (refget_v hx1 (Nat.le_trans hc hm) HV.out).mono ?_
  rintro e w2 ⟨rfl, rfl⟩
  go_wp2_with fail
  go_at_call 15
  refine (key_no HN.out).mono ?_
  rintro e w2 ⟨rfl, hb2⟩
  have hb2' : Below w.heap.size w w2 := hb1.trans (hb2.mono hb1.size)
  go_wp2_with (refine wpList_alloc32 rfl rfl ?_)
  intro w3 hk3 hb3 hz3
  have HK3 := Lib.hid hk3
  have HZ3 := Lib.hid hz3
  have hb3' : Below w.heap.size w w3 := hb2'.trans (hb3.mono hb2'.size)
  clear hk3 hz3
  go_wp2_with (refine wpList_store32 rfl _ _ rfl w2.heap.size z32 z32 rfl rfl HK3.out z32_length z32_length w2.heap.size (Nat.le_refl _) ?_)
  intro w4 hk4 hb4 _ hz4
  have HK4 := Lib.hid hk4
  have HZ4 := Lib.hid (hz4.trans HZ3.out)
  have hb4' : Below w.heap.size w w4 := hb3'.trans (hb4.mono hb2'.size)
  clear hk4 hz4
  go_wp2_with (refine wpList_alloc32 rfl rfl ?_)
  intro w5 hk5 hb5 hz5
  have hb5' : Below w.heap.size w w5 := hb4'.trans (hb5.mono hb4'.size)
  have hk5' : Key32 w5 w2.heap.size z32 := (hb5.block _ (by have := HZ4.out; omega)).trans HK4.out
  have K5 := Lib.hid hk5
  have K5' := Lib.hid hk5'
  clear hk5 hk5' hz5
  go_wp2_with (first | (refine wpList_load32_g rfl (.tmp 7) rfl w2.heap.size rfl z32 K5'.out z32_length ?_) | (refine wpList_load32_g rfl (.tmp 9) rfl w4.heap.size rfl z32 K5.out z32_length ?_) | (refine wpList_same32_g rfl _ _ rfl z32 rfl rfl z32_length ?_) | fail)
  go_ret
  exact ⟨rfl, hb5'⟩

set_option maxRecDepth 100000 in
set_option maxHeartbeats 1000000 in
theorem obytes_key {w : World} {A : Option Addr} {b : List UInt8} {c : Nat} (hx : Byt w (fun g => g < w.heap.size) A b) (h32 : b.length = 32) :
    Calls Try.prog 4 #[.slice A b.length c] w fun e w' => e = .returned (.bool true) ∧ Below w.heap.size w w' := by
  obtain ⟨v, t, hv⟩ := getV_form b
  have hg1 : ∀ W : World, Byt W (fun g => g < w.heap.size) A b → Calls Try.prog 13 #[.slice A 32 c] W fun e w' => e = .returned (.tuple #[.int .u64 v, .bool t]) ∧ W = w' := fun W h => by
    have := get_v (c := c) h (by rw [h32]; unfold maxLen; omega) hv
    rwa [h32] at this
  have hg2 : ∀ W : World, Byt W (fun g => g < w.heap.size) A b → Calls Try.prog 14 #[.slice A 32 c] W fun e w' => e = .returned (.tuple #[.int .u64 v, .bool t]) ∧ W = w' := fun W h => by
    have := refget_v (c := c) h (by rw [h32]; unfold maxLen; omega) hv
    rwa [h32] at this
  have G1 := Lib.hid hg1
  have G2 := Lib.hid hg2
  rw [h32]
  have HN := Lib.hid h32
  clear hv h32 hg1 hg2
  go_enter Try.func4, Try.ntmps4
  go_wp2_with fail
  go_at_call 9
  refine (alive_any _).mono ?_
  rintro e w1 ⟨rfl, hb1⟩
  have hx1 := hx.below hb1 fun b hb => hb
  go_wp2_with fail
  go_at_call 13
  refine (G1.out _ hx1).mono ?_
  rintro e w2 ⟨rfl, rfl⟩
  go_wp2_with fail
  go_at_call 14
  refine (G2.out _ hx1).mono ?_
  rintro e w2 ⟨rfl, rfl⟩
  go_wp2_with fail
  go_at_call 15
  refine (key_yes hx1 (fun g hg => Nat.lt_of_lt_of_le hg hb1.size) HN.out).mono ?_
  rintro e w2 ⟨rfl, hb2⟩
  have hb2' : Below w.heap.size w w2 := hb1.trans (hb2.mono hb1.size)
  go_wp2_with (refine wpList_alloc32 rfl rfl ?_)
  intro w3 hk3 hb3 hz3
  have HK3 := Lib.hid hk3
  have HZ3 := Lib.hid hz3
  have hb3' : Below w.heap.size w w3 := hb2'.trans (hb3.mono hb2'.size)
  clear hk3 hz3
  go_wp2_with (refine wpList_store32 rfl _ _ rfl w2.heap.size z32 b rfl rfl HK3.out z32_length HN.out w2.heap.size (Nat.le_refl _) ?_)
  intro w4 hk4 hb4 _ hz4
  have HK4 := Lib.hid hk4
  have HZ4 := Lib.hid (hz4.trans HZ3.out)
  have hb4' : Below w.heap.size w w4 := hb3'.trans (hb4.mono hb2'.size)
  clear hk4 hz4
  go_wp2_with (refine wpList_alloc32 rfl rfl ?_)
  intro w5 hk5 hb5 hz5
  have hb5' : Below w.heap.size w w5 := hb4'.trans (hb5.mono hb4'.size)
  have hk5' : Key32 w5 w2.heap.size b := (hb5.block _ (by have := HZ4.out; omega)).trans HK4.out
  have hx5 := hx.below hb5' fun b hb => hb
  have K5 := Lib.hid hk5
  have K5' := Lib.hid hk5'
  clear hk5 hk5' hz5
  go_wp2_with (refine wpList_copy_splice rfl (.tmp 30) (.tmp 31) 24 24 rfl 5 Try.underlying24 ?s1 _ _ 32 32 32 _ rfl rfl w4.heap.size 0 (u8s z32) 32 K5.out (u8s b) ?s2 ?s3 ?s4 (u8s_one b) w4.heap.size w5 (Below.refl _ _) (Nat.le_refl _) ?_)
  case s1 => kernel_rfl
  case s2 => rw [u8s_length, HN.out]; rfl
  case s3 =>
    intro _
    obtain ⟨ad, rfl, _, hc⟩ := hx5.some_ (by rw [HN.out]; omega)
    refine ⟨ad, rfl, fun j v hv => ?_⟩
    obtain ⟨hj, rfl⟩ := u8s_get b j v hv
    exact hc j hj
  case s4 => rw [u8s_length, u8s_length, HN.out, z32_length]; omega
  intro w6 hk6 hb6
  have hspl : splice (u8s z32) 0 (u8s b) = u8s b := by
    unfold splice
    rw [List.take_zero, List.nil_append, List.drop_of_length_le (by rw [u8s_length, u8s_length, HN.out, z32_length]; omega), List.append_nil]
  have K6 : Hid (Key32 w6 w4.heap.size b) := by
    have h := hk6.out
    rw [hspl] at h
    exact h
  have hlt : w2.heap.size < w4.heap.size := by have := HZ4.out; omega
  have K6' : Hid (Key32 w6 w2.heap.size b) := (hb6.block _ hlt).trans K5'.out
  have hb6' : Below w.heap.size w w6 := hb5'.trans (hb6.mono hb4'.size)
  clear hk6 hspl hlt
  go_wp2_with (first | (refine wpList_load32_g rfl (.tmp 7) rfl w2.heap.size rfl b K6'.out HN.out ?_) | (refine wpList_load32_g rfl (.tmp 9) rfl w4.heap.size rfl b K6.out HN.out ?_) | (refine wpList_same32_g rfl _ _ rfl b rfl rfl HN.out ?_) | fail)
  go_ret
  exact ⟨rfl, hb6'⟩

open Go.ChangeShapes Go.WideShapes Go.ChangeAt

theorem obytes_walk {w : World} {A : Option Addr} {b : List UInt8} {c : Nat} (hx : Byt w (fun g => g < w.heap.size) A b) (hc : b.length ≤ c) (hm : c ≤ maxLen) :
    Calls Try.prog 4 #[.slice A b.length c] w fun e w' => e = .returned (.bool true) ∧ Below w.heap.size w w' := by
  by_cases h : b.length = 32
  · exact obytes_key hx h
  · exact obytes_other hx hc hm h

set_option maxRecDepth 100000 in
theorem obytes_lifted (os : Os) (started : os.Started) (H : Type) (enc : TypeId × Value → H) :
    ReturnsInHanded {} Try.checked os 4 .any (Rows.octetBytesSpec.pre6 enc Try.prog Try.f4 Rows.octetBytesRow.domain false) (Rows.octetBytesSpec.post enc Try.prog Try.f4 false true false false) := by
  refine returnsInHanded_of_change (C := Try.checked) own_knob started (by kernel_rfl) Try.func4
    (ChangeSpec.witness6 (enc := enc) (C := Try.checked) false ⟨#[], #[.slice none 0 0], []⟩ 8 (by kernel_rfl) (by kernel_rfl) (by kernel_rfl) (by kernel_rfl)) ?_
  intro W base args ds gs before hval0 hW _ _
  have hval : ∀ (j : Nat) t v, Try.f4.params[j]? = some t → args[j]? = some v → Value.okWide Try.prog W .any base t v := hval0
  have hW' := hW
  obtain ⟨p, q, hA0, hV, rfl, _, _⟩ := hW
  have hA : DataW.TrodAll enc Try.prog W 0 (fun _ => true) true Try.f4.params.toList args.toList ds p := hA0
  rw [Try.params4] at hA hval
  obtain ⟨v0, vs0, d0, ds0, p0, q0, hargs, rfl, rfl, h0, r0⟩ := trodAll_cons hA
  obtain ⟨rfl, rfl, rfl⟩ := trodAll_nil r0
  obtain rfl : args = #[v0] := by cases args; simp_all
  obtain ⟨rfl, rfl⟩ := trodVars_none hV
  obtain ⟨A, b, c, rfl, hc, hm, hx⟩ := open_byt (hval 0 24 v0 rfl rfl) h0
  clear hA0 hval0
  simp only [List.append_nil] at hW'
  refine (obytes_walk hx hc hm).mono fun e W' ⟨he, hg⟩ => ?_
  subst he
  refine ⟨_, rfl, ?_⟩
  have hback := Below.trod laid_out read24 row24 h0 hg (fun x hx => hW'.lt x hx)
  refine ⟨_, _, _, [], p0, [], hW', trodAll_mk1 (shut_bool Try.underlying4 true), trodAll_mk1 hback, rfl, hg.frame _, fun h => by cases h⟩

theorem obytes_over : Rows.octetBytesRow.holds Try.pinned (OpenSpec.ofChange Rows.octetBytesSpec) :=
  OpenClaim.holds_of_wide 4 Try.f4 rfl rfl rfl rfl rfl rfl rfl ⟨rfl, rfl, rfl, rfl, rfl⟩ rfl rfl rfl rfl rfl (by kernel_rfl) Try.func4 (by kernel_rfl)
    (of_decide_eq_true (by kernel_rfl)) (by unfold Func.isWrapper; first | (rw [if_pos (by decide +kernel)]; kernel_rfl) | (rw [if_neg (by decide +kernel)]; exact ⟨rfl, rfl⟩))
    (fun os started H enc _ => obytes_lifted os started H enc)

theorem obytes_holds : Rows.OctetBytesSaid := obytes_over
#print axioms obytes_holds

end Go.Proofs.Ytogikipoedbklaa
