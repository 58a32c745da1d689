/- OctetCut: what is cut off a joined text, or put behind it, is refused. Conditions: none. -/
import Derived.Test.YtogikipoedbklaaSplits
namespace Go.Proofs.Ytogikipoedbklaa
open Go.RowKit

theorem own_empty (w : World) (B : Nat) (hB : B ≤ w.heap.size) : (w.alloc (.cells #[] 5)).ownsRow B 5 1 (.slice (some ⟨w.heap.size, 0, none⟩) 0 0) 0 (u8s []) := World.ownsRow_lit w #[] 0 hB (Nat.zero_le _) rfl
theorem below_alloc_empty {w : World} {B : Nat} (hB : B ≤ w.heap.size) : Below B w (w.alloc (.cells #[] 5)) := (Below.refl B w).alloc hB _
theorem more_end (a b : Bool) (h : a = b) : Ending.returned (.bool (a == b)) = .returned (.bool true) := by subst h; simp

set_option maxHeartbeats 1000000 in
theorem cut_great {w : World} {A B : Option Addr} {ps : List (List UInt8)} {more : List UInt8} {c d : Nat} {cut : Int} (hx : Lst w (fun b => b < w.heap.size) A ps) (hm : ps.length ≤ maxLen) (hy : Byt w (fun b => b < w.heap.size) B more)
    (hbig : 10000 < more.length) : Calls Try.prog 7 #[.slice A ps.length c, .int .i64 cut, .slice B more.length d] w fun e w' => e = .returned (.bool true) ∧ Below w.heap.size w w' := by
  have d1 : decide (10000 < (more.length : Int)) = true := by simp; omega
  go_enter Try.func7, Try.ntmps7
  go_wp2_with fail
  go_at_call 9
  refine (alive_any _).mono ?_
  rintro e w1 ⟨rfl, hb1⟩
  have hx1 := hx.below hb1 fun b hb => hb
  have hy1 := hy.below hb1 fun b hb => hb
  go_wp2_with fail
  go_at_call 16
  refine (great_any hx1 hm).mono ?_
  rintro e w2 ⟨b, rfl, rfl⟩
  cases b with
  | true =>
    go_wp2
    go_ret
    exact ⟨rfl, hb1⟩
  | false =>
    go_wp2
    go_ret
    exact ⟨rfl, hb1⟩

set_option maxHeartbeats 1000000 in
theorem cut_none {w : World} {A B : Option Addr} {ps : List (List UInt8)} {more : List UInt8} {c d : Nat} {cut : Int} (hx : Lst w (fun b => b < w.heap.size) A ps) (hm : ps.length ≤ maxLen) (hy : Byt w (fun b => b < w.heap.size) B more)
    (hbig : more.length ≤ 10000) (hf : ¬ Fit ps) : Calls Try.prog 7 #[.slice A ps.length c, .int .i64 cut, .slice B more.length d] w fun e w' => e = .returned (.bool true) ∧ Below w.heap.size w w' := by
  have d1 : decide (10000 < (more.length : Int)) = false := by simp; omega
  have HF := Lib.hid hf
  clear hf
  go_enter Try.func7, Try.ntmps7
  go_wp2_with fail
  go_at_call 9
  refine (alive_any _).mono ?_
  rintro e w1 ⟨rfl, hb1⟩
  have hx1 := hx.below hb1 fun b hb => hb
  have hy1 := hy.below hb1 fun b hb => hb
  go_wp2_with fail
  go_at_call 16
  refine (great_any hx1 hm).mono ?_
  rintro e w2 ⟨b, rfl, rfl⟩
  cases b with
  | true =>
    go_wp2
    go_ret
    exact ⟨rfl, hb1⟩
  | false =>
    go_wp2_with fail
    go_at_call 17
    refine (join_no hx1 hm HF.out).mono ?_
    rintro e w2 ⟨he, rfl⟩
    obtain rfl : e = .returned (.tuple #[.slice none 0 0, .bool false]) := he
    go_wp2
    go_ret
    exact ⟨rfl, hb1⟩

set_option maxHeartbeats 1000000 in
theorem cut_in {w : World} {A B : Option Addr} {ps : List (List UInt8)} {more : List UInt8} {c d : Nat} {k : Nat} (hx : Lst w (fun b => b < w.heap.size) A ps) (hm : ps.length ≤ maxLen) (hy : Byt w (fun b => b < w.heap.size) B more)
    (hbig : more.length ≤ 10000) (hf : Fit ps) (hk : k < (jn ps).length) : Calls Try.prog 7 #[.slice A ps.length c, .int .i64 k, .slice B more.length d] w fun e w' => e = .returned (.bool true) ∧ Below w.heap.size w w' := by
  have d1 : decide (10000 < (more.length : Int)) = false := by simp; omega
  have HF := Lib.hid hf
  have hjl : (jn ps).length ≤ 262273 := jn_length ps hf
  obtain ⟨n, hn⟩ : ∃ n, (jn ps).length = n := ⟨_, rfl⟩
  rw [hn] at hjl hk
  have HN := Lib.hid hn
  obtain ⟨m, hmm⟩ : ∃ m, more.length = m := ⟨_, rfl⟩
  rw [hmm] at hbig d1 ⊢
  have HM := Lib.hid hmm
  obtain ⟨err, herr⟩ : ∃ err, (if more = [] then 0 else 21) = err := ⟨_, rfl⟩
  obtain ⟨rs, hrs⟩ : ∃ rs, (if more = [] then ps else []) = rs := ⟨_, rfl⟩
  have HS : Hid (split (jn ps ++ more) = (rs, err)) := by
    show split (jn ps ++ more) = _
    rw [split_more ps more hf, ← herr, ← hrs]
    split <;> rfl
  have HE : Hid (((err : Int) == 21) = decide (0 < m)) := by
    show ((err : Int) == 21) = _
    rw [← herr, ← hmm]
    by_cases e : more = []
    · rw [if_pos e, e]; rfl
    · rw [if_neg e]
      have : 0 < more.length := List.length_pos_iff.2 e
      rw [decide_eq_true this]; rfl
  have d2 : decide ((0 : Int) ≤ (k : Int)) = true := by simp
  have d3 : decide ((k : Int) < (n : Int)) = true := by simp; omega
  have HC : Hid (split ((jn ps).take k) = ([], 20)) := split_cut ps hf k (by rw [hn]; exact hk)
  have HT : Hid (((jn ps).take k).length = k) := by
    show ((jn ps).take k).length = k
    rw [List.length_take, hn]; omega
  clear hf hn hmm herr hrs
  go_enter Try.func7, Try.ntmps7
  go_wp2_with fail
  go_at_call 9
  refine (alive_any _).mono ?_
  rintro e w1 ⟨rfl, hb1⟩
  have hx1 := hx.below hb1 fun b hb => hb
  have hy1 := hy.below hb1 fun b hb => hb
  go_wp2_with fail
  go_at_call 16
  refine (great_any hx1 hm).mono ?_
  rintro e w2 ⟨b, rfl, rfl⟩
  cases b with
  | true =>
    go_wp2
    go_ret
    exact ⟨rfl, hb1⟩
  | false =>
    go_wp2_with fail
    go_at_call 17
    refine (join_yes hx1 (fun b hb => Nat.lt_of_lt_of_le hb hb1.size) HF.out).mono ?_
    intro e w2 h2
    obtain ⟨A2, c2, rfl, h21, h22, h23, h24⟩ := h2.n HN.out
    clear h2
    have hb2 : Below w.heap.size w w2 := hb1.trans (h24.mono hb1.size)
    have hy2 := hy1.below h24 fun b hb => Nat.lt_of_lt_of_le hb hb1.size
    unfold maxLen at h22
    obtain ⟨i0, hi, hz0, hz1, hz2⟩ := info_parts Try.info5
    have xk := h23.take k
    have q1 : (k : Int) ≤ (c2 : Int) := by omega
    have q2 : (0 : Int) ≤ (k : Int) := by omega
    go_wp2_with fail
    go_at_call 19
    refine (split_n HT.out xk (fun g hg => hg.2) (by omega) (by unfold maxLen; omega) HC.out rfl).mono ?_
    rintro e w3 ⟨A3, c3, rfl, h31, h32, h33, h34⟩
    have hb3 : Below w.heap.size w w3 := hb2.trans (h34.mono hb2.size)
    have x3 : Byt w3 (fun b => b < w3.heap.size) A2 (jn ps) := (h23.below h34 fun b hb => hb.2).imp fun b hb => Nat.lt_of_lt_of_le hb.2 h34.size
    have hy3 := hy2.below h34 fun b hb => Nat.lt_of_lt_of_le hb hb2.size
    clear xk
    have ho3 := own_empty w3 w.heap.size hb3.size
    have hx4 := x3.below (below_alloc_empty (w := w3) (Nat.le_refl _)) fun b hb => hb
    have hy4 := hy3.below (below_alloc_empty (w := w3) hb3.size) fun b hb => hb
    have hb4 := hb3.alloc hb3.size (.cells #[] 5)
    go_wp2_with (at_builtin; refine wpList_append_byt_n _ rfl _ _ 24 rfl w.heap.size i0 (.int .u8 0) Try.underlying24 hi hz0 hz1 hz2 rfl _ _ _ rfl ho3 _ A2 _ n (jn ps) HN.out rfl hx4 ?c1 ?c2 ?_)
    case c1 => omega
    case c2 => exact hb4.size
    intro v5 w5 hown5 hgrow5 hat5
    have hb5 : Below w.heap.size w w5 := hb4.grown hgrow5 hb4.size fun g hg => (ho3.lt g hg).1
    have hbb : Below w.heap.size w3 w5 := ((Below.refl w.heap.size w3).alloc hb3.size _).grown hgrow5 hb4.size fun g hg => (ho3.lt g hg).1
    have hy5 := hy3.below hbb fun b hb => hb
    go_wp2_with (at_builtin; refine wpList_append_byt_n _ rfl _ _ 24 rfl w.heap.size i0 (.int .u8 0) Try.underlying24 hi hz0 hz1 hz2 rfl _ _ _ rfl hown5 _ B _ m more HM.out rfl hy5 ?c3 ?c4 ?_)
    case c3 => omega
    case c4 => exact hb5.size
    intro v6 w6 hown6 hgrow6 hat6
    have hb6 : Below w.heap.size w w6 := hb5.grown hgrow6 hb5.size fun g hg => (hown5.lt g hg).1
    have hlen : (jn ps ++ more).length = n + m := by rw [List.length_append, HN.out, HM.out]
    obtain ⟨A6, c6, rfl, g1, g2, g3⟩ := own_form_n (xs := jn ps ++ more) (by simpa using hown6) hlen
    have HL := Lib.hid hlen
    clear hown5 hown6 hgrow5 hgrow6 hat5 hat6 ho3 hx4 hy4 hy5 hbb hlen
    go_wp2_with fail
    go_at_call 19
    refine (split_n HL.out g3 (fun g hg => hg.2.2) g1 g2 HS.out rfl).mono ?_
    rintro e w7 ⟨A7, c7, rfl, h71, h72, h73, h74⟩
    have hb7 : Below w.heap.size w w7 := hb6.trans (h74.mono hb6.size)
    go_wp2
    go_ret
    exact ⟨more_end _ _ HE.out, hb7⟩

set_option maxHeartbeats 1000000 in
theorem cut_out {w : World} {A B : Option Addr} {ps : List (List UInt8)} {more : List UInt8} {c d : Nat} {cut : Int} (hx : Lst w (fun b => b < w.heap.size) A ps) (hm : ps.length ≤ maxLen) (hy : Byt w (fun b => b < w.heap.size) B more)
    (hbig : more.length ≤ 10000) (hf : Fit ps) (hk : cut < 0 ∨ ((jn ps).length : Int) ≤ cut) : Calls Try.prog 7 #[.slice A ps.length c, .int .i64 cut, .slice B more.length d] w fun e w' => e = .returned (.bool true) ∧ Below w.heap.size w w' := by
  have d1 : decide (10000 < (more.length : Int)) = false := by simp; omega
  have HF := Lib.hid hf
  have hjl : (jn ps).length ≤ 262273 := jn_length ps hf
  obtain ⟨n, hn⟩ : ∃ n, (jn ps).length = n := ⟨_, rfl⟩
  rw [hn] at hjl hk
  have HN := Lib.hid hn
  obtain ⟨m, hmm⟩ : ∃ m, more.length = m := ⟨_, rfl⟩
  rw [hmm] at hbig d1 ⊢
  have HM := Lib.hid hmm
  obtain ⟨err, herr⟩ : ∃ err, (if more = [] then 0 else 21) = err := ⟨_, rfl⟩
  obtain ⟨rs, hrs⟩ : ∃ rs, (if more = [] then ps else []) = rs := ⟨_, rfl⟩
  have HS : Hid (split (jn ps ++ more) = (rs, err)) := by
    show split (jn ps ++ more) = _
    rw [split_more ps more hf, ← herr, ← hrs]
    split <;> rfl
  have HE : Hid (((err : Int) == 21) = decide (0 < m)) := by
    show ((err : Int) == 21) = _
    rw [← herr, ← hmm]
    by_cases e : more = []
    · rw [if_pos e, e]; rfl
    · rw [if_neg e]
      have : 0 < more.length := List.length_pos_iff.2 e
      rw [decide_eq_true this]; rfl
  have d2 : decide ((0 : Int) ≤ cut) = false ∨ (decide ((0 : Int) ≤ cut) = true ∧ decide (cut < (n : Int)) = false) := by
    by_cases h : 0 ≤ cut
    · right; constructor
      · simpa using h
      · simp; omega
    · left; simpa using h
  have H2 := Lib.hid d2
  clear d2
  clear hf hn hmm herr hrs
  go_enter Try.func7, Try.ntmps7
  go_wp2_with fail
  go_at_call 9
  refine (alive_any _).mono ?_
  rintro e w1 ⟨rfl, hb1⟩
  have hx1 := hx.below hb1 fun b hb => hb
  have hy1 := hy.below hb1 fun b hb => hb
  go_wp2_with fail
  go_at_call 16
  refine (great_any hx1 hm).mono ?_
  rintro e w2 ⟨b, rfl, rfl⟩
  cases b with
  | true =>
    go_wp2
    go_ret
    exact ⟨rfl, hb1⟩
  | false =>
    go_wp2_with fail
    go_at_call 17
    refine (join_yes hx1 (fun b hb => Nat.lt_of_lt_of_le hb hb1.size) HF.out).mono ?_
    intro e w2 h2
    obtain ⟨A2, c2, rfl, h21, h22, h23, h24⟩ := h2.n HN.out
    clear h2
    have hb2 : Below w.heap.size w w2 := hb1.trans (h24.mono hb1.size)
    have hy2 := hy1.below h24 fun b hb => Nat.lt_of_lt_of_le hb hb1.size
    unfold maxLen at h22
    obtain ⟨i0, hi, hz0, hz1, hz2⟩ := info_parts Try.info5
    have hb3 := hb2
    have x3 : Byt w2 (fun b => b < w2.heap.size) A2 (jn ps) := h23.imp fun b hb => hb.2
    have hy3 := hy2
    rcases H2.out with d2 | ⟨d2, d3⟩
    all_goals
      have ho3 := own_empty w2 w.heap.size hb3.size
      have hx4 := x3.below (below_alloc_empty (w := w2) (Nat.le_refl _)) fun b hb => hb
      have hy4 := hy3.below (below_alloc_empty (w := w2) hb3.size) fun b hb => hb
      have hb4 := hb3.alloc hb3.size (.cells #[] 5)
      go_wp2_with (at_builtin; refine wpList_append_byt_n _ rfl _ _ 24 rfl w.heap.size i0 (.int .u8 0) Try.underlying24 hi hz0 hz1 hz2 rfl _ _ _ rfl ho3 _ A2 _ n (jn ps) HN.out rfl hx4 ?c1 ?c2 ?_)
      case c1 => omega
      case c2 => exact hb4.size
      intro v5 w5 hown5 hgrow5 hat5
      have hb5 : Below w.heap.size w w5 := hb4.grown hgrow5 hb4.size fun g hg => (ho3.lt g hg).1
      have hbb : Below w.heap.size w2 w5 := ((Below.refl w.heap.size w2).alloc hb3.size _).grown hgrow5 hb4.size fun g hg => (ho3.lt g hg).1
      have hy5 := hy3.below hbb fun b hb => hb
      go_wp2_with (at_builtin; refine wpList_append_byt_n _ rfl _ _ 24 rfl w.heap.size i0 (.int .u8 0) Try.underlying24 hi hz0 hz1 hz2 rfl _ _ _ rfl hown5 _ B _ m more HM.out rfl hy5 ?c3 ?c4 ?_)
      case c3 => omega
      case c4 => exact hb5.size
      intro v6 w6 hown6 hgrow6 hat6
      have hb6 : Below w.heap.size w w6 := hb5.grown hgrow6 hb5.size fun g hg => (hown5.lt g hg).1
      have hlen : (jn ps ++ more).length = n + m := by rw [List.length_append, HN.out, HM.out]
      obtain ⟨A6, c6, rfl, g1, g2, g3⟩ := own_form_n (xs := jn ps ++ more) (by simpa using hown6) hlen
      have HL := Lib.hid hlen
      clear hown5 hown6 hgrow5 hgrow6 hat5 hat6 ho3 hx4 hy4 hy5 hbb hlen
      go_wp2_with fail
      go_at_call 19
      refine (split_n HL.out g3 (fun g hg => hg.2.2) g1 g2 HS.out rfl).mono ?_
      rintro e w7 ⟨A7, c7, rfl, h71, h72, h73, h74⟩
      have hb7 : Below w.heap.size w w7 := hb6.trans (h74.mono hb6.size)
      go_wp2
      go_ret
      exact ⟨more_end _ _ HE.out, hb7⟩

open Go.ChangeShapes Go.WideShapes Go.ChangeAt

theorem cut_walk {w : World} {A B : Option Addr} {ps : List (List UInt8)} {more : List UInt8} {c d : Nat} {cut : Int} (hx : Lst w (fun b => b < w.heap.size) A ps) (hm : ps.length ≤ maxLen) (hy : Byt w (fun b => b < w.heap.size) B more) :
    Calls Try.prog 7 #[.slice A ps.length c, .int .i64 cut, .slice B more.length d] w fun e w' => e = .returned (.bool true) ∧ Below w.heap.size w w' := by
  by_cases h1 : 10000 < more.length
  · exact cut_great hx hm hy h1
  by_cases h2 : Fit ps
  · by_cases h3 : cut < 0 ∨ ((jn ps).length : Int) ≤ cut
    · exact cut_out hx hm hy (by omega) h2 h3
    · obtain ⟨k, rfl⟩ : ∃ k : Nat, cut = k := ⟨cut.toNat, by omega⟩
      exact cut_in hx hm hy (by omega) h2 (by omega)
  · exact cut_none hx hm hy (by omega) h2

set_option maxRecDepth 100000 in
theorem cut_lifted (os : Os) (started : os.Started) (H : Type) (enc : TypeId × Value → H) :
    ReturnsInHanded {} Try.checked os 7 .any (Rows.octetCutSpec.pre6 enc Try.prog Try.f7 Rows.octetCutRow.domain false) (Rows.octetCutSpec.post enc Try.prog Try.f7 false true false false) := by
  refine returnsInHanded_of_change (C := Try.checked) own_knob started (by kernel_rfl) Try.func7
    (ChangeSpec.witness6 (enc := enc) (C := Try.checked) false ⟨#[], #[.slice none 0 0, .int .i64 0, .slice none 0 0], []⟩ 8 (by kernel_rfl) (by kernel_rfl) (by kernel_rfl) (by kernel_rfl)) ?_
  intro W base args ds gs before hval0 hW _ _
  have hval : ∀ (j : Nat) t v, Try.f7.params[j]? = some t → args[j]? = some v → Value.okWide Try.prog W .any base t v := hval0
  have hW' := hW
  obtain ⟨p, q, hA0, hV, rfl, _, _⟩ := hW
  have hA : DataW.TrodAll enc Try.prog W 0 (fun _ => true) true Try.f7.params.toList args.toList ds p := hA0
  rw [Try.params7] at hA hval
  obtain ⟨v0, vs0, d0, ds0, p0, q0, hargs, rfl, rfl, h0, r0⟩ := trodAll_cons hA
  obtain ⟨v1, vs1, d1, ds1, p1, q1, rfl, rfl, rfl, h1, r1⟩ := trodAll_cons r0
  obtain ⟨v2, vs2, d2, ds2, p2, q2, rfl, rfl, rfl, h2, r2⟩ := trodAll_cons r1
  obtain ⟨rfl, rfl, rfl⟩ := trodAll_nil r2
  obtain rfl : args = #[v0, v1, v2] := by cases args; simp_all
  obtain ⟨rfl, rfl⟩ := trodVars_none hV
  obtain ⟨A, ps, c, rfl, hm, hx⟩ := open_lst (hval 0 36 v0 rfl rfl) h0
  obtain ⟨a1, rfl, rfl, rfl, w1⟩ := open_int Try.underlying3 (hval 1 3 v1 rfl rfl) h1
  obtain ⟨B, more, d, rfl, _, _, hy⟩ := open_byt (hval 2 24 v2 rfl rfl) h2
  clear hA0 hval0
  simp only [List.append_nil, List.nil_append] at hW'
  refine (cut_walk (c := c) (d := d) (cut := a1) hx hm hy).mono fun e W' ⟨he, hg⟩ => ?_
  subst he
  refine ⟨_, rfl, ?_⟩
  have hback0 := Below.trod laid_out read36 row36 h0 hg (fun x hx => hW'.lt x (by simp [hx]))
  have hback2 := Below.trod laid_out read24 row24 h2 hg (fun x hx => hW'.lt x (by simp [hx]))
  refine ⟨_, _, _, [], p0 ++ ([] ++ p2), [], hW', trodAll_mk1 (shut_bool Try.underlying4 true), trodAll_mk3 hback0 (shut_int Try.underlying3 w1) hback2, rfl, hg.frame _, fun h => by cases h⟩

theorem cut_over : Rows.octetCutRow.holds Try.pinned (OpenSpec.ofChange Rows.octetCutSpec) :=
  OpenClaim.holds_of_wide 7 Try.f7 rfl rfl rfl rfl rfl rfl rfl ⟨rfl, rfl, rfl, rfl, rfl⟩ rfl rfl rfl rfl rfl (by kernel_rfl) Try.func7 (by kernel_rfl)
    (of_decide_eq_true (by kernel_rfl)) (by unfold Func.isWrapper; first | (rw [if_pos (by decide +kernel)]; kernel_rfl) | (rw [if_neg (by decide +kernel)]; exact ⟨rfl, rfl⟩))
    (fun os started H enc _ => cut_lifted os started H enc)

theorem cut_holds : Rows.OctetCutSaid := cut_over
#print axioms cut_holds

end Go.Proofs.Ytogikipoedbklaa
