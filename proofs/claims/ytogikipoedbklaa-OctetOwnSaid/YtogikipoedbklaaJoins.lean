/- OctetJoins: a joined text is the document's, and Split tells its pieces, whatever the list is. Conditions: none. -/
import Derived.Test.YtogikipoedbklaaOpen
import Derived.Test.YtogikipoedbklaaRefSplit
namespace Go.Proofs.Ytogikipoedbklaa
open Go.RowKit

theorem lists_n {w : World} {ok ok' : Nat → Prop} {A B : Option Addr} {ps qs : List (List UInt8)} {n m c d : Nat} (hn : ps.length = n) (hq : qs.length = m) (ha : Lst w ok A ps) (hb : Lst w ok' B qs) (hm : n ≤ maxLen) {t : Bool} (ht : decide (ps = qs) = t) :
    Calls Try.prog 20 #[.slice A n c, .slice B m d] w (Told w t) := by
  subst hn; subst hq; subst ht; exact lists_any ha hb hm
theorem below_told {B : Nat} {a w w' : World} (h : Below B a w) (ht : ∃ n, w' = w.drewN n) : Below B a w' := by
  obtain ⟨n, rfl⟩ := ht
  exact below_drewN h n

set_option maxHeartbeats 1000000 in
theorem joins_great {w : World} {A : Option Addr} {ps : List (List UInt8)} {c : Nat} (hx : Lst w (fun b => b < w.heap.size) A ps) (hm : ps.length ≤ maxLen) :
    Calls Try.prog 5 #[.slice A ps.length c] w fun e w' => e = .returned (.bool true) ∧ Below w.heap.size w w' := by
  by_cases hf : Fit ps
  · have HF := Lib.hid hf
    clear hf
    have hps : Hid (split (jn ps) = (ps, 0)) := split_jn ps HF.out
    have hjl : (jn ps).length ≤ 262273 := jn_length ps HF.out
    go_enter Try.func5, Try.ntmps5
    go_wp2_with fail
    go_at_call 9
    refine (alive_any _).mono ?_
    rintro e w1 ⟨rfl, hb1⟩
    have hx1 := hx.below hb1 fun b hb => hb
    go_wp2_with fail
    go_at_call 16
    refine (great_any hx1 hm).mono ?_
    rintro e w2 ⟨b, rfl, rfl⟩
    cases b with
    | true =>
      go_wp2
      go_ret
      exact ⟨rfl, hb1⟩
    | false =>
      go_wp2_with fail
      go_at_call 17
      refine (join_yes hx1 (fun b hb => Nat.lt_of_lt_of_le hb hb1.size) HF.out).mono ?_
      intro e w2 h2
      obtain ⟨n, hn⟩ : ∃ n, (jn ps).length = n := ⟨_, rfl⟩
      obtain ⟨A2, c2, rfl, h21, h22, h23, h24⟩ := h2.n hn
      have HN := Lib.hid hn
      rw [hn] at hjl
      clear h2 hn
      have hb2 : Below w.heap.size w w2 := hb1.trans (h24.mono hb1.size)
      have hx2 := hx1.below h24 fun b hb => Nat.lt_of_lt_of_le hb hb1.size
      go_wp2_with fail
      go_at_call 18
      refine (refjoin_any hx2 (fun b hb => Nat.lt_of_lt_of_le hb hb2.size) hm).mono ?_
      rintro e w3 (⟨_, h3⟩ | ⟨h, _⟩)
      · obtain ⟨A3, c3, rfl, -, -, h33, h34⟩ := h3.n HN.out
        have x2 := h23.below h34 fun b hb => hb.2
        have hb3 : Below w.heap.size w w3 := hb2.trans (h34.mono hb2.size)
        have hx3 := hx2.below h34 fun b hb => Nat.lt_of_lt_of_le hb hb2.size
        clear h3
        go_wp2_with fail
        go_at_call 12
        refine (bytes_n HN.out HN.out x2 h33 (decide_eq_true rfl)).mono ?_
        rintro e w4 ⟨rfl, rfl⟩
        go_wp2_with fail
        go_at_call 19
        refine (split_n HN.out x2 (fun g hg => Nat.lt_of_lt_of_le hg.2 h34.size) h21 h22 hps.out rfl).mono ?_
        rintro e w5 ⟨A5, c5, rfl, h51, h52, h53, h54⟩
        have hb5 : Below w.heap.size w w5 := hb3.trans (h54.mono hb3.size)
        have hx5 := hx3.below h54 fun b hb => Nat.lt_of_lt_of_le hb hb3.size
        go_wp2_with fail
        go_at_call 20
        refine (lists_n rfl rfl h53 hx5 hm (decide_eq_true rfl)).mono ?_
        rintro e w6 ⟨rfl, hd⟩
        have hb6 := below_told hb5 hd
        clear hd
        go_wp2
        go_ret
        exact ⟨rfl, hb6⟩
      · exact absurd HF.out h
  · have HF := Lib.hid hf
    clear hf
    go_enter Try.func5, Try.ntmps5
    go_wp2_with fail
    go_at_call 9
    refine (alive_any _).mono ?_
    rintro e w1 ⟨rfl, hb1⟩
    have hx1 := hx.below hb1 fun b hb => hb
    go_wp2_with fail
    go_at_call 16
    refine (great_any hx1 hm).mono ?_
    rintro e w2 ⟨b, rfl, rfl⟩
    cases b with
    | true =>
      go_wp2
      go_ret
      exact ⟨rfl, hb1⟩
    | false =>
      go_wp2_with fail
      go_at_call 17
      refine (join_no hx1 hm HF.out).mono ?_
      rintro e w2 ⟨he, rfl⟩
      obtain rfl : e = .returned (.tuple #[.slice none 0 0, .bool false]) := he
      go_wp2_with fail
      go_at_call 18
      refine (refjoin_any hx1 (fun b hb => Nat.lt_of_lt_of_le hb hb1.size) hm).mono ?_
      rintro e w3 (⟨h, _⟩ | ⟨_, he, h34⟩)
      · exact absurd h HF.out
      · obtain rfl : e = .returned (.tuple #[.slice none 0 0, .bool false]) := he
        have hb3 : Below w.heap.size w w3 := hb1.trans (h34.mono hb1.size)
        go_wp2_with fail
        go_at_call 12
        refine (bytes_n (xs := []) (ys := []) (ok := fun _ => True) (ok' := fun _ => True) rfl rfl Byt.nil Byt.nil rfl).mono ?_
        rintro e w4 ⟨rfl, rfl⟩
        go_wp2_with fail
        go_at_call 19
        refine (split_n (b := []) (ok := fun _ => False) (m := 0) rfl Byt.nil (fun g hg => hg.elim) (Nat.le_refl _) (Nat.zero_le _) (ps := []) (err := 20) rfl rfl).mono ?_
        rintro e w5 ⟨A5, c5, rfl, h51, h52, h53, h54⟩
        have hb5 : Below w.heap.size w w5 := hb3.trans (h54.mono hb3.size)
        go_wp2
        go_ret
        exact ⟨rfl, hb5⟩

open Go.ChangeShapes Go.WideShapes Go.ChangeAt

set_option maxRecDepth 100000 in
theorem joins_lifted (os : Os) (started : os.Started) (H : Type) (enc : TypeId × Value → H) :
    ReturnsInHanded {} Try.checked os 5 .any (Rows.octetJoinsSpec.pre6 enc Try.prog Try.f5 Rows.octetJoinsRow.domain false) (Rows.octetJoinsSpec.post enc Try.prog Try.f5 false true false false) := by
  refine returnsInHanded_of_change (C := Try.checked) own_knob started (by kernel_rfl) Try.func5
    (ChangeSpec.witness6 (enc := enc) (C := Try.checked) false ⟨#[], #[.slice none 0 0], []⟩ 8 (by kernel_rfl) (by kernel_rfl) (by kernel_rfl) (by kernel_rfl)) ?_
  intro W base args ds gs before hval0 hW _ _
  have hval : ∀ (j : Nat) t v, Try.f5.params[j]? = some t → args[j]? = some v → Value.okWide Try.prog W .any base t v := hval0
  have hW' := hW
  obtain ⟨p, q, hA0, hV, rfl, _, _⟩ := hW
  have hA : DataW.TrodAll enc Try.prog W 0 (fun _ => true) true Try.f5.params.toList args.toList ds p := hA0
  rw [Try.params5] at hA hval
  obtain ⟨v0, vs0, d0, ds0, p0, q0, hargs, rfl, rfl, h0, r0⟩ := trodAll_cons hA
  obtain ⟨rfl, rfl, rfl⟩ := trodAll_nil r0
  obtain rfl : args = #[v0] := by cases args; simp_all
  obtain ⟨rfl, rfl⟩ := trodVars_none hV
  obtain ⟨A, ps, c, rfl, hm, hx⟩ := open_lst (hval 0 36 v0 rfl rfl) h0
  clear hA0 hval0
  simp only [List.append_nil] at hW'
  refine (joins_great (c := c) hx hm).mono fun e W' ⟨he, hg⟩ => ?_
  subst he
  refine ⟨_, rfl, ?_⟩
  have hback := Below.trod laid_out read36 row36 h0 hg (fun x hx => hW'.lt x hx)
  refine ⟨_, _, _, [], p0, [], hW', trodAll_mk1 (shut_bool Try.underlying4 true), trodAll_mk1 hback, rfl, hg.frame _, fun h => by cases h⟩

theorem joins_over : Rows.octetJoinsRow.holds Try.pinned (OpenSpec.ofChange Rows.octetJoinsSpec) :=
  OpenClaim.holds_of_wide 5 Try.f5 rfl rfl rfl rfl rfl rfl rfl ⟨rfl, rfl, rfl, rfl, rfl⟩ rfl rfl rfl rfl rfl (by kernel_rfl) Try.func5 (by kernel_rfl)
    (of_decide_eq_true (by kernel_rfl)) (by unfold Func.isWrapper; first | (rw [if_pos (by decide +kernel)]; kernel_rfl) | (rw [if_neg (by decide +kernel)]; exact ⟨rfl, rfl⟩))
    (fun os started H enc _ => joins_lifted os started H enc)

theorem joins_holds : Rows.OctetJoinsSaid := joins_over
#print axioms joins_holds

end Go.Proofs.Ytogikipoedbklaa
