/- OctetOwn: what Split answers is new memory: bytes that are written over change no piece, whatever the list is. Conditions: none. -/
import Derived.Test.YtogikipoedbklaaCut
namespace Go.Proofs.Ytogikipoedbklaa
open Go.RowKit

/-- What Join answers, whether the list may be joined or not. -/
def JoinT (w : World) (ps : List (List UInt8)) (e : Ending) (w' : World) : Prop :=
  ∃ A c n xs t, e = .returned (.tuple #[.slice A n c, .bool t]) ∧ Hid ((xs : List UInt8).length = n) ∧ n ≤ 262273 ∧ Byt w' (fun b => w.heap.size ≤ b ∧ b < w'.heap.size) A xs ∧ Below w.heap.size w w' ∧ Hid (t = true → split xs = (ps, 0))
theorem join_t {w : World} {A : Option Addr} {ps : List (List UInt8)} {c : Nat} {ok : Nat → Prop} (hx : Lst w ok A ps) (hok : ∀ b, ok b → b < w.heap.size) (hm : ps.length ≤ maxLen) :
    Calls Try.prog 17 #[.slice A ps.length c] w (JoinT w ps) := by
  by_cases hf : Fit ps
  · refine (join_yes hx hok hf).mono ?_
    rintro e w' ⟨A, c, rfl, h1, h2, h3, h4⟩
    exact ⟨A, c, _, jn ps, true, rfl, rfl, jn_length ps hf, h3, h4, fun _ => split_jn ps hf⟩
  · refine (join_no hx hm hf).mono ?_
    rintro e w' ⟨rfl, rfl⟩
    exact ⟨none, 0, 0, [], false, rfl, rfl, by omega, Byt.nil, Below.refl _ _, fun h => by cases h⟩

set_option maxHeartbeats 2000000 in
theorem own_walk {w : World} {A : Option Addr} {ps : List (List UInt8)} {c : Nat} (hx : Lst w (fun b => b < w.heap.size) A ps) (hm : ps.length ≤ maxLen) :
    Calls Try.prog 8 #[.slice A ps.length c] w fun e w' => e = .returned (.bool true) ∧ Below w.heap.size w w' := by
  obtain ⟨i0, hi, hz0, hz1, hz2⟩ := info_parts Try.info5
  go_enter Try.func8, Try.ntmps8
  go_wp2_with fail
  go_at_call 9
  refine (alive_any _).mono ?_
  rintro e w1 ⟨rfl, hb1⟩
  have hx1 := hx.below hb1 fun b hb => hb
  go_wp2_with fail
  go_at_call 16
  refine (great_any hx1 hm).mono ?_
  rintro e w2 ⟨b, rfl, rfl⟩
  cases b with
  | true =>
    go_wp2
    go_ret
    exact ⟨rfl, hb1⟩
  | false =>
    go_wp2_with fail
    go_at_call 17
    refine (join_t hx1 (fun b hb => Nat.lt_of_lt_of_le hb hb1.size) hm).mono ?_
    rintro e w2 ⟨A2, c2, n, xs, t, rfl, hn, hjl, h23, h24, HT⟩
    have hb2 : Below w.heap.size w w2 := hb1.trans (h24.mono hb1.size)
    have ho3 := own_empty w2 w.heap.size hb2.size
    have x3 := (h23.imp (ok' := fun b => b < w2.heap.size) fun b hb => hb.2).below (below_alloc_empty (w := w2) (Nat.le_refl _)) fun b hb => hb
    have hb3 := hb2.alloc hb2.size (.cells #[] 5)
    go_wp2_with (at_builtin; refine wpList_append_byt_n _ rfl _ _ 24 rfl w.heap.size i0 (.int .u8 0) Try.underlying24 hi hz0 hz1 hz2 rfl _ _ _ rfl ho3 _ A2 _ n xs hn.out rfl x3 ?c1 ?c2 ?_)
    case c1 => omega
    case c2 => exact hb3.size
    intro v4 w4 hown4' hgrow4 hat4
    have hb4 : Below w.heap.size w w4 := hb3.grown hgrow4 hb3.size fun g hg => (ho3.lt g hg).1
    have hown4 : w4.ownsRow w.heap.size 5 1 v4 n (u8s xs) := by simpa using hown4'
    obtain ⟨A4, c4, rfl, g1, g2, g3⟩ := own_form_n (xs := xs) hown4 hn.out
    obtain ⟨rs, err, hsp⟩ : ∃ rs err, split xs = (rs, err) := ⟨_, _, rfl⟩
    have HS := Lib.hid hsp
    obtain ⟨m, hmm⟩ : ∃ m, rs.length = m := ⟨_, rfl⟩
    have HM := Lib.hid hmm
    clear hown4' hgrow4 hat4 hsp ho3 x3 hmm
    go_wp2_with fail
    go_at_call 19
    refine (split_n hn.out g3 (fun g hg => hg.2.2) g1 g2 HS.out HM.out).mono ?_
    rintro e w5 ⟨A5, c5, rfl, h51, h52, h53, h54⟩
    have hb5 : Below w.heap.size w w5 := hb4.trans (h54.mono hb4.size)
    have hown5 := own_below hown4 h54
    have hx5 := hx.below hb5 fun b hb => hb
    have hz45 := h54.size
    go_wp2
    go_loopw [8] (fun i wr => ∃ (k : Nat) (zs : List UInt8), k ≤ n ∧ i = .int .i64 k ∧ wr.ownsRow w.heap.size 5 1 (.slice A4 n c4) n (u8s zs) ∧ w5.grownBy wr (Value.slice A4 n c4).ownBlock) (fun i _ => n - (intOf i).toNat)
    case atStart => exact ⟨0, xs, Nat.zero_le _, rfl, hown5, World.grownBy.refl _ _⟩
    case round =>
      obtain ⟨k, zs, hk, rfl, hown, hgr⟩ := hrel
      by_cases hlt : k < n
      · obtain ⟨g, hA4, hg1, hg2⟩ : ∃ g, A4 = some ⟨g, 0, none⟩ ∧ w.heap.size ≤ g ∧ g < w4.heap.size := by
          rcases hown4.2 with ⟨e, h0⟩ | ⟨g, cap, cur, e, hbg, hh, _⟩
          · omega
          · cases e
            exact ⟨g, rfl, hbg, (Array.getElem?_eq_some_iff.1 hh).1⟩
        subst hA4
        have hzl : zs.length = n := by have := hown.1; rw [u8s_length] at this; omega
        have hc : wr.cell? ⟨g, k, none⟩ = some (.int .u8 ((zs[k]'(by omega)).toNat : Int)) := by
          rw [hown.cellAt k (by omega)]
          unfold u8s
          rw [List.getElem?_map, List.getElem?_eq_getElem (by omega)]
          rfl
        have hf := hown.frozenAt k
        obtain ⟨y, hy⟩ : ∃ y, zs[k]'(by omega) = y := ⟨_, rfl⟩
        rw [hy] at hc
        have HZ := Lib.hid hzl
        clear hzl hy
        go_wp2
        go_roundw
        case rel =>
          have hst := hown.stored k (.int .u8 ((UInt8.ofNat (y.toNat + 1)).toNat : Int))
          have ev : ((y.toNat : Int) + 1) % 256 = ((UInt8.ofNat (y.toNat + 1)).toNat : Int) := by rw [u8_ofNat]; omega
          rw [u8s_set] at hst
          rw [ev]
          exact ⟨k + 1, zs.set k (UInt8.ofNat (y.toNat + 1)), by omega, by go_num, hst.1, hgr.trans hst.2⟩
        case measure => simp [intOf]; omega
      · have hbr : Below w.heap.size w wr := hb5.grown hgr hb5.size fun g hg => (hown5.lt g hg).1
        have hxr : Lst wr (fun b => b < w.heap.size) A ps := hx5.keep fun b hb => hgr.block b (Nat.lt_of_lt_of_le hb hb5.size) fun e => by
          have := (hown5.lt b e.symm).1
          omega
        have hlr := h53.keep (w' := wr) fun b hb => hgr.block b hb.2 fun e => by
          have := (hown4.lt b e.symm).2
          omega
        cases t with
        | false =>
          go_wp2
          go_ret
          exact ⟨rfl, hbr⟩
        | true =>
          have heq := HS.out.symm.trans (HT.out rfl)
          obtain ⟨rfl, rfl⟩ : rs = ps ∧ err = 0 := by
            injection heq with h1 h2
            exact ⟨h1, h2⟩
          clear heq
          go_wp2_with fail
          go_at_call 20
          refine (lists_n rfl HM.out hxr hlr hm (decide_eq_true rfl)).mono ?_
          rintro e w6 ⟨rfl, hd⟩
          have hb6 := below_told hbr hd
          clear hd
          go_wp2
          go_ret
          exact ⟨rfl, hb6⟩

open Go.ChangeShapes Go.WideShapes Go.ChangeAt

set_option maxRecDepth 100000 in
theorem own_lifted (os : Os) (started : os.Started) (H : Type) (enc : TypeId × Value → H) :
    ReturnsInHanded {} Try.checked os 8 .any (Rows.octetOwnSpec.pre6 enc Try.prog Try.f8 Rows.octetOwnRow.domain false) (Rows.octetOwnSpec.post enc Try.prog Try.f8 false true false false) := by
  refine returnsInHanded_of_change (C := Try.checked) own_knob started (by kernel_rfl) Try.func8
    (ChangeSpec.witness6 (enc := enc) (C := Try.checked) false ⟨#[], #[.slice none 0 0], []⟩ 8 (by kernel_rfl) (by kernel_rfl) (by kernel_rfl) (by kernel_rfl)) ?_
  intro W base args ds gs before hval0 hW _ _
  have hval : ∀ (j : Nat) t v, Try.f8.params[j]? = some t → args[j]? = some v → Value.okWide Try.prog W .any base t v := hval0
  have hW' := hW
  obtain ⟨p, q, hA0, hV, rfl, _, _⟩ := hW
  have hA : DataW.TrodAll enc Try.prog W 0 (fun _ => true) true Try.f8.params.toList args.toList ds p := hA0
  rw [Try.params8] at hA hval
  obtain ⟨v0, vs0, d0, ds0, p0, q0, hargs, rfl, rfl, h0, r0⟩ := trodAll_cons hA
  obtain ⟨rfl, rfl, rfl⟩ := trodAll_nil r0
  obtain rfl : args = #[v0] := by cases args; simp_all
  obtain ⟨rfl, rfl⟩ := trodVars_none hV
  obtain ⟨A, ps, c, rfl, hm, hx⟩ := open_lst (hval 0 36 v0 rfl rfl) h0
  clear hA0 hval0
  simp only [List.append_nil] at hW'
  refine (own_walk (c := c) hx hm).mono fun e W' ⟨he, hg⟩ => ?_
  subst he
  refine ⟨_, rfl, ?_⟩
  have hback := Below.trod laid_out read36 row36 h0 hg (fun x hx => hW'.lt x hx)
  refine ⟨_, _, _, [], p0, [], hW', trodAll_mk1 (shut_bool Try.underlying4 true), trodAll_mk1 hback, rfl, hg.frame _, fun h => by cases h⟩

theorem own_over : Rows.octetOwnRow.holds Try.pinned (OpenSpec.ofChange Rows.octetOwnSpec) :=
  OpenClaim.holds_of_wide 8 Try.f8 rfl rfl rfl rfl rfl rfl rfl ⟨rfl, rfl, rfl, rfl, rfl⟩ rfl rfl rfl rfl rfl (by kernel_rfl) Try.func8 (by kernel_rfl)
    (of_decide_eq_true (by kernel_rfl)) (by unfold Func.isWrapper; first | (rw [if_pos (by decide +kernel)]; kernel_rfl) | (rw [if_neg (by decide +kernel)]; exact ⟨rfl, rfl⟩))
    (fun os started H enc _ => own_lifted os started H enc)

theorem own_holds : Rows.OctetOwnSaid := own_over
#print axioms own_holds

end Go.Proofs.Ytogikipoedbklaa
