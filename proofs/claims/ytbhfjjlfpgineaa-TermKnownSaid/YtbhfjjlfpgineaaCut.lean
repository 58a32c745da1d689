/- A part's bytes: the names of elder terms, and bytes behind them. Conditions: at most 70000 terms; at most 5000 bytes. -/
import Derived.Test.YtbhfjjlfpgineaaName
import Derived.Test.YtbhfjjlfpgineaaNext
namespace Go.Proofs.Ytbhfjjlfpgineaa
open Go.RowKit

theorem below_alloc0 (w : World) (o : Obj) : Below w.heap.size w (w.alloc o) := (Below.refl _ _).alloc (Nat.le_refl _) o

/-- The numbers that lie in a slice. -/
def Ints (w : World) (ok : Nat → Prop) (A : Option Addr) (ns : List Int) : Prop := ∀ j (h : j < ns.length), ∃ ad, A = some ad ∧ ok ad.block ∧ w.cell? (ad.add j) = some (.int .i64 ns[j])
theorem Ints.keep {w w' : World} {ok : Nat → Prop} {A : Option Addr} {ns : List Int} (h : Ints w ok A ns) (hk : ∀ b, ok b → w'.heap[b]? = w.heap[b]?) : Ints w' ok A ns := fun j hj => by
  obtain ⟨ad, h1, h2, h3⟩ := h j hj
  exact ⟨ad, h1, h2, (World.cell?_of_block (hk _ (by rw [block_of_plus]; exact h2))).trans h3⟩
theorem Ints.imp {w : World} {ok ok' : Nat → Prop} {A : Option Addr} {ns : List Int} (h : Ints w ok A ns) (hi : ∀ b, ok b → ok' b) : Ints w ok' A ns := fun j hj => by
  obtain ⟨ad, h1, h2, h3⟩ := h j hj
  exact ⟨ad, h1, hi _ h2, h3⟩
/-- The names that stand first. -/
def preN (made : Nat) : List Int → List UInt8
  | [] => []
  | n :: ns => (if 1 ≤ n ∧ n ≤ made then nm n.toNat else []) ++ preN made ns
theorem preN_append (made : Nat) : ∀ (a b : List Int), preN made (a ++ b) = preN made a ++ preN made b
  | [], b => rfl
  | n :: a, b => by
    show (if 1 ≤ n ∧ n ≤ (made : Int) then nm n.toNat else []) ++ preN made (a ++ b) = (if 1 ≤ n ∧ n ≤ (made : Int) then nm n.toNat else []) ++ preN made a ++ preN made b
    rw [preN_append made a b, List.append_assoc]
theorem preN_length (made : Nat) : ∀ (a : List Int), (preN made a).length ≤ 32 * a.length
  | [] => Nat.le_refl _
  | n :: a => by
    have h := preN_length made a
    have h2 : (if 1 ≤ n ∧ n ≤ (made : Int) then nm n.toNat else []).length ≤ 32 := by
      split
      · exact Nat.le_of_eq (nm_length _)
      · exact Nat.zero_le _
    show ((if 1 ≤ n ∧ n ≤ (made : Int) then nm n.toNat else []) ++ preN made a).length ≤ 32 * (n :: a).length
    rw [List.length_append, List.length_cons]
    omega
def preK (made : Nat) (ns : List Int) (k : Nat) : List UInt8 := preN made (ns.take k)
theorem preK_step {made : Nat} {ns : List Int} {k : Nat} (h : k < ns.length) : preK made ns (k + 1) = preK made ns k ++ if 1 ≤ ns[k] ∧ ns[k] ≤ (made : Int) then nm ns[k].toNat else [] := by
  unfold preK
  rw [List.take_add_one, List.getElem?_eq_getElem h, preN_append]
  simp [preN]
theorem preK_length (made : Nat) (ns : List Int) (k : Nat) : (preK made ns k).length ≤ 32 * k := by
  have := preN_length made (ns.take k)
  have : (ns.take k).length ≤ k := by simp; omega
  unfold preK
  omega
/-- The part's bytes. -/
def cutB (ns : List Int) (bs : List UInt8) (made most : Nat) : List UInt8 := preK made ns 4 ++ bs.take most
theorem cutB_length (ns : List Int) (bs : List UInt8) (made most : Nat) : (cutB ns bs made most).length ≤ 128 + most := by
  have := preK_length made ns 4
  unfold cutB
  rw [List.length_append, List.length_take]
  omega
theorem preK_all {made : Nat} {ns : List Int} {k : Nat} (h : ns.length ≤ k) (h4 : k ≤ 4) : preK made ns k = preK made ns 4 := by
  unfold preK
  rw [List.take_of_length_le h, List.take_of_length_le (by omega)]

set_option maxRecDepth 100000 in
set_option maxHeartbeats 4000000 in
theorem cut_any {w : World} {ok : Nat → Prop} {An Ab : Option Addr} {ns : List Int} {bs : List UInt8} {ln lb cn cb made most : Nat} (hn : Ints w ok An ns) (hb : Byt w ok Ab bs) (hok : ∀ b, ok b → b < w.heap.size) (hln : ns.length = ln) (hlb : bs.length = lb) (hc : lb ≤ cb) (hm : cb ≤ maxLen) (hN : made ≤ 70000) (hM : most ≤ 5000) :
    Calls Try.prog 23 #[.agg #[.slice An ln cn, .slice Ab lb cb], .int .i64 made, .int .i64 most] w (NewB w (cutB ns bs made most)) := by
  obtain ⟨i0, hi, hz0, hz1, hz2⟩ := info_parts Try.info5
  have HB := Lib.hid hb
  have HN := Lib.hid hn
  have HOK := Lib.hid hok
  clear hb hn hok
  go_enter Try.func23, Try.ntmps23
  go_wp2_with fail
  obtain ⟨w1, hw1⟩ : ∃ w1, w.alloc (.cells #[.slice An ln cn, .slice Ab lb cb] 44) = w1 := ⟨_, rfl⟩
  have hb1 : Below w.heap.size w w1 := by rw [← hw1]; exact below_alloc0 w _
  have hc1 : w1.heap[w.heap.size]? = some (.cells #[.slice An ln cn, .slice Ab lb cb] 44 (0, 0)) := by rw [← hw1]; exact heap_alloc_new w _
  rw [hw1]
  clear hw1
  have HB1 := Lib.hid hb1
  have HC1 := Lib.hid hc1
  have hl1 := lt_of_block hc1
  clear hb1 hc1
  go_loopw [7, 8] (fun v i wr => ∃ k : Nat, k ≤ 4 ∧ k ≤ ln ∧ i = .int .i64 k ∧ wr.ownsRow w1.heap.size 5 1 v (preK made ns k).length (u8s (preK made ns k)) ∧ Below w1.heap.size w1 wr) (fun _ i _ => 4 - (intOf i).toNat)
  case atStart => exact ⟨0, by omega, by omega, rfl, World.ownsRow_nil _ _ _ _, Below.refl _ _⟩
  case round =>
    obtain ⟨k, hk4, hkn, rfl, hown, hb⟩ := hrel
    have hcr : wr.heap[w.heap.size]? = some (.cells #[.slice An ln cn, .slice Ab lb cb] 44 (0, 0)) := (hb.block _ hl1).trans HC1.out
    have c0 : wr.cell? ⟨w.heap.size, 0, none⟩ = some (.slice An ln cn) := by rw [cell_of_block hcr]; rfl
    have c1 : wr.cell? ⟨w.heap.size, 1, none⟩ = some (.slice Ab lb cb) := by rw [cell_of_block hcr]; rfl
    have hbw : Below w.heap.size w wr := HB1.out.trans (hb.mono HB1.out.size)
    have HBW := Lib.hid hbw
    have HCR := Lib.hid hcr
    clear hcr hbw
    by_cases hlt : k < ln ∧ k < 4
    · obtain ⟨h1, h2⟩ := hlt
      obtain ⟨ad, rfl, hoa, hx⟩ := HN.out k (by omega)
      have hxr : wr.cell? (ad.add k) = some (.int .i64 (ns[k]'(by omega))) := (HBW.out.cell (by rw [block_of_plus]; exact HOK.out _ hoa)).trans hx
      have hst := preK_step (made := made) (ns := ns) (k := k) (by omega)
      obtain ⟨z, hz⟩ : ∃ z, ns[k]'(by omega) = z := ⟨_, rfl⟩
      rw [hz] at hxr hst
      have HST := Lib.hid hst
      clear hx hz hst
      by_cases hin : 1 ≤ z ∧ z ≤ made
      · obtain ⟨m, rfl⟩ : ∃ m : Nat, z = m := ⟨z.toNat, by omega⟩
        have hst : preK made ns (k + 1) = preK made ns k ++ nm m := by
          rw [HST.out, if_pos hin]
          rfl
        have HC := Lib.hid (fun W => refname_any m W (by omega))
        have HS := Lib.hid hst
        have q1 := hin.1
        have q2 := hin.2
        clear hst HST hin
        go_wp2_with fail
        go_at_call 12
        refine (HC.out _).mono ?_
        rintro e w2 ⟨rfl, hb2⟩
        go_wp2_with (refine wpList_alloc32 i34 rfl rfl ?_)
        intro w3 hk3 hb3 hz3
        go_wp2_with (refine wpList_store32 i34 rfl _ _ rfl w2.heap.size z32 (nm m) rfl rfl hk3 z32_length (nm_length m) w2.heap.size (Nat.le_refl _) ?_)
        intro w4 hk4 hb4 _ hz4
        have b24 : Below w2.heap.size w2 w4 := hb3.trans hb4
        have b4 : Below w1.heap.size w1 w4 := (hb.trans (hb2.mono hb.size)).trans (b24.mono (Nat.le_trans hb.size hb2.size))
        have hown4 := own_below (own_below hown hb2) b24
        go_wp2_with (at_builtin; refine wpList_append_byt _ rfl _ _ 41 rfl w1.heap.size i0 (.int .u8 0) Try.underlying41 hi hz0 hz1 hz2 rfl _ _ _ rfl hown4 (fun _ => True) (some ⟨w2.heap.size, 0, none⟩) 32 (nm m) ?x1 (Arr.byt hk4 trivial) ?d5 ?d6 ?_)
        case x1 => rw [nm_length]; rfl
        case d5 => have := preK_length made ns k; rw [nm_length]; omega
        case d6 => exact b4.size
        intro v2 w5 hown5 hgrow5 hat5
        have b5 : Below w1.heap.size w1 w5 := b4.grown hgrow5 b4.size fun g hg => (hown4.lt g hg).1
        have hend : w5.ownsRow w1.heap.size 5 1 v2 (preK made ns (k + 1)).length (u8s (preK made ns (k + 1))) := by
          rw [HS.out, List.length_append]
          exact hown5
        clear hown5 hown4 hown hgrow5 hat5 b4 b24 hb3 hb4 hb2 hk3 hk4 hz3 hz4 c0 c1 hxr hb
        go_wp2_with fail
        go_roundw
        case rel => exact ⟨k + 1, by omega, by omega, by go_num, hend, b5⟩
        case measure => simp [intOf]; omega
      · have hst : preK made ns (k + 1) = preK made ns k := by
          rw [HST.out, if_neg hin, List.append_nil]
        have HS := Lib.hid hst
        clear hst HST
        have hend : wr.ownsRow w1.heap.size 5 1 u7 (preK made ns (k + 1)).length (u8s (preK made ns (k + 1))) := by
          rw [HS.out]
          exact hown
        by_cases h1z : 1 ≤ z
        · have q2 : ¬ z ≤ made := fun e => hin ⟨h1z, e⟩
          clear hin
          go_wp2_with fail
          go_roundw
          case rel => exact ⟨k + 1, by omega, by omega, by go_num, hend, hb⟩
          case measure => simp [intOf]; omega
        · clear hin
          go_wp2_with fail
          go_roundw
          case rel => exact ⟨k + 1, by omega, by omega, by go_num, hend, hb⟩
          case measure => simp [intOf]; omega
    · have hall : preK made ns k = preK made ns 4 := by
        by_cases e : k = 4
        · rw [e]
        · exact preK_all (by omega) hk4
      rw [hall] at hown
      have hpl := preK_length made ns 4
      have hbr : Byt wr ok Ab (bs.take most) := by
        intro j hj
        obtain ⟨ad, h1, h2, h3⟩ := HB.out j (by rw [List.length_take] at hj; omega)
        exact ⟨ad, h1, h2, ((HBW.out.cell (by rw [block_of_plus]; exact HOK.out _ h2)).trans h3).trans (by rw [List.getElem_take])⟩
      have hlen : (bs.take most).length = if lb ≤ most then lb else most := by
        rw [List.length_take]
        split <;> omega
      obtain ⟨xs, hxs⟩ : ∃ xs, bs.take most = xs := ⟨_, rfl⟩
      rw [hxs] at hlen hbr
      have HXS := Lib.hid hxs
      clear hxs
      have HL := Lib.hid hlen
      have HBR := Lib.hid hbr
      have hmx := hm
      unfold maxLen at hmx
      clear hall hbr hlen
      have key : ∀ (v2 : Value) (w5 : World), w5.ownsRow w1.heap.size 5 1 v2 ((preK made ns 4).length + (xs).length) (u8s (preK made ns 4 ++ xs)) → wr.grownBy w5 u7.ownBlock → NewB w (cutB ns bs made most) (.returned v2) w5 := fun v2 w5 ho hg => by
        have b5 : Below w1.heap.size w1 w5 := hb.grown hg hb.size fun g hg' => (hown.lt g hg').1
        obtain ⟨A', c', rfl, h1, h2, h3, h4⟩ := own_form ho
        have ec : cutB ns bs made most = preK made ns 4 ++ xs := by unfold cutB; rw [HXS.out]
        rw [ec]
        exact ⟨A', c', rfl, h2, h3, h4.imp fun b hb' => ⟨Nat.le_trans HB1.out.size hb'.2.1, hb'.2.2⟩, HB1.out.trans (b5.mono HB1.out.size)⟩
      have KEY := Lib.hid key
      clear key
      have q3 : min (lb : Int) (most : Int) ≤ (cb : Int) := by omega
      have q4 : (0 : Int) ≤ min (lb : Int) (most : Int) := by omega
      rcases Nat.lt_or_ge k ln with h1 | h1
      · obtain rfl : k = 4 := by omega
        go_wp2_with (at_builtin; refine wpList_append_byt _ rfl _ _ 41 rfl w1.heap.size i0 (.int .u8 0) Try.underlying41 hi hz0 hz1 hz2 rfl _ _ _ rfl hown ok Ab cb (xs) ?x1 HBR.out ?d5 ?d6 ?_)
        case x1 =>
          have e : (min (lb : Int) (most : Int)).toNat = (xs).length := by rw [HL.out]; split <;> omega
          first | exact e | (show Value.slice Ab (min (lb : Int) (most : Int)).toNat cb = .slice Ab xs.length cb; rw [e])
        case d5 => rw [HL.out]; split <;> omega
        case d6 => exact hb.size
        intro v2 w5 hown5 hgrow5 _
        have hfin := Lib.hid (KEY.out v2 w5 hown5 hgrow5)
        clear hown5 hgrow5 hown hb
        go_wp2_with fail
        go_ret
        exact hfin.out
      · have d1 : ¬ ((k : Int) < (ln : Int)) := by omega
        go_wp2_with (at_builtin; refine wpList_append_byt _ rfl _ _ 41 rfl w1.heap.size i0 (.int .u8 0) Try.underlying41 hi hz0 hz1 hz2 rfl _ _ _ rfl hown ok Ab cb (xs) ?x1 HBR.out ?d5 ?d6 ?_)
        case x1 =>
          have e : (min (lb : Int) (most : Int)).toNat = (xs).length := by rw [HL.out]; split <;> omega
          first | exact e | (show Value.slice Ab (min (lb : Int) (most : Int)).toNat cb = .slice Ab xs.length cb; rw [e])
        case d5 => rw [HL.out]; split <;> omega
        case d6 => exact hb.size
        intro v2 w5 hown5 hgrow5 _
        have hfin := Lib.hid (KEY.out v2 w5 hown5 hgrow5)
        clear hown5 hgrow5 hown hb
        go_wp2_with fail
        go_ret
        exact hfin.out
end Go.Proofs.Ytbhfjjlfpgineaa
