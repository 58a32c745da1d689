/- The reference's Payload. Conditions: changes of which none is wrong, at most 64. -/
import Derived.Test.YtonpcenjipigpaaGreatZ12
import Derived.Test.YtonpcenjipigpaaGreatZ15
namespace Go.Proofs.YtonpcenjipigpaaGreat
open Go.RowKit
/-- A row of slices of the call's own, as a list of bytes. -/
theorem own_lst {w : World} {base n : Nat} {v : Value} {vs : List Value} {ps : List (List UInt8)} (h : w.ownsRow base 40 1 v n vs) (hs : Sls w (fun b => b < w.heap.size) vs ps) :
    ∃ A c, v = .slice A n c ∧ n = ps.length ∧ n ≤ c ∧ c ≤ maxLen ∧ Lst w (fun b => b < w.heap.size) A ps := by
  have hl := h.1
  rw [hs.1, Nat.mul_one] at hl
  rcases h.2 with ⟨rfl, rfl⟩ | ⟨g, cap, cur, rfl, hbg, hh, hnc, hcm, hcs, ht⟩
  · exact ⟨none, 0, rfl, hl.symm, Nat.le_refl _, by unfold maxLen; omega, fun j hj => absurd hj (by omega)⟩
  · have hc := h.cells (g := g) rfl
    have hlt : g < w.heap.size := (Array.getElem?_eq_some_iff.1 hh).1
    refine ⟨_, cap, rfl, hl.symm, hnc, hcm, fun j hj => ?_⟩
    obtain ⟨A, c, h1, h2, h3, h4⟩ := hs.2 j hj
    exact ⟨⟨g, 0, none⟩, A, c, rfl, hlt, hc j _ h1, h2, h3, h4⟩
theorem Sls.grown {w w' : World} {vs : List Value} {ps : List (List UInt8)} {g : Nat} (h : Sls w (fun b => b < w.heap.size ∧ b ≠ g) vs ps) (hg : w.grownBy w' (some g)) : Sls w' (fun b => b < w'.heap.size) vs ps :=
  (h.keep fun b hb => hg.block b hb.1 (by simpa using hb.2)).imp fun _ hb => Nat.lt_of_lt_of_le hb.1 hg.size
set_option maxRecDepth 100000 in
set_option maxHeartbeats 4000000 in
theorem refPayload_any {w : World} {ok : Nat → Prop} {A : Option Addr} {l : List Chg} {n cp : Nat} (hx : Chs w ok A l) (hok : ∀ b, ok b → b < w.heap.size) (hn : l.length = n) (h64 : n ≤ 64) (hg : Good l) :
    Calls Tryz.prog 42 #[.slice A n cp] w (NewB w (payB l)) := by
  subst hn
  have HG := Lib.hid hg
  clear hg
  go_enter Tryz.func42, Tryz.ntmps42
  go_wp2
  go_loopw [3, 4] (fun v i wr => ∃ (k : Nat), k ≤ l.length ∧ i = .int .i64 (k : Int) ∧ Pcs wr w.heap.size v ((l.map chgB).take k) ∧ Below w.heap.size w wr) (fun _ i _ => l.length - (intOf i).toNat)
  case atStart => exact ⟨0, Nat.zero_le _, rfl, Pcs.nil _ _, Below.refl _ _⟩
  case round =>
    obtain ⟨k, hk, rfl, hP, hb⟩ := hrel
    by_cases hlt : k < l.length
    · obtain ⟨b, o, A', c', rfl, hokb, d0, d1, d2, e1, e2, e3, hby⟩ := hx.at hlt
      have hbs := hb.size
      have q0 : wr.cell? ⟨b, o + k * 3, none⟩ = some (.string ⟨l[k].name.toArray⟩) := (hb.cell (hok b hokb)).trans d0
      have q1 : wr.cell? ⟨b, o + k * 3 + 1, none⟩ = some (.slice A' l[k].val.length c') := (hb.cell (hok b hokb)).trans d1
      have q2 : wr.cell? ⟨b, o + k * 3 + 2, none⟩ = some (.bool l[k].gone) := (hb.cell (hok b hokb)).trans d2
      have hbl : b < wr.heap.size := Nat.lt_of_lt_of_le (hok b hokb) hbs
      have HBY : Hid (Byt wr (fun b => b < wr.heap.size) A' l[k].val) := (hby.below hb hok).imp fun b hb => Nat.lt_of_lt_of_le (hok b hb) hbs
      obtain ⟨c, hc⟩ : ∃ c, c = l[k] := ⟨_, rfl⟩
      rw [← hc] at q0 q1 q2 HBY e1 e3
      have hgc := err_zero (HG.out c (by rw [hc]; exact List.getElem_mem hlt))
      have hfit0 : (l.map chgB).take (k + 1) = (l.map chgB).take k ++ [chgB c] := by
        have : (l.map chgB).take (k + 1) = (l.map chgB).take k ++ [(l.map chgB)[k]'(by simpa using hlt)] := (List.take_append_getElem _).symm
        rw [this]; simp [hc]
      have hfit := Lib.hid hfit0
      obtain ⟨nm, vl, gn⟩ := c
      obtain ⟨hg1, hg2, hg3, hg4⟩ := hgc
      simp only at q0 q1 q2 HBY e1 e3 hg1 hg2 hg3 hg4
      have HP := Lib.hid hP
      have HC := Lib.hid hc
      have HBE := Lib.hid hb
      clear d0 d1 d2 hby hc hok hx hg1 hfit0 hP hb hg3
      cases gn with
      | true =>
        go_wp2_with (refine wpList_conv rfl _ rfl nm rfl e3 ?_; intro A1 c1 w1 m1 m2 y1 hb1; have p2 : (w1.alloc (.cells #[.slice A1 nm.length c1] 40)).cell? ⟨b, o + k * 3 + 2, none⟩ = some (.bool true) := ((below_then hb1 (below_alloc w1 _)).cell hbl).trans q2)
        have hbw1 : Below wr.heap.size wr (w1.alloc (.cells #[.slice A1 nm.length c1] 40)) := below_then hb1 (below_alloc w1 _)
        have hl1 : Lst (w1.alloc (.cells #[.slice A1 nm.length c1] 40)) (fun b => b < (w1.alloc (.cells #[.slice A1 nm.length c1] 40)).heap.size) (some ⟨w1.heap.size, 0, none⟩) [nm] :=
          (((Sls.nil _ _).cons (y1.imp fun _ h => h.2) rfl m1 m2).old (below_alloc w1 _)).lst (Blk.of_alloc w1 #[.slice A1 nm.length c1] 40) (by simp)
        have hcall : Calls Tryz.prog 70 #[.slice (some ⟨w1.heap.size, 0, none⟩) 1 1] (w1.alloc (.cells #[.slice A1 nm.length c1] 40)) (NewB (w1.alloc (.cells #[.slice A1 nm.length c1] 40)) (chgB ⟨nm, vl, true⟩)) := refAll_any (c := 1) hl1 (fun _ h => h) (by simp [maxLen]) ⟨by simp, fun p hp => by simp at hp; subst hp; omega⟩
        clear hl1 y1 hb1 p2
        go_at_call 70
        refine hcall.mono ?_
        clear hcall
        rintro _ w3 ⟨A3, c3, rfl, n1, n2, y3, hb3⟩
        have hb4 : Below wr.heap.size wr w3 := below_then hbw1 hb3
        have y4 : Byt w3 (fun g => wr.heap.size ≤ g ∧ g < w3.heap.size) A3 (chgB ⟨nm, vl, true⟩) := y3.imp fun b hk => ⟨Nat.le_trans hbw1.size hk.1, hk.2⟩
        obtain ⟨m, hm⟩ : ∃ m, m = (chgB ⟨nm, vl, true⟩).length := ⟨_, rfl⟩
        rw [← hm] at n1 ⊢
        have HM := Lib.hid hm
        clear hm
        obtain ⟨vals, hvals, -⟩ := id HP.out
        have hown3 := (own_below hvals hb4).alloc (.cells #[.slice A3 m c3] 40)
        obtain ⟨j0, hj, hy0, hy1, hy2⟩ := info_parts Tryz.info40
        have qq : w.heap.size ≤ (w3.alloc (.cells #[.slice A3 m c3] 40)).heap.size := le_alloc (Nat.le_trans hbs hb4.size)
        have hlk : ((l.map chgB).take k).length = k := by rw [List.length_take, List.length_map]; omega
        have hbs4 := hb4.size
        rw [hlk] at hown3
        clear y3 hb3
        go_wp2_with (at_builtin; (refine wpList_append_own_at _ rfl _ _ 42 rfl w.heap.size 40 j0 (.slice none 0 0) 1 24 Tryz.underlying42 hj hy0 hy1 hy2 rfl Nat.one_pos _ _ _ rfl hown3 ⟨w3.heap.size, 0, none⟩ 1 1 [.slice A3 m c3] rfl rfl (cell_one_new _ _ _) (one_slice _ _ _) ?c3 ?c4 qq ?_))
        case c3 => unfold maxLen; omega
        case c4 => omega
        intro v2 w4 hown4 hgrow4 _ hat4
        have hpush : Pcs w4 w.heap.size v2 ((l.map chgB).take (k + 1)) := by
          rw [hfit.out]
          refine HP.out.push hbs hb4 y4 (by rw [← HM.out]; exact n1) n2 hvals ?_ ?_ ?_
          · rw [← HM.out, hlk]; exact hown4
          · rw [← HM.out]; exact hgrow4
          · rcases hat4 with h | h
            · exact .inl h
            · exact .inr (by simpa using h)
        have hb5 : Below w.heap.size w w4 := ((HBE.out.trans (hb4.mono hbs)).alloc (Nat.le_trans hbs hbs4) _).grown hgrow4 qq fun g hg => (hvals.lt g hg).1
        clear hown3 hown4 hgrow4 hat4 hvals y4 hb4
        go_wp2
        go_roundw
        case rel => exact ⟨k + 1, by omega, by go_num, hpush, hb5⟩
        case measure => simp [intOf]; omega
      | false =>
        obtain ⟨j0, hj, hy0, hy1, hy2⟩ := info_parts Tryz.info40
        go_wp2_with (first
          | (refine wpList_conv rfl _ rfl nm rfl e3 ?_; intro A1 c1 w1 m1 m2 y1 hb1; have hbw1 : Below wr.heap.size wr (w1.alloc (.cells #[.slice A1 nm.length c1] 40)) := below_then hb1 (below_alloc w1 _); have p2 : (w1.alloc (.cells #[.slice A1 nm.length c1] 40)).cell? ⟨b, o + k * 3 + 2, none⟩ = some (.bool false) := (hbw1.cell hbl).trans q2; have p1 : (w1.alloc (.cells #[.slice A1 nm.length c1] 40)).cell? ⟨b, o + k * 3 + 1, none⟩ = some (.slice A' vl.length c') := (hbw1.cell hbl).trans q1; have hr1 : ((w1.alloc (.cells #[.slice A1 nm.length c1] 40)).alloc (.cells #[.slice A' vl.length c'] 40)).ownsRow w1.heap.size 40 1 (.slice (some ⟨w1.heap.size, 0, none⟩) 1 1) 1 [.slice A1 nm.length c1] := World.ownsRow.alloc (World.ownsRow_lit (base := w1.heap.size) (e := 40) (size := 1) w1 #[.slice A1 nm.length c1] 1 (Nat.le_refl _) (by unfold maxLen; omega) rfl) _)
          | (at_builtin; (refine wpList_append_own_at _ rfl _ _ 42 rfl w1.heap.size 40 j0 (.slice none 0 0) 1 24 Tryz.underlying42 hj hy0 hy1 hy2 rfl Nat.one_pos _ _ _ rfl hr1 ⟨w1.heap.size + 1, 0, none⟩ 1 1 [.slice A' vl.length c'] rfl rfl ?cc (one_slice _ _ _) ?c3 ?c4 ?c5 ?_)))
        case cc =>
          have hcn := cell_one_new (w1.alloc (.cells #[.slice A1 nm.length c1] 40)) (.slice A' vl.length c') 40
          rw [show (w1.alloc (.cells #[.slice A1 nm.length c1] 40)).heap.size = w1.heap.size + 1 by simp] at hcn
          exact hcn
        case c3 => unfold maxLen; omega
        case c4 => omega
        case c5 => simp; omega
        intro v5 w5 hown5 hgrow5 _ _
        have hsz : ((w1.alloc (.cells #[.slice A1 nm.length c1] 40)).alloc (.cells #[.slice A' vl.length c'] 40)).heap.size = w1.heap.size + 2 := by simp
        have hs1 := hb1.size
        have hbw2 : Below wr.heap.size wr ((w1.alloc (.cells #[.slice A1 nm.length c1] 40)).alloc (.cells #[.slice A' vl.length c'] 40)) := below_then hbw1 (below_alloc _ _)
        have hbw2' : Below w1.heap.size w1 ((w1.alloc (.cells #[.slice A1 nm.length c1] 40)).alloc (.cells #[.slice A' vl.length c'] 40)) := below_then (below_alloc _ _) (below_alloc _ _)
        have hsl : Sls ((w1.alloc (.cells #[.slice A1 nm.length c1] 40)).alloc (.cells #[.slice A' vl.length c'] 40)) (fun b => b < ((w1.alloc (.cells #[.slice A1 nm.length c1] 40)).alloc (.cells #[.slice A' vl.length c'] 40)).heap.size ∧ b ≠ w1.heap.size) [.slice A1 nm.length c1, .slice A' vl.length c'] [nm, vl] := by
          refine ((Sls.nil _ _).cons ?_ rfl e1 e2).cons ?_ rfl m1 m2
          · exact (HBY.out.below hbw2 fun _ h => h).imp fun b hb => ⟨by rw [hsz]; omega, by omega⟩
          · exact (y1.below hbw2' fun _ h => h.2).imp fun b hb => ⟨by rw [hsz]; omega, by omega⟩
        have hb5 : Below wr.heap.size wr w5 := hbw2.grown hgrow5 hbw2.size fun g hg => by cases hg; exact hs1
        obtain ⟨A5, c5, rfl, -, k1, k2, hl1⟩ := own_lst hown5 (hsl.grown hgrow5)
        have hcall : Calls Tryz.prog 70 #[.slice A5 2 c5] w5 (NewB w5 (chgB ⟨nm, vl, false⟩)) := refAll_any (c := c5) hl1 (fun _ h => h) (by simp [maxLen]) ⟨by simp, fun p hp => by simp at hp; rcases hp with rfl | rfl <;> omega⟩
        clear hl1 y1 hb1 p2 p1 hown5 hgrow5 hsl hbw2 hbw2' hbw1 hr1 hsz
        go_wp2_with fail
        go_at_call 70
        refine hcall.mono ?_
        clear hcall
        rintro _ w3 ⟨A3, c3, rfl, n1, n2, y3, hb3⟩
        have hb4 : Below wr.heap.size wr w3 := below_then hb5 hb3
        have y4 : Byt w3 (fun g => wr.heap.size ≤ g ∧ g < w3.heap.size) A3 (chgB ⟨nm, vl, false⟩) := y3.imp fun b hk => ⟨Nat.le_trans hb5.size hk.1, hk.2⟩
        obtain ⟨m, hm⟩ : ∃ m, m = (chgB ⟨nm, vl, false⟩).length := ⟨_, rfl⟩
        rw [← hm] at n1 ⊢
        have HM := Lib.hid hm
        clear hm
        obtain ⟨vals, hvals, -⟩ := id HP.out
        have hown3 := (own_below hvals hb4).alloc (.cells #[.slice A3 m c3] 40)
        have qq : w.heap.size ≤ (w3.alloc (.cells #[.slice A3 m c3] 40)).heap.size := le_alloc (Nat.le_trans hbs hb4.size)
        have hlk : ((l.map chgB).take k).length = k := by rw [List.length_take, List.length_map]; omega
        have hbs4 := hb4.size
        rw [hlk] at hown3
        clear y3 hb3
        go_wp2_with (at_builtin; (refine wpList_append_own_at _ rfl _ _ 42 rfl w.heap.size 40 j0 (.slice none 0 0) 1 24 Tryz.underlying42 hj hy0 hy1 hy2 rfl Nat.one_pos _ _ _ rfl hown3 ⟨w3.heap.size, 0, none⟩ 1 1 [.slice A3 m c3] rfl rfl (cell_one_new _ _ _) (one_slice _ _ _) ?c3 ?c4 qq ?_))
        case c3 => unfold maxLen; omega
        case c4 => omega
        intro v2 w4 hown4 hgrow4 _ hat4
        have hpush : Pcs w4 w.heap.size v2 ((l.map chgB).take (k + 1)) := by
          rw [hfit.out]
          refine HP.out.push hbs hb4 y4 (by rw [← HM.out]; exact n1) n2 hvals ?_ ?_ ?_
          · rw [← HM.out, hlk]; exact hown4
          · rw [← HM.out]; exact hgrow4
          · rcases hat4 with h | h
            · exact .inl h
            · exact .inr (by simpa using h)
        have hb6 : Below w.heap.size w w4 := ((HBE.out.trans (hb4.mono hbs)).alloc (Nat.le_trans hbs hbs4) _).grown hgrow4 qq fun g hg => (hvals.lt g hg).1
        clear hown3 hown4 hgrow4 hat4 hvals y4 hb4
        go_wp2
        go_roundw
        case rel => exact ⟨k + 1, by omega, by go_num, hpush, hb6⟩
        case measure => simp [intOf]; omega
    · obtain rfl : k = l.length := by omega
      rw [List.take_of_length_le (by simp)] at hP
      obtain ⟨A6, c6, rfl, h1, h2, h3⟩ := hP.lst
      have hcall := refAll_any (c := c6) (h3.imp fun _ h => h.2) (fun _ h => h) (by rw [List.length_map]; unfold maxLen; omega) (payB_fit HG.out h64)
      clear hP h3 hx
      rw [List.length_map] at hcall h1
      go_wp2_with fail
      go_at_call 70
      refine hcall.mono ?_
      rintro _ w3 ⟨A3, c3, rfl, n1, n2, y3, hb3⟩
      go_wp2
      go_ret
      exact ⟨A3, c3, rfl, n1, n2, y3.imp fun b hk => ⟨Nat.le_trans hb.size hk.1, hk.2⟩, below_then hb hb3⟩
end Go.Proofs.YtonpcenjipigpaaGreat
