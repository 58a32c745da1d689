/- The reference's All and Same. Conditions: at most a million changes. -/
import Derived.Test.YtonpcenjipigpaaGreatZ37
namespace Go.Proofs.YtonpcenjipigpaaGreat
open Go.RowKit
theorem doR_len (c : Chg) : ∀ (l : List Chg) (d : Bool), (doR c d l).length ≤ l.length + d.toNat.rec 1 (fun _ _ => 0)
  | [], true => Nat.le_refl 0
  | [], false => Nat.le_refl 1
  | x :: l, d => by
    have ih := doR_len c l (d || bytesBefore c.name x.name)
    have h2 : (if x.name ≠ c.name then [x] else []).length ≤ 1 := by split <;> simp
    rw [doR, List.length_append, List.length_append, List.length_cons]
    cases d with
    | true =>
      rw [if_neg (by simp)]
      have e : (true || bytesBefore c.name x.name) = true := rfl
      rw [e] at ih ⊢
      have h3 : (([] : List Chg)).length = 0 := rfl
      have h4 : (doR c true l).length ≤ l.length := ih
      show _ ≤ l.length + 1
      omega
    | false =>
      cases hb : bytesBefore c.name x.name with
      | true =>
        rw [hb] at ih
        rw [if_pos ⟨rfl, rfl⟩]
        have h4 : (doR c true l).length ≤ l.length := ih
        show 1 + ((if x.name ≠ c.name then [x] else []).length + (doR c true l).length) ≤ l.length + 1 + 1
        omega
      | false =>
        rw [hb] at ih
        rw [if_neg (by simp)]
        have h4 : (doR c false l).length ≤ l.length + 1 := ih
        show 0 + ((if x.name ≠ c.name then [x] else []).length + (doR c false l).length) ≤ l.length + 1 + 1
        omega
theorem dor_len (c : Chg) (l : List Chg) : (doR c c.gone l).length ≤ l.length + 1 := by
  have := doR_len c l c.gone
  cases h : c.gone with
  | true => rw [h] at this; have h2 : (doR c true l).length ≤ l.length := this; omega
  | false => rw [h] at this; exact this
set_option maxRecDepth 100000 in
set_option maxHeartbeats 4000000 in
theorem allr_any {w : World} {ok : Nat → Prop} {A B : Option Addr} {l cs : List Chg} {cl cc : Nat} (hx : Chs w ok A l) (hc : Chs w ok B cs) (hok : ∀ b, ok b → b < w.heap.size) (hl : l.length + cs.length ≤ 1000000) :
    Calls Tryz.prog 37 #[.slice A l.length cl, .slice B cs.length cc] w (DoRE w ok (allR l cs)) := by
  obtain ⟨T, hT⟩ : ∃ T, T = allR l cs := ⟨_, rfl⟩
  rw [← hT]
  have HC := Lib.hid hc
  have HOK := Lib.hid hok
  have hx0 : Chs w (fun b => ok b ∨ (w.heap.size ≤ b ∧ b < w.heap.size)) A l := hx.imp fun b hb => .inl hb
  have hT0 : Hid (T = allR l (cs.drop 0)) := Lib.hid hT
  clear hx hc hok hT
  go_enter Tryz.func37, Tryz.ntmps37
  go_wp2
  go_loopw [0, 5] (fun v i wr => ∃ (k : Nat) (lk : List Chg) (A2 : Option Addr) (c2 : Nat), k ≤ cs.length ∧ i = .int .i64 (k : Int) ∧ v = .slice A2 lk.length c2 ∧ Chs wr (fun b => ok b ∨ (w.heap.size ≤ b ∧ b < wr.heap.size)) A2 lk ∧ w.grownBy wr none ∧ Hid (T = allR lk (cs.drop k)) ∧ lk.length ≤ l.length + k) (fun _ i _ => cs.length - (intOf i).toNat)
  case atStart => exact ⟨0, l, _, _, Nat.zero_le _, rfl, rfl, hx0, World.grownBy.refl _ _, hT0, Nat.le_refl _⟩
  case round =>
    clear hx0 hT0
    obtain ⟨k, lk, A2, c2, hk, rfl, rfl, hx, hg, HT, hlk⟩ := hrel
    by_cases hlt : k < cs.length
    · obtain ⟨b, o, A', c', rfl, hokb, d0, d1, d2, e1, e2, e3, hby⟩ := HC.out.at hlt
      have q0 : wr.cell? ⟨b, o + k * 3, none⟩ = some (.string ⟨cs[k].name.toArray⟩) := hg.cell d0 (by simp)
      have q1 : wr.cell? ⟨b, o + k * 3 + 1, none⟩ = some (.slice A' cs[k].val.length c') := hg.cell d1 (by simp)
      have q2 : wr.cell? ⟨b, o + k * 3 + 2, none⟩ = some (.bool cs[k].gone) := hg.cell d2 (by simp)
      have hdr : cs.drop k = cs[k] :: cs.drop (k + 1) := List.drop_eq_getElem_cons hlt
      obtain ⟨x, hxx⟩ : ∃ x, x = cs[k] := ⟨_, rfl⟩
      rw [← hxx] at q0 q1 q2 e1 e3 hby hdr
      have HTN : Hid (T = allR (doR x x.gone lk) (cs.drop (k + 1))) := Lib.hid (by rw [HT.out, hdr]; rfl)
      have hby2 : Byt wr (fun b => ok b ∨ (w.heap.size ≤ b ∧ b < wr.heap.size)) A' x.val := (hby.keep fun b hb => hg.block b (HOK.out b hb) (by simp)).imp fun b hb => .inl hb
      have hsz := hg.size
      have hdo := dor_any (c := x) (cl := c2) (c' := c') hx (fun b hb => by rcases hb with hb | hb; exact Nat.lt_of_lt_of_le (HOK.out b hb) hsz; exact hb.2) (by omega) hby2 e1 e2 e3
      have hdl := dor_len x lk
      obtain ⟨l2, hl2⟩ : ∃ l2, l2 = doR x x.gone lk := ⟨_, rfl⟩
      rw [← hl2] at hdo hdl HTN
      have HG := Lib.hid hg
      have hdec : decide ((k : Int) < (cs.length : Int)) = true := decide_eq_true (by omega)
      clear d0 d1 d2 hby hby2 hdr hxx HT hx hl2 hg e1 e2 e3
      go_wp2_with (first
        | (go_at_call 63; refine hdo.mono ?_; rintro _ w2 ⟨A3, c3, rfl, hx3, hg3⟩)
        | fail)
      go_roundw
      case rel =>
        refine ⟨k + 1, l2, A3, c3, by omega, by go_num, rfl, hx3.imp fun b hb => ?_, HG.out.trans hg3, HTN, by omega⟩
        rcases hb with (hb | hb) | hb
        · exact .inl hb
        · exact .inr ⟨hb.1, Nat.lt_of_lt_of_le hb.2 hg3.size⟩
        · exact .inr ⟨Nat.le_trans hsz hb.1, hb.2⟩
      case measure => simp [intOf]; omega
    · obtain rfl : k = cs.length := by omega
      have hdec : decide ((cs.length : Int) < (cs.length : Int)) = false := decide_eq_false (by omega)
      have hTT := HT.out
      rw [List.drop_length] at hTT
      have HT2 : Hid (T = lk) := Lib.hid hTT
      clear HT hTT
      go_wp2
      go_ret
      rw [HT2.out]
      exact ⟨A2, c2, rfl, hx, hg⟩
/-- How the reference's Same ends. -/
def SameE (w : World) (a b : List Chg) (e : Ending) (w' : World) : Prop := ∃ r : Bool, e = .returned (.bool r) ∧ (a = b → r = true) ∧ w.grownBy w' none
set_option maxRecDepth 100000 in
set_option maxHeartbeats 4000000 in
theorem same_any {w : World} {ok ok' : Nat → Prop} {A B : Option Addr} {a b : List Chg} {ca cb : Nat} (ha : Chs w ok A a) (hb : Chs w ok' B b) (hok : ∀ b, ok b → b < w.heap.size) (hok' : ∀ b, ok' b → b < w.heap.size) (hla : a.length ≤ 1000000) :
    Calls Tryz.prog 15 #[.slice A a.length ca, .slice B b.length cb] w (SameE w a b) := by
  by_cases hlen : a.length = b.length
  · have HA := Lib.hid ha
    have HB := Lib.hid hb
    have HOK := Lib.hid hok
    have HOK2 := Lib.hid hok'
    have HLE := Lib.hid hlen
    have hle : (b.length : Int) = (a.length : Int) := by omega
    clear ha hb hok hok' hlen
    go_enter Tryz.func15, Tryz.ntmps15
    go_wp2
    go_loopw [5] (fun i wr => ∃ k : Nat, k ≤ a.length ∧ i = .int .i64 (k : Int) ∧ w.grownBy wr none ∧ Hid (∀ j (h : j < k) (h1 : j < a.length) (h2 : j < b.length), a[j] = b[j])) (fun i _ => a.length - (intOf i).toNat)
    case atStart => exact ⟨0, Nat.zero_le _, rfl, World.grownBy.refl _ _, Lib.hid fun j h => by omega⟩
    case round =>
      obtain ⟨k, hk, rfl, hg, HE⟩ := hrel
      by_cases hlt : k < a.length
      · have hlt2 : k < b.length := by rw [← HLE.out]; exact hlt
        obtain ⟨b1, o1, A1, c1, rfl, hokb, d0, d1, d2, e1, e2, e3, hby⟩ := HA.out.at hlt
        obtain ⟨b2, o2, A2, c2, rfl, hokb2, f0, f1, f2, g1, g2, g3, hby2⟩ := HB.out.at hlt2
        have q0 : wr.cell? ⟨b1, o1 + k * 3, none⟩ = some (.string ⟨a[k].name.toArray⟩) := hg.cell d0 (by simp)
        have q1 : wr.cell? ⟨b1, o1 + k * 3 + 1, none⟩ = some (.slice A1 a[k].val.length c1) := hg.cell d1 (by simp)
        have q2 : wr.cell? ⟨b1, o1 + k * 3 + 2, none⟩ = some (.bool a[k].gone) := hg.cell d2 (by simp)
        have p0 : wr.cell? ⟨b2, o2 + k * 3, none⟩ = some (.string ⟨b[k].name.toArray⟩) := hg.cell f0 (by simp)
        have p1 : wr.cell? ⟨b2, o2 + k * 3 + 1, none⟩ = some (.slice A2 b[k].val.length c2) := hg.cell f1 (by simp)
        have p2 : wr.cell? ⟨b2, o2 + k * 3 + 2, none⟩ = some (.bool b[k].gone) := hg.cell f2 (by simp)
        have hy1 : ∀ m, Byt (wr.drewN m) ok A1 a[k].val := fun m => hby.keep fun b hb => hg.block b (HOK.out b hb) (by simp)
        have hy2 : ∀ m, Byt (wr.drewN m) ok' A2 b[k].val := fun m => hby2.keep fun b hb => hg.block b (HOK2.out b hb) (by simp)
        have hne : a[k] ≠ b[k] → a ≠ b := fun h e => h (by simp only [e])
        have hstep : a[k] = b[k] → ∀ j (h : j < k + 1) (h1 : j < a.length) (h2 : j < b.length), a[j] = b[j] := fun he j h h1 h2 => by
          rcases Nat.lt_or_ge j k with h3 | h3
          · exact HE.out j h3 h1 h2
          · obtain rfl : j = k := by omega
            exact he
        obtain ⟨x, hxx⟩ : ∃ x, x = a[k] := ⟨_, rfl⟩
        obtain ⟨y, hyy⟩ : ∃ y, y = b[k] := ⟨_, rfl⟩
        rw [← hxx] at q0 q1 q2 hy1 hne hstep
        rw [← hyy] at p0 p1 p2 hy2 hne hstep
        obtain ⟨nx, vx, gx⟩ := x
        obtain ⟨ny, vy, gy⟩ := y
        simp only [Chg.mk.injEq, ne_eq] at q0 q1 q2 p0 p1 p2 hy1 hy2 hne hstep
        have HNE := Lib.hid hne
        have HST := Lib.hid hstep
        have hdec : decide ((k : Int) < (a.length : Int)) = true := decide_eq_true (by omega)
        have hbc : ∀ m, Calls Tryz.prog 21 #[.slice A1 vx.length c1, .slice A2 vy.length c2] (wr.drewN m) fun e w' => e = .returned (.bool (decide (vx = vy))) ∧ wr.drewN m = w' := fun m => bytes_any (hy1 m) (hy2 m)
        have HBC := Lib.hid hbc
        clear d0 d1 d2 f0 f1 f2 hby hby2 hxx hyy hy1 hy2 hne hstep HE e1 e2 e3 g1 g2 g3 hbc
        have HBQ : Hid (∀ (r : Bool), decide (vx = vy) = r → ∀ m, Calls Tryz.prog 21 #[.slice A1 vx.length c1, .slice A2 vy.length c2] (wr.drewN m) fun e w' => e = .returned (.bool r) ∧ w' = wr.drewN m) := Lib.hid fun r hr m => by
          rw [← hr]
          exact (HBC.out m).mono fun _ _ h => ⟨h.1, h.2.symm⟩
        clear HBC
        by_cases h1 : nx = ny
        · have hnb : (!nx == ny) = false := by simpa using h1
          by_cases h2 : gx = gy
          · subst h2
            by_cases h3 : vx = vy
            · have HS2 := Lib.hid (HST.out ⟨h1, h3, rfl⟩)
              have HB2 := Lib.hid (HBQ.out true (decide_eq_true h3))
              clear h1 h3 HST HNE HBQ
              cases gx <;> {
                go_wp2
                go_quiet ((go_at_call 21; exact Calls.quiet_of_same (HB2.out _)))
                go_wp2
                go_roundw
                case rel => exact ⟨k + 1, by omega, by go_num, hg.trans (grown_drewN _), HS2⟩
                case measure => simp [intOf]; omega }
            · have HS2 := Lib.hid (HNE.out fun h => h3 h.2.1)
              have HB2 := Lib.hid (HBQ.out false (decide_eq_false h3))
              clear h1 h3 HST HNE HBQ
              cases gx <;> {
                go_wp2
                go_quiet ((go_at_call 21; exact Calls.quiet_of_same (HB2.out _)))
                go_wp2
                go_ret
                exact ⟨false, rfl, fun h => absurd h HS2.out, hg.trans (grown_drewN _)⟩ }
          · have HS2 := Lib.hid (HNE.out fun h => h2 h.2.2)
            clear h1 HST HNE HBQ
            cases gx <;> cases gy <;> first | exact absurd rfl h2 | {
              clear h2
              go_wp2
              go_quiet (fail)
              go_wp2
              go_ret
              exact ⟨false, rfl, fun h => absurd h HS2.out, hg.trans (grown_drewN _)⟩ }
        · have hnb : (!nx == ny) = true := by simpa using h1
          have HS2 := Lib.hid (HNE.out fun h => h1 h.1)
          clear h1 HST HNE HBQ
          go_wp2
          go_quiet (fail)
          go_wp2
          go_ret
          exact ⟨false, rfl, fun h => absurd h HS2.out, hg.trans (grown_drewN _)⟩
      · obtain rfl : k = a.length := by omega
        have hdec : decide ((a.length : Int) < (a.length : Int)) = false := decide_eq_false (by omega)
        clear HE
        go_wp2
        go_ret
        exact ⟨true, rfl, fun _ => rfl, hg⟩
  · have hd : ¬ (a.length : Int) = (b.length : Int) := by omega
    have HN : Hid (a ≠ b) := Lib.hid fun e => hlen (by rw [e])
    clear ha hb hlen
    go_enter Tryz.func15, Tryz.ntmps15
    go_wp2
    go_ret
    exact ⟨false, rfl, fun h => absurd h HN.out, World.grownBy.refl _ _⟩
end Go.Proofs.YtonpcenjipigpaaGreat
