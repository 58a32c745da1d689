/- The closure that tells the bits; the search under it. Conditions: the numbers left out lie where the closure reads them. -/
import Derived.Test.YtoookolekpblhaaDoorMu
namespace Go.Proofs.YtoookolekpblhaaDoor
open Go.RowKit
theorem at3 {w : World} {g : Nat} {ty : TypeId} {l : List Nat} (h : Blk w g ty (ints l)) (i : Nat) (hi : i < l.length) : w.cell? ⟨g, i, none⟩ = some (.int .i64 ((l.getD i 0 : Nat) : Int)) := h.get i _ (ints_get l i hi)
set_option maxRecDepth 100000 in
set_option maxHeartbeats 1600000 in
theorem index_any {w : World} {g : Nat} {l : List Nat} (hb : Blk w g 3 (ints l)) (v : Nat) (hl : l.length ≤ 1000) :
    Calls Tryd.prog 36 #[.slice (some ⟨g, 0, none⟩) l.length l.length, .int .i64 (v : Int)] w fun e w' => (∃ z : Int, e = .returned (.int .i64 z) ∧ decide (z ≥ 0) = l.contains v) ∧ w.grownBy w' none := by
  obtain ⟨n, hn⟩ : ∃ n, n = l.length := ⟨_, rfl⟩
  rw [← hn] at hl ⊢
  have HB := Lib.hid hb
  have HN := Lib.hid hn
  clear hb hn
  go_enter Tryd.func36, Tryd.ntmps36
  go_wp2_with (fail)
  go_loopw [8] (fun u wr => ∃ i : Nat, i ≤ n ∧ u = .int .i64 (i : Int) ∧ (∀ j, j < i → l.getD j 0 ≠ v) ∧ Blk wr g 3 (ints l) ∧ w.grownBy wr none) (fun u _ => n - (intOf u).toNat)
  case atStart => exact ⟨0, by omega, rfl, fun j hj => absurd hj (by omega), HB.out, World.grownBy.refl _ _⟩
  case round =>
    clear HB
    obtain ⟨i, hi, rfl, hno, hb, hg⟩ := hrel
    by_cases hlt : i < n
    · have c1 := at3 hb i (by rw [← HN.out]; exact hlt)
      obtain ⟨y, hy⟩ : ∃ y, y = l.getD i 0 := ⟨_, rfl⟩
      rw [← hy] at c1
      have d1 : (i : Int) < (n : Int) := by omega
      have HNO := Lib.hid hno
      have HB2 := Lib.hid hb
      have HG2 := Lib.hid hg
      have HY := Lib.hid hy
      clear hno hb hg hy
      by_cases hv : v = y
      · have d2 : (v : Int) = (y : Int) := by omega
        go_wp2
        go_ret
        refine ⟨⟨(i : Int), rfl, ?_⟩, HG2.out⟩
        have hm : l.contains v = true := by
          rw [List.contains_iff_mem]
          have h1 : i < l.length := by rw [← HN.out]; exact hlt
          have h2 : l[i] = v := by rw [hv, HY.out, List.getD_eq_getElem?_getD, List.getElem?_eq_getElem h1]; rfl
          exact h2 ▸ List.getElem_mem h1
        rw [hm]
        simp
      · have d2 : ¬ (v : Int) = (y : Int) := by omega
        go_wp2
        go_roundw
        case rel =>
          refine ⟨i + 1, by omega, by go_num, fun j hj => ?_, HB2.out, HG2.out⟩
          by_cases e : j = i
          · rw [e, ← HY.out]
            exact fun h => hv h.symm
          · exact HNO.out j (by omega)
        case measure => simp [intOf]; omega
    · have ei : i = n := by omega
      have hm : l.contains v = false := by
        rw [Bool.eq_false_iff]
        intro h
        rw [List.contains_iff_mem] at h
        obtain ⟨j, hj, hjv⟩ := List.getElem_of_mem h
        refine hno j (by rw [ei, HN.out]; exact hj) ?_
        rw [List.getD_eq_getElem?_getD, List.getElem?_eq_getElem hj]
        exact hjv
      have d1 : ¬ (i : Int) < (n : Int) := by omega
      have HG2 := Lib.hid hg
      have HM := Lib.hid hm
      clear hno hb hg hm ei
      go_wp2
      go_ret
      refine ⟨⟨-1, rfl, ?_⟩, HG2.out⟩
      simpa using HM.out
set_option maxRecDepth 100000 in
set_option maxHeartbeats 1600000 in
theorem contains_any {w : World} {g : Nat} {l : List Nat} (hb : Blk w g 3 (ints l)) (v : Nat) (hl : l.length ≤ 1000) :
    Calls Tryd.prog 34 #[.slice (some ⟨g, 0, none⟩) l.length l.length, .int .i64 (v : Int)] w fun e w' => e = .returned (.bool (l.contains v)) ∧ w.grownBy w' none := by
  have hi := index_any hb v hl
  obtain ⟨n, hn⟩ : ∃ n, n = l.length := ⟨_, rfl⟩
  rw [← hn] at hi ⊢
  obtain ⟨c, hc⟩ : ∃ c, c = l.contains v := ⟨_, rfl⟩
  rw [← hc] at hi ⊢
  have HI := Lib.hid hi
  clear hi hb hc hl hn
  go_enter Tryd.func34, Tryd.ntmps34
  go_wp2_with (go_at_call 36; refine HI.out.mono ?_; rintro _ w2 ⟨⟨z, rfl, hz⟩, hg⟩; have HZ := Lib.hid hz; have HG := Lib.hid hg; clear hz hg)
  go_ret
  refine ⟨?_, HG.out⟩
  rw [← HZ.out]
  rfl
/-- The closure's slice. -/
def sl (g n : Nat) : Value := .slice (some ⟨g, 0, none⟩) n n
set_option maxRecDepth 100000 in
set_option maxHeartbeats 1600000 in
theorem bit_any {w : World} {g gb : Nat} {l : List Nat} (hb : Blk w g 3 (ints l)) (hc : w.cell? ⟨gb, 0, none⟩ = some (sl g l.length)) (v : Nat) (hl : l.length ≤ 1000) :
    Calls Tryd.prog 33 #[.int .i64 (v : Int), .pointer (some ⟨gb, 0, none⟩)] w fun e w' => e = .returned (.bool (!l.contains v)) ∧ w.grownBy w' none := by
  have hi := contains_any hb v hl
  unfold sl at hc
  obtain ⟨n, hn⟩ : ∃ n, n = l.length := ⟨_, rfl⟩
  rw [← hn] at hi hc
  obtain ⟨c, hc'⟩ : ∃ c, c = l.contains v := ⟨_, rfl⟩
  rw [← hc'] at hi ⊢
  have HI := Lib.hid hi
  clear hi hb hc' hl hn
  go_enter Tryd.func33, Tryd.ntmps33
  go_wp2_with (go_at_call 34; refine HI.out.mono ?_; rintro _ w2 ⟨rfl, hg⟩; have HG := Lib.hid hg; clear hg)
  go_ret
  exact ⟨rfl, HG.out⟩
set_option maxRecDepth 100000 in
set_option maxHeartbeats 1600000 in
theorem allBut_any (w : World) (g n : Nat) :
    Calls Tryd.prog 23 #[sl g n] w fun e w' => ∃ gb, e = .returned (.func (.func 33) #[] #[.pointer (some ⟨gb, 0, none⟩)]) ∧ w'.cell? ⟨gb, 0, none⟩ = some (sl g n) ∧ w.heap.size ≤ gb ∧ w.grownBy w' none := by
  have hmf : ∀ (fn : Fn) (first cap : Array Value) (w : World), (Instr.makeFunc fn first cap).run Tryd.prog w = .ok (.func fn first cap) w := fun _ _ _ _ => rfl
  unfold sl
  go_enter Tryd.func23, Tryd.ntmps23
  go_wp2
  go_ret
  exact ⟨w.heap.size, rfl, (Blk.of_alloc w #[.slice (some ⟨g, 0, none⟩) n n] 43).get 0 _ rfl, Nat.le_refl _, World.grownBy_alloc w _ none⟩
end Go.Proofs.YtoookolekpblhaaDoor
