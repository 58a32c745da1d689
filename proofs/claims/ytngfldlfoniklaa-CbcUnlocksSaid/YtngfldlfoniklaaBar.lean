/- The code strikes what fills a text up. Conditions: the bytes lie alone in their block, no fewer than 16 of them. -/
import Derived.Test.YtngfldlfoniklaaLck
namespace Go.Proofs.Ytngfldlfoniklaa
open Go.RowKit
theorem blk_u8 {w : World} {g : Nat} {ty : TypeId} {xs : List UInt8} (h : Blk w g ty (u8s xs)) (i : Nat) (hi : i < xs.length) : w.cell? ⟨g, i, none⟩ = some (.int .u8 ((xs.getD i 0).toNat : Int)) := by
  refine h.get i _ ?_
  unfold u8s
  rw [List.getElem?_map, List.getElem?_eq_getElem hi, List.getD_eq_getElem?_getD, List.getElem?_eq_getElem hi]
  rfl
theorem drop_all {xs : List UInt8} {N v : Nat} {x : UInt8} (hl : xs.length = N) (hv : v ≤ N) (h : ∀ j, j < v → xs.getD (N - v + j) 0 = x) : xs.drop (N - v) = List.replicate v x := by
  apply List.ext_getElem
  · rw [List.length_drop, List.length_replicate]; omega
  · intro j h1 h2
    rw [List.length_replicate] at h2
    rw [List.getElem_drop, List.getElem_replicate]
    have h3 := h j h2
    rw [List.getD_eq_getElem?_getD, List.getElem?_eq_getElem (by omega)] at h3
    exact h3
theorem drop_not {xs : List UInt8} {N v : Nat} {x : UInt8} (j : Nat) (hj : j < v) (h : xs.getD (N - v + j) 0 ≠ x) : xs.drop (N - v) ≠ List.replicate v x := by
  intro e
  apply h
  have h2 : (xs.drop (N - v)).getD j 0 = x := by rw [e, List.getD_eq_getElem?_getD, List.getElem?_replicate, if_pos hj]; rfl
  rw [← h2, List.getD_eq_getElem?_getD, List.getD_eq_getElem?_getD, List.getElem?_drop]
theorem unfill_some {xs : List UInt8} {N v : Nat} {x : UInt8} (hl : xs.length = N) (hx : x = xs.getD (N - 1) 0) (hv : v = x.toNat) (h1 : 1 ≤ v) (h2 : v ≤ 16) (h3 : v ≤ N) (h : xs.drop (N - v) = List.replicate v x) : unfill xs = some (xs.take (N - v)) := by
  subst hl hv hx
  unfold unfill
  rw [if_pos ⟨h1, h2, h3, h⟩]
theorem unfill_none {xs : List UInt8} {N v : Nat} {x : UInt8} (hl : xs.length = N) (hx : x = xs.getD (N - 1) 0) (hv : v = x.toNat) (h : ¬ (1 ≤ v ∧ v ≤ 16 ∧ v ≤ N ∧ xs.drop (N - v) = List.replicate v x)) : unfill xs = none := by
  subst hl hv hx
  unfold unfill
  rw [if_neg h]
/-- What striking answers. -/
def Bare (g : Nat) (xs : List UInt8) (e : Ending) : Prop :=
  (∃ s, unfill xs = some s ∧ e = .returned (.tuple #[.slice (some ⟨g, 0, none⟩) s.length s.length, .bool true]) ∧ s.length ≤ xs.length ∧ s = xs.take s.length) ∨ (unfill xs = none ∧ e = .returned (.tuple #[.slice none 0 0, .bool false]))
set_option maxRecDepth 100000 in
set_option maxHeartbeats 1600000 in
theorem bare_any {w : World} {g : Nat} {xs : List UInt8} {N : Nat} (hb : Blk w g 5 (u8s xs)) (hl : xs.length = N) (h16 : 16 ≤ N) (hs : N ≤ 2000000) :
    Calls Try.prog 22 #[.slice (some ⟨g, 0, none⟩) N N] w fun e w' => w = w' ∧ Bare g xs e := by
  obtain ⟨x, hx⟩ : ∃ x, x = xs.getD (N - 1) 0 := ⟨_, rfl⟩
  obtain ⟨v, hv⟩ : ∃ v, v = x.toNat := ⟨_, rfl⟩
  obtain ⟨q, hq⟩ : ∃ q, q = N - 1 := ⟨_, rfl⟩
  have c0 := blk_u8 hb q (by omega)
  rw [hq, ← hx, ← hv, ← hq] at c0
  have d1 : IntKind.i64.wrap ((N : Int) - 1) = (q : Int) := by rw [IntKind.wrap_i64]; omega
  have d2 : (N : Int) - 1 = (q : Int) := by omega
  have d3 : (q : Int) < (N : Int) := by omega
  have hv255 : v ≤ 255 := by have := x.toNat_lt; omega
  have d4 := i64_keep v (by omega)
  have HB := Lib.hid hb
  have HL := Lib.hid hl
  have HX := Lib.hid hx
  have HV := Lib.hid hv
  clear hb hl hx hq hv
  by_cases h1 : v < 1
  · have hno : unfill xs = none := unfill_none HL.out HX.out HV.out (by omega)
    have e1 : (v : Int) < 1 := by omega
    go_enter Try.func22, Try.ntmps22
    go_wp2
    go_ret2
    exact ⟨rfl, .inr ⟨hno, rfl⟩⟩
  · by_cases h2 : 16 < v
    · have hno : unfill xs = none := unfill_none HL.out HX.out HV.out (by omega)
      have e1 : ¬ (v : Int) < 1 := by omega
      have e2 : (16 : Int) < (v : Int) := by omega
      go_enter Try.func22, Try.ntmps22
      go_wp2
      go_ret2
      exact ⟨rfl, .inr ⟨hno, rfl⟩⟩
    · have e1 : ¬ (v : Int) < 1 := by omega
      have e2 : ¬ (16 : Int) < (v : Int) := by omega
      obtain ⟨z, hz⟩ : ∃ z, z = N - v := ⟨_, rfl⟩
      have e3 : IntKind.i64.wrap ((N : Int) - (v : Int)) = (z : Int) := by rw [IntKind.wrap_i64]; omega
      have e4 : (N : Int) - (v : Int) = (z : Int) := by omega
      have e5 : (z : Int) ≤ (N : Int) := by omega
      have e6 : ¬ N = z := by omega
      have e7 : N - z = v := by omega
      have HZ := Lib.hid hz
      clear hz
      go_enter Try.func22, Try.ntmps22
      go_wp2_with (fail)
      clear d1 d2 d3 d4 e3 e4 c0
      go_loop [8, 31] (fun _ p => ∃ i : Nat, i ≤ v ∧ p = .int .i64 (i : Int) ∧ ∀ j, j < i → xs.getD (N - v + j) 0 = x) (fun _ p => v - (intOf p).toNat)
      case atStart => exact ⟨0, Nat.zero_le _, rfl, fun j hj => absurd hj (Nat.not_lt_zero _)⟩
      case round =>
        obtain ⟨i, hi, rfl, hall⟩ := hrel
        by_cases hlt : i < v
        · obtain ⟨p, hp⟩ : ∃ p, p = z + i := ⟨_, rfl⟩
          have c1 := blk_u8 HB.out (z + i) (by have h3 := HL.out; have h4 := HZ.out; omega)
          have f1 : (i : Int) < (v : Int) := by omega
          obtain ⟨y, hy⟩ : ∃ y, y = xs.getD (z + i) 0 := ⟨_, rfl⟩
          rw [← hy] at c1
          have hyz : xs.getD (N - v + i) 0 = y := by rw [hy, HZ.out]
          have HALL := Lib.hid hall
          have HY := Lib.hid hyz
          clear hall hy hyz hp
          obtain ⟨t, ht⟩ : ∃ t, t = y.toNat := ⟨_, rfl⟩
          rw [← ht] at c1
          by_cases heq : t = v
          · have hyx : y = x := UInt8.toNat_inj.1 (by rw [← ht, heq, HV.out])
            have f2 : (t : Int) = (v : Int) := by omega
            have hnext : ∀ j, j < i + 1 → xs.getD (N - v + j) 0 = x := fun j hj => by
              by_cases hji : j < i
              · exact HALL.out j hji
              · have : j = i := by omega
                subst this
                rw [HY.out, hyx]
            have HNX := Lib.hid hnext
            clear hnext hyx ht
            go_wp2
            exact ⟨⟨i + 1, by omega, by go_num, HNX.out⟩, by simp [intOf]; omega⟩
          · have f2 : ¬ (t : Int) = (v : Int) := by omega
            have hne : xs.getD (N - v + i) 0 ≠ x := by rw [HY.out]; intro e; apply heq; rw [ht, e, HV.out]
            have hno : unfill xs = none := unfill_none HL.out HX.out HV.out (fun h => drop_not i hlt hne h.2.2.2)
            have HNO := Lib.hid hno
            clear hne hno ht
            go_wp2
            go_ret2
            exact ⟨rfl, .inr ⟨HNO.out, rfl⟩⟩
        · have ei : i = v := by omega
          subst ei
          have hyes := unfill_some HL.out HX.out HV.out (by omega) (by omega) (by omega) (drop_all HL.out (by omega) hall)
          have hzl : (xs.take (N - i)).length = z := by rw [List.length_take, HL.out, HZ.out]; omega
          have HY := Lib.hid hyes
          have HZL := Lib.hid hzl
          clear hall hyes hzl
          go_wp2
          go_ret2
          exact ⟨rfl, .inl ⟨xs.take (N - i), HY.out, by rw [HZL.out]; rfl, by rw [HZL.out, HL.out]; omega, by rw [HZL.out, HZ.out]⟩⟩
end Go.Proofs.Ytngfldlfoniklaa
