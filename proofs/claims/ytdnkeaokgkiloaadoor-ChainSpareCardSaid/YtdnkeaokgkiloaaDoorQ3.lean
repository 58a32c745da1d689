/- chain.laid, chain.reach, chain.Keep. Conditions: the lists have no more than 1,000 keys. -/
import Derived.Test.YtdnkeaokgkiloaaDoorQ2
namespace Go.Proofs.YtdnkeaokgkiloaaDoor
open Go.RowKit T
/-- A list of kept keys is answered, in new memory. -/
def LaidE (w : World) (L : List Kep) (e : Ending) (w' : World) : Prop := ∃ A c, e = .returned (.slice A L.length c) ∧ L.length ≤ c ∧ c ≤ maxLen ∧ Kps w' (fun b => w.heap.size ≤ b ∧ b < w'.heap.size) A L ∧ w.grownBy w' none
set_option maxRecDepth 100000 in
set_option maxHeartbeats 1600000 in
theorem laid_any {w : World} {ok ok2 : Nat → Prop} {A A2 : Option Addr} {L M : List Kep} {n m c c2 : Nat} (hL : Kps w ok A L) (hK : KAll L) (hn : L.length = n) (hM : Kps w ok2 A2 M) (hK2 : KAll M) (hm : M.length = m) (hle : n + m ≤ 1000) :
    Calls Tryd.prog 29 #[.slice A n c, .slice A2 m c2] w (LaidE w (L ++ M)) := by
  have hlen : (L ++ M).length = n + m := by rw [List.length_append, hn, hm]
  unfold LaidE
  rw [hlen]
  have HL := Lib.hid hL
  have HK := Lib.hid hK
  have HN := Lib.hid hn
  have HM := Lib.hid hM
  have HK2 := Lib.hid hK2
  have HMM := Lib.hid hm
  obtain ⟨k, hk⟩ : ∃ k, n + m = k := ⟨_, rfl⟩
  have R0 : Hid (KRow w.heap.size w (.slice A 0 0) 0 []) := KRow.mk0 _ _ A
  have hk1 : 0 + n = n := Nat.zero_add n
  have HKK := Lib.hid hk
  have hle2 : k ≤ 1000 := by omega
  have hle1 : n ≤ 1000 := by omega
  rw [hk]
  have HL2 := Lib.hid hle2
  have HL1 := Lib.hid hle1
  have HS0 : Hid (w.heap.size ≤ w.heap.size) := Nat.le_refl _
  clear hL hK hn hM hK2 hm hlen hle hk hle2 hle1
  go_enter Tryd.func29, Tryd.ntmps29
  cases A with
  | none =>
    go_wp2_with (first | (at_builtin; refine wpList_appK rfl (.tmp 6) (.tmp 7) rfl (v := .slice none 0 0) (c2 := c) (k := n) rfl rfl R0.out HK.out HL.out HN.out hk1 HL1.out HS0.out ?_) | fail)
    intro A1 c1 w1 r1 l1
    have M1 : Hid (Kps w1 ok2 A2 M) := HM.out.below l1.out
    have S1 : Hid (w.heap.size ≤ w1.heap.size) := l1.out.size
    go_wp2_with (first | (at_builtin; refine wpList_appK rfl (.tmp 8) (.tmp 9) rfl (v := .slice A1 n c1) (c2 := c2) (k := k) rfl rfl r1.out HK2.out M1.out HMM.out HKK.out HL2.out S1.out ?_) | fail)
    intro A3 c3 w3 r3 l3
    go_wp2
    go_ret
    obtain ⟨A4, c4, e4, h1, h2, h3⟩ := r3.out.kps
    cases e4
    have hb := l1.out.trans l3.out
    exact ⟨A3, c3, rfl, h1, h2, h3, below_grown hb⟩
  | some ad =>
    go_wp2_with (first | (at_builtin; refine wpList_appK rfl (.tmp 6) (.tmp 7) rfl (v := .slice (some ad) 0 0) (c2 := c) (k := n) rfl rfl R0.out HK.out HL.out HN.out hk1 HL1.out HS0.out ?_) | fail)
    intro A1 c1 w1 r1 l1
    have M1 : Hid (Kps w1 ok2 A2 M) := HM.out.below l1.out
    have S1 : Hid (w.heap.size ≤ w1.heap.size) := l1.out.size
    go_wp2_with (first | (at_builtin; refine wpList_appK rfl (.tmp 8) (.tmp 9) rfl (v := .slice A1 n c1) (c2 := c2) (k := k) rfl rfl r1.out HK2.out M1.out HMM.out HKK.out HL2.out S1.out ?_) | fail)
    intro A3 c3 w3 r3 l3
    go_wp2
    go_ret
    obtain ⟨A4, c4, e4, h1, h2, h3⟩ := r3.out.kps
    cases e4
    have hb := l1.out.trans l3.out
    exact ⟨A3, c3, rfl, h1, h2, h3, below_grown hb⟩
/-- Why a row can't go on. -/
def far (a b : Nat) (k : Nat) : Int := if b < a then 180 else if 16 < (b - a) + k then 181 else 0
theorem reach_any (w : World) (a b k : Nat) (ha : a < 65536) (hb : b < 65536) (hk : k ≤ 1000) :
    Calls Tryd.prog 30 #[.int .u16 (a : Int), .int .u16 (b : Int), .int .i64 (k : Int)] w fun e w' => e = .returned (.int .i64 (far a b k)) ∧ w = w' := by
  unfold far
  by_cases h1 : b < a
  · rw [if_pos h1]
    have d1 : (b : Int) < (a : Int) := by omega
    clear h1
    go_enter Tryd.func30, Tryd.ntmps30
    go_wp2
    go_ret
    exact ⟨rfl, rfl⟩
  · rw [if_neg h1]
    have d1 : ¬ (b : Int) < (a : Int) := by omega
    have hw : IntKind.u16.wrap ((b : Int) - (a : Int)) = ((b - a : Nat) : Int) := by
      rw [show ((b : Int) - (a : Int)) = ((b - a : Nat) : Int) by omega]
      simp [IntKind.wrap, IntKind.bits, IntKind.signed]
      omega
    by_cases h2 : 16 < (b - a) + k
    · rw [if_pos h2]
      have d2 : (16 : Int) - (k : Int) < ((b - a : Nat) : Int) := by omega
      clear h1 h2
      go_enter Tryd.func30, Tryd.ntmps30
      go_wp2
      go_ret
      exact ⟨rfl, rfl⟩
    · rw [if_neg h2]
      have d2 : ¬ (16 : Int) - (k : Int) < ((b - a : Nat) : Int) := by omega
      clear h1 h2
      go_enter Tryd.func30, Tryd.ntmps30
      go_wp2
      go_ret
      exact ⟨rfl, rfl⟩
end Go.Proofs.YtdnkeaokgkiloaaDoor
