/- The reference's numbers as bytes, and joined texts. Conditions: none. -/
import Derived.Test.YtonpcenjipigpaaGreatZ6
import Derived.Test.YtonpcenjipigpaaGreatZ4
namespace Go.Proofs.YtonpcenjipigpaaGreat
open Go.RowKit
set_option maxHeartbeats 400000 in
theorem refget_any {w : World} {ok : Nat → Prop} {A : Option Addr} {xs : List UInt8} {c : Nat} (hx : Byt w ok A xs) (hm : xs.length ≤ maxLen) :
    Calls Tryz.prog 58 #[.slice A xs.length c] w fun e w' => e = getV xs ∧ w = w' := by
  unfold maxLen at hm
  go_enter Tryz.func58, Tryz.ntmps58
  go_wp2
  go_loop [4, 5] (fun n i => ∃ k : Nat, k ≤ xs.length ∧ k ≤ 8 ∧ i = .int .i64 k ∧ n = .int .u64 (nb (xs.take k))) (fun _ i => 8 - (intOf i).toNat)
  case atStart => exact ⟨0, Nat.zero_le _, by omega, rfl, rfl⟩
  case round =>
    obtain ⟨k, hk, hk8, rfl, rfl⟩ := hrel
    by_cases hlt : k < xs.length ∧ k < 8
    · obtain ⟨hlt, h8⟩ := hlt
      obtain ⟨ad, rfl, _, hc⟩ := hx k hlt
      have hb := xs[k].toNat_lt
      have hs := get_sum xs k hlt h8
      have d2 : decide ((k : Int) < 8) = true := by simp; omega
      have d3 : decide (k < xs.length) = true := by simp; omega
      go_wp2
      go_round
      case rel => exact ⟨k + 1, by omega, by omega, by go_num, rfl⟩
      case measure => simp [intOf]; omega
    · by_cases hl : k < xs.length
      · have d2 : decide ((k : Int) < 8) = false := by simp; omega
        have d3 : decide (k < xs.length) = true := by simp; omega
        have d4 : decide ((xs.length : Int) < 1) = false := by simp; omega
        have d5 : decide (8 < (xs.length : Int)) = true := by simp; omega
        go_wp2
        go_ret2
        exact ⟨(getV_no (by omega)).symm, rfl⟩
      · have d3 : decide (k < xs.length) = false := by simp; omega
        have d5 : decide (8 < (xs.length : Int)) = false := by simp; omega
        by_cases h1 : xs.length < 1
        · have d4 : decide ((xs.length : Int) < 1) = true := by simp; omega
          go_wp2
          go_ret2
          exact ⟨(getV_no (by omega)).symm, rfl⟩
        · have d4 : decide ((xs.length : Int) < 1) = false := by simp; omega
          go_wp2
          go_ret2
          exact ⟨(getV_yes (by omega) (by omega) (by omega)).symm, rfl⟩
set_option maxRecDepth 100000 in
set_option maxHeartbeats 800000 in
theorem refput_no (n : Nat) (s : Int) (w : World) (h : s < 1 ∨ 8 < s) :
    Calls Tryz.prog 84 #[.int .u64 n, .int .i64 s] w fun e w' => e = noB ∧ w = w' := by
  by_cases h1 : s < 1
  · have d1 : decide (s < 1) = true := by simpa using h1
    go_enter Tryz.func84, Tryz.ntmps84
    go_wp2
    go_ret2
    exact ⟨rfl, rfl⟩
  have d1 : decide (s < 1) = false := by simpa using h1
  have h8 : 8 < s := by omega
  have d2 : decide (8 < s) = true := by simpa using h8
  clear h
  go_enter Tryz.func84, Tryz.ntmps84
  go_wp2
  go_ret2
  exact ⟨rfl, rfl⟩
set_option maxRecDepth 100000 in
set_option maxHeartbeats 800000 in
theorem refput_any (n s : Nat) (w : World) (h1 : 1 ≤ s) (h8 : s ≤ 8) (h64 : n < 18446744073709551616) :
    Calls Tryz.prog 84 #[.int .u64 n, .int .i64 s] w (MayB w n s) := by
  have d1 : decide ((s : Int) < 1) = false := by simp; omega
  have d2 : decide (8 < (s : Int)) = false := by simp; omega
  obtain ⟨i0, hi, hz0, hz1, hz2⟩ := info_parts Tryz.info5
  go_enter Tryz.func84, Tryz.ntmps84
  go_wp2_with (with_reducible refine wpList_make_full _ rfl _ _ 40 rfl w.heap.size 5 i0 (.int .u8 0) 1 Tryz.underlying40 hi hz0 hz1 .i64 .i64 _ _ s rfl rfl rfl rfl ?c1 ?c2 ?c3 ?_)
  case c1 => rw [hz2]; omega
  case c2 => unfold maxLen; omega
  case c3 => exact Nat.le_refl _
  intro w1 hown hgrow
  rw [made_u8, ← part_zero s n] at hown
  have hb1 : Below w.heap.size w w1 := (Below.refl _ _).grown hgrow (Nat.le_refl _) (fun _ h => by cases h)
  go_wp2
  go_loopw [0, 7] (fun m i wr => ∃ k : Nat, k ≤ s ∧ i = .int .i64 ((s : Int) - 1 - k) ∧ m = .int .u64 ((n / 256 ^ k : Nat) : Int) ∧ wr.ownsRow w.heap.size 5 1 (.slice (some ⟨w.heap.size, 0, none⟩) s s) s (u8s (part s n k)) ∧ Below w.heap.size w wr) (fun _ i _ => (intOf i + 1).toNat)
  case atStart => exact ⟨0, Nat.zero_le _, by simp, by simp, hown, hb1⟩
  case round =>
    obtain ⟨k, hk, rfl, rfl, ho, hb⟩ := hrel
    clear hown hgrow hb1
    obtain ⟨q, hq⟩ : ∃ q, n / 256 ^ k = q := ⟨_, rfl⟩
    have hq64 : q ≤ 18446744073709551615 := by rw [← hq]; exact Nat.le_trans (Nat.div_le_self _ _) (by omega)
    have hq256 : n / 256 ^ (k + 1) = q / 256 := by rw [← hq, Nat.pow_succ, Nat.div_div_eq_div_mul]
    rw [hq]
    have HQ := Lib.hid hq
    have HR := Lib.hid hq256
    clear hq hq256
    by_cases hlt : k < s
    · have hc : wr.cell? ⟨w.heap.size, s - 1 - k, none⟩ = some (.int .u8 ((part s n k)[s - 1 - k]'(by rw [part_length]; omega)).toNat) := by
        rw [ho.cellAt (s - 1 - k) (by omega)]
        unfold u8s
        rw [List.getElem?_map, List.getElem?_eq_getElem (by rw [part_length]; omega)]
        rfl
      have hf := ho.frozenAt (s - 1 - k)
      go_wp2
      go_roundw
      case rel =>
        refine ⟨k + 1, by omega, by go_num, by rw [HR.out]; go_num, ?_, hb.setCell (Nat.le_refl _) _⟩
        have hs := (ho.stored (s - 1 - k) (.int .u8 ((UInt8.ofNat (n / 256 ^ k)).toNat : Int))).1
        rw [u8s_set, part_step s n k hlt, u8_ofNat, HQ.out] at hs
        exact hs
      case measure => simp [intOf]; omega
    · obtain rfl : k = s := by omega
      rw [part_all] at ho
      obtain ⟨-, -, h4, h5⟩ := Byt.of_own ho
      have hl := be_length k n
      by_cases h0 : n < 256 ^ k
      · have e0 : q = 0 := by rw [← HQ.out]; exact Nat.div_eq_of_lt h0
        subst e0
        go_wp2
        go_ret2
        exact .inl ⟨h0, yesB_mk hl (Nat.le_refl _) h4 (h5.imp fun b hb => hb.2) hb⟩
      · have e0 : 0 < q := by rw [← HQ.out]; exact Nat.div_pos (by omega) (Nat.pow_pos (by omega))
        have d3 : ((q : Int) != 0) = true := by simp; omega
        go_wp2
        go_ret2
        exact .inr ⟨by omega, rfl, hb⟩
set_option maxRecDepth 100000 in
set_option maxHeartbeats 400000 in
theorem num_any (n : Nat) (w : World) (hn : n ≤ 4096) : Calls Tryz.prog 60 #[.int .i64 n, .int .i64 2] w (NewB w (be 2 n)) := by
  go_enter Tryz.func60, Tryz.ntmps60
  go_wp2_with fail
  go_at_call 84
  refine (refput_any n 2 _ (by omega) (by omega) (by omega)).mono ?_
  rintro e w1 (⟨_, A, c, rfl, h1, h2, h3, h4⟩ | ⟨h, _⟩)
  · go_wp2
    go_ret
    exact ⟨A, c, rfl, h1, h2, h3, h4⟩
  · omega
set_option maxRecDepth 100000 in
set_option maxHeartbeats 1000000 in
theorem refjoin_any {w : World} {ok : Nat → Prop} {A : Option Addr} {ps : List (List UInt8)} {c : Nat} (hx : Lst w ok A ps) (hok : ∀ b, ok b → b < w.heap.size) (hm : ps.length ≤ maxLen) :
    Calls Tryz.prog 88 #[.slice A ps.length c] w (MayJ w ps) := by
  unfold maxLen at hm
  by_cases h64 : 64 < ps.length
  · have hno : ¬ oFit ps := fun h => by have := h.1; omega
    have HN := Lib.hid hno
    clear hno
    go_enter Tryz.func88, Tryz.ntmps88
    go_wp2
    go_ret2
    exact .inr ⟨HN.out, rfl, Below.refl _ _⟩
  have hp64 : ps.length ≤ 64 := by omega
  clear h64
  obtain ⟨i0, hi, hz0, hz1, hz2⟩ := info_parts Tryz.info5
  have hb0 : Below w.heap.size w (w.alloc (.cells #[.int .u8 (ps.length : Int)] 5)) := (Below.refl _ _).alloc (Nat.le_refl _) _
  have hown0 : (w.alloc (.cells #[.int .u8 (ps.length : Int)] 5)).ownsRow w.heap.size 5 1 (.slice (some ⟨w.heap.size, 0, none⟩) 1 1) (jk ps 0).length (u8s (jk ps 0)) := by
    have h := World.ownsRow_lit (base := w.heap.size) (e := 5) (size := 1) w #[.int .u8 (ps.length : Int)] 1 (Nat.le_refl _) (by unfold maxLen; omega) rfl
    have e : (#[Value.int .u8 (ps.length : Int)]).toList = u8s (jk ps 0) := by
      simp [u8s, jk]
      omega
    rw [e] at h
    exact h
  go_enter Tryz.func88, Tryz.ntmps88
  go_wp2
  go_loopw [4, 5] (fun v i wr => ∃ k : Nat, k ≤ ps.length ∧ i = .int .i64 k ∧ wr.ownsRow w.heap.size 5 1 v (jk ps k).length (u8s (jk ps k)) ∧ Below w.heap.size w wr ∧ Hid (∀ j (h : j < ps.length), j < k → ps[j].length ≤ 4096)) (fun _ i _ => ps.length - (intOf i).toNat)
  case atStart => exact ⟨0, Nat.zero_le _, rfl, hown0, hb0, fun j _ h => absurd h (by omega)⟩
  case round =>
    clear hown0 hb0
    obtain ⟨k, hk, rfl, hown, hb, hall⟩ := hrel
    by_cases hlt : k < ps.length
    · obtain ⟨ad, A', c', rfl, hoka, hc0, hl1, hl2, hbyt⟩ := hx k hlt
      have hc : wr.cell? (ad.add k) = some (.slice A' ps[k].length c') := (hb.cell (by rw [block_of_plus]; exact hok _ hoka)).trans hc0
      unfold maxLen at hl2
      clear hc0
      by_cases hbig : 4096 < ps[k].length
      · have hno : Hid (¬ oFit ps) := fun h => by have := h.2 ps[k] (List.getElem_mem hlt); omega
        go_wp2
        go_ret2
        exact .inr ⟨hno.out, rfl, hb⟩
      · have hjl : (jk ps k).length ≤ 1 + 4098 * k := by
          have h1 := flat_length (ps.take k) fun p hp => by
            obtain ⟨j, hj, rfl⟩ := List.getElem_of_mem hp
            have hj' : j < k ∧ j < ps.length := by simp at hj; omega
            have := hall.out j hj'.2 hj'.1
            simpa using this
          rw [List.length_take, Nat.min_eq_left hk] at h1
          simp only [jk, List.length_cons]
          omega
        go_wp2_with fail
        go_at_call 60
        refine (num_any ps[k].length _ (by omega)).mono ?_
        rintro e w2 ⟨A2, c2, rfl, hc21, hc22, hby2, hb2⟩
        have hb2' : Below w.heap.size w w2 := hb.trans (hb2.mono hb.size)
        have hown2 := own_below hown hb2
        go_wp2_with (at_builtin; refine wpList_append_byt _ rfl _ _ 40 rfl w.heap.size i0 (.int .u8 0) Tryz.underlying40 hi hz0 hz1 hz2 rfl _ _ _ rfl hown2 (fun b => wr.heap.size ≤ b ∧ b < w2.heap.size) A2 _ (be 2 ps[k].length) rfl hby2 ?d3 ?d4 ?_)
        case d3 => rw [be_length]; omega
        case d4 => exact hb2'.size
        intro v1 w3 hown3 hgrow3 hat3
        have hb3 : Below w.heap.size w w3 := hb2'.grown hgrow3 hb2'.size fun g hg => (hown2.lt g hg).1
        have hby3 : Byt w3 ok A' ps[k] := hbyt.below hb3 hok
        have hc3 : w3.cell? (ad.add k) = some (.slice A' ps[k].length c') := (hb3.cell (by rw [block_of_plus]; exact hok _ hoka)).trans ((hb.cell (by rw [block_of_plus]; exact hok _ hoka)).symm.trans hc)
        go_wp2_with (at_builtin; refine wpList_append_byt _ rfl _ _ 40 rfl w.heap.size i0 (.int .u8 0) Tryz.underlying40 hi hz0 hz1 hz2 rfl _ _ _ rfl hown3 ok A' _ ps[k] rfl hby3 ?d5 ?d6 ?_)
        case d5 => rw [be_length]; omega
        case d6 => exact hb3.size
        intro v2 w4 hown4 hgrow4 hat4
        have hb4 : Below w.heap.size w w4 := hb3.grown hgrow4 hb3.size fun g hg => (hown3.lt g hg).1
        have hend : w4.ownsRow w.heap.size 5 1 v2 (jk ps (k + 1)).length (u8s (jk ps (k + 1))) := by
          rw [jk_step ps k hlt]
          simpa [be, be_length, Nat.add_assoc, Nat.add_comm 2] using hown4
        clear hown hown3 hgrow3 hat3 hby3 hown4 hgrow4 hat4 hb hb3 hown2 hb2 hb2' hc3 hc
        have hup := upto_step (hk := hlt) hall.out (by omega)
        have HUP := Lib.hid hup
        clear hup
        go_wp2
        go_roundw
        case rel => exact ⟨k + 1, by omega, by go_num, hend, hb4, HUP⟩
        case measure => simp [intOf]; omega
    · rw [jk_all ps k (by omega)] at hown
      have hfit : Hid (oFit ps) := ⟨hp64, fun p hp => by
        obtain ⟨j, hj, rfl⟩ := List.getElem_of_mem hp
        exact hall.out j hj (by omega)⟩
      obtain ⟨A', c', rfl, -, h2, h3, h4⟩ := own_form hown
      go_wp2
      go_ret2
      exact .inl ⟨hfit.out, yesB_mk rfl h2 h3 (h4.imp fun b hb => hb.2) hb⟩
end Go.Proofs.YtonpcenjipigpaaGreat
