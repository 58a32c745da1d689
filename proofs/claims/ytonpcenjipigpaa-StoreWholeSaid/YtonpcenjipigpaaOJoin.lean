/- Join, and its reference, write the joined text of a list; Great only tells how much a list holds. Conditions: none. -/
import Derived.Test.YtonpcenjipigpaaOPut
import Derived.Test.YtonpcenjipigpaaDBrn
import Derived.Test.YtonpcenjipigpaaDMath
import Derived.Test.YtonpcenjipigpaaDMem
namespace Go.Proofs.Ytonpcenjipigpaa
open Go.RowKit
/-- Some bool is answered, and nothing has turned. -/
def SomeBool (w : World) (e : Ending) (w' : World) : Prop := ∃ b, e = .returned (.bool b) ∧ w = w'
theorem upto_step {ps : List (List UInt8)} {k : Nat} (h : ∀ j (h : j < ps.length), j < k → ps[j].length ≤ 4096) {hk : k < ps.length} (h1 : ps[k].length ≤ 4096) : ∀ j (h : j < ps.length), j < k + 1 → ps[j].length ≤ 4096 := by
  intro j hj hjk
  by_cases e : j = k
  · subst e; exact h1
  · exact h j hj (by omega)
theorem own_below {w w' : World} {base e size n : Nat} {v : Value} {xs : List Value} (h : w.ownsRow base e size v n xs) (hb : Below w.heap.size w w') : w'.ownsRow base e size v n xs :=
  h.kept (row := none) ⟨hb.os, hb.tape, hb.output, hb.size, fun i hi _ => hb.block i hi⟩ (by cases hv : v.ownBlock <;> simp)
/-- What is joined when k pieces are. -/
def jk (ps : List (List UInt8)) (k : Nat) : List UInt8 := UInt8.ofNat ps.length :: (ps.take k).flatMap enc
theorem jk_all (ps : List (List UInt8)) (k : Nat) (h : ps.length ≤ k) : jk ps k = jn ps := by rw [jk, List.take_of_length_le h]; rfl
theorem jk_step (ps : List (List UInt8)) (k : Nat) (h : k < ps.length) : jk ps (k + 1) = (jk ps k ++ [UInt8.ofNat (ps[k].length / 256), UInt8.ofNat ps[k].length]) ++ ps[k] := by
  rw [jk, List.take_succ_eq_append_getElem h, List.flatMap_append]
  simp [jk, enc]
theorem jk_length (ps : List (List UInt8)) (k : Nat) (h : oFit ps) (hk : k ≤ ps.length) : (jk ps k).length ≤ 1 + 4098 * k := by
  have h1 := flat_length (ps.take k) fun p hp => h.2 p (List.mem_of_mem_take hp)
  rw [List.length_take, Nat.min_eq_left hk] at h1
  simp only [jk, List.length_cons]
  omega
theorem byt_one (w : World) {a : Int} {x : UInt8} (ha : a = x.toNat) : Byt (w.alloc (.cells #[.int .u8 a] 5)) (fun _ => True) (some ⟨w.heap.size, 0, none⟩) [x] := by
  intro j hj
  obtain rfl : j = 0 := by simp at hj; omega
  subst ha
  exact ⟨_, rfl, trivial, by simp [go_sem]⟩
theorem byt_two (w : World) {a b : Int} {x y : UInt8} (ha : a = x.toNat) (hb : b = y.toNat) : Byt (w.alloc (.cells #[.int .u8 a, .int .u8 b] 5)) (fun _ => True) (some ⟨w.heap.size, 0, none⟩) [x, y] := by
  intro j hj
  subst ha
  subst hb
  have : j = 0 ∨ j = 1 := by simp at hj; omega
  rcases this with rfl | rfl
  · exact ⟨_, rfl, trivial, by simp [go_sem]⟩
  · exact ⟨_, rfl, trivial, by simp [go_sem]⟩
set_option maxRecDepth 100000 in
set_option maxHeartbeats 400000 in
theorem join_no {w : World} {ok : Nat → Prop} {A : Option Addr} {ps : List (List UInt8)} {c : Nat} (hx : Lst w ok A ps) (hm : ps.length ≤ maxLen) (hf : ¬ oFit ps) :
    Calls Try.prog 61 #[.slice A ps.length c] w fun e w' => e = noB ∧ w = w' := by
  unfold maxLen at hm
  by_cases h64 : 64 < ps.length
  · go_enter Try.func61, Try.ntmps61
    go_wp2
    go_ret2
    exact ⟨rfl, rfl⟩
  have HF := Lib.hid hf
  clear hf
  go_enter Try.func61, Try.ntmps61
  go_wp2
  go_loop [4, 15] (fun n i => ∃ (k : Nat) (z : Int), k ≤ ps.length ∧ i = .int .i64 k ∧ 1 ≤ z ∧ z ≤ 1 + 4098 * k ∧ n = .int .i64 z ∧ Hid (∀ j (h : j < ps.length), j < k → ps[j].length ≤ 4096)) (fun _ i => ps.length - (intOf i).toNat)
  case atStart => exact ⟨0, 1, Nat.zero_le _, rfl, by omega, by omega, rfl, fun j _ h => absurd h (by omega)⟩
  case round =>
    obtain ⟨k, z, hk, rfl, hz0, hz1, rfl, hall⟩ := hrel
    by_cases hlt : k < ps.length
    · obtain ⟨ad, A', c', rfl, _, hc, hl1, hl2, _⟩ := hx k hlt
      unfold maxLen at hl2
      by_cases hbig : 4096 < ps[k].length
      · go_wp2
        go_ret2
        exact ⟨rfl, rfl⟩
      · go_wp2
        go_round
        case rel => exact ⟨k + 1, _, by omega, by go_num, by omega, by omega, rfl, upto_step hall.out (by omega)⟩
        case measure => simp [intOf]; omega
    · exfalso
      refine HF.out ⟨by omega, fun p hp => ?_⟩
      obtain ⟨j, hj, rfl⟩ := List.getElem_of_mem hp
      exact hall.out j hj (by omega)
set_option maxRecDepth 100000 in
set_option maxHeartbeats 1000000 in
theorem join_yes {w : World} {ok : Nat → Prop} {A : Option Addr} {ps : List (List UInt8)} {c : Nat} (hx : Lst w ok A ps) (hok : ∀ b, ok b → b < w.heap.size) (hf : oFit ps) :
    Calls Try.prog 61 #[.slice A ps.length c] w (YesB w (jn ps)) := by
  have h64 := hf.1
  have HF := Lib.hid hf
  clear hf
  obtain ⟨i0, hi, hz0, hz1, hz2⟩ := info_parts Try.info5
  go_enter Try.func61, Try.ntmps61
  go_wp2
  go_loop [4, 15] (fun n i => ∃ (k : Nat) (z : Nat), k ≤ ps.length ∧ i = .int .i64 k ∧ 1 ≤ z ∧ z ≤ 1 + 4098 * k ∧ n = .int .i64 z) (fun _ i => ps.length - (intOf i).toNat)
  case atStart => exact ⟨0, 1, Nat.zero_le _, rfl, by omega, by omega, rfl⟩
  case round =>
    obtain ⟨k, z, hk, rfl, hs0, hs1, rfl⟩ := hrel
    by_cases hlt : k < ps.length
    · obtain ⟨ad, A', c', rfl, _, hc, hl1, hl2, _⟩ := hx k hlt
      have hp := HF.out.2 ps[k] (List.getElem_mem hlt)
      unfold maxLen at hl2
      go_wp2
      go_round
      case rel => exact ⟨k + 1, z + (2 + ps[k].length), by omega, by go_num, by omega, by omega, by go_num⟩
      case measure => simp [intOf]; omega
    · go_wp2_with (with_reducible refine wpList_make_own _ rfl _ _ 40 rfl w.heap.size 5 i0 (.int .u8 0) 1 Try.underlying40 hi hz0 hz1 .i64 .i64 _ z rfl rfl rfl ?c1 ?c2 ?c3 ?_)
      case c1 => omega
      case c2 => unfold maxLen; omega
      intro w1 hown hgrow
      have hb1 : Below w.heap.size w w1 := (Below.refl _ _).grown hgrow (Nat.le_refl _) (fun _ h => by cases h)
      have hown1 := hown.alloc (.cells #[.int .u8 (ps.length : Int)] 5)
      go_wp2_with (at_builtin; refine wpList_append_byt _ rfl _ _ 40 rfl w.heap.size i0 (.int .u8 0) Try.underlying40 hi hz0 hz1 hz2 rfl _ 0 [] rfl hown1 (fun _ => True) _ _ [UInt8.ofNat ps.length] rfl (byt_one w1 ?d1) ?d2 ?d3 ?_)
      case d1 => rw [u8_ofNat]; omega
      case d2 => simp
      case d3 => simp; have := hgrow.size; omega
      intro v' w2 hown2 hgrow2 hat2
      have hb2 : Below w.heap.size w w2 := by
        refine (hb1.alloc hb1.size _).grown hgrow2 (by simp; have := hgrow.size; omega) ?_
        intro g hg
        simp [Value.ownBlock] at hg
        omega
      have hstart : w2.ownsRow w.heap.size 5 1 v' (jk ps 0).length (u8s (jk ps 0)) := hown2
      clear hown2 hown1 hown hgrow hgrow2 hat2 hb1
      go_wp2
      go_loopw [7, 37] (fun v i wr => ∃ k : Nat, k ≤ ps.length ∧ i = .int .i64 k ∧ wr.ownsRow w.heap.size 5 1 v (jk ps k).length (u8s (jk ps k)) ∧ Below w.heap.size w wr) (fun _ i _ => ps.length - (intOf i).toNat)
      case atStart => exact ⟨0, Nat.zero_le _, rfl, hstart, hb2⟩
      case round =>
        clear hstart hb2
        obtain ⟨k, hk, rfl, hown, hb⟩ := hrel
        have hjl := jk_length ps k HF.out hk
        by_cases hlt : k < ps.length
        · obtain ⟨ad, A', c', rfl, hoka, hc0, hl1, hl2, hbyt⟩ := hx k hlt
          have hp := HF.out.2 ps[k] (List.getElem_mem hlt)
          have hc : wr.cell? (ad.add k) = some (.slice A' ps[k].length c') := (hb.cell (by rw [block_of_plus]; exact hok _ hoka)).trans hc0
          unfold maxLen at hl2
          clear hc0
          go_wp2_with (at_builtin; (refine wpList_append_byt _ rfl _ _ 40 rfl w.heap.size i0 (.int .u8 0) Try.underlying40 hi hz0 hz1 hz2 rfl _ _ _ rfl (hown.alloc _) (fun _ => True) _ _ [UInt8.ofNat (ps[k].length / 256), UInt8.ofNat ps[k].length] rfl (byt_two wr ?d1 ?d2) ?d3 ?d4 ?_))
          case d1 => rw [u8_ofNat]; omega
          case d2 => rw [u8_ofNat]; omega
          case d3 => simp; omega
          case d4 => simp; have := hb.size; omega
          intro v1 w3 hown3 hgrow3 hat3
          have hb3 : Below w.heap.size w w3 := (hb.alloc hb.size _).grown hgrow3 (by simp; have := hb.size; omega) fun g hg => (hown.lt g hg).1
          have hby3 : Byt w3 ok A' ps[k] := hbyt.below hb3 hok
          go_wp2_with (at_builtin; refine wpList_append_byt _ rfl _ _ 40 rfl w.heap.size i0 (.int .u8 0) Try.underlying40 hi hz0 hz1 hz2 rfl _ _ _ rfl hown3 ok A' _ ps[k] rfl hby3 ?d5 ?d6 ?_)
          case d5 => omega
          case d6 => exact hb3.size
          intro v2 w4 hown4 hgrow4 hat4
          have hb4 : Below w.heap.size w w4 := hb3.grown hgrow4 hb3.size fun g hg => (hown3.lt g hg).1
          have hend : w4.ownsRow w.heap.size 5 1 v2 (jk ps (k + 1)).length (u8s (jk ps (k + 1))) := by
            rw [jk_step ps k hlt]
            simpa [Nat.add_assoc, Nat.add_comm 2] using hown4
          clear hown hown3 hgrow3 hat3 hby3 hown4 hgrow4 hat4 hb hb3
          go_wp2
          go_roundw
          case rel => exact ⟨k + 1, by omega, by go_num, hend, hb4⟩
          case measure => simp [intOf]; omega
        · rw [jk_all ps k (by omega)] at hown
          obtain ⟨A', c', rfl, -, h2, h3, h4⟩ := own_form hown
          go_wp2
          go_ret2
          exact yesB_mk rfl h2 h3 (h4.imp fun b hb => hb.2) hb
/-- The joined text in new memory, if the list may be joined; else nothing. -/
def MayJ (w : World) (ps : List (List UInt8)) (e : Ending) (w' : World) : Prop := (oFit ps ∧ YesB w (jn ps) e w') ∨ (¬ oFit ps ∧ e = noB ∧ Below w.heap.size w w')
end Go.Proofs.Ytonpcenjipigpaa
