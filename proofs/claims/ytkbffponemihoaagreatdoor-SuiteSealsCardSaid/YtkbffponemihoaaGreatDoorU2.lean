/- slices.Concat and slices.Grow of bytes: the pieces, one behind the other, in new memory. Conditions: at least one byte, no more than a million of them. -/
import Derived.Test.YtkbffponemihoaaGreatDoorU1
import Derived.Lib.AppendZerosOnto
namespace Go.Proofs.YtkbffponemihoaaGreatDoor
open Go.RowKit T
theorem size5' (w : World) : (sizeOf 5).run Tryz.prog w = .ok 1 w := by kernel_rfl
set_option maxRecDepth 100000 in
set_option maxHeartbeats 1000000 in
theorem grow_any (w : World) (n : Nat) (h1 : 1 ≤ n) (h2 : n ≤ 1000000) :
    Calls Tryz.prog 50 #[.slice none 0 0, .int .i64 (n : Int)] w fun e w' => ∃ v, e = .returned v ∧ w'.ownsRow w.heap.size 5 1 v 0 (u8s []) ∧ Below w.heap.size w w' := by
  obtain ⟨i0, hi, hz0, hz1, hz2⟩ := info_parts Tryz.info5
  have d1 : ((n : Int) < 0) = False := by simp
  have d2 : decide (0 < (n : Int)) = true := by simp; omega
  have hrz : ∀ ty, (Builtin.append_ #[23, 3] ty #[.slice none 0 0, .int .i64 (n : Int)]).run Tryz.prog w =
      .ok (.slice (some ⟨w.heap.size, 0, none⟩) n (grownCap w n 0 5)) (w.drew.alloc (.cells ((#[] : Array Value) ++ Builtin.zeroCells (Value.int .u8 0).cells n ++ Builtin.zeroCells (Value.int .u8 0).cells (grownCap w n 0 5 - n)) 5)) := fun ty => by
    have hold : (Builtin.firstCells i0.size 0 (.slice none 0 0)).run Tryz.prog w.drew = .ok ([] : List Value).toArray w.drew := run_firstCells_none w.drew i0.size 0 0 0
    have h := Lib.run_append_grow_zeros (P := Tryz.prog) w 23 3 ty 5 i0 (.int .u8 0) .i64 .i64 Tryz.underlying23 Tryz.underlying3 hi hz0 none 0 0 [] hold n (by omega) (by omega) (by omega) (by omega) (by rw [hz2]; omega) (growslice_fits (by omega) (by rw [hz2]; omega))
    rw [Nat.zero_add] at h
    exact h
  have hGn : n ≤ grownCap w n 0 5 := grownCap_ge w _ _ _
  have hG63 : grownCap w n 0 5 ≤ maxLen := grownCap_le_maxLen w n 0 5 (by unfold maxLen; omega)
  obtain ⟨G, hG⟩ : ∃ G, G = grownCap w n 0 5 := ⟨_, rfl⟩
  rw [← hG] at hrz hGn hG63
  have hz : (Builtin.zeroCells (Value.int .u8 0).cells n).size = n := by simp [Builtin.zeroCells, Value.cells]
  have hz' : (Builtin.zeroCells (Value.int .u8 0).cells (G - n)).size = G - n := by simp [Builtin.zeroCells, Value.cells]
  obtain ⟨cs, hcs⟩ : ∃ cs, cs = (#[] : Array Value) ++ Builtin.zeroCells (Value.int .u8 0).cells n ++ Builtin.zeroCells (Value.int .u8 0).cells (G - n) := ⟨_, rfl⟩
  have hsz : cs.size = G := by rw [hcs, Array.size_append, Array.size_append, hz, hz']; simp; omega
  rw [← hcs] at hrz
  have HS := Lib.hid hsz
  have HG := Lib.hid hG63
  clear hG hz hz' hcs hsz hG63
  go_enter Tryz.func50, Tryz.ntmps50
  go_wp2_with (at_builtin; refine Lib.wpList_append_run _ rfl _ _ _ _ rfl _ _ rfl rfl _ _ (hrz _) ?_)
  go_ret
  refine ⟨_, rfl, ⟨rfl, .inr ⟨w.heap.size, G, cs, rfl, Nat.le_refl _, ?_, Nat.zero_le _, HG.out, by rw [HS.out, Nat.mul_one], by simp [u8s]⟩⟩, ?_⟩
  · exact (C.Blk.of_alloc w cs 5 : C.Blk (w.alloc (.cells cs 5)) w.heap.size 5 cs.toList)
  · exact ⟨rfl, rfl, rfl, by simp, fun k hk => (grown_below (World.grownBy_alloc w (.cells cs 5) none)).block k hk⟩
/-- The first k pieces together. -/
def cat (ps : List (List UInt8)) (k : Nat) : List UInt8 := (ps.take k).flatten
theorem cat_step (ps : List (List UInt8)) (k : Nat) (h : k < ps.length) : cat ps (k + 1) = cat ps k ++ ps[k] := by
  have e : ps.take (k + 1) = ps.take k ++ [ps[k]] := (List.take_append_getElem h).symm
  unfold cat
  rw [e, List.flatten_append, List.flatten_cons, List.flatten_nil, List.append_nil]
theorem cat_all (ps : List (List UInt8)) (k : Nat) (h : ps.length ≤ k) : cat ps k = ps.flatten := by unfold cat; rw [List.take_of_length_le h]
theorem cat_le (ps : List (List UInt8)) (k : Nat) : (cat ps k).length ≤ ps.flatten.length := by
  unfold cat
  conv => rhs; rw [← List.take_append_drop k ps]
  rw [List.flatten_append, List.length_append]
  omega
set_option maxRecDepth 100000 in
set_option maxHeartbeats 1000000 in
theorem concat_any {w : World} {ok : Nat → Prop} {A : Option Addr} {ps : List (List UInt8)} {n c : Nat} (hx : Lst w ok A ps) (hok : ∀ b, ok b → b < w.heap.size) (hn : ps.length = n) (hn2 : n ≤ 1000) (h1 : 1 ≤ ps.flatten.length) (h2 : ps.flatten.length ≤ 1000000) :
    Calls Tryz.prog 30 #[.slice A n c] w fun e w' => ∃ A' c', e = .returned (.slice A' ps.flatten.length c') ∧ ps.flatten.length ≤ c' ∧ c' ≤ maxLen ∧ Byt w' (fun b => w.heap.size ≤ b ∧ b < w'.heap.size) A' ps.flatten ∧ Below w.heap.size w w' := by
  subst hn
  obtain ⟨N, hN⟩ : ∃ N, N = ps.flatten.length := ⟨_, rfl⟩
  have hle := cat_le ps
  rw [← hN] at h1 h2 hle ⊢
  have HN := Lib.hid hN
  have HLE := Lib.hid hle
  clear hN hle
  obtain ⟨i0, hi, hz0, hz1, hz2⟩ := info_parts Tryz.info5
  go_enter Tryz.func30, Tryz.ntmps30
  go_wp2
  go_loop [3, 11] (fun z i => ∃ (k : Nat), k ≤ ps.length ∧ i = .int .i64 k ∧ z = .int .i64 (cat ps k).length) (fun _ i => ps.length - (intOf i).toNat)
  case atStart => exact ⟨0, Nat.zero_le _, rfl, rfl⟩
  case round =>
    obtain ⟨k, hk, rfl, rfl⟩ := hrel
    by_cases hlt : k < ps.length
    · obtain ⟨ad, A', c', rfl, _, hc, hl1, hl2, _⟩ := hx k hlt
      have hs := cat_step ps k hlt
      have hls : (cat ps k).length + ps[k].length = (cat ps (k + 1)).length := by rw [hs, List.length_append]
      have hb := HLE.out (k + 1)
      have d1 : decide (((cat ps (k + 1)).length : Int) < 0) = false := by simp
      clear hs
      go_wp2
      go_round
      case rel => exact ⟨k + 1, by omega, by go_num, by go_num⟩
      case measure => simp [intOf]; omega
    · have hall := cat_all ps k (by omega)
      rw [hall, ← HN.out]
      clear hall
      go_wp2_with fail
      go_at_call 50
      refine (grow_any w N h1 h2).mono ?_
      rintro _ w1 ⟨v1, rfl, hown1, hb1⟩
      go_wp2
      go_loopw [6, 27] (fun v i wr => ∃ k : Nat, k ≤ ps.length ∧ i = .int .i64 k ∧ wr.ownsRow w.heap.size 5 1 v (cat ps k).length (u8s (cat ps k)) ∧ Below w.heap.size w wr) (fun _ i _ => ps.length - (intOf i).toNat)
      case atStart => exact ⟨0, Nat.zero_le _, rfl, hown1, hb1⟩
      case round =>
        clear hown1 hb1
        obtain ⟨k, hk, rfl, hown, hb⟩ := hrel
        by_cases hlt : k < ps.length
        · obtain ⟨ad, A', c', rfl, hoka, hc0, hl1, hl2, hbyt⟩ := hx k hlt
          have hc : wr.cell? (ad.add k) = some (.slice A' ps[k].length c') := (hb.cell (by rw [block_of_plus]; exact hok _ hoka)).trans hc0
          have hs := cat_step ps k hlt
          have hls : (cat ps k).length + ps[k].length = (cat ps (k + 1)).length := by rw [hs, List.length_append]
          have HSS := Lib.hid hs
          clear hs
          have hbd := HLE.out (k + 1)
          have hby : Byt wr ok A' ps[k] := hbyt.below hb hok
          clear hc0
          go_wp2_with (at_builtin; refine wpList_append_byt _ rfl _ _ 23 rfl w.heap.size i0 (.int .u8 0) Tryz.underlying23 hi hz0 hz1 hz2 rfl _ _ _ rfl hown ok A' _ ps[k] rfl hby ?d5 ?d6 ?_)
          case d5 => omega
          case d6 => exact hb.size
          intro v2 w4 hown4 hgrow4 hat4
          have hb4 : Below w.heap.size w w4 := hb.grown hgrow4 hb.size fun g hg => (hown.lt g hg).1
          have hend : w4.ownsRow w.heap.size 5 1 v2 (cat ps (k + 1)).length (u8s (cat ps (k + 1))) := by
            rw [HSS.out]
            rw [HSS.out] at hown4
            rw [List.length_append]
            rw [List.length_append] at hown4
            exact hown4
          clear hown hown4 hgrow4 hat4 hb hby
          go_wp2
          go_roundw
          case rel => exact ⟨k + 1, by omega, by go_num, hend, hb4⟩
          case measure => simp [intOf]; omega
        · rw [cat_all ps k (by omega)] at hown
          obtain ⟨A', c', rfl, -, h2, h3, h4⟩ := own_form hown
          go_wp2
          go_ret
          rw [HN.out]
          exact ⟨A', c', rfl, h2, h3, h4.imp fun b hb => hb.2, hb⟩
end Go.Proofs.YtkbffponemihoaaGreatDoor
