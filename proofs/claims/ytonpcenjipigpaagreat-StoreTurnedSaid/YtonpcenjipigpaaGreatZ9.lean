/- The small functions of the store: numbers as bytes of the call's own, slices.Concat, blocks, sum, fill, get. Conditions: at most a million bytes. -/
import Derived.Test.YtonpcenjipigpaaGreatZ6
import Derived.Test.YtonpcenjipigpaaGreatZ8
import Derived.Lib.AppendZerosOnto
namespace Go.Proofs.YtonpcenjipigpaaGreat
open Go.RowKit
theorem below_of_grown {w w' : World} (h : w.grownBy w' none) : Below w.heap.size w w' := ⟨h.os, h.tape, h.output, h.size, fun k hk => h.block k hk (by simp)⟩
theorem grown_of_below {w w' : World} (h : Below w.heap.size w w') : w.grownBy w' none := ⟨h.os, h.tape, h.output, h.size, fun k hk _ => h.block k hk⟩
theorem grown_below {w w' : World} (h : w.grownBy w' none) : Below w.heap.size w w' := below_of_grown h
/-- In new memory lies just xs, as a row of the call's own. -/
def OwnB (w : World) (xs : List UInt8) (e : Ending) (w' : World) : Prop := ∃ v, e = .returned v ∧ w'.ownsRow w.heap.size 5 1 v xs.length (u8s xs) ∧ Below w.heap.size w w'
theorem size5' (w : World) : (sizeOf 5).run Tryz.prog w = .ok 1 w := by kernel_rfl
set_option maxRecDepth 100000 in
set_option maxHeartbeats 1000000 in
theorem grow_any (w : World) (n : Nat) (h1 : 1 ≤ n) (h2 : n ≤ 1000000) :
    Calls Tryz.prog 95 #[.slice none 0 0, .int .i64 (n : Int)] w fun e w' => ∃ v, e = .returned v ∧ w'.ownsRow w.heap.size 5 1 v 0 (u8s []) ∧ Below w.heap.size w w' := by
  obtain ⟨i0, hi, hz0, hz1, hz2⟩ := info_parts Tryz.info5
  have d1 : ((n : Int) < 0) = False := by simp
  have d2 : decide (0 < (n : Int)) = true := by simp; omega
  have hrz : ∀ ty, (Builtin.append_ #[40, 3] ty #[.slice none 0 0, .int .i64 (n : Int)]).run Tryz.prog w =
      .ok (.slice (some ⟨w.heap.size, 0, none⟩) n (grownCap w n 0 5)) (w.drew.alloc (.cells ((#[] : Array Value) ++ Builtin.zeroCells (Value.int .u8 0).cells n ++ Builtin.zeroCells (Value.int .u8 0).cells (grownCap w n 0 5 - n)) 5)) := fun ty => by
    have hold : (Builtin.firstCells i0.size 0 (.slice none 0 0)).run Tryz.prog w.drew = .ok ([] : List Value).toArray w.drew := run_firstCells_none w.drew i0.size 0 0 0
    have h := Lib.run_append_grow_zeros (P := Tryz.prog) w 40 3 ty 5 i0 (.int .u8 0) .i64 .i64 Tryz.underlying40 Tryz.underlying3 hi hz0 none 0 0 [] hold n (by omega) (by omega) (by omega) (by omega) (by rw [hz2]; omega) (growslice_fits (by omega) (by rw [hz2]; omega))
    rw [Nat.zero_add] at h
    exact h
  have hGn : n ≤ grownCap w n 0 5 := grownCap_ge w _ _ _
  have hG63 : grownCap w n 0 5 ≤ maxLen := grownCap_le_maxLen w n 0 5 (by unfold maxLen; omega)
  obtain ⟨G, hG⟩ : ∃ G, G = grownCap w n 0 5 := ⟨_, rfl⟩
  rw [← hG] at hrz hGn hG63
  have hz : (Builtin.zeroCells (Value.int .u8 0).cells n).size = n := by simp [Builtin.zeroCells, Value.cells]
  have hz' : (Builtin.zeroCells (Value.int .u8 0).cells (G - n)).size = G - n := by simp [Builtin.zeroCells, Value.cells]
  obtain ⟨cs, hcs⟩ : ∃ cs, cs = (#[] : Array Value) ++ Builtin.zeroCells (Value.int .u8 0).cells n ++ Builtin.zeroCells (Value.int .u8 0).cells (G - n) := ⟨_, rfl⟩
  have hsz : cs.size = G := by rw [hcs, Array.size_append, Array.size_append, hz, hz']; simp; omega
  rw [← hcs] at hrz
  have HS := Lib.hid hsz
  have HG := Lib.hid hG63
  clear hG hz hz' hcs hsz hG63
  go_enter Tryz.func95, Tryz.ntmps95
  go_wp2_with (at_builtin; refine Lib.wpList_append_run _ rfl _ _ _ _ rfl _ _ rfl rfl _ _ (hrz _) ?_)
  go_ret
  refine ⟨_, rfl, ⟨rfl, .inr ⟨w.heap.size, G, cs, rfl, Nat.le_refl _, ?_, Nat.zero_le _, HG.out, by rw [HS.out, Nat.mul_one], by simp [u8s]⟩⟩, ?_⟩
  · exact (Blk.of_alloc w cs 5 : Blk (w.alloc (.cells cs 5)) w.heap.size 5 cs.toList)
  · exact ⟨rfl, rfl, rfl, by simp, fun k hk => (grown_below (World.grownBy_alloc w (.cells cs 5) none)).block k hk⟩
/-- The first k pieces together. -/
def cat (ps : List (List UInt8)) (k : Nat) : List UInt8 := (ps.take k).flatten
theorem cat_step (ps : List (List UInt8)) (k : Nat) (h : k < ps.length) : cat ps (k + 1) = cat ps k ++ ps[k] := by
  have e : ps.take (k + 1) = ps.take k ++ [ps[k]] := (List.take_append_getElem h).symm
  unfold cat
  rw [e, List.flatten_append, List.flatten_cons, List.flatten_nil, List.append_nil]
theorem cat_all (ps : List (List UInt8)) (k : Nat) (h : ps.length ≤ k) : cat ps k = ps.flatten := by unfold cat; rw [List.take_of_length_le h]
theorem cat_le (ps : List (List UInt8)) (k : Nat) : (cat ps k).length ≤ ps.flatten.length := by
  unfold cat
  conv => rhs; rw [← List.take_append_drop k ps]
  rw [List.flatten_append, List.length_append]
  omega
set_option maxRecDepth 100000 in
set_option maxHeartbeats 1000000 in
theorem concat_any {w : World} {ok : Nat → Prop} {A : Option Addr} {ps : List (List UInt8)} {n c : Nat} (hx : Lst w ok A ps) (hok : ∀ b, ok b → b < w.heap.size) (hn : ps.length = n) (hn2 : n ≤ 1000) (h1 : 1 ≤ ps.flatten.length) (h2 : ps.flatten.length ≤ 1000000) :
    Calls Tryz.prog 80 #[.slice A n c] w (OwnB w ps.flatten) := by
  subst hn
  unfold OwnB
  obtain ⟨N, hN⟩ : ∃ N, N = ps.flatten.length := ⟨_, rfl⟩
  have hle := cat_le ps
  rw [← hN] at h1 h2 hle ⊢
  have HN := Lib.hid hN
  have HLE := Lib.hid hle
  clear hN hle
  obtain ⟨i0, hi, hz0, hz1, hz2⟩ := info_parts Tryz.info5
  go_enter Tryz.func80, Tryz.ntmps80
  go_wp2
  go_loop [3, 11] (fun z i => ∃ (k : Nat), k ≤ ps.length ∧ i = .int .i64 k ∧ z = .int .i64 (cat ps k).length) (fun _ i => ps.length - (intOf i).toNat)
  case atStart => exact ⟨0, Nat.zero_le _, rfl, rfl⟩
  case round =>
    obtain ⟨k, hk, rfl, rfl⟩ := hrel
    by_cases hlt : k < ps.length
    · obtain ⟨ad, A', c', rfl, _, hc, hl1, hl2, _⟩ := hx k hlt
      have hs := cat_step ps k hlt
      have hls : (cat ps k).length + ps[k].length = (cat ps (k + 1)).length := by rw [hs, List.length_append]
      have hb := HLE.out (k + 1)
      have d1 : decide (((cat ps (k + 1)).length : Int) < 0) = false := by simp
      clear hs
      go_wp2
      go_round
      case rel => exact ⟨k + 1, by omega, by go_num, by go_num⟩
      case measure => simp [intOf]; omega
    · have hall := cat_all ps k (by omega)
      rw [hall, ← HN.out]
      clear hall
      go_wp2_with fail
      go_at_call 95
      refine (grow_any w N h1 h2).mono ?_
      rintro _ w1 ⟨v1, rfl, hown1, hb1⟩
      go_wp2
      go_loopw [6, 27] (fun v i wr => ∃ k : Nat, k ≤ ps.length ∧ i = .int .i64 k ∧ wr.ownsRow w.heap.size 5 1 v (cat ps k).length (u8s (cat ps k)) ∧ Below w.heap.size w wr) (fun _ i _ => ps.length - (intOf i).toNat)
      case atStart => exact ⟨0, Nat.zero_le _, rfl, hown1, hb1⟩
      case round =>
        clear hown1 hb1
        obtain ⟨k, hk, rfl, hown, hb⟩ := hrel
        by_cases hlt : k < ps.length
        · obtain ⟨ad, A', c', rfl, hoka, hc0, hl1, hl2, hbyt⟩ := hx k hlt
          have hc : wr.cell? (ad.add k) = some (.slice A' ps[k].length c') := (hb.cell (by rw [block_of_plus]; exact hok _ hoka)).trans hc0
          have hs := cat_step ps k hlt
          have hls : (cat ps k).length + ps[k].length = (cat ps (k + 1)).length := by rw [hs, List.length_append]
          have HSS := Lib.hid hs
          clear hs
          have hbd := HLE.out (k + 1)
          have hby : Byt wr ok A' ps[k] := hbyt.below hb hok
          clear hc0
          go_wp2_with (at_builtin; refine wpList_append_byt _ rfl _ _ 40 rfl w.heap.size i0 (.int .u8 0) Tryz.underlying40 hi hz0 hz1 hz2 rfl _ _ _ rfl hown ok A' _ ps[k] rfl hby ?d5 ?d6 ?_)
          case d5 => omega
          case d6 => exact hb.size
          intro v2 w4 hown4 hgrow4 hat4
          have hb4 : Below w.heap.size w w4 := hb.grown hgrow4 hb.size fun g hg => (hown.lt g hg).1
          have hend : w4.ownsRow w.heap.size 5 1 v2 (cat ps (k + 1)).length (u8s (cat ps (k + 1))) := by
            rw [HSS.out]
            rw [HSS.out] at hown4
            rw [List.length_append]
            rw [List.length_append] at hown4
            exact hown4
          clear hown hown4 hgrow4 hat4 hb hby
          go_wp2
          go_roundw
          case rel => exact ⟨k + 1, by omega, by go_num, hend, hb4⟩
          case measure => simp [intOf]; omega
        · rw [cat_all ps k (by omega)] at hown
          go_wp2
          go_ret
          rw [HN.out]
          exact ⟨_, rfl, hown, hb⟩
set_option maxRecDepth 100000 in
set_option maxHeartbeats 800000 in
theorem put_own (n s : Nat) (w : World) (h1 : 1 ≤ s) (h8 : s ≤ 8) (hn : n < 256 ^ s) :
    Calls Tryz.prog 96 #[.int .u64 n, .int .i64 s] w fun e w' => ∃ v, e = .returned (.tuple #[v, .bool true]) ∧ w'.ownsRow w.heap.size 5 1 v (be s n).length (u8s (be s n)) ∧ Below w.heap.size w w' := by
  have d1 : decide ((s : Int) < 1) = false := by simp; omega
  have d2 : decide (8 < (s : Int)) = false := by simp; omega
  have d3 : ((n : Int) / 2 ^ (8 * s) != 0) = false := by rw [shr_ne]; simpa using hn
  obtain ⟨i0, hi, hz0, hz1, hz2⟩ := info_parts Tryz.info5
  go_enter Tryz.func96, Tryz.ntmps96
  go_wp2_with (with_reducible refine wpList_make_full _ rfl _ _ 40 rfl w.heap.size 5 i0 (.int .u8 0) 1 Tryz.underlying40 hi hz0 hz1 .i64 .i64 _ _ s rfl rfl rfl rfl ?c1 ?c2 ?c3 ?_)
  case c1 => rw [hz2]; omega
  case c2 => unfold maxLen; omega
  case c3 => exact Nat.le_refl _
  intro w1 hown hgrow
  rw [made_u8, ← part_zero s n] at hown
  have hb1 : Below w.heap.size w w1 := (Below.refl _ _).grown hgrow (Nat.le_refl _) (fun _ h => by cases h)
  go_wp2
  go_loopw [25] (fun i wr => ∃ k : Nat, k ≤ s ∧ i = .int .i64 k ∧ wr.ownsRow w.heap.size 5 1 (.slice (some ⟨w.heap.size, 0, none⟩) s s) s (u8s (part s n k)) ∧ Below w.heap.size w wr) (fun i _ => s - (intOf i).toNat)
  case atStart => exact ⟨0, Nat.zero_le _, rfl, hown, hb1⟩
  case round =>
    obtain ⟨k, hk, rfl, ho, hb⟩ := hrel
    clear hown hgrow hb1
    by_cases hlt : k < s
    · have hc : wr.cell? ⟨w.heap.size, s - 1 - k, none⟩ = some (.int .u8 ((part s n k)[s - 1 - k]'(by rw [part_length]; omega)).toNat) := by
        rw [ho.cellAt (s - 1 - k) (by omega)]
        unfold u8s
        rw [List.getElem?_map, List.getElem?_eq_getElem (by rw [part_length]; omega)]
        rfl
      have hf := ho.frozenAt (s - 1 - k)
      go_wp2
      go_roundw
      case rel =>
        refine ⟨k + 1, by omega, by go_num, ?_, hb.setCell (Nat.le_refl _) _⟩
        have hs := (ho.stored (s - 1 - k) (.int .u8 ((UInt8.ofNat (n / 256 ^ k)).toNat : Int))).1
        rw [u8s_set, part_step s n k hlt] at hs
        rw [shr_byte]
        exact hs
      case measure => simp [intOf]; omega
    · obtain rfl : k = s := by omega
      rw [part_all] at ho
      have hl := be_length k n
      rw [← hl] at ho
      go_wp2
      go_ret2
      rw [hl] at ho
      exact ⟨_, rfl, by rw [hl]; exact ho, hb⟩

set_option maxRecDepth 100000 in
theorem sput_any (n s : Nat) (w : World) (h1 : 1 ≤ s) (h8 : s ≤ 8) (hn : n < 256 ^ s) : Calls Tryz.prog 81 #[.int .u64 n, .int .i64 s] w (OwnB w (be s n)) := by
  have hc := put_own n s w h1 h8 hn
  go_enter Tryz.func81, Tryz.ntmps81
  go_wp2_with (go_at_call 96; refine hc.mono ?_; rintro _ w1 ⟨v, rfl, ho, hb⟩)
  go_ret
  exact ⟨_, rfl, ho, hb⟩
set_option maxRecDepth 100000 in
theorem sget_any {w : World} {ok : Nat → Prop} {A : Option Addr} {xs : List UInt8} {n c : Nat} (hx : Byt w ok A xs) (hn : xs.length = n) (h1 : 1 ≤ n) (h8 : n ≤ 8) : Calls Tryz.prog 75 #[.slice A n c] w fun e w' => e = .returned (.int .u64 (nb xs)) ∧ w = w' := by
  subst hn
  have hc := get_any (c := c) hx (by unfold maxLen; omega)
  rw [getV_yes h1 h8 rfl, List.take_length] at hc
  go_enter Tryz.func75, Tryz.ntmps75
  go_wp2_with (go_at_call 93; refine hc.mono ?_; rintro _ w1 ⟨rfl, rfl⟩)
  go_ret
  exact ⟨rfl, rfl⟩
/-- How many blocks so many bytes need. -/
def nblk (n : Nat) : Nat := (n + 63) / 64
theorem blocks_sto (n : Nat) (w : World) (hn : n ≤ 1099511627776) : Calls Tryz.prog 68 #[.int .u64 (n : Int)] w fun e w' => e = .returned (.int .u64 (nblk n : Nat)) ∧ w = w' := by
  go_enter Tryz.func68, Tryz.ntmps68
  go_wp2
  go_ret
  refine ⟨?_, rfl⟩
  unfold nblk
  have : ((n : Int) + 64 - 1) / 64 = (((n + 63) / 64 : Nat) : Int) := by omega
  show Ending.returned (.int .u64 (((n : Int) + 64 - 1) / 64)) = _
  rw [this]
/-- The number S of the first k bytes. -/
def sumTo (b : List UInt8) : Nat → Nat
  | 0 => 0
  | k + 1 => (sumTo b k + (k + 1) * (b.getD k 0).toNat) % 2147483647
/-- The number S of the chapter. -/
def sumS (b : List UInt8) : Nat := sumTo b b.length
theorem sumTo_lt (b : List UInt8) : ∀ k, sumTo b k < 2147483647
  | 0 => by simp [sumTo]
  | k + 1 => by unfold sumTo; omega
set_option maxRecDepth 100000 in
theorem sum_any {w : World} {ok : Nat → Prop} {A : Option Addr} {xs : List UInt8} {n c : Nat} (hx : Byt w ok A xs) (hn : xs.length = n) (hm : n ≤ 1048576) : Calls Tryz.prog 83 #[.slice A n c] w fun e w' => e = .returned (.int .u64 (sumS xs : Nat)) ∧ w = w' := by
  subst hn
  go_enter Tryz.func83, Tryz.ntmps83
  go_wp2
  go_loop [3, 8] (fun s i => ∃ k : Nat, k ≤ xs.length ∧ i = .int .i64 k ∧ s = .int .u64 (sumTo xs k : Nat)) (fun _ i => xs.length - (intOf i).toNat)
  case atStart => exact ⟨0, Nat.zero_le _, rfl, rfl⟩
  case round =>
    obtain ⟨k, hk, rfl, rfl⟩ := hrel
    have hs := sumTo_lt xs k
    by_cases hlt : k < xs.length
    · obtain ⟨ad, rfl, _, hc⟩ := hx k hlt
      have hx8 : xs[k].toNat ≤ 255 := by have := xs[k].toNat_lt; omega
      have he : sumTo xs (k + 1) = (sumTo xs k + (k + 1) * xs[k].toNat) % 2147483647 := by
        rw [sumTo, List.getD_eq_getElem?_getD, List.getElem?_eq_getElem hlt]; rfl
      obtain ⟨x, hxx⟩ : ∃ x, x = xs[k].toNat := ⟨_, rfl⟩
      rw [← hxx] at hc hx8 he
      have hp : (k + 1) * x ≤ 1048576 * 255 := Nat.mul_le_mul (by omega) hx8
      have hpe : ((k : Int) + 1) * (x : Int) = (((k + 1) * x : Nat) : Int) := by simp
      have hpi : ((k : Int) + 1) * (x : Int) ≤ 267386880 := by rw [hpe]; omega
      have hp0 : (0 : Int) ≤ ((k : Int) + 1) * (x : Int) := Int.mul_nonneg (by omega) (by omega)
      clear hxx
      have HE := Lib.hid he
      have HP := Lib.hid hpe
      clear hp he hpe
      go_wp2
      go_round
      case rel =>
        refine ⟨k + 1, by omega, by go_num, ?_⟩
        rw [HE.out, HP.out]
        congr 1
      case measure => simp [intOf]; omega
    · obtain rfl : k = xs.length := by omega
      go_wp2
      go_ret
      exact ⟨rfl, rfl⟩
end Go.Proofs.YtonpcenjipigpaaGreat
/- Zeros behind a row of the call's own; fill; the front of a record, a record. Conditions: at most a million bytes. -/
namespace Go.Proofs.YtonpcenjipigpaaGreat
open Go.RowKit
theorem zeroU8 (k : Nat) : (Builtin.zeroCells (Value.int .u8 0).cells k) = (u8s (zb k)).toArray := by
  apply Array.ext
  · simp [Builtin.zeroCells, Value.cells, u8s, zb]
  · intro i h1 h2
    simp [Builtin.zeroCells, Value.cells, u8s, zb, Nat.mod_one]
set_option maxHeartbeats 1000000 in
theorem run_append_zero (w : World) (ty : TypeId) (base : Nat) (v : Value) (n k : Nat) (ys : List UInt8) (hown : w.ownsRow base 5 1 v n (u8s ys)) (hb : n + k ≤ 2097152) (hbase : base ≤ w.heap.size) :
    ∃ v' w', (Builtin.append_ #[40, 49] ty #[v, .int .u64 (k : Int)]).run Tryz.prog w = .ok v' w' ∧ w'.ownsRow base 5 1 v' (n + k) (u8s (ys ++ zb k)) ∧ w.grownBy w' v.ownBlock ∧ (v'.ownBlock = v.ownBlock ∨ v'.ownBlock = some w.heap.size) := by
  obtain ⟨i0, hi, hz0, hz1, hz2⟩ := info_parts Tryz.info5
  have hyl : ys.length = n := by have := hown.1; rw [u8s_length] at this; omega
  have hw : IntKind.i64.wrap (k : Int) = k := by rw [IntKind.wrap_i64]; omega
  have hneg : ¬ ((k : Int) < 0) := by omega
  have h48i : ¬ (281474976710656 < (k : Int) * (i0.bytes : Int)) := by rw [hz2]; omega
  have hlen : (u8s (ys ++ zb k)).length = (n + k) * 1 := by rw [u8s_length, List.length_append, zb_length, hyl, Nat.mul_one]
  -- what a new row is
  have grown : ∀ (old : Nat) (row : Option Nat),
      (w.drew.alloc (.cells ((u8s ys).toArray ++ Builtin.zeroCells (Value.int .u8 0).cells k ++ Builtin.zeroCells (Value.int .u8 0).cells (grownCap w (n + k) old 5 - (n + k))) 5)).ownsRow base 5 1
        (.slice (some ⟨w.heap.size, 0, none⟩) (n + k) (grownCap w (n + k) old 5)) (n + k) (u8s (ys ++ zb k)) ∧
      w.grownBy (w.drew.alloc (.cells ((u8s ys).toArray ++ Builtin.zeroCells (Value.int .u8 0).cells k ++ Builtin.zeroCells (Value.int .u8 0).cells (grownCap w (n + k) old 5 - (n + k))) 5)) row := by
    intro old row
    have hge := grownCap_ge w (n + k) old 5
    have hcm : grownCap w (n + k) old 5 ≤ maxLen := grownCap_le_maxLen w (n + k) old 5 (by unfold maxLen; omega)
    rw [zeroU8, zeroU8]
    refine ⟨⟨hlen, .inr ⟨w.heap.size, _, _, rfl, hbase, heap_alloc_new w.drew _, hge, hcm, ?_, ?_⟩⟩, ⟨rfl, rfl, rfl, by simp, fun k hk _ => Below.heap_alloc w.drew _ k hk⟩⟩
    · simp only [Array.size_append, List.size_toArray, u8s_length, zb_length, hyl]
      omega
    · simp only [Array.toList_append, List.append_assoc]
      rw [← List.append_assoc, ← u8s_append, ← hlen]
      exact List.take_left
  have hfz := size_zeroCells
  rcases hown.2 with ⟨rfl, rfl⟩ | ⟨g, cap, cur, rfl, hbg, hg, hnc, hcm, hcs, htake⟩
  · obtain rfl : ys = [] := List.eq_nil_of_length_eq_zero hyl
    by_cases hk : k = 0
    · subst hk
      refine ⟨.slice none 0 0, w, ?_, World.ownsRow_nil w base 5 1, ⟨rfl, rfl, rfl, Nat.le_refl _, fun _ _ _ => rfl⟩, .inl rfl⟩
      simp [Builtin.append_, run_underlying Tryz.underlying40, run_underlying Tryz.underlying49, sizeOf, typeInfo, hi, asInt, asIntOf, IntKind.wrap_i64]
    · have hr := Lib.run_append_grow_zeros (P := Tryz.prog) w 40 49 ty 5 i0 (.int .u8 0) .u64 .u64 Tryz.underlying40 Tryz.underlying49 hi hz0 none 0 0 [] (run_firstCells_none w.drew i0.size 0 0 0) k (by omega) (by omega) (by omega) (by omega) (by rw [hz2]; omega) (growslice_fits (by omega) (by rw [hz2]; omega))
      have hgr := grown 0 none
      simp only [Nat.zero_add] at hr hgr ⊢
      exact ⟨_, _, hr, hgr.1, hgr.2, .inr rfl⟩
  · by_cases hroom : n + k ≤ cap
    · have hst := run_storeCells_at Tryz.prog g n 5 (u8s (zb k)) 0 cur w hg (by rw [hcs, u8s_length, zb_length]; omega) (u8s_one _)
      have hzc : (if k * i0.size = 0 then (pure #[] : Sem (Array Value)) else do pure (Builtin.zeroCells (← zeroValue 5).cells k)).run Tryz.prog w = .ok (u8s (zb k)).toArray w := by
        by_cases hk : k = 0
        · subst hk; simp [zb, u8s]
        · have : ¬ (k * i0.size = 0) := Nat.mul_ne_zero hk (by omega)
          simp [this, zeroValue, typeInfo, hi, hz0, zeroU8]
      simp only [Nat.add_zero] at hst
      refine ⟨_, w.setRow g (cur.toList.take n ++ u8s (zb k) ++ cur.toList.drop (n + (u8s (zb k)).length)).toArray, ?_, ⟨hlen, .inr ⟨g, cap, _, rfl, hbg, setRow_heap w g cur _ 5 _ hg, hroom, hcm, ?_, ?_⟩⟩, ⟨rfl, rfl, rfl, by simp, fun k _ hk => setRow_other w g k _ (fun e => hk (by simp [Value.ownBlock, e]))⟩, .inl rfl⟩
      · have hst' : (storeCells (Addr.add ⟨g, 0, none⟩ (n * i0.size)) (u8s (zb k))).run Tryz.prog w = .ok () (w.setRow g (cur.toList.take n ++ u8s (zb k) ++ cur.toList.drop (n + (u8s (zb k)).length)).toArray) := by
          rw [Addr.add_lit, Nat.zero_add, hz1, Nat.mul_one]; exact hst
        by_cases hk : k = 0
        · subst hk
          simp [Builtin.append_, run_underlying Tryz.underlying40, run_underlying Tryz.underlying49, sizeOf, typeInfo, hi, asInt, asIntOf, IntKind.wrap_i64, zb, u8s, storeCells] at hst' hroom ⊢
          simp [hroom]
          rw [setRow_self w g cur 5 (0, 0) hg]
        · have hkn : ¬ (k * i0.size = 0) := Nat.mul_ne_zero hk (by omega)
          simp [Builtin.append_, run_underlying Tryz.underlying40, run_underlying Tryz.underlying49, sizeOf, typeInfo, zeroValue, hi, hz0, asInt, asIntOf, hw, hneg, h48i, hkn, hroom, zeroU8, hst']
      · simp only [List.size_toArray, List.length_append, List.length_take, List.length_drop, Array.length_toList, u8s_length, zb_length]
        omega
      · have hl2 : (List.take n cur.toList ++ u8s (zb k)).length = n + k := by rw [List.length_append, List.length_take, Array.length_toList, u8s_length, zb_length]; omega
        rw [u8s_append, ← htake, Nat.mul_one, Nat.mul_one]
        show List.take (n + k) (List.take n cur.toList ++ u8s (zb k) ++ List.drop (n + (u8s (zb k)).length) cur.toList) = _
        rw [List.take_append_of_le_length (Nat.le_of_eq hl2.symm), List.take_of_length_le (Nat.le_of_eq hl2)]
    · have holds : ∀ j u, (u8s ys)[j]? = some u → w.cell? ((⟨g, 0, none⟩ : Addr).add j) = some u := hown.cells (g := g) rfl
      have hf : (Builtin.firstCells i0.size n (.slice (some ⟨g, 0, none⟩) n cap)).run Tryz.prog w.drew = .ok (u8s ys).toArray w.drew :=
        run_firstCells_some (P := Tryz.prog) w.drew i0.size n ⟨g, 0, none⟩ n cap (u8s ys) (by rw [u8s_length, hz1]; omega) holds
      have hk0 : 0 < k := by omega
      have hr := Lib.run_append_grow_zeros (P := Tryz.prog) w 40 49 ty 5 i0 (.int .u8 0) .u64 .u64 Tryz.underlying40 Tryz.underlying49 hi hz0 (some ⟨g, 0, none⟩) n cap (u8s ys) hf k hk0 (by omega) (by omega) (by omega) (by rw [hz2]; omega) (growslice_fits (by omega) (by rw [hz2]; omega))
      have hgr := grown cap (Value.ownBlock (.slice (some ⟨g, 0, none⟩) n cap))
      exact ⟨_, _, hr, hgr.1, hgr.2, .inr rfl⟩
end Go.Proofs.YtonpcenjipigpaaGreat
/- fill, the front of a record, a record: their bytes. Conditions: at most half a million bytes, numbers that have room. -/
namespace Go.Proofs.YtonpcenjipigpaaGreat
open Go.RowKit
/-- Zeros behind, up to a block's end. -/
def fillB (b : List UInt8) : List UInt8 := b ++ zb (64 * nblk b.length - b.length)
theorem nblk_le (n : Nat) : n ≤ 64 * nblk n ∧ 64 * nblk n ≤ n + 63 := by unfold nblk; omega
theorem fillB_length (b : List UInt8) : (fillB b).length = 64 * nblk b.length := by
  have := (nblk_le b.length).1
  rw [fillB, List.length_append, zb_length]; omega
/-- What stands in a record ahead of its payload. -/
def frontB (e k : Nat) (p : List UInt8) : List UInt8 := be 4 p.length ++ be 4 (sumS (be 8 e ++ be 4 k ++ be 4 p.length ++ p))
theorem frontB_length (e k : Nat) (p : List UInt8) : (frontB e k p).length = 8 := by simp [frontB, be_length]
/-- A record as it is written. -/
def recB (e k : Nat) (p : List UInt8) : List UInt8 := fillB (frontB e k p ++ p)
theorem recB_length (e k : Nat) (p : List UInt8) : (recB e k p).length = 64 * nblk (8 + p.length) := by
  rw [recB, fillB_length, List.length_append, frontB_length]

/-- Slices that are these bytes. -/
def Sls (w : World) (ok : Nat → Prop) (vs : List Value) (ps : List (List UInt8)) : Prop :=
  vs.length = ps.length ∧ ∀ j (h : j < ps.length), ∃ A c, vs[j]? = some (.slice A ps[j].length c) ∧ ps[j].length ≤ c ∧ c ≤ maxLen ∧ Byt w ok A ps[j]
theorem Sls.nil (w : World) (ok : Nat → Prop) : Sls w ok [] [] := ⟨rfl, fun j h => absurd h (by simp)⟩
theorem Sls.cons {w : World} {ok : Nat → Prop} {vs : List Value} {ps : List (List UInt8)} {A : Option Addr} {c n : Nat} {p : List UInt8} (h : Sls w ok vs ps) (hb : Byt w ok A p) (hn : p.length = n) (hc : n ≤ c) (hm : c ≤ maxLen) : Sls w ok (.slice A n c :: vs) (p :: ps) := by
  subst hn
  refine ⟨by simp [h.1], fun j hj => ?_⟩
  cases j with
  | zero => exact ⟨A, c, rfl, hc, hm, hb⟩
  | succ j => exact h.2 j (by simpa using hj)
theorem Sls.keep {w w' : World} {ok : Nat → Prop} {vs : List Value} {ps : List (List UInt8)} (h : Sls w ok vs ps) (hk : ∀ b, ok b → w'.heap[b]? = w.heap[b]?) : Sls w' ok vs ps :=
  ⟨h.1, fun j hj => by obtain ⟨A, c, h1, h2, h3, h4⟩ := h.2 j hj; exact ⟨A, c, h1, h2, h3, h4.keep hk⟩⟩
theorem Sls.imp {w : World} {ok ok' : Nat → Prop} {vs : List Value} {ps : List (List UInt8)} (h : Sls w ok vs ps) (hi : ∀ b, ok b → ok' b) : Sls w ok' vs ps :=
  ⟨h.1, fun j hj => by obtain ⟨A, c, h1, h2, h3, h4⟩ := h.2 j hj; exact ⟨A, c, h1, h2, h3, h4.imp hi⟩⟩
theorem Sls.old {w w' : World} {vs : List Value} {ps : List (List UInt8)} (h : Sls w (fun b => b < w.heap.size) vs ps) (hb : Below w.heap.size w w') : Sls w' (fun b => b < w'.heap.size) vs ps :=
  (h.keep fun b hk => hb.block b hk).imp fun _ hk => Nat.lt_of_lt_of_le hk hb.size
theorem Sls.lst {w : World} {ok : Nat → Prop} {vs : List Value} {ps : List (List UInt8)} {g : Nat} {ty : TypeId} (h : Sls w ok vs ps) (hb : Blk w g ty vs) (hg : ok g) : Lst w ok (some ⟨g, 0, none⟩) ps := fun j hj => by
  obtain ⟨A, c, h1, h2, h3, h4⟩ := h.2 j hj
  refine ⟨⟨g, 0, none⟩, A, c, rfl, hg, ?_, h2, h3, h4⟩
  rw [Addr.add_lit, Nat.zero_add]
  exact hb.get _ _ h1
/-- A row of the call's own as bytes in blocks that are there. -/
theorem own_byt {w : World} {base n : Nat} {v : Value} {xs : List UInt8} (h : w.ownsRow base 5 1 v n (u8s xs)) : ∃ A c, v = .slice A xs.length c ∧ n = xs.length ∧ xs.length ≤ c ∧ c ≤ maxLen ∧ Byt w (fun b => b < w.heap.size) A xs := by
  obtain ⟨A, c, h1, h2, h3, h4, h5⟩ := own_form h
  exact ⟨A, c, h1, h2, h3, h4, h5.imp fun b hb => hb.2.2⟩
theorem Byt.old {w w' : World} {A : Option Addr} {xs : List UInt8} (h : Byt w (fun b => b < w.heap.size) A xs) (hb : Below w.heap.size w w') : Byt w' (fun b => b < w'.heap.size) A xs :=
  (h.below hb fun _ hb => hb).imp fun _ hk => Nat.lt_of_lt_of_le hk hb.size
theorem own_up {w w' : World} {base n : Nat} {e : TypeId} {sz : Nat} {v : Value} {xs : List Value} (h : w.ownsRow base e sz v n xs) (hb : Below w.heap.size w w') : w'.ownsRow base e sz v n xs := own_below h hb

theorem wpList_append_zero {w : World} {ops : Array Oper} {rest : List Oper} {o : Oper} {a : Act} {Q : Exit → Act → World → Prop} (hgd : o.guard = none) (s x : Operand)
    (ho : o.op = .call { callee := .builtin .append, args := #[s, x], argTypes := #[40, 49] }) (base : Nat) (v : Value) (n k : Nat) (ys : List UInt8) (hs : a.eval s = v) (hx : a.eval x = .int .u64 (k : Int))
    (hown : w.ownsRow base 5 1 v n (u8s ys)) (hb : n + k ≤ 2097152) (hbase : base ≤ w.heap.size)
    (h : ∀ v' w', w'.ownsRow base 5 1 v' (n + k) (u8s (ys ++ zb k)) → w.grownBy w' v.ownBlock → (v'.ownBlock = v.ownBlock ∨ v'.ownBlock = some w.heap.size) → wpList Tryz.prog ops Q rest (a.put o.dst v') w') :
    wpList Tryz.prog ops Q (o :: rest) a w := by
  obtain ⟨v', w', hr, h1, h2, h3⟩ := run_append_zero w o.type base v n k ys hown hb hbase
  exact Lib.wpList_append_run w hgd s x 40 49 ho v _ hs hx v' w' hr (h v' w' h1 h2 h3)

theorem fill_any {w : World} {base : Nat} {v : Value} {xs : List UInt8} {n : Nat} (hown : w.ownsRow base 5 1 v n (u8s xs)) (hn : n ≤ 1048576) (hbase : base ≤ w.heap.size) :
    Calls Tryz.prog 82 #[v] w fun e w' => ∃ v', e = .returned v' ∧ w'.ownsRow base 5 1 v' (fillB xs).length (u8s (fillB xs)) ∧ w.grownBy w' v.ownBlock := by
  obtain ⟨A, c, rfl, rfl, h2, h3⟩ := own_form hown
  have hc := fun w => blocks_sto xs.length w (by omega)
  have hl := nblk_le xs.length
  have hk : ((nblk xs.length : Nat) : Int) * 64 - (xs.length : Int) = ((64 * nblk xs.length - xs.length : Nat) : Int) := by omega
  have HK := Lib.hid hk
  clear hk h3
  go_enter Tryz.func82, Tryz.ntmps82
  go_wp2_with (first
    | (go_at_call 68; refine (hc _).mono ?_; rintro e w' ⟨rfl, rfl⟩)
    | (at_builtin; refine wpList_append_zero rfl _ _ rfl base _ xs.length (64 * nblk xs.length - xs.length) xs rfl (congrArg (Value.int .u64) HK.out) hown (by omega) hbase ?_))
  intro v' w' h1 h2 h3
  have h : w'.ownsRow base 5 1 v' (fillB xs).length (u8s (fillB xs)) := by
    have : (fillB xs).length = xs.length + (64 * nblk xs.length - xs.length) := by rw [fillB_length]; omega
    rw [this]
    have e : 64 * nblk xs.length = xs.length + (64 * nblk xs.length - xs.length) := by omega
    rw [e] at h1
    simpa [fillB] using h1
  clear h1
  go_wp2
  go_ret
  exact ⟨v', rfl, h, h2⟩
theorem flat4 (a b c d : List UInt8) : [a, b, c, d].flatten = a ++ b ++ c ++ d := by simp
set_option maxHeartbeats 1000000 in
theorem front_any {w : World} {ok : Nat → Prop} {A : Option Addr} {p : List UInt8} {n c : Nat} (e k : Nat) (hp : Byt w ok A p) (hok : ∀ b, ok b → b < w.heap.size) (hn : p.length = n) (hnc : n ≤ c) (hcm : c ≤ maxLen) (hm : n ≤ 524288) (he : e < 18446744073709551616) (hk : k < 4294967296) :
    Calls Tryz.prog 78 #[.int .u64 (e : Int), .int .u64 (k : Int), .slice A n c] w (OwnB w (frontB e k p)) := by
  subst hn
  have hp0 := hp.imp hok
  obtain ⟨i0, hi, hz0, hz1, hz2⟩ := info_parts Tryz.info5
  have HS := Lib.hid (sumTo_lt (be 8 e ++ be 4 k ++ be 4 p.length ++ p) (be 8 e ++ be 4 k ++ be 4 p.length ++ p).length)
  clear hp hok
  go_enter Tryz.func78, Tryz.ntmps78
  go_wp2_with (go_at_call 81; refine (sput_any p.length 4 _ (by omega) (by omega) (by omega)).mono ?_)
  rintro _ w1 ⟨v1, rfl, ho1, hb1⟩
  have hp1 := hp0.old hb1
  clear hp0
  go_wp2_with (go_at_call 81; refine (sput_any e 8 _ (by omega) (by omega) (by omega)).mono ?_)
  rintro _ w2 ⟨v2, rfl, ho2, hb2⟩
  have hp2 := hp1.old hb2
  have ho12 := own_up ho1 hb2
  clear hp1 ho1
  go_wp2_with (go_at_call 81; refine (sput_any k 4 _ (by omega) (by omega) (by omega)).mono ?_)
  rintro _ w3 ⟨v3, rfl, ho3, hb3⟩
  have hp3 := hp2.old hb3
  have ho13 := own_up ho12 hb3
  have ho23 := own_up ho2 hb3
  clear hp2 ho12 ho2
  obtain ⟨A1, c1, rfl, -, l1, m1, y1⟩ := own_byt ho13
  obtain ⟨A2, c2, rfl, -, l2, m2, y2⟩ := own_byt ho23
  obtain ⟨A3, c3, rfl, -, l3, m3, y3⟩ := own_byt ho3
  have hs3 : Sls w3 (fun b => b < w3.heap.size) [.slice A2 (be 8 e).length c2, .slice A3 (be 4 k).length c3, .slice A1 (be 4 p.length).length c1, .slice A p.length c] [be 8 e, be 4 k, be 4 p.length, p] :=
    ((((Sls.nil _ _).cons hp3 rfl hnc hcm).cons y1 rfl l1 m1).cons y3 rfl l3 m3).cons y2 rfl l2 m2
  clear y1 y2 y3 ho3 ho23 l1 l2 l3 m1 m2 m3 hp3
  have hb3' : Below w.heap.size w w3 := (hb1.trans (hb2.mono hb1.size)).trans (hb3.mono (Nat.le_trans hb1.size hb2.size))
  obtain ⟨cs, hcs⟩ : ∃ cs, cs = #[Value.slice A2 (be 8 e).length c2, Value.slice A3 (be 4 k).length c3, Value.slice A1 (be 4 p.length).length c1, Value.slice A p.length c] := ⟨_, rfl⟩
  have hba : Below w3.heap.size w3 (w3.alloc (.cells cs 40)) := (Below.refl _ _).alloc (Nat.le_refl _) _
  have hl4 : Lst (w3.alloc (.cells cs 40)) (fun b => b < (w3.alloc (.cells cs 40)).heap.size) (some ⟨w3.heap.size, 0, none⟩) [be 8 e, be 4 k, be 4 p.length, p] := by
    refine Sls.lst (ty := 40) (vs := cs.toList) ?_ (Blk.of_alloc w3 cs 40) (by simp)
    have hs4 := hs3.old hba
    rw [show cs.toList = [Value.slice A2 (be 8 e).length c2, Value.slice A3 (be 4 k).length c3, Value.slice A1 (be 4 p.length).length c1, Value.slice A p.length c] by rw [hcs]]
    exact hs4
  have hfl := flat4 (be 8 e) (be 4 k) (be 4 p.length) p
  have hfn : (be 8 e ++ be 4 k ++ be 4 p.length ++ p).length = 16 + p.length := by simp only [List.length_append, be_length]
  have hcat := concat_any (c := 4) hl4 (fun _ hb => hb) rfl (by simp) (by rw [hfl, hfn]; omega) (by rw [hfl, hfn]; omega)
  rw [hfl] at hcat
  have ho14 := own_up ho13 hba
  have hb4 : Below w.heap.size w (w3.alloc (.cells cs 40)) := hb3'.trans (hba.mono hb3'.size)
  obtain ⟨t, ht⟩ : ∃ t, t = be 8 e ++ be 4 k ++ be 4 p.length ++ p := ⟨_, rfl⟩
  rw [← ht] at hcat hfn
  have HS' : Hid (sumS t < 2147483647) := by rw [ht]; exact HS
  have HT := Lib.hid ht
  have hft : t.length ≤ 1048576 := by omega
  clear hfn
  have HC := Lib.hid hcat
  clear hl4 hs3 ho13 hba hb3' hb3 hb2 hb1 hcat HS ht hfl
  rw [hcs] at HC ho14 hb4
  go_wp2_with (go_at_call 80; refine HC.out.mono ?_)
  rintro _ w5 ⟨v5, rfl, ho5, hb5⟩
  obtain ⟨A5, c5, rfl, -, l5, m5, y5⟩ := own_byt ho5
  have ho15 := own_up ho14 hb5
  have hb6 := hb4.trans (hb5.mono hb4.size)
  clear ho14 ho5 hb5 hb4 HC
  have hsum := sum_any (c := c5) y5 rfl hft
  have hsl := HS'.out
  obtain ⟨sm, hsm⟩ : ∃ sm, sm = sumS t := ⟨_, rfl⟩
  rw [← hsm] at hsum hsl
  have HSM := Lib.hid hsm
  clear HS' hsm
  go_wp2_with (go_at_call 83; refine hsum.mono ?_; rintro _ w6 ⟨rfl, rfl⟩)
  have hcc := sput_any sm 4 w5 (by decide) (by decide) (Nat.lt_trans hsl (by decide))
  go_wp2_with (go_at_call 81; refine hcc.mono ?_)
  rintro _ w7 ⟨v7, rfl, ho7, hb7⟩
  have ho17 := own_up ho15 hb7
  have hb8 := hb6.trans (hb7.mono hb6.size)
  obtain ⟨A7, c7, rfl, -, l7, m7, y7⟩ := own_byt ho7
  have hbl := be_length 4 p.length
  have hbl7 := be_length 4 sm
  have hbs := hb8.size
  clear ho15 ho7 hb7 hb6 hsum y5
  go_wp2_with (at_builtin; refine wpList_append_byt _ rfl _ _ 40 rfl w.heap.size i0 (.int .u8 0) Tryz.underlying40 hi hz0 hz1 hz2 rfl _ _ (be 4 p.length) rfl ho17 _ A7 _ (be 4 sm) rfl y7 (by omega) hbs ?_)
  intro v9 w9 ho9 hg9 _
  have hf : frontB e k p = be 4 p.length ++ be 4 sm := by rw [HSM.out, HT.out]; rfl
  have hb9 : Below w.heap.size w w9 := hb8.grown hg9 hb8.size fun g hg => (ho17.lt g hg).1
  have ho : w9.ownsRow w.heap.size 5 1 v9 (frontB e k p).length (u8s (frontB e k p)) := by
    rw [hf, List.length_append]
    exact ho9
  clear ho9 hg9 ho17 hb8 y7
  go_wp2
  go_ret
  exact ⟨v9, rfl, ho, hb9⟩
set_option maxHeartbeats 1000000 in
theorem rec_any {w : World} {ok : Nat → Prop} {A : Option Addr} {p : List UInt8} {n c : Nat} (e k : Nat) (hp : Byt w ok A p) (hok : ∀ b, ok b → b < w.heap.size) (hn : p.length = n) (hnc : n ≤ c) (hcm : c ≤ maxLen) (hm : n ≤ 524288) (he : e < 18446744073709551616) (hk : k < 4294967296) :
    Calls Tryz.prog 66 #[.int .u64 (e : Int), .int .u64 (k : Int), .slice A n c] w (OwnB w (recB e k p)) := by
  subst hn
  have hc := front_any e k hp hok rfl hnc hcm hm he hk
  have hp0 := hp.imp hok
  have hfl := frontB_length e k p
  obtain ⟨i0, hi, hz0, hz1, hz2⟩ := info_parts Tryz.info5
  obtain ⟨f, hf⟩ : ∃ f, f = frontB e k p := ⟨_, rfl⟩
  rw [← hf] at hc hfl
  have HF := Lib.hid hf
  clear hp hok hf
  go_enter Tryz.func66, Tryz.ntmps66
  go_wp2_with (go_at_call 78; refine hc.mono ?_)
  rintro _ w1 ⟨v1, rfl, ho1, hb1⟩
  have hp1 := hp0.old hb1
  have hs1 := hb1.size
  clear hc hp0
  go_wp2_with (at_builtin; refine wpList_append_byt _ rfl _ _ 40 rfl w.heap.size i0 (.int .u8 0) Tryz.underlying40 hi hz0 hz1 hz2 rfl _ _ f rfl ho1 _ A _ p rfl hp1 (by omega) hs1 ?_)
  intro v2 w2 ho2 hg2 hat2
  have hb2 : Below w.heap.size w w2 := hb1.grown hg2 hb1.size fun g hg => (ho1.lt g hg).1
  clear hp1 ho1 hg2 hb1 hat2 hs1
  go_wp2_with (go_at_call 82; refine (fill_any ho2 (by omega) hb2.size).mono ?_)
  rintro _ w3 ⟨v3, rfl, ho3, hg3⟩
  have hb3 : Below w.heap.size w w3 := hb2.grown hg3 hb2.size fun g hg => (ho2.lt g hg).1
  have hr : fillB (f ++ p) = recB e k p := by rw [HF.out]; rfl
  rw [hr] at ho3
  clear ho2 hg3 hb2
  go_wp2
  go_ret
  exact ⟨v3, rfl, ho3, hb3⟩
end Go.Proofs.YtonpcenjipigpaaGreat
