/- and, or, xor and shifts of whole numbers below 2^63 in kind int. Conditions: none. The reference's product in the field. Conditions: the factors are bytes. Bytes as values; the bytes that lie at an address. Conditions: none. A block of cells, as a list: what is read of it, and what a written cell makes of it. Conditions: none. Bytes are copied into, and cleared in, the middle of a block. Conditions: none. Bytes behind a row of bytes of the call's own. Conditions: none. The reference's table of S. Conditions: none. What the reference's Lock reads and lays: words as slices of numbers, a block of 16 bytes, a table of four rows of four numbers. Conditions: none. The reference's Lock. Conditions: its words and its table lie as they should. -/
import Derived.Test.YtkbffponemihoaaGreatDoorRows
import Derived.WalkKit
import Derived.IntWalk
import Derived.Laws.BitsAllLaws
import Derived.Test.YtkbffponemihoaaGreatDoorCa
import Derived.WalkSpells
import Derived.WalkLawsBesides
import Derived.Lib.Hide
import Derived.Maps.AppendAt
import Derived.Laws.CopyOwn
import Derived.Lib.SliceRun
import Derived.Deep.CutRange
import Derived.Deep.MidRow
import Derived.StillTailTactics
namespace Go.Proofs.YtkbffponemihoaaGreatDoor.C
open Go.RowKit
theorem ofInt_64 (a : Nat) (ha : a < 9223372036854775808) : (BitVec.ofInt 64 (a : Int)).toNat = a := by
  rw [BitVec.ofInt_natCast, BitVec.toNat_ofNat]; exact Nat.mod_eq_of_lt (by omega)
theorem i64_keep (n : Nat) (h : n < 9223372036854775808) : IntKind.i64.wrap (n : Int) = (n : Int) := by rw [IntKind.wrap_i64]; omega
theorem i64_and_nat (a b : Nat) (ha : a < 9223372036854775808) (hb : b < 9223372036854775808) : bits .and .i64 (a : Int) (b : Int) = ((a &&& b : Nat) : Int) := by
  have hx : a &&& b < 2 ^ 63 := Nat.and_lt_two_pow _ (by omega)
  show IntKind.i64.wrap ((BitVec.ofInt 64 (a : Int) &&& BitVec.ofInt 64 (b : Int)).toNat : Int) = _
  rw [BitVec.toNat_and, ofInt_64 a ha, ofInt_64 b hb, i64_keep _ (by omega)]
theorem i64_or_nat (a b : Nat) (ha : a < 9223372036854775808) (hb : b < 9223372036854775808) : bits .or .i64 (a : Int) (b : Int) = ((a ||| b : Nat) : Int) := by
  have hx : a ||| b < 2 ^ 63 := Nat.or_lt_two_pow (by omega) (by omega)
  show IntKind.i64.wrap ((BitVec.ofInt 64 (a : Int) ||| BitVec.ofInt 64 (b : Int)).toNat : Int) = _
  rw [BitVec.toNat_or, ofInt_64 a ha, ofInt_64 b hb, i64_keep _ (by omega)]
theorem i64_xor_nat (a b : Nat) (ha : a < 9223372036854775808) (hb : b < 9223372036854775808) : bits .xor .i64 (a : Int) (b : Int) = ((a ^^^ b : Nat) : Int) := by
  have hx : a ^^^ b < 2 ^ 63 := Nat.xor_lt_two_pow (by omega) (by omega)
  show IntKind.i64.wrap ((BitVec.ofInt 64 (a : Int) ^^^ BitVec.ofInt 64 (b : Int)).toNat : Int) = _
  rw [BitVec.toNat_xor, ofInt_64 a ha, ofInt_64 b hb, i64_keep _ (by omega)]
theorem i64_and_one (a : Nat) (ha : a < 9223372036854775808) : bits .and .i64 (a : Int) 1 = ((a % 2 : Nat) : Int) := by
  have h := i64_and_nat a 1 ha (by decide)
  rw [Nat.and_one_is_mod] at h
  exact h
theorem shr_nat (b k : Nat) : (b : Int) / 2 ^ k = ((b >>> k : Nat) : Int) := by
  rw [Nat.shiftRight_eq_div_pow]
  norm_cast
theorem shl_nat (a k : Nat) : (a : Int) * 2 ^ k = ((a <<< k : Nat) : Int) := by
  rw [Nat.shiftLeft_eq]
  norm_cast
theorem shr_le (b k : Nat) : b >>> k ≤ b := by rw [Nat.shiftRight_eq_div_pow]; exact Nat.div_le_self _ _
theorem bit_and (b k : Nat) (hb : b < 9223372036854775808) : bits .and .i64 ((b : Int) / 2 ^ k) 1 = (((b >>> k) % 2 : Nat) : Int) := by
  rw [shr_nat, i64_and_one _ (Nat.lt_of_le_of_lt (shr_le b k) hb)]
theorem xor_shl (p a k : Nat) (hp : p < 32768) (ha : a <<< k < 32768) : bits .xor .i64 (p : Int) (wrap64 ((a : Int) * 2 ^ k)) = ((p ^^^ (a <<< k) : Nat) : Int) := by
  rw [shl_nat, show wrap64 ((a <<< k : Nat) : Int) = ((a <<< k : Nat) : Int) from by rw [← IntWalk.i64_left]; exact i64_keep _ (by omega), i64_xor_nat _ _ (by omega) (by omega)]
open Go.RowKit
theorem bit_cases (n : Nat) : n % 2 = 1 ∨ n % 2 = 0 := by omega
set_option maxHeartbeats 800000 in
theorem times_any (a b : Nat) (ha : a < 256) (hb : b < 256) (W : World) : Calls Tryz.prog 58 #[.int .i64 (a : Int), .int .i64 (b : Int)] W fun e w' => e = .returned (.int .i64 ((times a b : Nat) : Int)) ∧ w' = W := by
  go_enter Tryz.func58, Tryz.ntmps58
  go_wp2
  go_loop [5, 6] (fun p i => ∃ k : Nat, k ≤ 8 ∧ i = .int .i64 (k : Int) ∧ p = .int .i64 ((tp a b k : Nat) : Int)) (fun _ i => 8 - (intOf i).toNat)
  case atStart => exact ⟨0, Nat.zero_le _, rfl, rfl⟩
  case round =>
    obtain ⟨k, hk, rfl, rfl⟩ := hrel
    by_cases hlt : k < 8
    · have hp := tp_lt a b ha k (by omega)
      have hp15 : tp a b k < 32768 := Nat.lt_of_lt_of_le hp (show 2 ^ (7 + k) ≤ 2 ^ 15 from Nat.pow_le_pow_right (by omega) (by omega))
      have hak : a <<< k < 32768 := by
        rw [Nat.shiftLeft_eq]
        have h1 : 2 ^ k ≤ 2 ^ 7 := Nat.pow_le_pow_right (by omega) (by omega)
        have h2 : a * 2 ^ k ≤ 255 * 2 ^ 7 := Nat.mul_le_mul (by omega) h1
        omega
      have hx := xor_shl (tp a b k) a k hp15 hak
      have hb2 := bit_and b k (by omega)
      have hstep : tp a b (k + 1) = if (b >>> k) % 2 = 1 then tp a b k ^^^ (a <<< k) else tp a b k := rfl
      have HST := Lib.hid hstep
      clear hstep hp hp15 hak
      rcases bit_cases (b >>> k) with hbit | hbit
      · have hd : (bits .and .i64 ((b : Int) / 2 ^ k) 1 == 1) = true := by rw [hb2, hbit]; rfl
        have HBIT := Lib.hid hbit
        clear hb2 hbit
        go_wp2
        go_round
        case rel => exact ⟨k + 1, by omega, by go_num, by rw [HST.out, if_pos HBIT.out]⟩
        case measure => simp [intOf]; omega
      · have hd : (bits .and .i64 ((b : Int) / 2 ^ k) 1 == 1) = false := by rw [hb2, hbit]; rfl
        have HBIT := Lib.hid hbit
        clear hb2 hbit
        go_wp2
        go_round
        case rel => exact ⟨k + 1, by omega, by go_num, by rw [HST.out, if_neg (by rw [HBIT.out]; decide)]⟩
        case measure => simp [intOf]; omega
    · have ek : k = 8 := by omega
      subst ek
      have hp15 : tp a b 8 < 2 ^ 15 := tp_lt a b ha 8 (Nat.le_refl _)
      obtain ⟨P, hP⟩ : ∃ P, P = tp a b 8 := ⟨_, rfl⟩
      rw [← hP] at hp15 ⊢
      have HP := Lib.hid hP
      clear hP hlt hk
      go_wp2_with (fail)
      go_loop [5, 7] (fun p v => ∃ i : Nat, 7 ≤ i ∧ i ≤ 14 ∧ v = .int .i64 (i : Int) ∧ p = .int .i64 ((tr P (14 - i) : Nat) : Int)) (fun _ v => (intOf v).toNat)
      case atStart => exact ⟨14, by omega, by omega, rfl, rfl⟩
      case round =>
        obtain ⟨i, hi7, hi, rfl, rfl⟩ := hrel
        have hq := tr_lt P hp15 (14 - i) (by omega)
        by_cases hi8 : 8 ≤ i
        · have hstep : tr P (14 - (i - 1)) = if (tr P (14 - i) >>> i) % 2 = 1 then tr P (14 - i) ^^^ (283 <<< (i - 8)) else tr P (14 - i) := by
            rw [show 14 - (i - 1) = (14 - i) + 1 by omega, tr, show 14 - (14 - i) = i by omega, show 6 - (14 - i) = i - 8 by omega]
          have hs2 : 283 <<< (i - 8) < 32768 := by
            obtain rfl | rfl | rfl | rfl | rfl | rfl | rfl : i = 8 ∨ i = 9 ∨ i = 10 ∨ i = 11 ∨ i = 12 ∨ i = 13 ∨ i = 14 := by omega
            all_goals decide
          have hx : bits .xor .i64 ((tr P (14 - i) : Nat) : Int) (wrap64 ((283 : Int) * 2 ^ (i - 8))) = ((tr P (14 - i) ^^^ (283 <<< (i - 8)) : Nat) : Int) := xor_shl (tr P (14 - i)) 283 (i - 8) hq hs2
          have hb2 := bit_and (tr P (14 - i)) i (by omega)
          obtain ⟨q, hqe⟩ : ∃ q, q = tr P (14 - i) := ⟨_, rfl⟩
          rw [← hqe] at hx hb2 hstep ⊢
          have HST := Lib.hid hstep
          have e8 : ((i : Int) - 8).toNat = i - 8 := by omega
          have e0 : (0 : Int) ≤ (i : Int) - 8 := by omega
          clear hstep hs2 hq hqe
          rcases bit_cases (q >>> i) with hbit | hbit
          · have hd : (bits .and .i64 ((q : Int) / 2 ^ i) 1 == 1) = true := by rw [hb2, hbit]; rfl
            have HBIT := Lib.hid hbit
            clear hb2 hbit
            go_wp2
            go_round
            case rel => exact ⟨i - 1, by omega, by omega, by go_num, by rw [HST.out, if_pos HBIT.out]⟩
            case measure => simp [intOf]; omega
          · have hd : (bits .and .i64 ((q : Int) / 2 ^ i) 1 == 1) = false := by rw [hb2, hbit]; rfl
            have HBIT := Lib.hid hbit
            clear hb2 hbit
            go_wp2
            go_round
            case rel => exact ⟨i - 1, by omega, by omega, by go_num, by rw [HST.out, if_neg (by rw [HBIT.out]; decide)]⟩
            case measure => simp [intOf]; omega
        · have ei : i = 7 := by omega
          subst ei
          have hres : tr P (14 - 7) = times a b := by rw [HP.out]; rfl
          rw [hres]
          clear hq hres
          go_wp2
          go_ret
          exact ⟨rfl, rfl⟩
open Go.RowKit
/-- Bytes as values. -/
def u8s (xs : List UInt8) : List Value := xs.map fun x => Value.int .u8 (x.toNat : Int)
theorem u8s_append (xs ys : List UInt8) : u8s (xs ++ ys) = u8s xs ++ u8s ys := by simp [u8s]
theorem u8s_length (xs : List UInt8) : (u8s xs).length = xs.length := by simp [u8s]
theorem u8s_get (xs : List UInt8) (j : Nat) (v : Value) (h : (u8s xs)[j]? = some v) : ∃ hj : j < xs.length, v = .int .u8 (xs[j].toNat : Int) := by
  unfold u8s at h
  rw [List.getElem?_map] at h
  by_cases hj : j < xs.length
  · rw [List.getElem?_eq_getElem hj] at h
    exact ⟨hj, by simpa using h.symm⟩
  · rw [List.getElem?_eq_none (by omega)] at h; simp at h
theorem u8s_one (xs : List UInt8) : ∀ u ∈ u8s xs, u.oneCell' = true := by
  intro u hu
  obtain ⟨x, _, rfl⟩ := List.mem_map.1 hu
  rfl
/-- The bytes xs lie at A, in blocks that are 'ok'. -/
def Byt (w : World) (ok : Nat → Prop) (A : Option Addr) (xs : List UInt8) : Prop :=
  ∀ j (h : j < xs.length), ∃ ad, A = some ad ∧ ok ad.block ∧ w.cell? (ad.add j) = some (.int .u8 (xs[j].toNat : Int))
section
variable {w w' : World} {ok ok' : Nat → Prop} {A : Option Addr} {xs : List UInt8}
theorem Byt.nil : Byt w ok A [] := fun _ h => absurd h (by simp)
theorem Byt.some_ (h : Byt w ok A xs) (hl : 0 < xs.length) : ∃ ad, A = some ad ∧ ok ad.block ∧ ∀ j (h : j < xs.length), w.cell? (ad.add j) = some (.int .u8 (xs[j].toNat : Int)) := by
  obtain ⟨ad, rfl, hok, _⟩ := h 0 hl
  refine ⟨ad, rfl, hok, fun j hj => ?_⟩
  obtain ⟨ad', e, _, hc⟩ := h j hj
  cases e
  exact hc
theorem Byt.imp (h : Byt w ok A xs) (hi : ∀ b, ok b → ok' b) : Byt w ok' A xs := fun j hj => by
  obtain ⟨ad, e, ho, hc⟩ := h j hj
  exact ⟨ad, e, hi _ ho, hc⟩
theorem block_of_plus (a : Addr) (n : Nat) : (a.add n).block = a.block := by unfold Addr.add; split <;> rfl
theorem Byt.keep (h : Byt w ok A xs) (hk : ∀ b, ok b → w'.heap[b]? = w.heap[b]?) : Byt w' ok A xs := fun j hj => by
  obtain ⟨ad, e, ho, hc⟩ := h j hj
  exact ⟨ad, e, ho, (World.cell?_of_block (by rw [block_of_plus]; exact hk _ ho)).trans hc⟩
theorem Byt.below {B : Nat} (h : Byt w ok A xs) (hb : Below B w w') (hok : ∀ b, ok b → b < B) : Byt w' ok A xs := h.keep fun b hbb => hb.block b (hok b hbb)
theorem Byt.grown {row : Option Nat} (h : Byt w ok A xs) (hg : w.grownBy w' row) (hok : ∀ b, ok b → b < w.heap.size ∧ some b ≠ row) : Byt w' ok A xs := h.keep fun b hbb => hg.block b (hok b hbb).1 (hok b hbb).2
theorem plus_plus (a : Addr) (i j : Nat) : (a.add i).add j = a.add (i + j) := by
  by_cases hi : i = 0 <;> by_cases hj : j = 0 <;> simp [Addr.add, hi, hj, Nat.add_assoc]
theorem Byt.drop {k c : Nat} (h : Byt w ok A xs) (hk : k ≤ xs.length) (hc : xs.length ≤ c) : Byt w ok (if c = k then A else A.map (·.add k)) (xs.drop k) := fun j hj => by
  have hj' : k + j < xs.length := by simp at hj; omega
  obtain ⟨ad, rfl, ho, hcell⟩ := h (k + j) hj'
  rw [if_neg (by omega)]
  refine ⟨ad.add k, rfl, by rw [block_of_plus]; exact ho, ?_⟩
  rw [plus_plus, hcell]
  simp
theorem Byt.take (h : Byt w ok A xs) (k : Nat) : Byt w ok A (xs.take k) := fun j hj => by
  have hj' : j < xs.length := by simp at hj; omega
  obtain ⟨ad, rfl, ho, hcell⟩ := h j hj'
  refine ⟨ad, rfl, ho, ?_⟩
  rw [hcell]
  simp
end
open Go.RowKit
/-- Block g is just these cells. -/
def Blk (w : World) (g : Nat) (ty : TypeId) (cs : List Value) : Prop := w.heap[g]? = some (.cells cs.toArray ty (0, 0))
section
variable {w w' : World} {g : Nat} {ty : TypeId} {cs : List Value}
theorem Blk.lt (h : Blk w g ty cs) : g < w.heap.size := (Array.getElem?_eq_some_iff.1 h).1
theorem Blk.get (h : Blk w g ty cs) (i : Nat) (v : Value) (hv : cs[i]? = some v) : w.cell? ⟨g, i, none⟩ = some v := by
  unfold Blk at h
  simp [World.cell?, h, hv]
theorem Blk.cell (h : Blk w g ty cs) (i : Nat) (hi : i < cs.length) : w.cell? ⟨g, i, none⟩ = some cs[i] := h.get i _ (List.getElem?_eq_getElem hi)
theorem Blk.frozen (h : Blk w g ty cs) (i : Nat) : w.frozen? ⟨g, i, none⟩ = false := by
  unfold Blk at h
  simp [World.frozen?, h]
theorem Blk.set (h : Blk w g ty cs) (i : Nat) (v : Value) : Blk (w.setCell ⟨g, i, none⟩ v) g ty (cs.set i v) := by
  unfold Blk at h ⊢
  have hlt := Blk.lt h
  simp only [World.setCell, Array.getElem?_modify, h]
  simp
theorem Blk.keep (h : Blk w g ty cs) (hk : w'.heap[g]? = w.heap[g]?) : Blk w' g ty cs := hk.trans h
theorem Blk.grown {row : Option Nat} (h : Blk w g ty cs) (hg : w.grownBy w' row) (hr : some g ≠ row) : Blk w' g ty cs := h.keep (hg.block g h.lt hr)
theorem Blk.below {B : Nat} (h : Blk w g ty cs) (hb : Below B w w') (hr : g < B) : Blk w' g ty cs := h.keep (hb.block g hr)
theorem Blk.to (h : Blk w g ty cs) {ds : List Value} (e : cs = ds) : Blk w g ty ds := e ▸ h
theorem Blk.byt {pre post : List Value} {xs : List UInt8} (h : Blk w g ty (pre ++ u8s xs ++ post)) {o : Nat} (ho : pre.length = o) : Byt w (fun b => b = g) (some ⟨g, o, none⟩) xs := fun j hj => by
  subst ho
  refine ⟨_, rfl, rfl, ?_⟩
  rw [Addr.add_lit]
  refine h.get _ _ ?_
  rw [List.append_assoc, List.getElem?_append_right (by omega), Nat.add_sub_cancel_left, List.getElem?_append_left (by rw [u8s_length]; exact hj)]
  unfold u8s
  rw [List.getElem?_map, List.getElem?_eq_getElem hj]
  rfl
end
theorem grown_set (w : World) (g i : Nat) (v : Value) : w.grownBy (w.setCell ⟨g, i, none⟩ v) (some g) :=
  ⟨rfl, rfl, rfl, by simp [World.setCell], fun k _ hk => Below.heap_setCell w ⟨g, i, none⟩ v k (fun e => hk (by rw [e]))⟩
theorem size_set (w : World) (a : Addr) (v : Value) : (w.setCell a v).heap.size = w.heap.size := by simp [World.setCell]
theorem Blk.of_alloc (w : World) (cs : Array Value) (ty : TypeId) : Blk (w.alloc (.cells cs ty)) w.heap.size ty cs.toList := by
  unfold Blk
  rw [heap_alloc_new]
theorem grown_new {w wr : World} {g : Nat} (hg : w.grownBy wr none) (hB : w.heap.size ≤ g) (i : Nat) (v : Value) : w.grownBy (wr.setCell ⟨g, i, none⟩ v) none :=
  World.grownBy.andThen hg (grown_set _ _ _ _) (by rintro _ ⟨⟩; exact .inl hB)
theorem Blk.of_owns_e {w : World} {base g n : Nat} {e : TypeId} {xs : List Value} (h : w.ownsRow base e 1 (.slice (some ⟨g, 0, none⟩) n n) n xs) : Blk w g e xs := by
  rcases h.2 with ⟨e1, _⟩ | ⟨g', cap, cur, e1, _, hg, _, _, hs, ht⟩
  · cases e1
  · cases e1
    unfold Blk
    rw [hg]
    have : cur.toList = xs := by
      rw [← ht, List.take_of_length_le]
      simp [hs]
    rw [← this]
/-- Numbers as values. -/
def ints (l : List Nat) : List Value := l.map fun n : Nat => Value.int .i64 (n : Int)
theorem ints_length (l : List Nat) : (ints l).length = l.length := by simp [ints]
theorem ints_get (l : List Nat) (j : Nat) (h : j < l.length) : (ints l)[j]? = some (.int .i64 ((l.getD j 0 : Nat) : Int)) := by
  unfold ints
  rw [List.getElem?_map, List.getElem?_eq_getElem h, List.getD_eq_getElem?_getD, List.getElem?_eq_getElem h]
  rfl
theorem ints_set (l : List Nat) (j n : Nat) : (ints l).set j (.int .i64 (n : Int)) = ints (l.set j n) := by simp [ints, List.map_set]
theorem Tryz.info3 : (Tryz.prog.info? 3).map (fun i => (i.zero, i.size, i.bytes)) = some (some (.int .i64 0), 1, 8) := by kernel_rfl
theorem made_ints (s : Nat) : (madeCells #[Value.int .i64 0] s).toList = ints (List.replicate s 0) := by
  rw [toList_madeCells_one]
  simp [ints]
open Go.RowKit
/-- Bytes 0. -/
def zs (k : Nat) : List UInt8 := List.replicate k 0
theorem zs_length (k : Nat) : (zs k).length = k := by simp [zs]
theorem zs_drop (k j : Nat) : (zs k).drop j = zs (k - j) := by simp [zs]
/-- What copying xs makes of ys. -/
def lay (xs ys : List UInt8) : List UInt8 := xs.take ys.length ++ ys.drop xs.length
theorem lay_length (xs ys : List UInt8) : (lay xs ys).length = ys.length := by simp [lay]; omega
section
variable {w : World} {ops : Array Oper} {rest : List Oper} {o : Oper} {a : Act} {Q : Exit → Act → World → Prop}
theorem Blk.setRow {g : Nat} {ty : TypeId} {cs ds : List Value} (h : Blk w g ty cs) : Blk (w.setRow g ds.toArray) g ty ds := setRow_heap w g _ _ ty _ h
theorem grown_setRow (w : World) (g : Nat) (ds : Array Value) : w.grownBy (w.setRow g ds) (some g) :=
  ⟨rfl, rfl, rfl, by simp [World.setRow], fun k _ hk => setRow_other w g k ds (fun e => hk (by rw [e]))⟩
theorem wpList_copy_blk (hgd : o.guard = none) (d s : Operand) (ho : o.op = .call { callee := .builtin .copy, args := #[d, s], argTypes := #[23, 23] })
    (g off dLen dCap sLen sCap : Nat) (A : Option Addr) (xs ys : List UInt8) (hd : a.eval d = .slice (some ⟨g, off, none⟩) dLen dCap) (hs : a.eval s = .slice A sLen sCap) (hxl : xs.length = sLen) (hyl : ys.length = dLen)
    (ty : TypeId) (pre post : List Value) (hb : Blk w g ty (pre ++ u8s ys ++ post)) (hp : pre.length = off) (ok : Nat → Prop) (hx : Byt w ok A xs) (m : Nat) (hm : Nat.min xs.length ys.length = m)
    (h : ∀ w', Blk w' g ty (pre ++ u8s (lay xs ys) ++ post) → w.grownBy w' (some g) → w'.heap.size = w.heap.size → wpList Tryz.prog ops Q rest (a.put o.dst (goInt (m : Int))) w') :
    wpList Tryz.prog ops Q (o :: rest) a w := by
  subst hm hxl hyl hp
  have hcs : (u8s (xs.take ys.length)).length = Nat.min xs.length ys.length := by rw [u8s_length, List.length_take, Nat.min_comm]
  by_cases h0 : Nat.min xs.length ys.length = 0
  · refine wpList_copy_nothing hgd d s 23 23 ho 5 Tryz.underlying23 (by kernel_rfl) _ _ ys.length dCap xs.length sCap hd hs h0 ?_
    have e : lay xs ys = ys := by
      rcases xs with _ | ⟨x, xs⟩
      · simp [lay]
      · rcases ys with _ | ⟨y, ys⟩
        · simp [lay]
        · simp [Nat.min] at h0
    have := h w (by rw [e]; exact hb) (World.grownBy.refl _ _) rfl
    rw [h0] at this
    exact this
  · obtain ⟨ad, rfl, _, hcell⟩ := hx.some_ (by have : Nat.min xs.length ys.length ≤ xs.length := Nat.min_le_left _ _; omega)
    refine wpList_copy_own hgd d s 23 23 ho 5 Tryz.underlying23 (by kernel_rfl) g pre.length ys.length dCap ad xs.length sCap hd hs _ ty hb (u8s (xs.take ys.length)) hcs ?_ ?_ (u8s_one _) ?_
    · intro j v hv
      obtain ⟨hj, rfl⟩ := u8s_get _ j v hv
      rw [List.length_take] at hj
      rw [hcell j (by omega)]
      simp
    · rw [hcs]
      have : Nat.min xs.length ys.length ≤ ys.length := Nat.min_le_right _ _
      simp only [List.size_toArray, List.length_append, u8s_length]
      omega
    · rw [hcs]
      have e : List.take pre.length (pre ++ u8s ys ++ post) ++ (u8s (xs.take ys.length) ++ List.drop (pre.length + Nat.min xs.length ys.length) (pre ++ u8s ys ++ post)) = pre ++ u8s (lay xs ys) ++ post := by
        rw [List.append_assoc pre, List.take_left', List.drop_append, List.drop_eq_nil_of_le (by omega), Nat.add_sub_cancel_left, List.nil_append, List.drop_append_of_le_length (by rw [u8s_length]; exact Nat.min_le_right _ _)]
        rw [lay, u8s_append]
        have e2 : List.drop (Nat.min xs.length ys.length) (u8s ys) = u8s (ys.drop xs.length) := by
          unfold u8s
          rw [← List.map_drop]
          congr 1
          rcases Nat.le_total xs.length ys.length with hle | hle
          · rw [show Nat.min xs.length ys.length = xs.length from Nat.min_eq_left hle]
          · rw [show Nat.min xs.length ys.length = ys.length from Nat.min_eq_right hle, List.drop_eq_nil_of_le (Nat.le_refl _), List.drop_eq_nil_of_le hle]
        rw [e2]
        simp only [List.append_assoc]
        rfl
      simp only []
      rw [e]
      exact h _ (Blk.setRow hb) (grown_setRow _ _ _) (by simp [World.setRow])
end
open Go.RowKit
section
variable {w w' : World} {ok ok' : Nat → Prop} {A : Option Addr} {xs : List UInt8}
/-- What a row of the call's own reads as. -/
theorem Byt.of_own {base n c : Nat} (h : w.ownsRow base 5 1 (.slice A n c) n (u8s xs)) : n = xs.length ∧ n ≤ c ∧ c ≤ maxLen ∧ Byt w (fun b => (Value.slice A n c).ownBlock = some b ∧ base ≤ b ∧ b < w.heap.size) A xs := by
  have hl : n = xs.length := by have := h.1; rw [u8s_length] at this; omega
  refine ⟨hl, ?_, ?_, fun j hj => ?_⟩
  · rcases h.2 with ⟨e, _⟩ | ⟨g, cap, cur, e, _, _, h1, _⟩
    · cases e; omega
    · cases e; exact h1
  · rcases h.2 with ⟨e, _⟩ | ⟨g, cap, cur, e, _, _, _, h1, _⟩
    · cases e; unfold maxLen; omega
    · cases e; exact h1
  · rcases h.2 with ⟨e, _⟩ | ⟨g, cap, cur, e, hb, hg, _⟩
    · cases e; omega
    · cases e
      have hlt : g < w.heap.size := (Array.getElem?_eq_some_iff.1 hg).1
      refine ⟨_, rfl, ⟨rfl, hb, hlt⟩, h.cells (g := g) rfl j _ ?_⟩
      unfold u8s
      rw [List.getElem?_map, List.getElem?_eq_getElem hj]
      rfl
end
/-- A row of the call's own, as a slice of bytes. -/
theorem own_form {w : World} {base n : Nat} {v : Value} {xs : List UInt8} (h : w.ownsRow base 5 1 v n (u8s xs)) :
    ∃ A c, v = .slice A xs.length c ∧ n = xs.length ∧ xs.length ≤ c ∧ c ≤ maxLen ∧ Byt w (fun b => v.ownBlock = some b ∧ base ≤ b ∧ b < w.heap.size) A xs := by
  rcases h.2 with ⟨rfl, rfl⟩ | ⟨g, cap, cur, rfl, _⟩
  · obtain ⟨h1, h2, h3, h4⟩ := Byt.of_own h
    exact ⟨none, 0, by rw [← h1], h1, by omega, h3, h4⟩
  · obtain ⟨h1, h2, h3, h4⟩ := Byt.of_own h
    exact ⟨_, cap, by rw [← h1], h1, by omega, h3, h4⟩
section
variable {P : Program} (w : World)
/-- append onto a row of the call's own, whatever bytes come behind. -/
theorem run_append_byt (base : Nat) (t ty : TypeId) (i : TypeInfo) (z : Value) (ht : P.underlying t = some (.slice 5)) (hi : P.info? 5 = some i) (hz : i.zero = some z)
    (hsize : i.size = 1) (hby : i.bytes = 1) (hzs : z.cells.size = 1)
    (v : Value) (n : Nat) (ys : List UInt8) (hown : w.ownsRow base 5 1 v n (u8s ys)) (ok : Nat → Prop) (A : Option Addr) (c : Nat) (xs : List UInt8) (hr : Byt w ok A xs)
    (h63 : n + xs.length ≤ 140737488355328) (hbase : base ≤ w.heap.size) :
    ∃ v' w', (Builtin.append_ #[t, t] ty #[v, .slice A xs.length c]).run P w = .ok v' w' ∧ w'.ownsRow base 5 1 v' (n + xs.length) (u8s (ys ++ xs)) ∧ w.grownBy w' v.ownBlock ∧ (v'.ownBlock = v.ownBlock ∨ v'.ownBlock = some w.heap.size) := by
  rcases A with _ | ad
  · have : xs = [] := by
      rcases xs with _ | ⟨x, xs⟩
      · rfl
      · obtain ⟨_, e, _⟩ := hr 0 (by simp)
        cases e
    subst this
    refine ⟨v, w, ?_, by simpa using hown, World.grownBy.refl w _, .inl rfl⟩
    rcases hown.2 with ⟨rfl, rfl⟩ | ⟨g, cap, cur, rfl, _, _, hnc, _⟩
    · simp [Builtin.append_, run_underlying ht, sizeOf, typeInfo, hi, Builtin.lenOf, Builtin.firstCells]
    · simp [Builtin.append_, run_underlying ht, sizeOf, typeInfo, hi, Builtin.lenOf, Builtin.firstCells, hnc, storeCells]
  · have hcells : ∀ j u, (u8s xs)[j]? = some u → w.cell? (ad.add j) = some u := by
      intro j u hu
      obtain ⟨hj, rfl⟩ := u8s_get xs j u hu
      obtain ⟨ad', e, _, hc⟩ := hr j hj
      cases e
      exact hc
    obtain ⟨v', w', hrun, h2, h3, _, h5⟩ := run_append_own_at (P := P) w base t ty 5 i z 1 1 ht hi hz hsize hby hzs (by omega) v n (u8s ys) hown ad xs.length c (u8s xs) (by rw [u8s_length]; omega) hcells (u8s_one xs)
      (by unfold maxLen; omega) (by omega) hbase
    exact ⟨v', w', hrun, by rw [u8s_append]; exact h2, h3, h5⟩
theorem wpList_append_byt {ops : Array Oper} {rest : List Oper} {o : Oper} {a : Act} {Q : Exit → Act → World → Prop} (hgd : o.guard = none) (s x : Operand) (t : TypeId)
    (ho : o.op = .call { callee := .builtin .append, args := #[s, x], argTypes := #[t, t] })
    (base : Nat) (i : TypeInfo) (z : Value) (ht : P.underlying t = some (.slice 5)) (hi : P.info? 5 = some i) (hz : i.zero = some z)
    (hsize : i.size = 1) (hby : i.bytes = 1) (hzs : z.cells.size = 1)
    (v : Value) (n : Nat) (ys : List UInt8) (hs : a.eval s = v) (hown : w.ownsRow base 5 1 v n (u8s ys)) (ok : Nat → Prop) (A : Option Addr) (c : Nat) (xs : List UInt8) (hx : a.eval x = .slice A xs.length c) (hr : Byt w ok A xs)
    (h63 : n + xs.length ≤ 140737488355328) (hbase : base ≤ w.heap.size)
    (h : ∀ v' w', w'.ownsRow base 5 1 v' (n + xs.length) (u8s (ys ++ xs)) → w.grownBy w' v.ownBlock → (v'.ownBlock = v.ownBlock ∨ v'.ownBlock = some w.heap.size) → wpList P ops Q rest (a.put o.dst v') w') :
    wpList P ops Q (o :: rest) a w := by
  refine wpList_plain hgd fun K hK => ?_
  obtain ⟨v', w', hr, h2, h3, h4⟩ := run_append_byt (P := P) w base t o.type i z ht hi hz hsize hby hzs v n ys hown ok A c xs hr h63 hbase
  unfold Oper.wp execOp
  simp only [ho, resolve, invoke, builtin, Sem.run_bind, Sem.run_pure, Result.andThen_ok, List.map_toArray, List.map_cons, List.map_nil, hs, hx, hr]
  exact hK _ _ (h v' w' h2 h3 h4)
end
theorem wpList_append_byt_n {P : Program} (w : World) {ops : Array Oper} {rest : List Oper} {o : Oper} {a : Act} {Q : Exit → Act → World → Prop} (hgd : o.guard = none) (s x : Operand) (t : TypeId)
    (ho : o.op = .call { callee := .builtin .append, args := #[s, x], argTypes := #[t, t] })
    (base : Nat) (i : TypeInfo) (z : Value) (ht : P.underlying t = some (.slice 5)) (hi : P.info? 5 = some i) (hz : i.zero = some z)
    (hsize : i.size = 1) (hby : i.bytes = 1) (hzs : z.cells.size = 1)
    (v : Value) (n : Nat) (ys : List UInt8) (hs : a.eval s = v) (hown : w.ownsRow base 5 1 v n (u8s ys)) (ok : Nat → Prop) (A : Option Addr) (c m : Nat) (xs : List UInt8) (hm : xs.length = m) (hx : a.eval x = .slice A m c) (hr : Byt w ok A xs)
    (h63 : n + m ≤ 140737488355328) (hbase : base ≤ w.heap.size)
    (h : ∀ v' w', w'.ownsRow base 5 1 v' (n + m) (u8s (ys ++ xs)) → w.grownBy w' v.ownBlock → (v'.ownBlock = v.ownBlock ∨ v'.ownBlock = some w.heap.size) → wpList P ops Q rest (a.put o.dst v') w') :
    wpList P ops Q (o :: rest) a w := by
  subst hm
  exact wpList_append_byt w hgd s x t ho base i z ht hi hz hsize hby hzs v n ys hs hown ok A c xs hx hr h63 hbase h
theorem own_keep {w w' : World} {base n : Nat} {e : TypeId} {size : Nat} {v : Value} {xs : List Value} (h : w.ownsRow base e size v n xs) (hg : w.grownBy w' none) : w'.ownsRow base e size v n xs :=
  h.kept hg (by cases v.ownBlock <;> simp)
theorem Tryz.info5 : (Tryz.prog.info? 5).map (fun i => (i.zero, i.size, i.bytes)) = some (some (.int .u8 0), 1, 1) := by kernel_rfl
theorem Byt.str {w : World} {ok : Nat → Prop} {A : Option Addr} {xs : List UInt8} (h : Byt w ok A xs) (c : Nat) : (convert 23 9 (.slice A xs.length c)).run Tryz.prog w = .ok (.string ⟨xs.toArray⟩) w := by
  rcases A with _ | ad
  · have : xs = [] := by
      rcases xs with _ | ⟨x, xs⟩
      · rfl
      · obtain ⟨_, e, _⟩ := h 0 (by simp)
        cases e
    subst this
    rw [run_convert_bytes_nil w 23 5 Tryz.underlying23 Tryz.underlying5 _ _ 9 Tryz.underlying9]
    rfl
  · refine run_convert_bytes_back w 23 9 5 ad c xs Tryz.underlying23 Tryz.underlying5 Tryz.underlying9 fun j hj => ?_
    obtain ⟨ad', e, _, hc⟩ := h j hj
    cases e
    exact hc
open Go.RowKit
/-- The table, b of its bytes told, the next one under way. -/
def tabAt (b x : Nat) : List Nat := (List.range b).map sbox ++ x :: List.replicate (255 - b) 0
theorem tabAt_length (b x : Nat) (h : b < 256) : (tabAt b x).length = 256 := by simp [tabAt]; omega
theorem tabAt_get (b x : Nat) : (tabAt b x).getD b 0 = x := by
  unfold tabAt
  rw [List.getD_eq_getElem?_getD, List.getElem?_append_right (by simp), List.length_map, List.length_range, Nat.sub_self]
  rfl
theorem tabAt_set (b x y : Nat) : (tabAt b x).set b y = tabAt b y := by
  unfold tabAt
  rw [List.set_append_right _ _ (by simp), List.length_map, List.length_range, Nat.sub_self]
  rfl
/-- The table, b of its bytes told. -/
def tabTo (b : Nat) : List Nat := (List.range b).map sbox ++ List.replicate (256 - b) 0
theorem tabTo_at (b : Nat) (h : b < 256) : tabTo b = tabAt b 0 := by
  unfold tabTo tabAt
  rw [show 256 - b = (255 - b) + 1 by omega, List.replicate_succ]
theorem tabTo_next (b : Nat) (h : b < 256) : tabAt b (sbox b) = tabTo (b + 1) := by
  unfold tabTo tabAt
  rw [List.range_succ, List.map_append, List.append_assoc, show 256 - (b + 1) = 255 - b by omega]
  rfl
theorem tabTo_all : tabTo 256 = stab := by simp [tabTo, stab]
theorem sv_lt (c : Nat) : ∀ k, sv c k < 2 ^ k
  | 0 => by simp [sv]
  | k + 1 => by
    have ih := sv_lt c k
    have h1 : sv c k < 2 ^ (k + 1) := Nat.lt_of_lt_of_le ih (Nat.pow_le_pow_right (by omega) (by omega))
    have h2 : (sx c k % 2) <<< k < 2 ^ (k + 1) := by
      rw [Nat.shiftLeft_eq, Nat.pow_succ, Nat.mul_comm (2 ^ k) 2]
      exact Nat.mul_lt_mul_of_pos_right (Nat.mod_lt _ (by omega)) (Nat.two_pow_pos k)
    exact Nat.or_lt_two_pow h1 h2
theorem sv_val (c k : Nat) (hc : c < 256) (hk : k < 8) :
    bits .or .i64 ((sv c k : Nat) : Int) (wrap64 (bits .and .i64 (bits .xor .i64 (bits .xor .i64 (bits .xor .i64 (bits .xor .i64 (bits .xor .i64 ((c : Int) / 2 ^ k) ((c : Int) / 2 ^ ((k + 4) % 8))) ((c : Int) / 2 ^ ((k + 5) % 8))) ((c : Int) / 2 ^ ((k + 6) % 8))) ((c : Int) / 2 ^ ((k + 7) % 8))) (99 / 2 ^ k)) 1 * 2 ^ k)) = ((sv c (k + 1) : Nat) : Int) := by
  have hs : ∀ j, c >>> j < 256 := fun j => Nat.lt_of_le_of_lt (shr_le c j) hc
  have h99 : 99 >>> k < 256 := Nat.lt_of_le_of_lt (shr_le 99 k) (by decide)
  have e99 : (99 : Int) / (2 : Int) ^ k = ((99 >>> k : Nat) : Int) := shr_nat 99 k
  have x1 := xor_lt _ _ (hs k) (hs ((k + 4) % 8))
  have x2 := xor_lt _ _ x1 (hs ((k + 5) % 8))
  have x3 := xor_lt _ _ x2 (hs ((k + 6) % 8))
  have x4 := xor_lt _ _ x3 (hs ((k + 7) % 8))
  have x5 := xor_lt _ _ x4 h99
  have hlt := sv_lt c k
  have h2 : (2 : Nat) ^ k ≤ 2 ^ 7 := Nat.pow_le_pow_right (by omega) (by omega)
  have hb : (sx c k % 2) <<< k < 32768 := by
    rw [Nat.shiftLeft_eq]
    have : sx c k % 2 * 2 ^ k ≤ 1 * 2 ^ 7 := Nat.mul_le_mul (by omega) h2
    omega
  simp only [shr_nat, e99]
  have l1 := hs k
  have l2 := hs ((k + 4) % 8)
  have l3 := hs ((k + 5) % 8)
  have l4 := hs ((k + 6) % 8)
  have l5 := hs ((k + 7) % 8)
  rw [i64_xor_nat _ _ (by omega) (by omega), i64_xor_nat _ _ (by omega) (by omega), i64_xor_nat _ _ (by omega) (by omega), i64_xor_nat _ _ (by omega) (by omega), i64_xor_nat _ _ (by omega) (by omega), i64_and_one _ (by omega), shl_nat]
  rw [show wrap64 (((c >>> k ^^^ c >>> ((k + 4) % 8) ^^^ c >>> ((k + 5) % 8) ^^^ c >>> ((k + 6) % 8) ^^^ c >>> ((k + 7) % 8) ^^^ 99 >>> k) % 2) <<< k : Nat) = (((sx c k % 2) <<< k : Nat) : Int) from by rw [← IntWalk.i64_left]; exact i64_keep _ (by show (sx c k % 2) <<< k < _; omega)]
  rw [i64_or_nat _ _ (by omega) (by omega)]
  rfl
set_option maxRecDepth 100000 in
set_option maxHeartbeats 1600000 in
theorem table_any (W : World) : Calls Tryz.prog 56 #[] W fun e w' => ∃ g, e = .returned (.slice (some ⟨g, 0, none⟩) 256 256) ∧ Blk w' g 3 (ints stab) ∧ W.grownBy w' none ∧ W.heap.size ≤ g := by
  obtain ⟨i0, hi, hz0, hz1, hz2⟩ := info_parts Tryz.info3
  go_enter Tryz.func56, Tryz.ntmps56
  go_wp2_with (with_reducible refine wpList_make_full _ rfl _ _ 65 rfl W.heap.size 3 i0 (.int .i64 0) 1 Tryz.underlying65 hi hz0 hz1 .i64 .i64 _ _ 256 rfl rfl rfl rfl ?c1 ?c2 ?c3 ?_)
  case c1 => rw [hz2]; omega
  case c2 => unfold maxLen; omega
  case c3 => exact Nat.le_refl _
  intro w1 hown hg1
  rw [made_ints] at hown
  have hb1 := Blk.of_owns_e hown
  obtain ⟨g, hg⟩ : ∃ g, g = W.heap.size := ⟨_, rfl⟩
  rw [← hg] at hb1 ⊢
  have hb1' : Blk w1 g 3 (ints (tabTo 0)) := hb1.to (by rfl)
  have HB1 := Lib.hid hb1'
  have HG1 := Lib.hid hg1
  have HGE := Lib.hid hg
  clear hown hb1 hb1' hg1 hg
  go_wp2_with (fail)
  go_loopw [2] (fun v wr => ∃ b : Nat, b ≤ 256 ∧ v = .int .i64 (b : Int) ∧ Blk wr g 3 (ints (tabTo b)) ∧ W.grownBy wr none) (fun v _ => 256 - (intOf v).toNat)
  case atStart => exact ⟨0, by omega, rfl, HB1.out, HG1.out⟩
  case round =>
    clear HB1 HG1
    obtain ⟨b, hb, rfl, hbk, hgr⟩ := hrel
    by_cases hlt : b < 256
    · rw [tabTo_at b hlt] at hbk
      have HBK := Lib.hid hbk
      have HGR := Lib.hid hgr
      have hci := ci_lt b hlt
      have hcc := cc_lt b hlt
      clear hbk hgr
      have dB : decide ((b : Int) < 256) = true := by simp; omega
      go_wp2_with (fail)
      clear dB
      go_loop [3, 4] (fun c i => ∃ k : Nat, k ≤ 7 ∧ i = .int .i64 (k : Int) ∧ c = .int .i64 ((ci b k : Nat) : Int)) (fun _ i => 7 - (intOf i).toNat)
      case atStart => exact ⟨0, by omega, rfl, rfl⟩
      case round =>
        obtain ⟨k, hk, rfl, rfl⟩ := hrel
        by_cases hk7 : k < 7
        · have r1 : ∀ V, Calls Tryz.prog 58 #[.int .i64 ((ci b k : Nat) : Int), .int .i64 ((ci b k : Nat) : Int)] V fun e w' => e = .returned (.int .i64 ((times (ci b k) (ci b k) : Nat) : Int)) ∧ w' = V := fun V => times_any _ _ (hci k (by omega)) (hci k (by omega)) V
          have r2 : ∀ V, Calls Tryz.prog 58 #[.int .i64 ((times (ci b k) (ci b k) : Nat) : Int), .int .i64 (b : Int)] V fun e w' => e = .returned (.int .i64 ((ci b (k + 1) : Nat) : Int)) ∧ w' = V := fun V => times_any _ _ (hcc k (by omega)) hlt V
          generalize ci b k = c0 at r1 r2 ⊢
          generalize times c0 c0 = c1 at r1 r2
          obtain ⟨c2, hc2⟩ : ∃ c2, c2 = ci b (k + 1) := ⟨_, rfl⟩
          rw [← hc2] at r2
          have HC2 := Lib.hid hc2
          have R1 := Lib.hid r1
          have R2 := Lib.hid r2
          clear r1 r2 hc2 hci hcc
          go_wp2_with (first
            | (go_at_call 58; with_reducible refine (R1.out _).mono ?_; rintro _ V ⟨rfl, rfl⟩)
            | (go_at_call 58; with_reducible refine (R2.out _).mono ?_; rintro _ V ⟨rfl, rfl⟩))
          go_round
          case rel => exact ⟨k + 1, by omega, by go_num, by rw [HC2.out]⟩
          case measure => simp [intOf]; omega
        · have ek : k = 7 := by omega
          subst ek
          have r1 : ∀ V, Calls Tryz.prog 58 #[.int .i64 ((ci b 7 : Nat) : Int), .int .i64 ((ci b 7 : Nat) : Int)] V fun e w' => e = .returned (.int .i64 ((times (ci b 7) (ci b 7) : Nat) : Int)) ∧ w' = V := fun V => times_any _ _ (hci 7 (by omega)) (hci 7 (by omega)) V
          have hsb : sbox b = sv (times (ci b 7) (ci b 7)) 8 := rfl
          have hcl := hcc 7 (by omega)
          obtain ⟨c, hc⟩ : ∃ c, c = times (ci b 7) (ci b 7) := ⟨_, rfl⟩
          rw [← hc] at r1 hsb hcl
          have HSB := Lib.hid hsb
          have R1 := Lib.hid r1
          clear r1 hc hci hcc hk7 hk hsb
          go_wp2_with (go_at_call 58; with_reducible refine (R1.out _).mono ?_; rintro _ V ⟨rfl, rfl⟩)
          clear R1
          go_loopw [5] (fun i wx => ∃ k : Nat, k ≤ 8 ∧ i = .int .i64 (k : Int) ∧ Blk wx g 3 (ints (tabAt b (sv c k))) ∧ W.grownBy wx none) (fun i _ => 8 - (intOf i).toNat)
          case atStart => exact ⟨0, by omega, rfl, HBK.out, HGR.out⟩
          case round =>
            clear HBK HGR
            obtain ⟨k, hk, rfl, hbk, hgr⟩ := hrel
            by_cases hk8 : k < 8
            · have hcell := hbk.get b _ (ints_get _ b (by rw [tabAt_length _ _ hlt]; exact hlt))
              rw [tabAt_get] at hcell
              have hfr := hbk.frozen b
              have HBK := Lib.hid hbk
              have HGR := Lib.hid hgr
              clear hbk hgr
              go_wp2
              go_roundw
              case rel =>
                rw [sv_val c k hcl hk8]
                refine ⟨k + 1, by omega, by go_num, ?_, grown_new HGR.out (by rw [HGE.out]; exact Nat.le_refl _) _ _⟩
                have h := HBK.out.set b (.int .i64 ((sv c (k + 1) : Nat) : Int))
                rw [ints_set, tabAt_set] at h
                exact h
              case measure => simp [intOf]; omega
            · have ek : k = 8 := by omega
              rw [ek, ← HSB.out, tabTo_next b hlt] at hbk
              have HBK := Lib.hid hbk
              have HGR := Lib.hid hgr
              clear hbk hgr ek
              go_wp2
              go_roundw
              case rel => exact ⟨b + 1, by omega, by go_num, HBK.out, HGR.out⟩
              case measure => simp [intOf]; omega
    · have eb : b = 256 := by omega
      rw [eb, tabTo_all] at hbk
      have HBK := Lib.hid hbk
      have HGR := Lib.hid hgr
      clear hbk hgr
      go_wp2
      go_ret
      exact ⟨g, rfl, HBK.out, HGR.out, by rw [HGE.out]; exact Nat.le_refl _⟩
open Go.RowKit
/-- Words of four numbers lie at A, all of it in blocks that are 'ok'. -/
def Wds (w : World) (ok : Nat → Prop) (A : Addr) (ws : List (List Nat)) : Prop :=
  ∀ n, n < ws.length → ∃ (ad : Addr) (c : Nat), w.cell? (A.add n) = some (.slice (some ad) 4 c) ∧ ok A.block ∧ ok ad.block ∧ 4 ≤ c ∧ ∀ r, r < 4 → w.cell? (ad.add r) = some (.int .i64 ((wb ws n r : Nat) : Int))
theorem Wds.keep {w w' : World} {ok : Nat → Prop} {A : Addr} {ws : List (List Nat)} (h : Wds w ok A ws) (hk : ∀ b, ok b → w'.heap[b]? = w.heap[b]?) : Wds w' ok A ws := fun n hn => by
  obtain ⟨ad, c, h1, h2, h3, h4, h5⟩ := h n hn
  refine ⟨ad, c, (World.cell?_of_block (by rw [block_of_plus]; exact hk _ h2)).trans h1, h2, h3, h4, fun r hr => ?_⟩
  exact (World.cell?_of_block (by rw [block_of_plus]; exact hk _ h3)).trans (h5 r hr)
theorem Wds.grown {w w' : World} {ok : Nat → Prop} {A : Addr} {ws : List (List Nat)} {row : Option Nat} (h : Wds w ok A ws) (hg : w.grownBy w' row) (hok : ∀ b, ok b → b < w.heap.size ∧ some b ≠ row) : Wds w' ok A ws := h.keep fun b hb => hg.block b (hok b hb).1 (hok b hb).2
/-- The bytes of a state, as values. -/
def bytesOf (s : State) : List Value := (List.finRange 16).map fun i => Value.int .u8 ((s i).toNat : Int)
theorem bytesOf_length (s : State) : (bytesOf s).length = 16 := by simp [bytesOf]
theorem bytesOf_get (s : State) (i : Nat) (h : i < 16) : (bytesOf s)[i]? = some (.int .u8 ((s ⟨i, h⟩).toNat : Int)) := by
  unfold bytesOf
  rw [List.getElem?_map, List.getElem?_eq_getElem (by simpa using h)]
  simp
theorem run_box23 (w : World) (s : State) : (Instr.box 48 (.agg (bytesOf s).toArray)).run Tryz.prog w = .ok (.pointer (some ⟨w.heap.size, 0, none⟩)) (w.alloc (.cells (bytesOf s).toArray 48)) := by kernel_rfl
theorem run_alloc47 (w : World) : (Instr.alloc 92 true (.tuple #[])).run Tryz.prog w = .ok (.pointer (some ⟨w.heap.size, 0, none⟩)) (w.alloc (.cells (ints (List.replicate 16 0)).toArray 92)) := by kernel_rfl
theorem run_alloc23 (w : World) : (Instr.alloc 48 true (.tuple #[])).run Tryz.prog w = .ok (.pointer (some ⟨w.heap.size, 0, none⟩)) (w.alloc (.cells (bytesOf (fun _ => 0)).toArray 48)) := by kernel_rfl
/-- Four rows of four numbers; where they aren't told yet: old. -/
def rows (done : Nat → Nat → Bool) (f old : Nat → Nat → Nat) : List Nat := (List.range 16).map fun q => if done (q / 4) (q % 4) then f (q / 4) (q % 4) else old (q / 4) (q % 4)
theorem rows_length (done : Nat → Nat → Bool) (f old : Nat → Nat → Nat) : (rows done f old).length = 16 := by simp [rows]
theorem rows_set (done done' : Nat → Nat → Bool) (f old : Nat → Nat → Nat) (r k : Nat) (hk : k < 4) (h : ∀ r', r' < 4 → ∀ k', k' < 4 → done' r' k' = (done r' k' || (decide (r' = r) && decide (k' = k)))) :
    (rows done f old).set (r * 4 + k) (f r k) = rows done' f old := by
  apply List.ext_getElem (by simp [rows])
  intro q h1 h2
  have hq : q < 16 := by rw [rows_length] at h2; exact h2
  have hd := h (q / 4) (by omega) (q % 4) (by omega)
  rw [List.getElem_set]
  simp only [rows, List.getElem_map, List.getElem_range, hd]
  by_cases e : r * 4 + k = q
  · have e1 : q / 4 = r := by omega
    have e2 : q % 4 = k := by omega
    simp [e, e1, e2]
  · have e1 : ¬ (q / 4 = r ∧ q % 4 = k) := by omega
    rw [if_neg e]
    by_cases e2 : q / 4 = r
    · have e3 : ¬ q % 4 = k := fun h => e1 ⟨e2, h⟩
      simp [e3]
    · simp [e2]
theorem rows_all (done : Nat → Nat → Bool) (f old : Nat → Nat → Nat) (h : ∀ r, r < 4 → ∀ k, k < 4 → done r k = true) : rows done f old = (List.range 16).map fun q => f (q / 4) (q % 4) := by
  apply List.ext_getElem (by simp [rows])
  intro q h1 h2
  have hq : q < 16 := by rw [rows_length] at h1; exact h1
  simp only [rows, List.getElem_map, List.getElem_range]
  rw [if_pos (h _ (by omega) _ (by omega))]
/-- A state as the reference lays it. -/
def cellsOf (s : State) : List Nat := (List.range 16).map fun q => at_ s (q / 4) (q % 4)
theorem cellsOf_length (s : State) : (cellsOf s).length = 16 := by simp [cellsOf]
theorem cellsOf_get (s : State) (r k : Nat) (hr : r < 4) (hk : k < 4) : (cellsOf s).getD (r * 4 + k) 0 = at_ s r k := by
  have h1 : (r * 4 + k) / 4 = r := by omega
  have h2 : (r * 4 + k) % 4 = k := by omega
  unfold cellsOf
  rw [List.getD_eq_getElem?_getD, List.getElem?_map, List.getElem?_range (by omega)]
  simp only [Option.map_some, Option.getD_some, h1, h2]
theorem rows_none (f : Nat → Nat → Nat) (s : State) : rows (fun _ _ => false) f (at_ s) = cellsOf s := by simp [rows, cellsOf]
theorem rows_state (done : Nat → Nat → Bool) (s : State) (old : Nat → Nat → Nat) (h : ∀ r, r < 4 → ∀ k, k < 4 → done r k = true) : rows done (at_ s) old = cellsOf s := rows_all done (at_ s) old h
open Go.RowKit
section
variable {w : World} {ops : Array Oper} {rest : List Oper} {o : Oper} {a : Act} {Q : Exit → Act → World → Prop}
theorem wpList_box23 (hgd : o.guard = none) (x : Operand) (s : State) (ho : o.op = .box 48 x) (hx : a.eval x = .agg (bytesOf s).toArray)
    (h : ∀ w', Blk w' w.heap.size 48 (bytesOf s) → w.grownBy w' none → w'.heap.size = w.heap.size + 1 → wpList Tryz.prog ops Q rest (a.put o.dst (.pointer (some ⟨w.heap.size, 0, none⟩))) w') : wpList Tryz.prog ops Q (o :: rest) a w := by
  refine wpList_plain hgd fun K hK => ?_
  have hrun := run_box23 w s
  generalize bytesOf s = z at hrun h hx
  unfold Oper.wp
  simp only [execOp, ho, hx, Sem.run_bind, hrun, Result.andThen_ok, Sem.run_pure]
  exact hK _ _ (h _ (Blk.of_alloc w _ 48) (World.grownBy_alloc w _ none) (World.size_alloc w _))
theorem wpList_alloc47 (hgd : o.guard = none) (ho : o.op = .alloc 92)
    (h : ∀ w', Blk w' w.heap.size 92 (ints (List.replicate 16 0)) → w.grownBy w' none → w'.heap.size = w.heap.size + 1 → wpList Tryz.prog ops Q rest (a.put o.dst (.pointer (some ⟨w.heap.size, 0, none⟩))) w') : wpList Tryz.prog ops Q (o :: rest) a w := by
  refine wpList_plain hgd fun K hK => ?_
  have hrun := run_alloc47 w
  generalize ints (List.replicate 16 0) = z at hrun h
  unfold Oper.wp
  simp only [execOp, ho, Sem.run_bind, hrun, Result.andThen_ok, Sem.run_pure]
  exact hK _ _ (h _ (Blk.of_alloc w _ 92) (World.grownBy_alloc w _ none) (World.size_alloc w _))
theorem wpList_alloc23 (hgd : o.guard = none) (ho : o.op = .alloc 48)
    (h : ∀ w', Blk w' w.heap.size 48 (bytesOf (fun _ => 0)) → w.grownBy w' none → w'.heap.size = w.heap.size + 1 → wpList Tryz.prog ops Q rest (a.put o.dst (.pointer (some ⟨w.heap.size, 0, none⟩))) w') : wpList Tryz.prog ops Q (o :: rest) a w := by
  refine wpList_plain hgd fun K hK => ?_
  have hrun := run_alloc23 w
  generalize bytesOf (fun _ => 0) = z at hrun h
  unfold Oper.wp
  simp only [execOp, ho, Sem.run_bind, hrun, Result.andThen_ok, Sem.run_pure]
  exact hK _ _ (h _ (Blk.of_alloc w _ 48) (World.grownBy_alloc w _ none) (World.size_alloc w _))
end
theorem xor_small (a b : Nat) (ha : a < 256) (hb : b < 256) : bits .xor .i64 (a : Int) (b : Int) = ((a ^^^ b : Nat) : Int) := i64_xor_nat a b (by omega) (by omega)
theorem grown_drew {w wr : World} {row : Option Nat} (h : w.grownBy wr row) : w.grownBy wr.drew row := ⟨h.os, h.tape, h.output, h.size, h.block⟩
/-- The state behind so many rounds; the fourteenth is the last. -/
def stt (k : Nat → State) (s : State) (m : Nat) : State := if m < 14 then rounds k s m else lockS k s
theorem stt_mid (k : Nat → State) (s : State) (m : Nat) (h : m + 1 < 14) : stt k s (m + 1) = keyS (k (m + 1)) (mixS (rowS (subS (stt k s m)))) := by
  unfold stt
  rw [if_pos h, if_pos (by omega)]
  rfl
theorem stt_last (k : Nat → State) (s : State) : stt k s 14 = keyS (k 14) (rowS (subS (stt k s 13))) := rfl
theorem rows_congr {done done' : Nat → Nat → Bool} {f old : Nat → Nat → Nat} (h : ∀ r, r < 4 → ∀ k, k < 4 → done r k = done' r k) : rows done f old = rows done' f old := by
  unfold rows
  apply List.map_congr_left
  intro q hq
  have hq16 : q < 16 := by simpa using hq
  rw [h _ (by omega) _ (by omega)]
/-- What a round finds besides: the words and the table as ever, the cipher's two slices, the answer's place. -/
def Env (W : World) (gc go : Nat) (cs : List Value) (wx : World) : Prop := W.grownBy wx none ∧ Blk wx gc 68 cs ∧ Blk wx go 48 (bytesOf fun _ => 0)
theorem Env.step {W wx wy : World} {gc go : Nat} {cs : List Value} {g : Nat} (h : Env W gc go cs wx) (hg : wx.grownBy wy (some g)) (h1 : W.heap.size ≤ g) (h2 : gc ≠ g) (h3 : go ≠ g) : Env W gc go cs wy :=
  ⟨World.grownBy.andThen h.1 hg (by rintro _ ⟨⟩; exact .inl h1), h.2.1.grown hg (fun e => h2 (Option.some.inj e)), h.2.2.grown hg (fun e => h3 (Option.some.inj e))⟩
theorem Env.new {W wx wy : World} {gc go : Nat} {cs : List Value} (h : Env W gc go cs wx) (hg : wx.grownBy wy none) : Env W gc go cs wy :=
  ⟨World.grownBy.trans h.1 hg, h.2.1.grown hg (by simp), h.2.2.grown hg (by simp)⟩
theorem Env.drew {W wx : World} {gc go : Nat} {cs : List Value} (h : Env W gc go cs wx) : Env W gc go cs wx.drew := ⟨grown_drew h.1, h.2.1.keep rfl, h.2.2.keep rfl⟩
def fromZero (_ _ : Nat) : Nat := 0
theorem rows_zero (f : Nat → Nat → Nat) : rows (fun _ _ => false) f fromZero = List.replicate 16 0 := by
  unfold rows fromZero
  rfl
/-- The first i bytes of L; behind them 0. -/
def upto (L : State) (i : Nat) : State := fun j => if j.val < i then L j else 0
theorem upto_zero (L : State) : upto L 0 = fun _ => 0 := by funext j; simp [upto]
theorem upto_all (L : State) : upto L 16 = L := by funext j; simp [upto, j.isLt]
theorem bytesOf_upto (L : State) (i : Nat) (h : i < 16) : (bytesOf (upto L i)).set i (.int .u8 ((L ⟨i, h⟩).toNat : Int)) = bytesOf (upto L (i + 1)) := by
  apply List.ext_getElem?
  intro q
  by_cases hq : q < 16
  · rw [List.getElem?_set, bytesOf_get _ q hq, bytesOf_length]
    by_cases e : i = q
    · subst e; rw [bytesOf_get _ i h]; simp [upto, h]
    · rw [if_neg e, bytesOf_get _ q hq]
      have : (q < i + 1) = (q < i) := by simp; omega
      simp [upto, this]
  · rw [List.getElem?_eq_none (by rw [List.length_set, bytesOf_length]; omega), List.getElem?_eq_none (by rw [bytesOf_length]; omega)]
theorem bytesOf_one (s : State) : ∀ u ∈ bytesOf s, u.oneCell' = true := by
  intro u hu
  simp only [bytesOf, List.mem_map] at hu
  obtain ⟨_, _, rfl⟩ := hu
  rfl
theorem size23 : (Tryz.prog.info? 48).map (·.size) = some 16 := by kernel_rfl
theorem bytesOf_range {w : World} {g : Nat} {s : State} (h : Blk w g 48 (bytesOf s)) : w.rangeAt g 0 (bytesOf s) := fun j v hv => by
  have := h.get j v hv
  simpa using this
set_option maxRecDepth 100000 in
set_option maxHeartbeats 16000000 in
theorem lock_any {W : World} {A B : Addr} {cA cB : Nat} {ws : List (List Nat)} (hS : ∀ j, j < 256 → W.cell? (A.add j) = some (.int .i64 ((sbox j : Nat) : Int))) (hW : Wds W (fun b => b < W.heap.size) B ws) (hl : ws.length = 60) (hlt : ∀ n r, wb ws n r < 256) (s : State) :
    Calls Tryz.prog 37 #[.agg #[.slice (some A) 256 cA, .slice (some B) 60 cB], .agg (bytesOf s).toArray] W fun e w' => e = .returned (.agg (bytesOf (lockS (rk ws) s)).toArray) ∧ W.grownBy w' none := by
  have HS := Lib.hid hS
  have HW := Lib.hid hW
  have HL := Lib.hid hl
  have HLT := Lib.hid hlt
  clear hS hW hl hlt
  go_enter Tryz.func37, Tryz.ntmps37
  go_wp2_with (refine wpList_box23 rfl _ s rfl rfl ?_)
  intro w2 hb2 hg2 hz2
  go_wp2_with (refine wpList_alloc23 rfl rfl ?_)
  intro w3 hb3 hg3 hz3
  go_wp2_with (refine wpList_alloc47 rfl rfl ?_)
  intro w5 hb5 hg5 hz5
  have hg1 := World.grownBy_alloc W (.cells #[.slice (some A) 256 cA, .slice (some B) 60 cB] 68) none
  have hb1 := Blk.of_alloc W #[.slice (some A) 256 cA, .slice (some B) 60 cB] 68
  have hg25 := World.grownBy.trans hg2 (World.grownBy.trans hg3 hg5)
  have hg15 := World.grownBy.trans hg1 hg25
  have HB1 := Lib.hid (hb1.grown hg25 (by simp))
  have HB2 := Lib.hid ((hb2.grown hg3 (by simp)).grown hg5 (by simp))
  have HB3 := Lib.hid (hb3.grown hg5 (by simp))
  have HB5 := Lib.hid hb5
  have HG5 := Lib.hid hg15
  have HW5 := Lib.hid (HW.out.grown hg15 (fun b hb => ⟨hb, by simp⟩))
  have HZ5 := Lib.hid hz5
  obtain ⟨gc, hgc⟩ : ∃ g, g = W.heap.size := ⟨_, rfl⟩
  obtain ⟨gk, hgk⟩ : ∃ g, g = W.heap.size + 1 := ⟨_, rfl⟩
  obtain ⟨go, hgo⟩ : ∃ g, g = W.heap.size + 1 + 1 := ⟨_, rfl⟩
  obtain ⟨gb, hgb⟩ : ∃ g, g = W.heap.size + 1 + 1 + 1 := ⟨_, rfl⟩
  rw [← hgb, ← hgo, ← hgk, ← hgc]
  have HBC : Hid (Blk w5 gc 68 [.slice (some A) 256 cA, .slice (some B) 60 cB]) := by rw [hgc]; exact HB1
  have HBK : Hid (Blk w5 gk 48 (bytesOf s)) := by rw [hgk]; exact HB2
  have HBO : Hid (Blk w5 go 48 (bytesOf fun _ => 0)) := by rw [hgo]; exact HB3
  have HBB : Hid (Blk w5 gb 92 (ints (rows (fun _ _ => false) (at_ (keyS (rk ws 0) s)) fromZero))) := by rw [hgb, rows_zero]; exact HB5
  have n1 : gc ≠ gb := by omega
  have n2 : gk ≠ gb := by omega
  have n3 : go ≠ gb := by omega
  have hwb : W.heap.size ≤ gb := by omega
  have hwo : W.heap.size ≤ go := by omega
  have HGC := Lib.hid hgc
  have HGB := Lib.hid hgb
  clear hb2 hg2 hz2 hb3 hg3 hz3 hb5 hg5 hz5 hg1 hb1 hg25 hg15 HB1 HB2 HB3 HB5 hgc hgk hgo hgb
  go_wp2_with (fail)
  go_loopw [6] (fun v wr => ∃ i : Nat, i ≤ 16 ∧ v = .int .i64 (i : Int) ∧ Blk wr gb 92 (ints (rows (fun r k => decide (r + 4 * k < i)) (at_ (keyS (rk ws 0) s)) fromZero)) ∧ w5.grownBy wr (some gb)) (fun v _ => 16 - (intOf v).toNat)
  case atStart => exact ⟨0, by omega, rfl, by simpa using HBB.out, World.grownBy.refl _ _⟩
  case round =>
    clear HBB
    obtain ⟨i, hi, rfl, hb, hgr⟩ := hrel
    by_cases hlt : i < 16
    · obtain ⟨r, hr⟩ : ∃ r, r = i % 4 := ⟨_, rfl⟩
      obtain ⟨k, hk⟩ : ∃ k, k = i / 4 := ⟨_, rfl⟩
      have hr4 : r < 4 := by omega
      have hk4 : k < 4 := by omega
      have hik : i = r + 4 * k := by omega
      obtain ⟨ad, c', w1, w2o, w3o, w4, w5c⟩ := HW5.out k (by rw [HL.out]; omega)
      have keep : ∀ b, b < W.heap.size → wr.heap[b]? = w5.heap[b]? := fun b hb => hgr.block b (by have := HZ5.out; omega) (fun e => by have := Option.some.inj e; omega)
      have c1 := (HBK.out.grown hgr (fun e => n2 (Option.some.inj e))).get i _ (bytesOf_get s i hlt)
      have c2 := (HBC.out.grown hgr (fun e => n1 (Option.some.inj e))).get 1 _ rfl
      have c3 := (World.cell?_of_block (w := w5) (w' := wr) (a := B.add k) (by rw [block_of_plus]; exact keep _ w2o)).trans w1
      have c4 := (World.cell?_of_block (w := w5) (w' := wr) (a := ad.add r) (by rw [block_of_plus]; exact keep _ w3o)).trans (w5c r hr4)
      have hold : (ints (rows (fun r k => decide (r + 4 * k < i)) (at_ (keyS (rk ws 0) s)) fromZero))[r * 4 + k]? ≠ none := by
        rw [ints_get _ _ (by rw [rows_length]; omega)]; simp
      obtain ⟨vo, hvo⟩ := Option.ne_none_iff_exists'.1 hold
      have c5 := hb.get (r * 4 + k) _ hvo
      have hf := hb.frozen (r * 4 + k)
      have hx := xor_small (s ⟨i, hlt⟩).toNat (wb ws k r) (UInt8.toNat_lt _) (HLT.out k r)
      have t1 : (i : Int).tmod 4 = (r : Int) := by rw [Int.tmod_eq_emod_of_nonneg (by omega)]; omega
      have t2 : (i : Int).tdiv 4 = (k : Int) := by rw [Int.tdiv_eq_ediv_of_nonneg (by omega)]; omega
      have t3 : (i : Int) % 4 = (r : Int) := by omega
      have t4 : (i : Int) / 4 = (k : Int) := by omega
      have t5 : IntKind.i64.wrap (r : Int) = (r : Int) := i64_keep r (by omega)
      have t6 : IntKind.i64.wrap (k : Int) = (k : Int) := i64_keep k (by omega)
      have t7 : (r : Int) < 4 := by omega
      have t8 : (k : Int) < 4 := by omega
      have t9 : (k : Int) < 60 := by omega
      have hval : (s ⟨i, hlt⟩).toNat ^^^ wb ws k r = at_ (keyS (rk ws 0) s) r k := by
        rw [key_at ws s 0 r k hr4 hk4 (HLT.out _ _), show 4 * 0 + k = k by omega]
        congr 2
        congr 1
        apply Fin.ext
        show i = (r + 4 * k) % 16
        omega
      obtain ⟨x, hxe⟩ : ∃ x, x = (s ⟨i, hlt⟩).toNat := ⟨_, rfl⟩
      obtain ⟨y, hye⟩ : ∃ y, y = wb ws k r := ⟨_, rfl⟩
      rw [← hxe] at c1 hx hval
      rw [← hye] at c4 hx hval
      have hx256 : x < 256 := by rw [hxe]; exact UInt8.toNat_lt _
      have hwx : IntKind.i64.wrap (x : Int) = (x : Int) := i64_keep x (by omega)
      have HB := Lib.hid hb
      have HGR := Lib.hid hgr
      have HVAL := Lib.hid hval
      have HIK := Lib.hid hik
      clear hb hgr hval hik hr hk w1 w2o w3o w4 w5c keep hvo hold hxe hye
      go_wp2_with (fail)
      refine wp_region_still_tail 21 (by kernel_rfl) (by kernel_rfl) ?_
      change wpStill _ _ wr.drew (fun a' => wpList _ _ _ _ a' wr.drew) _ _
      simp only [List.take_succ_cons, List.take_zero, List.drop_succ_cons, List.drop_zero]
      repeat still_step
      refine wpStill_nil ?_
      go_wp2
      go_roundw
      case rel =>
        rw [HVAL.out]
        refine ⟨i + 1, by omega, by go_num, ?_, grown_drew (World.grownBy.trans HGR.out (grown_set wr gb (r * 4 + k) _))⟩
        have h := HB.out.set (r * 4 + k) (.int .i64 ((at_ (keyS (rk ws 0) s) r k : Nat) : Int))
        rw [ints_set, rows_set _ (fun r k => decide (r + 4 * k < i + 1)) _ _ r k hk4 (fun r' h1 k' h2 => by have := HIK.out; rw [Bool.eq_iff_iff]; simp; omega)] at h
        exact h.keep rfl
      case measure => simp [intOf]; omega
    · have hb0 : Blk wr gb 92 (ints (cellsOf (stt (rk ws) s 0))) := by
        rw [rows_state _ _ _ (fun r hr k hk => by simp; omega)] at hb
        exact hb
      have hg0 : W.grownBy wr none := World.grownBy.andThen HG5.out hgr (by rintro _ ⟨⟩; exact .inl hwb)
      have henv : Env W gc go [.slice (some A) 256 cA, .slice (some B) 60 cB] wr := ⟨hg0, HBC.out.grown hgr (fun e => n1 (Option.some.inj e)), HBO.out.grown hgr (fun e => n3 (Option.some.inj e))⟩
      have HB0 := Lib.hid hb0
      have HENV := Lib.hid henv
      clear hb hgr hb0 hg0 henv HBK HW5 HG5 HZ5 HBC HBO
      go_wp2_with (fail)
      clear hi hlt
      go_loopw [7] (fun v wr => ∃ n : Nat, 1 ≤ n ∧ n ≤ 15 ∧ v = .int .i64 (n : Int) ∧ Env W gc go [.slice (some A) 256 cA, .slice (some B) 60 cB] wr ∧ Blk wr gb 92 (ints (cellsOf (stt (rk ws) s (n - 1))))) (fun v _ => 15 - (intOf v).toNat)
      case atStart => exact ⟨1, by omega, by omega, rfl, HENV.out, HB0.out⟩
      case round =>
        clear HB0 HENV
        obtain ⟨n, hn1, hn15, rfl, henv, hb⟩ := hrel
        by_cases hn : n ≤ 14
        · obtain ⟨S, hSe⟩ : ∃ S, S = stt (rk ws) s (n - 1) := ⟨_, rfl⟩
          rw [← hSe] at hb
          have hbl := hb.lt
          have HENV := Lib.hid henv
          have HB := Lib.hid hb
          have HSE := Lib.hid hSe
          clear henv hb hSe
          have dN : decide ((n : Int) ≤ 14) = true := by simp; omega
          go_wp2_with (refine wpList_alloc47 rfl rfl ?_)
          intro w6 hb6 hg6 hz6
          clear dN
          obtain ⟨gt, hgt⟩ : ∃ g, g = wr.heap.size := ⟨_, rfl⟩
          rw [← hgt] at hb6 ⊢
          have m1 : gb ≠ gt := by omega
          have hg0 := HGC.out
          have hg1 := HGB.out
          have m2 : gc ≠ gt := by omega
          have m3 : go ≠ gt := by have := (HENV.out.2.2).lt; omega
          have m4 : W.heap.size ≤ gt := by omega
          have HENV6 := Lib.hid (HENV.out.new hg6)
          have HB6 := Lib.hid (HB.out.grown hg6 (by simp))
          have HT6 : Hid (Blk w6 gt 92 (ints (rows (fun r' _ => decide (r' < 0)) (at_ (rowS (subS S))) fromZero))) := by
            show Blk w6 gt 92 _
            simp only [Nat.not_lt_zero, decide_false]
            rw [rows_zero]
            exact hb6
          clear hb6 hg6 hz6 hgt HENV HB hg0 hg1
          go_wp2_with (fail)
          go_loopw [9] (fun v wx => ∃ r : Nat, r ≤ 4 ∧ v = .int .i64 (r : Int) ∧ Env W gc go [.slice (some A) 256 cA, .slice (some B) 60 cB] wx ∧ Blk wx gb 92 (ints (cellsOf S)) ∧ Blk wx gt 92 (ints (rows (fun r' _ => decide (r' < r)) (at_ (rowS (subS S))) fromZero))) (fun v _ => 4 - (intOf v).toNat)
          case atStart => exact ⟨0, by omega, rfl, HENV6.out, HB6.out, HT6.out⟩
          case round =>
            clear HENV6 HB6 HT6
            obtain ⟨r, hr4, rfl, henv, hb, ht⟩ := hrel
            by_cases hr : r < 4
            · have HE := Lib.hid henv
              have HB := Lib.hid hb
              have HT := Lib.hid ht
              clear henv hb ht
              have dR : decide ((r : Int) < 4) = true := by simp; omega
              go_wp2_with (fail)
              clear dR
              go_loopw [10] (fun v wx => ∃ k : Nat, k ≤ 4 ∧ v = .int .i64 (k : Int) ∧ Env W gc go [.slice (some A) 256 cA, .slice (some B) 60 cB] wx ∧ Blk wx gb 92 (ints (cellsOf S)) ∧ Blk wx gt 92 (ints (rows (fun r' k' => decide (r' < r) || (decide (r' = r) && decide (k' < k))) (at_ (rowS (subS S))) fromZero))) (fun v _ => 4 - (intOf v).toNat)
              case atStart => exact ⟨0, by omega, rfl, HE.out, HB.out, by simpa using HT.out⟩
              case round =>
                clear HE HB HT
                obtain ⟨k, hk4, rfl, henv, hb, ht⟩ := hrel
                by_cases hk : k < 4
                · obtain ⟨q, hq⟩ : ∃ q, q = (k + r) % 4 := ⟨_, rfl⟩
                  have hq4 : q < 4 := by omega
                  have c1 := henv.2.1.get 0 _ rfl
                  have c2 := hb.get (r * 4 + q) _ (ints_get _ _ (by rw [cellsOf_length]; omega))
                  rw [cellsOf_get S r q hr hq4] at c2
                  have c3 := henv.1.cell (HS.out (at_ S r q) (at_lt _ _ _)) (by simp)
                  have hval : sbox (at_ S r q) = at_ (rowS (subS S)) r k := by rw [sb_at S r k hr hk, hq]
                  have hx256 := at_lt S r q
                  obtain ⟨x, hx⟩ : ∃ x, x = at_ S r q := ⟨_, rfl⟩
                  rw [← hx] at c2 c3 hval hx256
                  obtain ⟨y, hy⟩ : ∃ y, y = sbox x := ⟨_, rfl⟩
                  rw [← hy] at c3 hval
                  have hold : (ints (rows (fun r' k' => decide (r' < r) || (decide (r' = r) && decide (k' < k))) (at_ (rowS (subS S))) fromZero))[r * 4 + k]? ≠ none := by
                    rw [ints_get _ _ (by rw [rows_length]; omega)]; simp
                  obtain ⟨vo, hvo⟩ := Option.ne_none_iff_exists'.1 hold
                  have c5 := ht.get (r * 4 + k) _ hvo
                  have hf := ht.frozen (r * 4 + k)
                  have t1 : IntKind.i64.wrap ((k : Int) + (r : Int)) = (k : Int) + (r : Int) := by rw [IntKind.wrap_i64]; omega
                  have t2 : ((k : Int) + (r : Int)).tmod 4 = (q : Int) := by rw [Int.tmod_eq_emod_of_nonneg (by omega)]; omega
                  have t3 : ((k : Int) + (r : Int)) % 4 = (q : Int) := by omega
                  have t5 : IntKind.i64.wrap (q : Int) = (q : Int) := i64_keep q (by omega)
                  have t6 : (q : Int) < 4 := by omega
                  have t7 : (r : Int) < 4 := by omega
                  have t8 : (k : Int) < 4 := by omega
                  have t9 : (x : Int) < 256 := by omega
                  have HE := Lib.hid henv
                  have HB := Lib.hid hb
                  have HT := Lib.hid ht
                  have HVAL := Lib.hid hval
                  clear henv hb ht hval hx hy hold hvo hq
                  go_wp2_with (fail)
                  refine wp_region_still_tail 16 (by kernel_rfl) (by kernel_rfl) ?_
                  change wpStill _ _ wr.drew (fun a' => wpList _ _ _ _ a' wr.drew) _ _
                  simp only [List.take_succ_cons, List.take_zero, List.drop_succ_cons, List.drop_zero]
                  repeat still_step
                  refine wpStill_nil ?_
                  go_wp2
                  go_roundw
                  case rel =>
                    rw [HVAL.out]
                    refine ⟨k + 1, by omega, by go_num, (HE.out.step (grown_set wr gt (r * 4 + k) _) m4 m2 m3).drew, (HB.out.grown (grown_set wr gt (r * 4 + k) _) (fun e => m1 (Option.some.inj e))).keep rfl, ?_⟩
                    have h := HT.out.set (r * 4 + k) (.int .i64 ((at_ (rowS (subS S)) r k : Nat) : Int))
                    rw [ints_set, rows_set _ (fun r' k' => decide (r' < r) || (decide (r' = r) && decide (k' < k + 1))) _ _ r k hk (fun r' h1 k' h2 => by rw [Bool.eq_iff_iff]; simp; omega)] at h
                    exact h.keep rfl
                  case measure => simp [intOf]; omega
                · have HE := Lib.hid henv
                  have HB := Lib.hid hb
                  have ht2 : Blk wr gt 92 (ints (rows (fun r' _ => decide (r' < r + 1)) (at_ (rowS (subS S))) fromZero)) := by
                    exact ht.to (congrArg ints (rows_congr fun r' h1 k' h2 => by rw [Bool.eq_iff_iff]; simp; omega))
                  have HT := Lib.hid ht2
                  clear henv hb ht ht2
                  go_wp2
                  go_roundw
                  case rel => exact ⟨r + 1, by omega, by go_num, HE.out, HB.out, HT.out⟩
                  case measure => simp [intOf]; omega
            · obtain ⟨T, hTe⟩ : ∃ T, T = rowS (subS S) := ⟨_, rfl⟩
              have ht2 : Blk wr gt 92 (ints (cellsOf T)) := by
                rw [hTe]
                exact ht.to (congrArg ints (rows_state _ _ _ (fun r' h1 k' h2 => by simp; omega)))
              obtain ⟨N, hNe⟩ : ∃ N, N = stt (rk ws) s n := ⟨_, rfl⟩
              have hb2 : Blk wr gb 92 (ints (rows (fun _ k' => decide (k' < 0)) (at_ N) (at_ S))) := by
                simp only [Nat.not_lt_zero, decide_false]
                rw [rows_none]
                exact hb
              have hnext : ∀ r, r < 4 → ∀ k, k < 4 → at_ N r k = (if n < 14 then at_ (mixS T) r k else at_ T r k) ^^^ wb ws (4 * n + k) r := fun r hr k hk => by
                have hs := HSE.out
                by_cases h14 : n < 14
                · rw [if_pos h14, hNe, show n = (n - 1) + 1 by omega, stt_mid _ _ _ (by omega), ← hs, ← hTe, show n - 1 + 1 = n by omega]
                  exact key_at ws _ n r k hr hk (HLT.out _ _)
                · have e14 : n = 14 := by omega
                  subst e14
                  rw [if_neg h14, hNe, stt_last, show (13 : Nat) = 14 - 1 from rfl, ← hs, ← hTe]
                  exact key_at ws _ 14 r k hr hk (HLT.out _ _)
              have HE := Lib.hid henv
              have HB := Lib.hid hb2
              have HT := Lib.hid ht2
              have HNX := Lib.hid hnext
              have HNE := Lib.hid hNe
              clear henv hb ht ht2 hb2 hTe hnext hNe
              go_wp2_with (fail)
              clear hr hr4
              go_loopw [11] (fun v wx => ∃ k : Nat, k ≤ 4 ∧ v = .int .i64 (k : Int) ∧ Env W gc go [.slice (some A) 256 cA, .slice (some B) 60 cB] wx ∧ Blk wx gt 92 (ints (cellsOf T)) ∧ Blk wx gb 92 (ints (rows (fun _ k' => decide (k' < k)) (at_ N) (at_ S)))) (fun v _ => 4 - (intOf v).toNat)
              case atStart => exact ⟨0, by omega, rfl, HE.out, HT.out, HB.out⟩
              case round =>
                clear HE HB HT
                obtain ⟨k, hk4, rfl, henv, ht, hb⟩ := hrel
                by_cases hk : k < 4
                · have HE := Lib.hid henv
                  have HB := Lib.hid hb
                  have HT := Lib.hid ht
                  clear henv hb ht
                  have dK : decide ((k : Int) < 4) = true := by simp; omega
                  go_wp2_with (fail)
                  clear dK
                  go_loopw [12] (fun v wx => ∃ r : Nat, r ≤ 4 ∧ v = .int .i64 (r : Int) ∧ Env W gc go [.slice (some A) 256 cA, .slice (some B) 60 cB] wx ∧ Blk wx gt 92 (ints (cellsOf T)) ∧ Blk wx gb 92 (ints (rows (fun r' k' => decide (k' < k) || (decide (k' = k) && decide (r' < r))) (at_ N) (at_ S)))) (fun v _ => 4 - (intOf v).toNat)
                  case atStart => exact ⟨0, by omega, rfl, HE.out, HT.out, by simpa using HB.out⟩
                  case round =>
                    clear HE HB HT
                    obtain ⟨r, hr4, rfl, henv, ht, hb⟩ := hrel
                    by_cases hr : r < 4
                    · have HE := Lib.hid henv
                      have HB := Lib.hid hb
                      have HT := Lib.hid ht
                      have tc : ∀ q, q < 4 → wr.cell? ⟨gt, q * 4 + k, none⟩ = some (.int .i64 ((at_ T q k : Nat) : Int)) := fun q hq => by
                        have h := HT.out.get (q * 4 + k) _ (ints_get _ _ (by rw [cellsOf_length]; omega))
                        rw [cellsOf_get T q k hq hk] at h
                        exact h
                      have hnx := HNX.out r hr k hk
                      have g1 : (r : Int) < 4 := by omega
                      have g2 : (k : Int) < 4 := by omega
                      clear henv hb ht
                      by_cases h14 : n < 14
                      · rw [if_pos h14, mix_at T r k hr hk] at hnx
                        have dN : decide ((n : Int) < 14) = true := by simp; omega
                        obtain ⟨q1, hq1⟩ : ∃ q, q = (r + 1) % 4 := ⟨_, rfl⟩
                        obtain ⟨q2, hq2⟩ : ∃ q, q = (r + 2) % 4 := ⟨_, rfl⟩
                        obtain ⟨q3, hq3⟩ : ∃ q, q = (r + 3) % 4 := ⟨_, rfl⟩
                        rw [← hq1, ← hq2, ← hq3] at hnx
                        have a0 := tc r hr
                        have a1 := tc q1 (by omega)
                        have a2 := tc q2 (by omega)
                        have a3 := tc q3 (by omega)
                        have b0 := at_lt T r k
                        have b1 := at_lt T q1 k
                        have b2 := at_lt T q2 k
                        have b3 := at_lt T q3 k
                        have k2 : times 2 (at_ T r k) < 256 := by rw [times2 _ b0]; exact UInt8.toNat_lt _
                        have k3 : times 3 (at_ T q1 k) < 256 := by rw [times3 _ b1]; exact UInt8.toNat_lt _
                        have T2 : ∀ V, Calls Tryz.prog 58 #[.int .i64 2, .int .i64 ((at_ T r k : Nat) : Int)] V fun e w' => e = .returned (.int .i64 ((times 2 (at_ T r k) : Nat) : Int)) ∧ w' = V := fun V => times_any 2 _ (by decide) b0 V
                        have T3 : ∀ V, Calls Tryz.prog 58 #[.int .i64 3, .int .i64 ((at_ T q1 k : Nat) : Int)] V fun e w' => e = .returned (.int .i64 ((times 3 (at_ T q1 k) : Nat) : Int)) ∧ w' = V := fun V => times_any 3 _ (by decide) b1 V
                        generalize at_ T r k = x0 at a0 T2 k2 b0 hnx
                        generalize at_ T q1 k = x1 at a1 T3 k3 b1 hnx
                        generalize at_ T q2 k = x2 at a2 b2 hnx
                        generalize at_ T q3 k = x3 at a3 b3 hnx
                        generalize times 2 x0 = y0 at T2 k2 hnx
                        generalize times 3 x1 = y1 at T3 k3 hnx
                        have e1 := xor_small y0 y1 k2 k3
                        have l1 := xor_lt y0 y1 k2 k3
                        obtain ⟨y2, hy2⟩ : ∃ y, y = y0 ^^^ y1 := ⟨_, rfl⟩
                        rw [← hy2] at e1 l1 hnx
                        have e2 := xor_small y2 x2 l1 b2
                        have l2 := xor_lt y2 x2 l1 b2
                        obtain ⟨y3, hy3⟩ : ∃ y, y = y2 ^^^ x2 := ⟨_, rfl⟩
                        rw [← hy3] at e2 l2 hnx
                        have e3 := xor_small y3 x3 l2 b3
                        have hy256 := xor_lt y3 x3 l2 b3
                        obtain ⟨y, hye⟩ : ∃ y, y = y3 ^^^ x3 := ⟨_, rfl⟩
                        rw [← hye] at e3 hy256 hnx
                        have hval := hnx.symm
                        have f1 : IntKind.i64.wrap ((r : Int) + 1) = (r : Int) + 1 := by rw [IntKind.wrap_i64]; omega
                        have f2 : IntKind.i64.wrap ((r : Int) + 2) = (r : Int) + 2 := by rw [IntKind.wrap_i64]; omega
                        have f3 : IntKind.i64.wrap ((r : Int) + 3) = (r : Int) + 3 := by rw [IntKind.wrap_i64]; omega
                        have f4 : ((r : Int) + 1).tmod 4 = (q1 : Int) := by rw [Int.tmod_eq_emod_of_nonneg (by omega)]; omega
                        have f5 : ((r : Int) + 2).tmod 4 = (q2 : Int) := by rw [Int.tmod_eq_emod_of_nonneg (by omega)]; omega
                        have f6 : ((r : Int) + 3).tmod 4 = (q3 : Int) := by rw [Int.tmod_eq_emod_of_nonneg (by omega)]; omega
                        have f7 : ((r : Int) + 1) % 4 = (q1 : Int) := by omega
                        have f8 : ((r : Int) + 2) % 4 = (q2 : Int) := by omega
                        have f9 : ((r : Int) + 3) % 4 = (q3 : Int) := by omega
                        have f10 : IntKind.i64.wrap (q1 : Int) = (q1 : Int) := i64_keep q1 (by omega)
                        have f11 : IntKind.i64.wrap (q2 : Int) = (q2 : Int) := i64_keep q2 (by omega)
                        have f12 : IntKind.i64.wrap (q3 : Int) = (q3 : Int) := i64_keep q3 (by omega)
                        have f13 : (q1 : Int) < 4 := by omega
                        have f14 : (q2 : Int) < 4 := by omega
                        have f15 : (q3 : Int) < 4 := by omega
                        clear hnx tc hq1 hq2 hq3 hy2 hy3 hye HNX
                        go_wp2_with (fail)
                        refine wp_region_still_tail 31 (by kernel_rfl) (by kernel_rfl) ?_
                        change wpStill _ _ wr.drew (fun a' => wpList _ _ _ _ a' wr.drew) _ _
                        simp only [List.take_succ_cons, List.take_zero, List.drop_succ_cons, List.drop_zero]
                        repeat still_step
                        still_call (T2 _)
                        repeat still_step
                        still_call (T3 _)
                        repeat still_step
                        refine wpStill_nil ?_
                        clear T2 T3 a0 a1 a2 a3 e1 e2 e3 f1 f2 f3 f4 f5 f6 f7 f8 f9 f10 f11 f12 f13 f14 f15 dN
                        go_wp2_with (fail)
                        have HEW := HE.out.drew
                        obtain ⟨ad, c', w1, w2o, w3o, w4, w5c⟩ := (HW.out.grown HE.out.1 (fun b hb => ⟨hb, by simp⟩)) (4 * n + k) (by rw [HL.out]; omega)
                        have d2 : wr.drew.cell? ⟨gc, 1, none⟩ = _ := HE.out.2.1.get 1 _ rfl
                        have d3 : wr.drew.cell? (B.add (4 * n + k)) = _ := w1
                        have d4 : wr.drew.cell? (ad.add r) = _ := w5c r hr
                        have hold : (ints (rows (fun r' k' => decide (k' < k) || (decide (k' = k) && decide (r' < r))) (at_ N) (at_ S)))[r * 4 + k]? ≠ none := by
                          rw [ints_get _ _ (by rw [rows_length]; omega)]; simp
                        obtain ⟨vo, hvo⟩ := Option.ne_none_iff_exists'.1 hold
                        have d5 : wr.drew.cell? ⟨gb, r * 4 + k, none⟩ = _ := HB.out.get (r * 4 + k) _ hvo
                        have d6 : wr.drew.frozen? ⟨gb, r * 4 + k, none⟩ = false := HB.out.frozen (r * 4 + k)
                        have hz256 : wb ws (4 * n + k) r < 256 := HLT.out _ _
                        obtain ⟨z, hz⟩ : ∃ z, z = wb ws (4 * n + k) r := ⟨_, rfl⟩
                        rw [← hz] at d4 hz256 hval
                        have hxz := xor_small y z hy256 hz256
                        have s1 : IntKind.i64.wrap (4 * (n : Int)) = 4 * (n : Int) := by rw [IntKind.wrap_i64]; omega
                        have s2 : IntKind.i64.wrap (4 * (n : Int) + (k : Int)) = 4 * (n : Int) + (k : Int) := by rw [IntKind.wrap_i64]; omega
                        have s3 : (4 * (n : Int) + (k : Int)).toNat = 4 * n + k := by omega
                        have s4 : (0 : Int) ≤ 4 * (n : Int) + (k : Int) := by omega
                        have s5 : 4 * (n : Int) + (k : Int) < 60 := by omega
                        have HVAL := Lib.hid hval
                        clear hvo hold hz hval w1 w2o w3o w4 w5c
                        refine wp_region_still_tail 17 (by kernel_rfl) (by kernel_rfl) ?_
                        change wpStill _ _ wr.drew.drew (fun a' => wpList _ _ _ _ a' wr.drew.drew) _ _
                        simp only [List.take_succ_cons, List.take_zero, List.drop_succ_cons, List.drop_zero]
                        repeat still_step
                        refine wpStill_nil ?_
                        go_wp2
                        go_roundw
                        case rel =>
                          rw [HVAL.out]
                          have hEW : Env W gc go [.slice (some A) 256 cA, .slice (some B) 60 cB] wr.drew := HEW
                          have hTW : Blk wr.drew gt 92 (ints (cellsOf T)) := HT.out.keep rfl
                          have hBW : Blk wr.drew gb 92 (ints (rows (fun r' k' => decide (k' < k) || (decide (k' = k) && decide (r' < r))) (at_ N) (at_ S))) := HB.out.keep rfl
                          refine ⟨r + 1, by omega, by go_num, (hEW.step (grown_set wr.drew gb (r * 4 + k) _) hwb n1 n3).drew, (hTW.grown (grown_set wr.drew gb (r * 4 + k) _) (fun e => m1 (Option.some.inj e).symm)).keep rfl, ?_⟩
                          have h := hBW.set (r * 4 + k) (.int .i64 ((at_ N r k : Nat) : Int))
                          rw [ints_set, rows_set _ (fun r' k' => decide (k' < k) || (decide (k' = k) && decide (r' < r + 1))) _ _ r k hk (fun r' h1 k' h2 => by rw [Bool.eq_iff_iff]; simp; omega)] at h
                          exact h.keep rfl
                        case measure => simp [intOf]; omega
                      · rw [if_neg h14] at hnx
                        have dN : decide ((n : Int) < 14) = false := by simp; omega
                        have a0 := tc r hr
                        have hy256 := at_lt T r k
                        obtain ⟨y, hye⟩ : ∃ y, y = at_ T r k := ⟨_, rfl⟩
                        rw [← hye] at a0 hy256 hnx
                        have hval := hnx.symm
                        clear hnx tc hye HNX
                        go_wp2_with (fail)
                        clear dN a0
                        have HEW := HE.out
                        obtain ⟨ad, c', w1, w2o, w3o, w4, w5c⟩ := (HW.out.grown HE.out.1 (fun b hb => ⟨hb, by simp⟩)) (4 * n + k) (by rw [HL.out]; omega)
                        have d2 : wr.cell? ⟨gc, 1, none⟩ = _ := HE.out.2.1.get 1 _ rfl
                        have d3 : wr.cell? (B.add (4 * n + k)) = _ := w1
                        have d4 : wr.cell? (ad.add r) = _ := w5c r hr
                        have hold : (ints (rows (fun r' k' => decide (k' < k) || (decide (k' = k) && decide (r' < r))) (at_ N) (at_ S)))[r * 4 + k]? ≠ none := by
                          rw [ints_get _ _ (by rw [rows_length]; omega)]; simp
                        obtain ⟨vo, hvo⟩ := Option.ne_none_iff_exists'.1 hold
                        have d5 : wr.cell? ⟨gb, r * 4 + k, none⟩ = _ := HB.out.get (r * 4 + k) _ hvo
                        have d6 : wr.frozen? ⟨gb, r * 4 + k, none⟩ = false := HB.out.frozen (r * 4 + k)
                        have hz256 : wb ws (4 * n + k) r < 256 := HLT.out _ _
                        obtain ⟨z, hz⟩ : ∃ z, z = wb ws (4 * n + k) r := ⟨_, rfl⟩
                        rw [← hz] at d4 hz256 hval
                        have hxz := xor_small y z hy256 hz256
                        have s1 : IntKind.i64.wrap (4 * (n : Int)) = 4 * (n : Int) := by rw [IntKind.wrap_i64]; omega
                        have s2 : IntKind.i64.wrap (4 * (n : Int) + (k : Int)) = 4 * (n : Int) + (k : Int) := by rw [IntKind.wrap_i64]; omega
                        have s3 : (4 * (n : Int) + (k : Int)).toNat = 4 * n + k := by omega
                        have s4 : (0 : Int) ≤ 4 * (n : Int) + (k : Int) := by omega
                        have s5 : 4 * (n : Int) + (k : Int) < 60 := by omega
                        have HVAL := Lib.hid hval
                        clear hvo hold hz hval w1 w2o w3o w4 w5c
                        refine wp_region_still_tail 17 (by kernel_rfl) (by kernel_rfl) ?_
                        change wpStill _ _ wr.drew (fun a' => wpList _ _ _ _ a' wr.drew) _ _
                        simp only [List.take_succ_cons, List.take_zero, List.drop_succ_cons, List.drop_zero]
                        repeat still_step
                        refine wpStill_nil ?_
                        go_wp2
                        go_roundw
                        case rel =>
                          rw [HVAL.out]
                          have hEW : Env W gc go [.slice (some A) 256 cA, .slice (some B) 60 cB] wr := HEW
                          have hTW : Blk wr gt 92 (ints (cellsOf T)) := HT.out.keep rfl
                          have hBW : Blk wr gb 92 (ints (rows (fun r' k' => decide (k' < k) || (decide (k' = k) && decide (r' < r))) (at_ N) (at_ S))) := HB.out.keep rfl
                          refine ⟨r + 1, by omega, by go_num, (hEW.step (grown_set wr gb (r * 4 + k) _) hwb n1 n3).drew, (hTW.grown (grown_set wr gb (r * 4 + k) _) (fun e => m1 (Option.some.inj e).symm)).keep rfl, ?_⟩
                          have h := hBW.set (r * 4 + k) (.int .i64 ((at_ N r k : Nat) : Int))
                          rw [ints_set, rows_set _ (fun r' k' => decide (k' < k) || (decide (k' = k) && decide (r' < r + 1))) _ _ r k hk (fun r' h1 k' h2 => by rw [Bool.eq_iff_iff]; simp; omega)] at h
                          exact h.keep rfl
                        case measure => simp [intOf]; omega
                    · have HE := Lib.hid henv
                      have HT := Lib.hid ht
                      have hb2 : Blk wr gb 92 (ints (rows (fun _ k' => decide (k' < k + 1)) (at_ N) (at_ S))) := hb.to (congrArg ints (rows_congr fun r' h1 k' h2 => by rw [Bool.eq_iff_iff]; simp; omega))
                      have HB := Lib.hid hb2
                      clear henv hb ht hb2
                      go_wp2
                      go_roundw
                      case rel => exact ⟨k + 1, by omega, by go_num, HE.out, HT.out, HB.out⟩
                      case measure => simp [intOf]; omega
                · have hb2 : Blk wr gb 92 (ints (cellsOf N)) := hb.to (congrArg ints (rows_state _ _ _ (fun r' h1 k' h2 => by simp; omega)))
                  have HE := Lib.hid henv
                  have HB := Lib.hid hb2
                  clear henv hb ht hb2
                  go_wp2
                  go_roundw
                  case rel => exact ⟨n + 1, by omega, by omega, by go_num, HE.out, by rw [Nat.add_sub_cancel, ← HNE.out]; exact HB.out⟩
                  case measure => simp [intOf]; omega
        · have hn15e : n = 15 := by omega
          subst hn15e
          obtain ⟨L, hL⟩ : ∃ L, L = lockS (rk ws) s := ⟨_, rfl⟩
          have hbf : Blk wr gb 92 (ints (cellsOf (lockS (rk ws) s))) := hb
          have hbl := hb.lt
          rw [← hL] at hbf
          have HLE := Lib.hid hL
          have HENV := Lib.hid henv
          have HB := Lib.hid hbf
          clear henv hb hbf hn hn1 hn15 hL
          go_wp2_with (refine wpList_alloc23 rfl rfl ?_)
          intro w6 hb6 hg6 hz6
          obtain ⟨gx, hgx⟩ : ∃ g, g = wr.heap.size := ⟨_, rfl⟩
          rw [← hgx] at hb6 ⊢
          have m1 : gb ≠ gx := by omega
          have m2 : go ≠ gx := by have := (HENV.out.2.2).lt; omega
          have hg1 := HGC.out
          have m5 : gc ≠ gx := by omega
          have m3 : W.heap.size ≤ gx := by omega
          have HENV6 := Lib.hid (HENV.out.new hg6)
          have HB6 := Lib.hid (HB.out.grown hg6 (by simp))
          have HX6 : Hid (Blk w6 gx 48 (bytesOf (upto L 0))) := by rw [upto_zero]; exact hb6
          clear hb6 hg6 hz6 hgx HENV HB hg1 hbl
          go_wp2_with (fail)
          go_loopw [15] (fun v wx => ∃ i : Nat, i ≤ 16 ∧ v = .int .i64 (i : Int) ∧ Env W gc go [.slice (some A) 256 cA, .slice (some B) 60 cB] wx ∧ Blk wx gb 92 (ints (cellsOf L)) ∧ Blk wx gx 48 (bytesOf (upto L i))) (fun v _ => 16 - (intOf v).toNat)
          case atStart => exact ⟨0, by omega, rfl, HENV6.out, HB6.out, HX6.out⟩
          case round =>
            clear HENV6 HB6 HX6
            obtain ⟨i, hi, rfl, henv, hb, hx⟩ := hrel
            by_cases hlt : i < 16
            · obtain ⟨r, hr⟩ : ∃ r, r = i % 4 := ⟨_, rfl⟩
              obtain ⟨k, hk⟩ : ∃ k, k = i / 4 := ⟨_, rfl⟩
              have hr4 : r < 4 := by omega
              have hk4 : k < 4 := by omega
              have c1 := hb.get (r * 4 + k) _ (ints_get _ _ (by rw [cellsOf_length]; omega))
              rw [cellsOf_get L r k hr4 hk4] at c1
              have c2 := hx.get i _ (bytesOf_get (upto L i) i hlt)
              have hf := hx.frozen i
              have ho := out_at L ⟨i, hlt⟩
              simp only [← hr, ← hk] at ho
              have hx256 := at_lt L r k
              obtain ⟨x, hxe⟩ : ∃ x, x = at_ L r k := ⟨_, rfl⟩
              rw [← hxe] at c1 hx256 ho
              have hval : x = (L ⟨i, hlt⟩).toNat := by rw [← ho]; simp; omega
              have t1 : (i : Int).tmod 4 = (r : Int) := by rw [Int.tmod_eq_emod_of_nonneg (by omega)]; omega
              have t2 : (i : Int).tdiv 4 = (k : Int) := by rw [Int.tdiv_eq_ediv_of_nonneg (by omega)]; omega
              have t3 : (i : Int) % 4 = (r : Int) := by omega
              have t4 : (i : Int) / 4 = (k : Int) := by omega
              have t5 : IntKind.i64.wrap (r : Int) = (r : Int) := i64_keep r (by omega)
              have t6 : IntKind.i64.wrap (k : Int) = (k : Int) := i64_keep k (by omega)
              have t7 : (r : Int) < 4 := by omega
              have t8 : (k : Int) < 4 := by omega
              have t9 : IntKind.u8.wrap (x : Int) = (x : Int) := by rw [IntKind.wrap_u8]; omega
              have HE := Lib.hid henv
              have HB := Lib.hid hb
              have HX := Lib.hid hx
              have HVAL := Lib.hid hval
              clear henv hb hx hval ho hxe hr hk
              go_wp2
              go_roundw
              case rel =>
                rw [HVAL.out]
                refine ⟨i + 1, by omega, by go_num, HE.out.step (grown_set wr gx i _) m3 m5 m2, HB.out.grown (grown_set wr gx i _) (fun e => m1 (Option.some.inj e)), ?_⟩
                have h := HX.out.set i (.int .u8 ((L ⟨i, hlt⟩).toNat : Int))
                rw [bytesOf_upto L i hlt] at h
                exact h
              case measure => simp [intOf]; omega
            · have e16 : i = 16 := by omega
              subst e16
              rw [upto_all] at hx
              have HE := Lib.hid henv
              have HX := Lib.hid hx
              have HR := Lib.hid (bytesOf_range hx)
              clear henv hb hx hlt hi
              go_wp2_with (first | (refine wpList_load_mid rfl 48 _ rfl gx 0 rfl (bytesOf L) _ HR.out Tryz.underlying48 rfl (by rw [size23, bytesOf_length]) ?_) | (refine wpList_store_row rfl 48 _ _ rfl go (bytesOf L).toArray rfl rfl 48 _ HE.out.2.2 ?_ ?_ ?_ ?_))
              · rw [size23, List.size_toArray, bytesOf_length]
              · exact (bytesOf_length (fun _ => 0)).trans (bytesOf_length L).symm
              · exact all_oneCell_toArray (bytesOf_one _)
              · exact bodyPost_ret (results_cell_row rfl _ _ go 48 (bytesOf L).toArray (0, 0) _ rfl (setRow_heap wr go _ _ 48 (0, 0) HE.out.2.2) Tryz.underlying48 rfl (by rw [size23, List.size_toArray, bytesOf_length])) rfl ⟨by rw [← HLE.out], World.grownBy.andThen HE.out.1 (grown_setRow _ _ _) (by rintro _ ⟨⟩; exact .inl hwo)⟩
end Go.Proofs.YtkbffponemihoaaGreatDoor.C
