/- Two blocks of 16 bytes are compared; the reference's Lock, named. Conditions: none. How arguments that are arrays of bytes lie in memory. Conditions: none. The reference's CBC. Conditions: the text has no more than a million bytes. What is asked of the code's Lock, Unlock and Size; texts of bytes compared. Conditions: none. The code's Size; bytes.Repeat of one byte, from 1 to 16 times; a text filled up. Conditions: none but these; the text has no more than a million bytes. The code's xor of two blocks. Conditions: none. What the code makes ahead of its loops; a block of 16 bytes in the middle of a slice. Conditions: none. -/
import Derived.Test.YtkbffponemihoaaDoorCh
import Derived.Deep.RegionHeld3
import Derived.Stop.BytesEq
import Derived.Carry
import Derived.ProofKit
import Derived.LaidMore
import Derived.OpenShut
import Derived.Deep.Slices
import Derived.Test.YtkbffponemihoaaDoorCc
import Derived.Test.YtkbffponemihoaaDoorCb
import Derived.Lib.MakeNoZero
import Derived.Deep.RegionLaw
import Derived.Deep.RegionWith
import Derived.ArgAppend
namespace Go.Proofs.YtkbffponemihoaaDoor.C
open Go.RowKit
open Go.RowKit Go.ChangeShapes Go.WideShapes Go.ChangeAt
open Go.RowKit
theorem fn_u8s (f : Fin 16 → UInt8) : (List.finRange 16).map (fun i => Value.int .u8 ((f i).toNat : Int)) = u8s ((List.finRange 16).map f) := by
  unfold u8s
  rw [List.map_map]
  rfl
theorem bytesOf_bl (s : State) : bytesOf s = u8s (bl s) := fn_u8s s
theorem byt_blk {w : World} {g : Nat} {ty : TypeId} {xs : List UInt8} (h : Blk w g ty (u8s xs)) : Byt w (fun b => b = g) (some ⟨g, 0, none⟩) xs := Blk.byt (pre := []) (post := []) (h.to (by simp)) rfl
theorem byt_st {w : World} {ok : Nat → Prop} {ad : Addr} {l : List UInt8} (h : Byt w ok (some ad) l) (m i : Nat) (hi : i < 16) (hl : 16 * m + i < l.length) : w.cell? (ad.add (16 * m + i)) = some (.int .u8 ((st l m ⟨i, hi⟩).toNat : Int)) := by
  obtain ⟨ad', e, _, hc⟩ := h (16 * m + i) hl
  cases e
  rw [hc]
  unfold st
  rw [List.getD_eq_getElem?_getD, List.getElem?_eq_getElem hl]
  rfl
open Go.RowKit
/-- The code's Lock: a text of no more than a million bytes. -/
def LockSays : Prop := ∀ (w : World) (ok : Nat → Prop) (A : Option Addr) (text : List UInt8) (n c : Nat), Byt w ok A text → (∀ b, ok b → b < w.heap.size) → text.length = n → n ≤ c → c ≤ maxLen → n ≤ 1000000 → ∀ (k : Fin 32 → UInt8) (v : State),
  Calls Tryd.prog 43 #[.agg (u8s (k32 k)).toArray, .agg (bytesOf v).toArray, .slice A n c] w fun e w' => ∃ A' c', e = .returned (.slice A' (lockB (kn (k32 k)) v text).length c') ∧ (lockB (kn (k32 k)) v text).length ≤ c' ∧ c' ≤ maxLen ∧ Byt w' (fun b => w.heap.size ≤ b ∧ b < w'.heap.size) A' (lockB (kn (k32 k)) v text) ∧ w.grownBy w' none
/-- The code's Unlock: bytes, no more than a million and 16 of them. -/
def UnlockSays : Prop := ∀ (w : World) (ok : Nat → Prop) (A : Option Addr) (b : List UInt8) (n c : Nat), Byt w ok A b → (∀ g, ok g → g < w.heap.size) → b.length = n → n ≤ c → c ≤ maxLen → n ≤ 1000016 → ∀ (k : Fin 32 → UInt8) (v : State),
  Calls Tryd.prog 47 #[.agg (u8s (k32 k)).toArray, .agg (bytesOf v).toArray, .slice A n c] w fun e w' => w.grownBy w' none ∧
    ((∃ s A' c', unlockB (kn (k32 k)) v b = some s ∧ e = .returned (.tuple #[.slice A' s.length c', .bool true]) ∧ s.length ≤ c' ∧ c' ≤ maxLen ∧ Byt w' (fun g => g < w'.heap.size) A' s) ∨
     (∃ A' c', unlockB (kn (k32 k)) v b = none ∧ e = .returned (.tuple #[.slice A' 0 c', .bool false])))
theorem UnlockSays.yes (h : UnlockSays) {w : World} {ok : Nat → Prop} {A : Option Addr} {b s : List UInt8} {n c : Nat} (hx : Byt w ok A b) (hok : ∀ g, ok g → g < w.heap.size) (hn : b.length = n) (hc : n ≤ c) (hm : c ≤ maxLen) (hs : n ≤ 1000016) (k : Fin 32 → UInt8) (v : State) (hu : unlockB (kn (k32 k)) v b = some s) :
    Calls Tryd.prog 47 #[.agg (u8s (k32 k)).toArray, .agg (bytesOf v).toArray, .slice A n c] w fun e w' => ∃ A' c', e = .returned (.tuple #[.slice A' s.length c', .bool true]) ∧ s.length ≤ c' ∧ c' ≤ maxLen ∧ Byt w' (fun g => g < w'.heap.size) A' s ∧ w.grownBy w' none :=
  (h w ok A b n c hx hok hn hc hm hs k v).mono fun e w' ⟨hg, h1⟩ => by
    rcases h1 with ⟨s', A', c', e1, e2, e3, e4, e5⟩ | ⟨A', c', e1, _⟩
    · rw [hu] at e1
      obtain rfl := Option.some.inj e1
      exact ⟨A', c', e2, e3, e4, e5, hg⟩
    · rw [hu] at e1
      cases e1
theorem UnlockSays.no (h : UnlockSays) {w : World} {ok : Nat → Prop} {A : Option Addr} {b : List UInt8} {n c : Nat} (hx : Byt w ok A b) (hok : ∀ g, ok g → g < w.heap.size) (hn : b.length = n) (hc : n ≤ c) (hm : c ≤ maxLen) (hs : n ≤ 1000016) (k : Fin 32 → UInt8) (v : State) (hu : unlockB (kn (k32 k)) v b = none) :
    Calls Tryd.prog 47 #[.agg (u8s (k32 k)).toArray, .agg (bytesOf v).toArray, .slice A n c] w fun e w' => ∃ A' c', e = .returned (.tuple #[.slice A' 0 c', .bool false]) ∧ w.grownBy w' none :=
  (h w ok A b n c hx hok hn hc hm hs k v).mono fun e w' ⟨hg, h1⟩ => by
    rcases h1 with ⟨s', A', c', e1, _⟩ | ⟨A', c', _, e2⟩
    · rw [hu] at e1
      cases e1
    · exact ⟨A', c', e2, hg⟩
theorem bool_end {a b : Bool} (h : a = b) : Ending.returned (.bool a) = .returned (.bool b) := by rw [h]
theorem bytes_any {w : World} {ok ok' : Nat → Prop} {A B : Option Addr} {xs ys : List UInt8} {c d : Nat} (ha : Byt w ok A xs) (hb : Byt w ok' B ys) :
    Calls Tryd.prog 14 #[.slice A xs.length c, .slice B ys.length d] w fun e w' => e = .returned (.bool (decide (xs = ys))) ∧ w = w' := by
  have r1 := ha.str c
  have r2 := hb.str d
  go_enter Tryd.func14, Tryd.ntmps14
  go_wp2
  go_ret
  exact ⟨bool_end (by rw [Bool.eq_iff_iff]; simp), rfl⟩
theorem bytes_n {w : World} {ok ok' : Nat → Prop} {A B : Option Addr} {xs ys : List UInt8} {c d n m : Nat} (ha : Byt w ok A xs) (hb : Byt w ok' B ys) (hn : xs.length = n) (hm : ys.length = m) :
    Calls Tryd.prog 14 #[.slice A n c, .slice B m d] w fun e w' => e = .returned (.bool (decide (xs = ys))) ∧ w = w' := by
  subst hn hm; exact bytes_any ha hb
open Go.RowKit
theorem filling_any (z : Int) (h0 : 0 ≤ z) (w : World) : Calls Tryd.prog 51 #[.int .i64 z] w fun e w' => e = .returned (.int .i64 (16 - z % 16)) ∧ w' = w := by
  have d1 : z.tmod 16 = z % 16 := Int.tmod_eq_emod_of_nonneg h0
  have d2 : IntKind.i64.wrap (16 - z % 16) = 16 - z % 16 := by rw [IntKind.wrap_i64]; omega
  have d3 : IntKind.i64.wrap (z % 16) = z % 16 := by rw [IntKind.wrap_i64]; omega
  go_enter Tryd.func51, Tryd.ntmps51
  go_wp2
  go_ret
  exact ⟨rfl, rfl⟩
theorem size_any (w : World) (n : Int) : Calls Tryd.prog 32 #[.int .i64 n] w fun e w' => e = .returned (.int .i64 (if n < 0 ∨ 1099511627776 < n then 0 else n - n % 16 + 16)) ∧ w.grownBy w' none := by
  by_cases h0 : n < 0
  · rw [if_pos (.inl h0)]
    go_enter Tryd.func32, Tryd.ntmps32
    go_wp2
    go_ret
    exact ⟨rfl, World.grownBy.refl _ _⟩
  · by_cases h1 : 1099511627776 < n
    · rw [if_pos (.inr h1)]
      go_enter Tryd.func32, Tryd.ntmps32
      go_wp2
      go_ret
      exact ⟨rfl, World.grownBy.refl _ _⟩
    · rw [if_neg (by omega)]
      have d2 : IntKind.i64.wrap (n + (16 - n % 16)) = n - n % 16 + 16 := by rw [IntKind.wrap_i64]; omega
      go_enter Tryd.func32, Tryd.ntmps32
      go_wp2_with (go_at_call 51; refine (filling_any n (by omega) w).mono ?_; rintro _ w' ⟨rfl, rfl⟩)
      go_ret
      exact ⟨rfl, World.grownBy.refl _ _⟩
theorem digits_u8s : ∀ (n t : Nat) (acc : Array Value), ∃ ys : List UInt8, ys.length = n ∧ Extern.BytealgMakeNoZero.digits n t acc = (acc.toList ++ u8s ys).toArray
  | 0, _, acc => ⟨[], rfl, by simp [Extern.BytealgMakeNoZero.digits, u8s]⟩
  | n + 1, t, acc => by
    obtain ⟨ys, hl, h⟩ := digits_u8s n (t / 256) (acc.push (.int .u8 (Int.ofNat (t % 256))))
    refine ⟨UInt8.ofNat (t % 256) :: ys, by rw [List.length_cons, hl], ?_⟩
    rw [Extern.BytealgMakeNoZero.digits, h]
    simp [u8s]
theorem run_made (w : World) (n : Nat) (hn : n ≤ 1000000) : ∃ ys : List UInt8, n ≤ ys.length ∧ (callFunc 92 #[.int .i64 (n : Int)]).run Tryd.prog w = .ok (.value (.slice (some ⟨w.heap.size, 0, none⟩) n ys.length)) ((w.alloc (.cells (u8s ys).toArray 5)).drewN 2) := by
  obtain ⟨ys, hl, h⟩ := digits_u8s (grownCap w n 0 5) ((Question.extern "internal/bytealg.MakeNoZero.bytes" 0).cut (w.tape (w.drawn + 1) (.extern "internal/bytealg.MakeNoZero.bytes" 0))) #[]
  refine ⟨ys, by rw [hl]; simpa using grownCap_ge w n 0 5, ?_⟩
  rw [run_callFunc_extern (P := Tryd.prog) Tryd.func92 (by kernel_rfl) (by kernel_rfl) (by kernel_rfl) (e := Extern.BytealgMakeNoZero.makeNoZero #[3] #[40]) (by kernel_rfl)]
  have hdef : Extern.BytealgMakeNoZero.makeNoZero #[3] #[40] #[.int .i64 n] =
      (do
        let .slice elem ← underlying 40 | stuck "bytealg.MakeNoZero: slice type expected"
        if (n : Int) < 0 || (n : Int) > 2 ^ 48 then runtimePanic (.error "makeslice: len out of range")
        let cap ← choose (.appendCap (n : Int).toNat 0 elem)
        askRoom cap
        let bytes ← choose (.extern "internal/bytealg.MakeNoZero.bytes" 0)
        let a ← newRow elem (Extern.BytealgMakeNoZero.digits cap bytes #[])
        pure (.slice (some a) (n : Int).toNat cap)) := rfl
  have h1 : ¬ (n : Int) < 0 := by omega
  have h2 : ¬ (281474976710656 : Int) < (n : Int) := by omega
  rw [hdef]
  simp [run_underlying Tryd.underlying40, h1, h2, Question.forced, newRow]
  rw [show grownCap w n 0 5 = (Question.appendCap n 0 5).cut (w.tape w.drawn (Question.appendCap n 0 5)) from rfl] at h hl
  exact ⟨hl.symm, by rw [h]; rfl⟩
theorem mul_any (n : Nat) (hn : n ≤ 1000000) (w : World) : Calls Tryd.prog 91 #[.int .u64 1, .int .u64 (n : Int)] w fun e w' => e = .returned (.tuple #[.int .u64 0, .int .u64 (n : Int)]) ∧ w' = w := by
  have d1 : bits .and .u64 (n : Int) 4294967295 = (n : Int) := by
    have h := bits_and_u64_nat n 4294967295 (by omega) (by omega)
    rw [show n &&& 4294967295 = n % 4294967296 from Nat.and_two_pow_sub_one_eq_mod n 32, Nat.mod_eq_of_lt (by omega)] at h
    exact h
  have d2 : bits .and .u64 1 4294967295 = 1 := by decide +kernel
  have d3 : (n : Int) / 4294967296 = 0 := by omega
  have d4 : IntKind.u64.wrap (n : Int) = (n : Int) := by rw [IntKind.wrap_u64]; omega
  have d5 : bits .and .u64 0 4294967295 = 0 := by decide +kernel
  have h41 : Calls Tryd.prog 100 #[.int .u64 1, .int .u64 (n : Int)] w fun e w' => e = .returned (.tuple #[.int .u64 0, .int .u64 (n : Int)]) ∧ w' = w := by
    go_enter Tryd.func100, Tryd.ntmps100
    go_wp2
    go_ret2
    exact ⟨rfl, rfl⟩
  go_enter Tryd.func91, Tryd.ntmps91
  go_wp2_with (go_at_call 100; refine h41.mono ?_; rintro _ w' ⟨rfl, rfl⟩)
  go_ret2
  exact ⟨rfl, rfl⟩
set_option maxRecDepth 100000 in
/-- Copying as one step of a region that draws its order. -/
theorem step_copy_blk {w : World} {ops : Array Oper} {o : Oper} {a : Act} {K : Act → World → Prop} {Q : Exit → Act → World → Prop} {E : Prop} (hgd : o.guard = none) (d s : Operand) (ho : o.op = .call { callee := .builtin .copy, args := #[d, s], argTypes := #[40, 40] })
    (g off dLen dCap sLen sCap : Nat) (A : Option Addr) (xs ys : List UInt8) (hd : a.eval d = .slice (some ⟨g, off, none⟩) dLen dCap) (hs : a.eval s = .slice A sLen sCap) (hxl : xs.length = sLen) (hyl : ys.length = dLen) (h0 : 0 < Nat.min xs.length ys.length)
    (ty : TypeId) (pre post : List Value) (hb : Blk w g ty (pre ++ u8s ys ++ post)) (hp : pre.length = off) (ok : Nat → Prop) (hx : Byt w ok A xs) (m : Nat) (hm : Nat.min xs.length ys.length = m)
    (h : ∀ w', Blk w' g ty (pre ++ u8s (lay xs ys) ++ post) → w.grownBy w' (some g) → w'.heap.size = w.heap.size → K (a.put o.dst (goInt (m : Int))) w') :
    if Region.wanted o (yielded ops a.tmps) = true then Oper.wp Tryd.prog o a w K Q else E := by
  subst hm hxl hyl hp
  have hw : Region.wanted o (yielded ops a.tmps) = true := by simp [Region.wanted, hgd]
  rw [if_pos hw]
  have hcs : (u8s (xs.take ys.length)).length = Nat.min xs.length ys.length := by rw [u8s_length, List.length_take, Nat.min_comm]
  obtain ⟨ad, rfl, _, hcell⟩ := hx.some_ (by have : Nat.min xs.length ys.length ≤ xs.length := Nat.min_le_left _ _; omega)
  have hrun := run_copy_row (P := Tryd.prog) w 40 40 o.type 5 g pre.length ys.length dCap ad xs.length sCap _ ty (u8s (xs.take ys.length)) Tryd.underlying40 (by kernel_rfl) hb hcs ?_ ?_ (u8s_one _)
  · unfold Oper.wp
    have e : ((pre ++ u8s ys ++ post).take pre.length ++ u8s (xs.take ys.length) ++ (pre ++ u8s ys ++ post).drop (pre.length + Nat.min xs.length ys.length)) = pre ++ u8s (lay xs ys) ++ post := by
      rw [List.append_assoc pre, List.take_left', List.drop_append, List.drop_eq_nil_of_le (by omega), Nat.add_sub_cancel_left, List.nil_append, List.drop_append_of_le_length (by rw [u8s_length]; exact Nat.min_le_right _ _)]
      · rw [lay, u8s_append]
        have e2 : List.drop (Nat.min xs.length ys.length) (u8s ys) = u8s (ys.drop xs.length) := by
          unfold u8s
          rw [← List.map_drop]
          congr 1
          rcases Nat.le_total xs.length ys.length with hle | hle
          · rw [show Nat.min xs.length ys.length = xs.length from Nat.min_eq_left hle]
          · rw [show Nat.min xs.length ys.length = ys.length from Nat.min_eq_right hle, List.drop_eq_nil_of_le (Nat.le_refl _), List.drop_eq_nil_of_le hle]
        rw [e2]
        simp only [List.append_assoc]
      · rfl
    rw [hcs] at hrun
    simp only [] at hrun
    rw [e] at hrun
    simp only [execOp, ho, resolve, invoke, builtin, Sem.run_bind, Sem.run_pure, Result.andThen_ok, List.map_toArray, List.map_cons, List.map_nil, hd, hs, hrun]
    exact h _ (Blk.setRow hb) (grown_setRow _ _ _) (by simp [World.setRow])
  · intro j v hv
    obtain ⟨hj, rfl⟩ := u8s_get _ j v hv
    rw [List.length_take] at hj
    rw [hcell j (by omega)]
    simp
  · rw [hcs]
    have : Nat.min xs.length ys.length ≤ ys.length := Nat.min_le_right _ _
    simp only [List.size_toArray, List.length_append, u8s_length]
    omega
theorem grown_drewN' {w wr : World} {row : Option Nat} (n : Nat) (h : w.grownBy wr row) : w.grownBy (wr.drewN n) row := ⟨h.os, h.tape, h.output, h.size, h.block⟩
theorem lay_rep (x : UInt8) (i : Nat) (l : List UInt8) : List.replicate i x ++ lay (List.replicate i x) l = List.replicate (i + Nat.min i l.length) x ++ l.drop i := by
  unfold lay
  rw [List.take_replicate, List.length_replicate, ← List.append_assoc, List.replicate_append_replicate, Nat.min_comm]
theorem grown_drew1 {w wr : World} {row : Option Nat} (h : w.grownBy wr row) : w.grownBy wr.drew row := ⟨h.os, h.tape, h.output, h.size, h.block⟩
theorem rep_cells {x : UInt8} {l : List UInt8} {n i m : Nat} {vs : List Value} (h : l.length = n - i) (hm : m = Nat.min i (n - i)) : u8s (List.replicate i x) ++ u8s (lay (List.replicate i x) l) ++ vs = u8s (List.replicate (i + m) x ++ l.drop i) ++ vs := by
  rw [← u8s_append (List.replicate i x) (lay (List.replicate i x) l), lay_rep, h, ← hm]
theorem drop_left_len {l : List UInt8} {n i m : Nat} (h : l.length = n - i) (hm : m = Nat.min i (n - i)) : (l.drop i).length = n - (i + m) := by
  rw [List.length_drop, h]
  rcases (show i ≤ n - i ∨ n - i ≤ i by omega) with h3 | h3
  · have e : Nat.min i (n - i) = i := Nat.min_eq_left h3
    omega
  · have e : Nat.min i (n - i) = n - i := Nat.min_eq_right h3
    omega
set_option maxRecDepth 100000 in
set_option maxHeartbeats 1600000 in
theorem repeat_any {w : World} {ok : Nat → Prop} {ad : Addr} {x : UInt8} (hx : Byt w ok (some ad) [x]) (hok : ∀ b, ok b → b < w.heap.size) (c n : Nat) (h1 : 1 ≤ n) (h16 : n ≤ 16) :
    Calls Tryd.prog 76 #[.slice (some ad) 1 c, .int .i64 (n : Int)] w fun e w' => ∃ g, e = .returned (.slice (some ⟨g, 0, none⟩) n n) ∧ Byt w' (fun b => b = g) (some ⟨g, 0, none⟩) (List.replicate n x) ∧ w.heap.size ≤ g ∧ g < w'.heap.size ∧ w.grownBy w' none := by
  obtain ⟨ys, hys, hmade⟩ := run_made w n (by omega)
  have HX := Lib.hid hx
  have hle : (n : Int) ≤ (ys.length : Int) := by omega
  obtain ⟨w1, hw1⟩ : ∃ w1, w1 = (w.alloc (.cells (u8s ys).toArray 5)).drewN 2 := ⟨_, rfl⟩
  rw [← hw1] at hmade
  obtain ⟨g, hg⟩ : ∃ g, g = w.heap.size := ⟨_, rfl⟩
  have hb1 : Blk w1 g 5 (u8s ys) := by rw [hw1, hg]; exact (Blk.of_alloc w _ 5).keep rfl
  have hg1 : w.grownBy w1 none := by rw [hw1]; exact grown_drewN' 2 (World.grownBy_alloc w _ none)
  rw [← hg] at hmade
  have hgw : w.heap.size ≤ g := by omega
  have HB1 := Lib.hid hb1
  have HG1 := Lib.hid hg1
  have HX1 : Hid (Byt w1 ok (some ad) [x]) := Lib.hid (hx.grown hg1 (fun b hb => ⟨hok b hb, by simp⟩))
  have HGW := Lib.hid hgw
  have HYS := Lib.hid hys
  clear hx hw1 hb1 hg1 hgw hg hys
  have d1 : IntKind.u64.wrap (n : Int) = (n : Int) := by rw [IntKind.wrap_u64]; omega
  have d2 : ¬ (9223372036854775807 < (n : Int)) := by omega
  have d3 := i64_keep n (by omega)
  have d4 : ¬ (8192 < (n : Int)) := by omega
  go_enter Tryd.func76, Tryd.ntmps76
  go_wp2_with (first
    | (go_at_call 91; refine (mul_any n (by omega) w).mono ?_; rintro _ w' ⟨rfl, rfl⟩)
    | (refine wpList_copy_blk rfl _ _ rfl g 0 n n 1 c (some ad) [x] (ys.take n) rfl rfl rfl (by rw [List.length_take]; exact Nat.min_eq_left HYS.out) 5 [] (u8s (ys.drop n)) (HB1.out.to (by rw [List.nil_append, ← u8s_append, List.take_append_drop])) rfl ok HX1.out 1 (by rw [List.length_take, Nat.min_eq_left HYS.out]; exact Nat.min_eq_left h1) ?_
       intro w2 hb2 hg2 hz2
       have HB2 : Hid (∃ l : List UInt8, l.length = n - 1 ∧ Blk w2 g 5 (u8s (List.replicate 1 x ++ l) ++ u8s (ys.drop n))) := Lib.hid ⟨(ys.take n).drop 1, by rw [List.length_drop, List.length_take, Nat.min_eq_left HYS.out], hb2.to (by
         unfold lay
         rw [List.length_take, Nat.min_eq_left HYS.out, List.take_of_length_le (by simpa using h1)]
         simp)⟩
       have HG2 : Hid (w1.grownBy w2 (some g)) := Lib.hid hg2
       clear hb2 hg2 hz2))
  clear d1 d2 d4
  go_loopw [10, 11] (fun bp _ wr => ∃ (i : Nat) (l : List UInt8), 1 ≤ i ∧ i ≤ n ∧ l.length = n - i ∧ bp = .int .i64 (i : Int) ∧ Blk wr g 5 (u8s (List.replicate i x ++ l) ++ u8s (ys.drop n)) ∧ w1.grownBy wr (some g)) (fun bp _ _ => n - (intOf bp).toNat)
  case atStart =>
    obtain ⟨l, hl, hb⟩ := HB2.out
    exact ⟨1, l, Nat.le_refl _, h1, hl, rfl, hb, HG2.out⟩
  case round =>
    clear HB2 HG2
    obtain ⟨i, l, hi1, hin, hl, rfl, hb, hg⟩ := hrel
    by_cases hlt : i < n
    · have HL := Lib.hid hl
      have HB := Lib.hid hb
      have HG := Lib.hid hg
      have e1 : (i : Int) < (n : Int) := by omega
      have e2 : ¬ n = i := by omega
      have e3 : (i : Int) ≤ (n : Int) := by omega
      have e4 : ¬ ((n : Int) < (i : Int)) := by omega
      have hbd : Blk wr.drew g 5 (u8s (List.replicate i x) ++ u8s l ++ u8s (ys.drop n)) := (hb.keep (w' := wr.drew) rfl).to (by rw [u8s_append])
      have hxd : Byt wr.drew (fun b => b = g) (some ⟨g, 0, none⟩) (List.replicate i x) := Blk.byt (pre := []) (post := u8s l ++ u8s (ys.drop n)) (hbd.to (by rw [List.nil_append, List.append_assoc])) rfl
      obtain ⟨m, hm⟩ : ∃ m, m = Nat.min i (n - i) := ⟨_, rfl⟩
      have hm1 : Nat.min (List.replicate i x).length l.length = m := by rw [List.length_replicate, hl, hm]
      have hm0 : 0 < Nat.min (List.replicate i x).length l.length := by rw [List.length_replicate, hl]; exact Nat.lt_min.2 ⟨by omega, by omega⟩
      have hp : (u8s (List.replicate i x)).length = i := by rw [u8s_length, List.length_replicate]
      have hr : (List.replicate i x).length = i := List.length_replicate
      have hmn : i + m ≤ n := by have h2 : Nat.min i (n - i) ≤ n - i := Nat.min_le_right _ _; omega
      have hmp : 1 ≤ m := by have h2 : 1 ≤ Nat.min i (n - i) := Nat.le_min.2 ⟨by omega, by omega⟩; omega
      have d5 : IntKind.i64.wrap ((i : Int) + (m : Int)) = ((i + m : Nat) : Int) := by rw [IntKind.wrap_i64]; omega
      have HBD := Lib.hid hbd
      have HXD := Lib.hid hxd
      have HM1 := Lib.hid hm1
      have HM0 := Lib.hid hm0
      have HP := Lib.hid hp
      have HR := Lib.hid hr
      have HMN := Lib.hid hmn
      have HMP := Lib.hid hmp
      have HM := Lib.hid hm
      clear hl hb hg hbd hxd hm hm1 hm0 hp hr hmn hmp
      go_wp2_with (fail)
      go_region_law (first
        | (refine step_copy_blk rfl (.tmp 70) (.tmp 73) rfl g i (n - i) (n - i) i n (some ⟨g, 0, none⟩) (List.replicate i x) l (by simp [Act.eval, Act.put]) (by simp [Act.eval, Act.put]) HR.out HL.out HM0.out 5 (u8s (List.replicate i x)) (u8s (ys.drop n)) HBD.out HP.out (fun b => b = g) HXD.out m HM1.out ?_; intro w3 hb3 hg3 hz3)
        | fail)
      have hb4 : Blk w3 g 5 (u8s (List.replicate (i + m) x ++ l.drop i) ++ u8s (ys.drop n)) := hb3.to (rep_cells HL.out HM.out)
      have HB4 := Lib.hid hb4
      have HG4 : Hid (w1.grownBy w3 (some g)) := Lib.hid (World.grownBy.trans (grown_drew1 HG.out) hg3)
      clear hb3 hg3 hz3 hb4 HBD HXD HB HG
      simp only [List.getElem_toArray, List.getElem_cons_succ, List.getElem_cons_zero, Act.put, List.setIfInBounds_toArray, List.set_cons_zero, List.set_cons_succ]
      go_roundw
      case rel => refine ⟨_, _, _, _, _, _, _, _, _, _, _, _, _, _, _, _, _, ⟨i + m, l.drop i, by have := HMP.out; omega, HMN.out, drop_left_len HL.out HM.out, by go_num, HB4.out, HG4.out⟩, rfl⟩
      case measure => have := HMP.out; have := HMN.out; simp [intOf]; omega
    · have en : i = n := by omega
      subst en
      have hb0 : Blk wr g 5 (u8s (List.replicate i x) ++ (u8s l ++ u8s (ys.drop i))) := hb.to (by rw [u8s_append, List.append_assoc])
      have HB := Lib.hid hb0
      have HG := Lib.hid hg
      clear hb hg hb0 hl
      go_wp2_with (fail)
      go_ret
      exact ⟨g, rfl, Blk.byt (pre := []) (post := u8s l ++ u8s (ys.drop i)) HB.out rfl, HGW.out, HB.out.lt, World.grownBy.andThen HG1.out HG.out (by rintro _ ⟨⟩; exact .inl HGW.out)⟩
section
variable {w : World} {ops : Array Oper} {o : Oper} {a : Act} {K : Act → World → Prop} {Q : Exit → Act → World → Prop} {E : Prop}
theorem own_blk {w : World} {base n g cap : Nat} {xs : List UInt8} (h : w.ownsRow base 5 1 (.slice (some ⟨g, 0, none⟩) n cap) n (u8s xs)) : ∃ post, Blk w g 5 (u8s xs ++ post) ∧ n ≤ cap ∧ cap ≤ maxLen := by
  rcases h.2 with ⟨e1, _⟩ | ⟨g', cap', cur, e1, _, hg, h1, h2, hs, ht⟩
  · cases e1
  · cases e1
    refine ⟨cur.toList.drop n, ?_, h1, h2⟩
    unfold Blk
    rw [hg]
    have : u8s xs ++ cur.toList.drop n = cur.toList := by rw [← ht, Nat.mul_one, List.take_append_drop]
    rw [this]
theorem step_append_grows24 (hgd : o.guard = none) (s x : Operand) (ho : o.op = .call { callee := .builtin .append, args := #[s, x], argTypes := #[40, 40] })
    (A : Option Addr) (n : Nat) (ys : List UInt8) (hn : ys.length = n) (hs : a.eval s = .slice A n n) (ok ok' : Nat → Prop) (hy : Byt w ok A ys)
    (B : Addr) (m c : Nat) (xs : List UInt8) (hm : xs.length = m) (h1 : 0 < m) (hx : a.eval x = .slice (some B) m c) (hxs : Byt w ok' (some B) xs) (hle : n + m ≤ 2000000)
    (h : ∀ g cap post w', Blk w' g 5 (u8s (ys ++ xs) ++ post) → w.heap.size ≤ g → n + m ≤ cap → cap ≤ maxLen → w.grownBy w' none → K (a.put o.dst (.slice (some ⟨g, 0, none⟩) (n + m) cap)) w') :
    if Region.wanted o (yielded ops a.tmps) = true then Oper.wp Tryd.prog o a w K Q else E := by
  have hw : Region.wanted o (yielded ops a.tmps) = true := by simp [Region.wanted, hgd]
  rw [if_pos hw]
  subst hn hm
  obtain ⟨i0, hi, hz0, hz1, hz2⟩ := info_parts Tryd.info5
  have hnews : ∀ j u, (u8s xs)[j]? = some u → w.cell? (B.add j) = some u := by
    intro j u hu
    obtain ⟨hj, rfl⟩ := u8s_get xs j u hu
    obtain ⟨ad', e, _, hc⟩ := hxs j hj
    cases e
    exact hc
  have hmx : ys.length + xs.length ≤ maxLen := by unfold maxLen; omega
  have key : ∃ v' w', (Builtin.append_ #[40, 40] o.type #[.slice A ys.length ys.length, .slice (some B) xs.length c]).run Tryd.prog w = .ok v' w' ∧ w'.ownsRow w.heap.size 5 1 v' (ys.length + xs.length) (u8s (ys ++ xs)) ∧ w.grownBy w' none := by
    rw [u8s_append]
    rcases A with _ | ad
    · have : ys = [] := by
        rcases ys with _ | ⟨y, ys⟩
        · rfl
        · obtain ⟨_, e, _⟩ := hy 0 (by simp)
          cases e
      subst this
      obtain ⟨v', w', hr, r1, r2, _⟩ := run_append_own (P := Tryd.prog) w w.heap.size 40 o.type 5 i0 (.int .u8 0) 1 1 Tryd.underlying40 hi hz0 hz1 hz2 rfl (by omega) (.slice none 0 0) 0 [] (World.ownsRow_nil w _ 5 1) B xs.length c (u8s xs) (by rw [u8s_length]; omega) hnews (u8s_one xs) (by simpa using hmx) (by simpa using (show xs.length ≤ 140737488355328 by simp at hle; omega)) (Nat.le_refl _)
      exact ⟨v', w', hr, r1, r2⟩
    · exact run_append_arg_grows (P := Tryd.prog) w 40 o.type 5 i0 (.int .u8 0) 1 1 Tryd.underlying40 hi hz0 hz1 hz2 rfl (by omega) ad ys.length ys.length (u8s ys) (by rw [u8s_length]; omega)
        (fun j u hu => by
          obtain ⟨hj, rfl⟩ := u8s_get ys j u hu
          obtain ⟨ad', e, _, hc⟩ := hy j hj
          cases e
          exact hc) B xs.length c (u8s xs) (by rw [u8s_length]; omega) hnews (by omega) hmx (by omega)
  obtain ⟨v', w', hr, hown, hg⟩ := key
  obtain ⟨g, cap, rfl, hb, _⟩ := World.ownsRow.form hown (by omega)
  obtain ⟨post, hb', hc1, hc2⟩ := own_blk hown
  unfold Oper.wp execOp
  simp only [ho, resolve, invoke, builtin, Sem.run_bind, Sem.run_pure, Result.andThen_ok, List.map_toArray, List.map_cons, List.map_nil, hs, hx, hr]
  exact h g cap post w' hb' hb hc1 hc2 hg
end
set_option maxRecDepth 100000 in
set_option maxHeartbeats 1600000 in
theorem filled_any {w : World} {ok : Nat → Prop} {A : Option Addr} {text : List UInt8} {n c : Nat} (hx : Byt w ok A text) (hok : ∀ b, ok b → b < w.heap.size) (hn : text.length = n) (hc : n ≤ c) (hsz : n ≤ 1000000) :
    Calls Tryd.prog 59 #[.slice A n c] w fun e w' => ∃ g post, e = .returned (.slice (some ⟨g, 0, none⟩) (fillB text).length (fillB text).length) ∧ Blk w' g 5 (u8s (fillB text) ++ post) ∧ w.heap.size ≤ g ∧ w.grownBy w' none := by
  obtain ⟨p, hp⟩ : ∃ p, p = padN text := ⟨_, rfl⟩
  have hp1 : 1 ≤ p := by have := padN_le text; omega
  have hp2 : p ≤ 16 := by have := padN_le text; omega
  have hpn : 16 - (n : Int) % 16 = (p : Int) := by rw [hp]; unfold padN; rw [hn]; omega
  have hfl : (fillB text).length = n + p := by unfold fillB; rw [List.length_append, List.length_replicate, hn, hp]
  obtain ⟨pb, hpb⟩ : ∃ b, b = UInt8.ofNat p := ⟨_, rfl⟩
  have hpv : (pb.toNat : Int) = (p : Int) := by rw [hpb, UInt8.toNat_ofNat', Nat.mod_eq_of_lt (by omega)]
  have hfill : text ++ List.replicate p pb = fillB text := by unfold fillB; rw [hpb, hp]
  have d6 : IntKind.u8.wrap (p : Int) = (p : Int) := by rw [IntKind.wrap_u8]; omega
  have d7 : (n : Int) ≤ (c : Int) := by omega
  rw [hfl]
  have HPV := Lib.hid hpv
  have HF := Lib.hid hfill
  have HXD : Hid (Byt w.drew ok A text) := Lib.hid (hx.keep fun _ _ => rfl)
  have HN := Lib.hid hn
  have HOK := Lib.hid hok
  have HPN := Lib.hid hpn
  have HP2 := Lib.hid hp2
  clear hp hpn hpb hpv hfill hx hn hfl hok hp2
  go_enter Tryd.func59, Tryd.ntmps59
  go_wp2_with (go_at_call 51; refine (filling_any (n : Int) (by omega) w).mono ?_; rintro _ w' ⟨rfl, rfl⟩; rw [HPN.out])
  have hb1 : Blk (w'.alloc (.cells #[.int .u8 (p : Int)] 5)).drew w'.heap.size 5 (u8s [pb]) := by
    have h1 := (Blk.of_alloc w' #[.int .u8 (p : Int)] 5).keep (w' := (w'.alloc (.cells #[.int .u8 (p : Int)] 5)).drew) rfl
    exact h1.to (by rw [← HPV.out]; rfl)
  have hg1 : w'.grownBy (w'.alloc (.cells #[.int .u8 (p : Int)] 5)).drew none := grown_drew (World.grownBy_alloc w' _ none)
  obtain ⟨w1, hw1⟩ : ∃ w1, w1 = (w'.alloc (.cells #[.int .u8 (p : Int)] 5)).drew := ⟨_, rfl⟩
  rw [← hw1] at hb1 hg1
  have hx1 : Byt w1 ok A text := HXD.out.grown (w' := w1) (row := none) ⟨hg1.os, hg1.tape, hg1.output, hg1.size, hg1.block⟩ (fun b hb => ⟨HOK.out b hb, by simp⟩)
  have HB1 := Lib.hid hb1
  have HX1 := Lib.hid hx1
  clear hb1 hx1
  go_region_law (first
    | (go_simp; go_at_call 76; rw [← hw1]; refine (repeat_any (byt_blk HB1.out) (by rintro b rfl; exact HB1.out.lt) 1 p hp1 HP2.out).mono ?_; rintro _ w2 ⟨g2, rfl, hb2, hgs2, hlt2, hg2⟩)
    | (refine step_append_grows24 rfl (.tmp 13) (.tmp 18) rfl A n text HN.out (by simp [Act.eval]) ok _ (HX1.out.grown hg2 (fun b hb => ⟨Nat.lt_of_lt_of_le (HOK.out b hb) hg1.size, by simp⟩)) ⟨g2, 0, none⟩ p p (List.replicate p pb) List.length_replicate hp1 (by simp [Act.eval]) hb2 (by have := HP2.out; omega) ?_; intro g3 c3 post w3 hb3 hgs3 hcap3 hm3 hg3)
    | fail)
  have hb4 : Blk w3 g3 5 (u8s (fillB text) ++ post) := hb3.to (by rw [HF.out])
  have hg4 : w'.grownBy w3 none := World.grownBy.trans (World.grownBy.trans hg1 hg2) hg3
  have hgs4 : w'.heap.size ≤ g3 := Nat.le_trans (Nat.le_trans hg1.size hg2.size) hgs3
  have HB4 := Lib.hid hb4
  have HG4 := Lib.hid hg4
  have HGS := Lib.hid hgs4
  have e1 : ((n + p : Nat) : Int) ≤ (c3 : Int) := by omega
  clear hb4 hg4 hgs4 hb3 hg1 hg2 hg3 hgs3 hm3 hb2 hgs2 hlt2 hw1
  go_wp2_with (fail)
  go_ret
  exact ⟨g3, post, rfl, HB4.out, HGS.out, HG4.out⟩
open Go.RowKit
set_option maxRecDepth 100000 in
set_option maxHeartbeats 1600000 in
theorem xor_any (w : World) (s t : State) : Calls Tryd.prog 61 #[.agg (bytesOf s).toArray, .agg (bytesOf t).toArray] w fun e w' => e = .returned (.agg (bytesOf (keyS t s)).toArray) ∧ w.grownBy w' none := by
  obtain ⟨T, hT⟩ : ∃ T, T = keyS t s := ⟨_, rfl⟩
  rw [← hT]
  have HT := Lib.hid hT
  clear hT
  go_enter Tryd.func61, Tryd.ntmps61
  go_wp2_with (refine wpList_box23 rfl _ s rfl rfl ?_)
  intro w1 hb1 hg1 hz1
  go_wp2_with (refine wpList_box23 rfl _ t rfl rfl ?_)
  intro w2 hb2 hg2 hz2
  go_wp2_with (refine wpList_alloc23 rfl rfl ?_)
  intro w3 hb3 hg3 hz3
  obtain ⟨ga, hga⟩ : ∃ g, g = w.heap.size := ⟨_, rfl⟩
  obtain ⟨gb, hgb⟩ : ∃ g, g = w.heap.size + 1 := ⟨_, rfl⟩
  obtain ⟨go, hgo⟩ : ∃ g, g = w.heap.size + 1 + 1 := ⟨_, rfl⟩
  rw [← hgo, ← hgb, ← hga]
  rw [← hga] at hb1
  rw [← hgb] at hb2
  rw [← hgo] at hb3
  have HA : Hid (Blk w3 ga 78 (bytesOf s)) := Lib.hid ((hb1.grown hg2 (by simp)).grown hg3 (by simp))
  have HB : Hid (Blk w3 gb 78 (bytesOf t)) := Lib.hid (hb2.grown hg3 (by simp))
  have HO : Hid (Blk w3 go 78 (bytesOf fun _ => 0)) := Lib.hid hb3
  have HG : Hid (w.grownBy w3 none) := Lib.hid (World.grownBy.trans (World.grownBy.trans hg1 hg2) hg3)
  have HAO : Hid (go ≠ ga) := Lib.hid (by omega)
  have HWA : Hid (w.heap.size ≤ ga) := Lib.hid (by omega)
  have HWO : Hid (w.heap.size ≤ go) := Lib.hid (by omega)
  clear hb1 hg1 hz1 hb2 hg2 hz2 hb3 hg3 hz3 hga hgb hgo
  go_wp2_with (refine wpList_load_mid rfl 78 _ rfl gb 0 rfl (bytesOf t) _ (range_blk HB.out) Tryd.underlying78 rfl (bytes_size' t) ?_)
  clear HB
  go_loopw [5, 6, 8] (fun _ _ v wr => ∃ i : Nat, i ≤ 16 ∧ v = .int .i64 (i : Int) ∧ Blk wr ga 78 (bytesOf (part i T s)) ∧ w3.grownBy wr (some ga)) (fun _ _ v _ => 16 - (intOf v).toNat)
  case atStart => exact ⟨0, Nat.zero_le _, rfl, by rw [part_zero]; exact HA.out, World.grownBy.refl _ _⟩
  case round =>
    clear HA
    obtain ⟨i, hi, rfl, hb, hg⟩ := hrel
    by_cases hlt : i < 16
    · have e1 : (i : Int) < 16 := by omega
      have c0 := idx23 t i hlt
      have c2 := hb.get i _ (bytesOf_get _ i hlt)
      rw [part_at] at c2
      have hf := hb.frozen i
      have hx : bits .xor .u8 ((s ⟨i, hlt⟩).toNat : Int) ((t ⟨i, hlt⟩).toNat : Int) = ((T ⟨i, hlt⟩).toNat : Int) := by
        rw [b_xor, HT.out]; rfl
      have hset := bytesOf_set (part i T s) i (T ⟨i, hlt⟩)
      rw [part_set] at hset
      have hb2 := (hb.set i (.int .u8 ((T ⟨i, hlt⟩).toNat : Int))).to hset
      have HB2 := Lib.hid hb2
      have HG2 := Lib.hid hg
      clear hb hg hset hb2
      obtain ⟨y, hy⟩ : ∃ y, y = t ⟨i, hlt⟩ := ⟨_, rfl⟩
      obtain ⟨x, hx'⟩ : ∃ x, x = s ⟨i, hlt⟩ := ⟨_, rfl⟩
      obtain ⟨z, hz⟩ : ∃ z, z = T ⟨i, hlt⟩ := ⟨_, rfl⟩
      rw [← hy] at c0 hx
      rw [← hx'] at c2 hx
      rw [← hz] at hx HB2
      clear hy hx' hz
      go_wp2_with (fail)
      exact ⟨⟨i + 1, by omega, by go_num, HB2.out, World.grownBy.trans HG2.out (grown_set wr ga i _)⟩, by simp [intOf]; omega⟩
    · have ei : i = 16 := by omega
      subst ei
      rw [part_all] at hb
      have HB2 := Lib.hid hb
      have HO2 := Lib.hid (HO.out.grown hg (fun e => HAO.out (Option.some.inj e)))
      have HG2 : Hid (w.grownBy wr none) := Lib.hid (World.grownBy.andThen HG.out hg (by rintro _ ⟨⟩; exact .inl HWA.out))
      clear hb hg hlt hi HO
      go_wp2_with (first
        | (refine wpList_load_mid rfl 78 _ rfl ga 0 rfl (bytesOf T) _ (range_blk HB2.out) Tryd.underlying78 rfl (bytes_size' T) ?_)
        | (refine wpList_store_row rfl 78 _ _ rfl go (bytesOf T).toArray rfl rfl 78 _ HO2.out (bytes_size _) (bytes_same _ _) (all_oneCell_toArray (bytesOf_one _)) ?_))
      exact bodyPost_ret (results_cell_row rfl _ _ go 78 (bytesOf T).toArray (0, 0) _ rfl (setRow_heap wr go _ _ 78 (0, 0) HO2.out) Tryd.underlying78 rfl (bytes_size _)) rfl ⟨rfl, World.grownBy.andThen HG2.out (grown_setRow _ _ _) (by rintro _ ⟨⟩; exact .inl HWO.out)⟩
open Go.RowKit
theorem cnew_at (W : World) (k : Fin 32 → UInt8) : Calls Tryd.prog 58 #[.agg (u8s (k32 k)).toArray] W fun e w' => ∃ g, e = .returned (.pointer (some ⟨g, 0, none⟩)) ∧ Cip w' g (k32 k) ∧ W.grownBy w' none ∧ W.heap.size ≤ g := (new_any W k).mono fun _ _ ⟨g, h1, h2, h3, h4⟩ => ⟨g, h1, h2, h3, h4⟩
theorem wp_alloc23 {w : World} {o : Oper} {a : Act} {K : Act → World → Prop} {Q : Exit → Act → World → Prop} (ho : o.op = .alloc 78)
    (h : ∀ w', Blk w' w.heap.size 78 (bytesOf (fun _ => 0)) → w.grownBy w' none → w'.heap.size = w.heap.size + 1 → K (a.put o.dst (.pointer (some ⟨w.heap.size, 0, none⟩))) w') : o.wp Tryd.prog a w K Q := by
  have hrun := run_alloc23 w
  generalize bytesOf (fun _ => 0) = z at hrun h
  unfold Oper.wp
  simp only [execOp, ho, Sem.run_bind, hrun, Result.andThen_ok, Sem.run_pure]
  exact h _ (Blk.of_alloc w _ 78) (World.grownBy_alloc w _ none) (World.size_alloc w _)
/-- What is made ahead: a cipher, and the block that stands ahead of the first one. -/
def Two (w : World) (ks : List UInt8) (v : State) (s t : Value) (wx : World) : Prop := ∃ gc ga, s = .pointer (some ⟨gc, 0, none⟩) ∧ t = .pointer (some ⟨ga, 0, none⟩) ∧ Cip wx gc ks ∧ Blk wx ga 78 (bytesOf v) ∧ gc ≠ ga ∧ w.heap.size ≤ ga ∧ w.grownBy wx none
theorem run_from (w : World) (A : Option Addr) (n c k : Nat) (hk : k < n) (hc : n ≤ c) : (Instr.sliceAt 40 (.slice A n c) (some (.int .i64 (k : Int))) none none).run Tryd.prog w = .ok (.slice (A.map (·.add k)) (n - k) (c - k)) w := by
  have h1 : (k : Int) ≤ (n : Int) := by omega
  have h2 : ¬ c = k := by omega
  simp [Instr.sliceAt, Instr.slice, Instr.sliceBounds, run_underlying Tryd.underlying40, run_sliceBound, h1, h2]
theorem run_load_at (w : World) (ad : Addr) (s : State) (hc : ∀ j v, (bytesOf s)[j]? = some v → w.cell? (ad.add j) = some v) : (Instr.loadAt 78 (.pointer (some ad))).run Tryd.prog w = .ok (.agg (bytesOf s).toArray) w := by
  have hl : (loadCells ad (bytesOf s).length).run Tryd.prog w = .ok (bytesOf s).toArray w := run_loadCells_list (P := Tryd.prog) w ad (bytesOf s) hc
  have hq : (Tryd.prog.info? 78).map (·.size) = some (bytesOf s).length := bytes_size' s
  generalize bytesOf s = z at hl hq
  simp only [Instr.loadAt, Instr.sureAddr, Sem.run_bind, Sem.run_pure, Result.andThen_ok]
  cases hi : Tryd.prog.info? 78 with
  | none => simp [hi] at hq
  | some i =>
    have hs : i.size = z.length := by simpa [hi] using hq
    have hagg : (isAgg 78).run Tryd.prog w = .ok true w := by
      unfold isAgg
      rw [Sem.run_bind, run_underlying Tryd.underlying78 w]
      rfl
    simp [loadVar, Sem.run_bind, hagg, sizeOf, typeInfo, hi, hs, hl]
section
variable {ops : Array Oper} {S : World → Prop} {o : Oper} {a : Act}
theorem yieldsIf_from (hw : Region.wanted o (yielded ops a.tmps) = true) (x y : Operand) (ho : o.op = .slice 40 x (some y) none none) (ad : Addr) (n c k : Nat) (hx : a.eval x = .slice (some ad) n c) (hy : a.eval y = .int .i64 (k : Int)) (hk : k < n) (hc : n ≤ c) {B : Addr} (hB : B = ad.add k) :
    YieldsIf Tryd.prog ops S o (.slice (some B) (n - k) (c - k)) a :=
  .inl ⟨hw, fun w _ => by
    subst hB
    have hrun := run_from w (some ad) n c k hk hc
    unfold execOp
    simp only [ho, hx, hy, Option.map_some, Option.map_none, hrun, Sem.run_bind, Sem.run_pure, Result.andThen_ok]⟩
theorem yieldsIf_array (hw : Region.wanted o (yielded ops a.tmps) = true) (x : Operand) (ho : o.op = .sliceToArrayPointer 78 x) (B : Addr) (n c : Nat) (hx : a.eval x = .slice (some B) n c) (hn : 16 ≤ n) :
    YieldsIf Tryd.prog ops S o (.pointer (some B)) a :=
  .inl ⟨hw, fun w _ => by
    have hrun := run_arrayAt (P := Tryd.prog) (w := w) 78 5 16 (some B) n c Tryd.underlying78 hn
    unfold execOp
    simp only [ho, hx, hrun, Sem.run_bind, Sem.run_pure, Result.andThen_ok]⟩
end
theorem yieldsIf_load_at {ops : Array Oper} {S : World → Prop} {o : Oper} {a : Act} (hw : Region.wanted o (yielded ops a.tmps) = true) (x : Operand) (ho : o.op = .load 78 x) (ad : Addr) (hx : a.eval x = .pointer (some ad)) (s : State)
    (hS : ∀ w, S w → ∀ j v, (bytesOf s)[j]? = some v → w.cell? (ad.add j) = some v) : YieldsIf Tryd.prog ops S o (.agg (bytesOf s).toArray) a :=
  .inl ⟨hw, fun w hs => by
    have hrun := run_load_at w ad s (hS w hs)
    unfold execOp
    simp only [ho, hx, hrun, Sem.run_bind, Sem.run_pure, Result.andThen_ok]⟩
end Go.Proofs.YtkbffponemihoaaDoor.C
