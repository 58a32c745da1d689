/- The reference's small calls: its first words, its rounds' words, turnings. Conditions: none. The reference's 32 bytes. Conditions: none. Bytes behind rows of the call's own. Conditions: none. The reference's HMAC. Conditions: none. -/
import Derived.Test.YtdnkeaokgkiloaaDoorSc
import Derived.Deep.RegionLaw
import Derived.Deep.RegionWith
import Derived.StillTailTactics
import Derived.Deep.Onto
import Derived.Deep.CutRange
namespace Go.Proofs.YtdnkeaokgkiloaaDoor.S
open Go.RowKit
/-- Words of 32 bits, in cells of 64. -/
def d64 (l : List UInt32) : List Value := l.map fun x => Value.int .u64 (x.toNat : Int)
theorem d64_length (l : List UInt32) : (d64 l).length = l.length := by simp [d64]
theorem d64_set (xs : List UInt32) (j : Nat) (x : UInt32) : (d64 xs).set j (.int .u64 (x.toNat : Int)) = d64 (xs.set j x) := by simp [d64, List.map_set]
theorem d64_get (xs : List UInt32) (j : Nat) (h : j < xs.length) : (d64 xs)[j]? = some (.int .u64 (xs.getD j 0).toNat) := by
  unfold d64
  rw [List.getElem?_map, List.getElem?_eq_getElem h, List.getD_eq_getElem?_getD, List.getElem?_eq_getElem h]
  rfl
/-- The rounds' words of SHA-256. -/
def k256 : List UInt32 := (List.range 64).map kw
theorem k256_get (i : Nat) (h : i < 64) : k256.getD i 0 = kw i := by
  rw [List.getD_eq_getElem?_getD, k256, List.getElem?_map, List.getElem?_range h]; rfl
theorem turn_eq (x : UInt32) (n : Nat) (h1 : 1 ≤ n) (h2 : n < 32) :
    bits .and .u64 (bits .or .u64 ((x.toNat : Int) / 2 ^ n) (IntKind.u64.wrap ((x.toNat : Int) * 2 ^ (32 - n)))) 4294967295 = ((rotr x n).toNat : Int) := by
  have hp : ∀ k : Nat, (2 : Int) ^ k = ((2 ^ k : Nat) : Int) := fun k => by rw [Int.natCast_pow]; rfl
  have hx := lt32 x
  have hb : x.toNat * 2 ^ (32 - n) < 18446744073709551616 := by
    have h3 : 2 ^ (32 - n) ≤ 2 ^ 31 := Nat.pow_le_pow_right (by omega) (by omega)
    have h4 := Nat.mul_le_mul (Nat.le_of_lt hx) h3
    omega
  have e1 : IntKind.u64.wrap ((x.toNat : Int) * 2 ^ (32 - n)) = ((x.toNat * 2 ^ (32 - n) : Nat) : Int) := by
    rw [IntKind.wrap_u64, hp, ← Int.natCast_mul]
    generalize x.toNat * 2 ^ (32 - n) = q at hb
    omega
  have e2 : (x.toNat : Int) / 2 ^ n = ((x.toNat / 2 ^ n : Nat) : Int) := by rw [hp]; rfl
  have hd : x.toNat / 2 ^ n < 18446744073709551616 := Nat.lt_of_le_of_lt (Nat.div_le_self _ _) (by omega)
  rw [e1, e2, u64_or_nat _ _ hd hb, d_mask _ (Nat.or_lt_two_pow (n := 64) hd hb), w_ofNat, rotr_nat, or_mod, Nat.mod_eq_of_lt (Nat.lt_of_le_of_lt (Nat.div_le_self _ _) hx)]
theorem turn_any (x : UInt32) (n : Nat) (w : World) (h1 : 1 ≤ n) (h2 : n < 32) :
    Calls Tryd.prog 65 #[.int .u64 x.toNat, .int .u64 n, .int .u64 32] w fun e w' => e = .returned (.int .u64 (rotr x n).toNat) ∧ w = w' := by
  have h5 := turn_eq x n h1 h2
  go_enter Tryd.func65, Tryd.ntmps65
  go_wp2
  go_ret
  exact ⟨rfl, rfl⟩
theorem first512_any (w : World) : Calls Tryd.prog 57 #[] w fun e w' => e = .returned (.slice (some ⟨w.heap.size, 0, none⟩) 8 8) ∧ w.grownBy w' none ∧ w'.heap.size = w.heap.size + 1 := by
  go_enter Tryd.func57, Tryd.ntmps57
  go_wp2
  go_ret
  exact ⟨rfl, World.grownBy_alloc w _ none, World.size_alloc w _⟩
theorem first256_any (w : World) : Calls Tryd.prog 59 #[] w fun e w' => e = .returned (.slice (some ⟨w.heap.size, 0, none⟩) 8 8) ∧ Blk w' w.heap.size 111 (d64 H0.list) ∧ w.grownBy w' none ∧ w'.heap.size = w.heap.size + 1 := by
  go_enter Tryd.func59, Tryd.ntmps59
  go_wp2
  go_ret
  exact ⟨rfl, Blk.of_alloc w _ 111, World.grownBy_alloc w _ none, World.size_alloc w _⟩
set_option maxRecDepth 100000 in
set_option maxHeartbeats 4000000 in
theorem rounds512_any (w : World) : Calls Tryd.prog 58 #[] w fun e w' => e = .returned (.slice (some ⟨w.heap.size, 0, none⟩) 80 80) ∧ w.grownBy w' none ∧ w'.heap.size = w.heap.size + 1 := by
  go_enter Tryd.func58, Tryd.ntmps58
  go_wp2
  go_ret
  exact ⟨rfl, World.grownBy_alloc w _ none, World.size_alloc w _⟩
set_option maxRecDepth 100000 in
set_option maxHeartbeats 4000000 in
theorem rounds256_any (w : World) : Calls Tryd.prog 60 #[] w fun e w' => e = .returned (.slice (some ⟨w.heap.size, 0, none⟩) 64 64) ∧ Blk w' w.heap.size 111 (d64 k256) ∧ w.grownBy w' none ∧ w'.heap.size = w.heap.size + 1 := by
  go_enter Tryd.func60, Tryd.ntmps60
  go_wp2
  go_ret
  exact ⟨rfl, (Blk.of_alloc w _ 111).to (by kernel_rfl), World.grownBy_alloc w _ none, World.size_alloc w _⟩
/-- Three turnings, or two and a mere move. -/
def three (x : UInt32) (a b c : Nat) (t : Bool) : UInt32 := if t then rotr x a ^^^ rotr x b ^^^ shr x c else rotr x a ^^^ rotr x b ^^^ rotr x c
theorem three_any (x : UInt32) (a b c : Nat) (t : Bool) (w : World) (ha : 1 ≤ a) (ha2 : a < 32) (hb : 1 ≤ b) (hb2 : b < 32) (hc : 1 ≤ c) (hc2 : c < 32) :
    Calls Tryd.prog 61 #[.int .u64 x.toNat, .int .u64 a, .int .u64 b, .int .u64 c, .int .u64 32, .bool t] w fun e w' => e = .returned (.int .u64 (three x a b c t).toNat) ∧ w' = w := by
  have A : ∀ W, Calls Tryd.prog 65 #[.int .u64 x.toNat, .int .u64 a, .int .u64 32] W fun e w' => e = .returned (.int .u64 (rotr x a).toNat) ∧ W = w' := fun W => turn_any x a W ha ha2
  have B : ∀ W, Calls Tryd.prog 65 #[.int .u64 x.toNat, .int .u64 b, .int .u64 32] W fun e w' => e = .returned (.int .u64 (rotr x b).toNat) ∧ W = w' := fun W => turn_any x b W hb hb2
  have C : ∀ W, Calls Tryd.prog 65 #[.int .u64 x.toNat, .int .u64 c, .int .u64 32] W fun e w' => e = .returned (.int .u64 (rotr x c).toNat) ∧ W = w' := fun W => turn_any x c W hc hc2
  have hc64 : (c : Int) ≤ 64 := by omega
  cases t
  · go_enter Tryd.func61, Tryd.ntmps61
    go_wp2_with (go_at_call 65; (first | (with_reducible refine (A _).mono ?_) | (with_reducible refine (B _).mono ?_) | (with_reducible refine (C _).mono ?_)); rintro _ _ ⟨rfl, rfl⟩)
    go_ret
    refine ⟨?_, rfl⟩
    change Ending.returned (.int .u64 (bits .xor .u64 (bits .xor .u64 ((rotr x a).toNat : Int) ((rotr x b).toNat : Int)) ((rotr x c).toNat : Int))) = _
    rw [d_xor, d_xor]
    rfl
  · go_enter Tryd.func61, Tryd.ntmps61
    go_wp2_with (go_at_call 65; (first | (with_reducible refine (A _).mono ?_) | (with_reducible refine (B _).mono ?_) | (with_reducible refine (C _).mono ?_)); rintro _ _ ⟨rfl, rfl⟩)
    go_ret
    refine ⟨?_, rfl⟩
    change Ending.returned (.int .u64 (bits .xor .u64 (bits .xor .u64 ((rotr x a).toNat : Int) ((rotr x b).toNat : Int)) ((x.toNat : Int) / 2 ^ c))) = _
    have hsh : (x.toNat : Int) / 2 ^ c = ((shr x c).toNat : Int) := by
      rw [w_shr, Int.natCast_pow]; rfl
    rw [hsh, d_xor, d_xor]
    rfl
open Go.RowKit
set_option maxRecDepth 100000 in
/-- Copying as one step of a region that draws its order. -/
theorem step_copy_blk {w : World} {ops : Array Oper} {o : Oper} {a : Act} {K : Act → World → Prop} {Q : Exit → Act → World → Prop} {E : Prop} (hgd : o.guard = none) (d s : Operand) (ho : o.op = .call { callee := .builtin .copy, args := #[d, s], argTypes := #[66, 66] })
    (g off dLen dCap sLen sCap : Nat) (A : Option Addr) (xs ys : List UInt8) (hd : a.eval d = .slice (some ⟨g, off, none⟩) dLen dCap) (hs : a.eval s = .slice A sLen sCap) (hxl : xs.length = sLen) (hyl : ys.length = dLen) (h0 : 0 < Nat.min xs.length ys.length)
    (ty : TypeId) (pre post : List Value) (hb : Blk w g ty (pre ++ u8s ys ++ post)) (hp : pre.length = off) (ok : Nat → Prop) (hx : Byt w ok A xs) (m : Nat) (hm : Nat.min xs.length ys.length = m)
    (h : ∀ w', Blk w' g ty (pre ++ u8s (lay xs ys) ++ post) → w.grownBy w' (some g) → w'.heap.size = w.heap.size → K (a.put o.dst (goInt (m : Int))) w') :
    if Region.wanted o (yielded ops a.tmps) = true then Oper.wp Tryd.prog o a w K Q else E := by
  subst hm hxl hyl hp
  have hw : Region.wanted o (yielded ops a.tmps) = true := by simp [Region.wanted, hgd]
  rw [if_pos hw]
  have hcs : (u8s (xs.take ys.length)).length = Nat.min xs.length ys.length := by rw [u8s_length, List.length_take, Nat.min_comm]
  obtain ⟨ad, rfl, _, hcell⟩ := hx.some_ (by have : Nat.min xs.length ys.length ≤ xs.length := Nat.min_le_left _ _; omega)
  have hrun := run_copy_row (P := Tryd.prog) w 66 66 o.type 5 g pre.length ys.length dCap ad xs.length sCap _ ty (u8s (xs.take ys.length)) Tryd.underlying66 (by kernel_rfl) hb hcs ?_ ?_ (u8s_one _)
  · unfold Oper.wp
    have e : ((pre ++ u8s ys ++ post).take pre.length ++ u8s (xs.take ys.length) ++ (pre ++ u8s ys ++ post).drop (pre.length + Nat.min xs.length ys.length)) = pre ++ u8s (lay xs ys) ++ post := by
      rw [List.append_assoc pre, List.take_left', List.drop_append, List.drop_eq_nil_of_le (by omega), Nat.add_sub_cancel_left, List.nil_append, List.drop_append_of_le_length (by rw [u8s_length]; exact Nat.min_le_right _ _)]
      · rw [lay, u8s_append]
        have e2 : List.drop (Nat.min xs.length ys.length) (u8s ys) = u8s (ys.drop xs.length) := by
          unfold u8s
          rw [← List.map_drop]
          congr 1
          rcases Nat.le_total xs.length ys.length with hle | hle
          · rw [show Nat.min xs.length ys.length = xs.length from Nat.min_eq_left hle]
          · rw [show Nat.min xs.length ys.length = ys.length from Nat.min_eq_right hle, List.drop_eq_nil_of_le (Nat.le_refl _), List.drop_eq_nil_of_le hle]
        rw [e2]
        simp only [List.append_assoc]
      · rfl
    rw [hcs] at hrun
    simp only [] at hrun
    rw [e] at hrun
    simp only [execOp, ho, resolve, invoke, builtin, Sem.run_bind, Sem.run_pure, Result.andThen_ok, List.map_toArray, List.map_cons, List.map_nil, hd, hs, hrun]
    exact h _ (Blk.setRow hb) (grown_setRow _ _ _) (by simp [World.setRow])
  · intro j v hv
    obtain ⟨hj, rfl⟩ := u8s_get _ j v hv
    rw [List.length_take] at hj
    rw [hcell j (by omega)]
    simp
  · rw [hcs]
    have : Nat.min xs.length ys.length ≤ ys.length := Nat.min_le_right _ _
    simp only [List.size_toArray, List.length_append, u8s_length]
    omega
/-- What the reference's hash of bytes is. -/
def HashSays : Prop := ∀ {w : World} {c n : Nat} {ok : Nat → Prop} {A : Option Addr} {xs : List UInt8}, Byt w ok A xs → (∀ b, ok b → b < w.heap.size) → xs.length = n → n ≤ 20000 →
  Calls Tryd.prog 53 #[.slice A n c, .int .u64 32] w fun e w' => ∃ v, e = .returned v ∧ w'.ownsRow w.heap.size 5 1 v 32 (u8s (sha256 xs)) ∧ w.grownBy w' none
set_option maxRecDepth 100000 in
set_option maxHeartbeats 1600000 in
theorem short_any (H : HashSays) {w : World} {c n : Nat} {ok : Nat → Prop} {A : Option Addr} {xs : List UInt8} (hx : Byt w ok A xs) (hok : ∀ b, ok b → b < w.heap.size) (hn : xs.length = n) (hm : n ≤ 20000) :
    Calls Tryd.prog 46 #[.slice A n c] w fun e w' => e = .returned (.agg (u8s (sha256 xs)).toArray) ∧ w.grownBy w' none := by
  have HX := Lib.hid hx
  have HN := Lib.hid hn
  clear hx hn
  go_enter Tryd.func46, Tryd.ntmps46
  go_wp2_with (refine wpList_alloc24 rfl rfl ?_)
  intro w1 hb1 hg1 hz1
  go_wp2_with (refine wpList_alloc24 rfl rfl ?_)
  intro w2 hb2 hg2 hz2
  have hg12 := World.grownBy.trans hg1 hg2
  have hb12 := hb1.grown hg2 (by simp)
  have hz22 : w2.heap.size = w.heap.size + 2 := by omega
  have HB1 := Lib.hid hb12
  have HB2 := Lib.hid hb2
  have HG2 := Lib.hid hg12
  clear hb1 hb12 hb2 hg1 hg2 hz1 hz2 hg12
  go_wp2_with (fail)
  have hx3 : ∀ n, Byt (w2.drewN n) ok A xs := fun n => HX.out.grown (grown_drewN n HG2.out) (fun b hb => ⟨hok b hb, by simp⟩)
  have ho3 : ∀ n b, ok b → b < (w2.drewN n).heap.size := fun n b hb => by have := hok b hb; have : (w2.drewN n).heap.size = w2.heap.size := rfl; omega
  have HX3 := Lib.hid hx3
  have HO3 := Lib.hid ho3
  clear hx3 ho3
  have hb3 : ∀ n, Blk (w2.drewN n) (w.heap.size + 1) 22 (u8s (zs 32)) := fun n => HB2.out.keep rfl
  have HB3 := Lib.hid hb3
  clear hb3
  go_region_law (first
    | (go_simp; go_at_call 53; refine (H (HX3.out 1) (HO3.out 1) HN.out hm).mono ?_; rintro _ w4 ⟨v, rfl, hv, hg4⟩; obtain ⟨A4, c4, rfl, -, -, -, hx4⟩ := own_form hv)
    | (refine step_copy_blk rfl (.tmp 4) (.tmp 6) rfl (w.heap.size + 1) 0 32 32 (sha256 xs).length c4 A4 (sha256 xs) (zs 32) (by simp [Act.eval]) (by simp [Act.eval]) rfl (zs_length 32) (by rw [sha256_length, zs_length]; decide) 22 [] [] (((HB3.out 1).grown hg4 (by simp)).to (by simp)) rfl _ hx4 32 (by rw [sha256_length, zs_length]; rfl) ?_; intro w5 hb5 hg5 hz5)
    | fail)
  have hlay : lay (sha256 xs) (zs 32) = sha256 xs := by
    rw [lay_le _ _ (by rw [sha256_length, zs_length]; exact Nat.le_refl _), zs_drop, sha256_length]
    simp [zs]
  rw [hlay] at hb5
  have hb6 : Blk w5 (w.heap.size + 1) 22 (u8s (sha256 xs)) := hb5.to (by simp)
  have hr6 : w5.rangeAt (w.heap.size + 1) 0 (u8s (sha256 xs)) := Blk.range (pre := []) (post := []) hb5 rfl
  have hb7 : Blk w5 w.heap.size 22 (u8s (zs 32)) := (((HB1.out.keep (w' := w2.drewN 1) rfl).grown hg4 (by simp)).grown hg5 (by simp))
  have hg7 : w.grownBy w5 none := World.grownBy.andThen (World.grownBy.trans (grown_drewN 1 HG2.out) hg4) hg5 (by rintro _ ⟨⟩; exact .inl (by omega))
  have HB7 := Lib.hid hb7
  have HR6 := Lib.hid hr6
  have HG7 := Lib.hid hg7
  clear hb5 hb6 hr6 hb7 hg7 hlay hg4 hg5 hz5 hv hx4 HX3 HO3 HB3
  go_wp2_with (first | (refine wpList_load_mid rfl 22 _ rfl (w.heap.size + 1) 0 rfl (u8s (sha256 xs)) _ HR6.out Tryd.underlying22 rfl (by rw [size24, u8s_length, sha256_length]) ?_) | (refine wpList_store_row rfl 22 _ _ rfl w.heap.size (u8s (sha256 xs)).toArray rfl rfl 22 _ HB7.out (by rw [size24, List.size_toArray, u8s_length, sha256_length]) (by simp [u8s_length, sha256_length, zs_length]) (all_oneCell_toArray (u8s_one _)) ?_))
  exact bodyPost_ret (results_cell_row rfl _ _ w.heap.size 22 (u8s (sha256 xs)).toArray (0, 0) _ rfl (setRow_heap w5 w.heap.size _ _ 22 (0, 0) HB7.out) Tryd.underlying22 rfl (by rw [size24, List.size_toArray, u8s_length, sha256_length])) rfl ⟨rfl, World.grownBy.andThen HG7.out (grown_setRow _ _ _) (by rintro _ ⟨⟩; exact .inl (Nat.le_refl _))⟩
open Go.RowKit
theorem wpList_append_byt_n {P : Program} (w : World) {ops : Array Oper} {rest : List Oper} {o : Oper} {a : Act} {Q : Exit → Act → World → Prop} (hgd : o.guard = none) (s x : Operand) (t : TypeId)
    (ho : o.op = .call { callee := .builtin .append, args := #[s, x], argTypes := #[t, t] })
    (base : Nat) (i : TypeInfo) (z : Value) (ht : P.underlying t = some (.slice 5)) (hi : P.info? 5 = some i) (hz : i.zero = some z)
    (hsize : i.size = 1) (hby : i.bytes = 1) (hzs : z.cells.size = 1)
    (v : Value) (n : Nat) (ys : List UInt8) (hs : a.eval s = v) (hown : w.ownsRow base 5 1 v n (u8s ys)) (ok : Nat → Prop) (A : Option Addr) (c m : Nat) (xs : List UInt8) (hm : xs.length = m) (hx : a.eval x = .slice A m c) (hr : Byt w ok A xs)
    (h63 : n + m ≤ 140737488355328) (hbase : base ≤ w.heap.size)
    (h : ∀ v' w', w'.ownsRow base 5 1 v' (n + m) (u8s (ys ++ xs)) → w.grownBy w' v.ownBlock → (v'.ownBlock = v.ownBlock ∨ v'.ownBlock = some w.heap.size) → wpList P ops Q rest (a.put o.dst v') w') :
    wpList P ops Q (o :: rest) a w := by
  subst hm
  exact wpList_append_byt w hgd s x t ho base i z ht hi hz hsize hby hzs v n ys hs hown ok A c xs hx hr h63 hbase h
theorem own_keep {w w' : World} {base n : Nat} {e : TypeId} {size : Nat} {v : Value} {xs : List Value} (h : w.ownsRow base e size v n xs) (hg : w.grownBy w' none) : w'.ownsRow base e size v n xs :=
  h.kept hg (by cases v.ownBlock <;> simp)
theorem own_grown {B w0 w' : World} {n : Nat} {e : TypeId} {size : Nat} {v : Value} {xs : List Value} (h : w0.ownsRow B.heap.size e size v n xs) (hB : B.grownBy w0 none) (hg : w0.grownBy w' v.ownBlock) : B.grownBy w' none :=
  World.grownBy.andThen hB hg (fun j hj => .inl (h.lt j hj).1)
theorem one_u8 (z : Int) : ∀ u ∈ [Value.int .u8 z], u.oneCell' = true := by
  intro u hu
  rw [List.mem_singleton] at hu
  subst hu
  rfl
/-- One byte behind a row of bytes. -/
theorem wpList_push {B w0 : World} {ops : Array Oper} {rest : List Oper} {o : Oper} {a : Act} {Q : Exit → Act → World → Prop} (hgd : o.guard = none) (s x : Operand) (ho : o.op = .call { callee := .builtin .append, args := #[s, x], argTypes := #[66, 66] })
    (v : Value) (n : Nat) (ys : List UInt8) (hs : a.eval s = v) (hown : w0.ownsRow B.heap.size 5 1 v n (u8s ys)) (hB : B.grownBy w0 none) (b : UInt8) (z : Int) (hz : z = (b.toNat : Int)) (hx : a.eval x = .slice (some ⟨w0.heap.size, 0, none⟩) 1 1) (hn : n < 1000000)
    (h : ∀ v' w', w'.ownsRow B.heap.size 5 1 v' (n + 1) (u8s (ys ++ [b])) → B.grownBy w' none → wpList Tryd.prog ops Q rest (a.put o.dst v') w') : wpList Tryd.prog ops Q (o :: rest) a (w0.alloc (.cells #[.int .u8 z] 5)) := by
  subst hz
  obtain ⟨i0, hi, hz0, hz1, hz2⟩ := info_parts Tryd.info5
  have hB1 : B.grownBy (w0.alloc (.cells #[.int .u8 (b.toNat : Int)] 5)) none := World.grownBy.trans hB (World.grownBy_alloc w0 _ none)
  have hown1 := own_keep hown (World.grownBy_alloc w0 (.cells #[.int .u8 (b.toNat : Int)] 5) none)
  refine wpList_append_own_at _ hgd s x 66 ho B.heap.size 5 i0 (.int .u8 0) 1 1 Tryd.underlying66 hi hz0 hz1 hz2 rfl Nat.one_pos v n (u8s ys) hs hown1 ⟨w0.heap.size, 0, none⟩ 1 1 [.int .u8 (b.toNat : Int)] hx rfl ?_ (one_u8 _) (by unfold maxLen; omega) (by omega) hB1.size ?_
  · intro j u hu
    obtain rfl : j = 0 := by
      have := (List.getElem?_eq_some_iff.1 hu).1
      simpa using this
    rw [Addr.add_lit]
    exact (Blk.of_alloc w0 #[.int .u8 (b.toNat : Int)] 5).get 0 _ hu
  · intro v' w' h1 h2 _ _
    refine h v' w' ?_ (own_grown hown1 hB1 h2)
    rw [u8s_append]
    exact h1
open Go.RowKit
/-- A key, filled up. -/
def kpad (key : List UInt8) : List UInt8 := (if 64 < key.length then sha256 key else key) ++ zs (64 - (if 64 < key.length then sha256 key else key).length)
theorem kpad_length (key : List UInt8) : (kpad key).length = 64 := by
  unfold kpad
  split
  · rw [List.length_append, sha256_length, zs_length]
  · rw [List.length_append, zs_length]; omega
def xr (n : UInt8) (l : List UInt8) : List UInt8 := l.map (· ^^^ n)
theorem xr_length (n : UInt8) (l : List UInt8) : (xr n l).length = l.length := by simp [xr]
/-- HMAC. -/
def hmac (key text : List UInt8) : List UInt8 := sha256 (xr 92 (kpad key) ++ sha256 (xr 54 (kpad key) ++ text))
/-- Two rows of the call's own, in blocks of their own. -/
def Two (B : World) (l : List UInt8) (v1 v2 i : Value) (wr : World) : Prop :=
  ∃ k : Nat, k ≤ 64 ∧ i = .int .i64 (k : Int) ∧ wr.ownsRow B.heap.size 5 1 v1 k (u8s (xr 54 (l.take k))) ∧ wr.ownsRow B.heap.size 5 1 v2 k (u8s (xr 92 (l.take k))) ∧ (v1.ownBlock = none ∨ v1.ownBlock ≠ v2.ownBlock) ∧ B.grownBy wr none
/-- One byte behind a row of bytes; another row stays. -/
theorem wpList_push2 {B w0 : World} {ops : Array Oper} {rest : List Oper} {o : Oper} {a : Act} {Q : Exit → Act → World → Prop} (hgd : o.guard = none) (s x : Operand) (ho : o.op = .call { callee := .builtin .append, args := #[s, x], argTypes := #[66, 66] })
    (v u : Value) (n m : Nat) (ys us : List UInt8) (hs : a.eval s = v) (hown : w0.ownsRow B.heap.size 5 1 v n (u8s ys)) (hown2 : w0.ownsRow B.heap.size 5 1 u m (u8s us)) (hne : v.ownBlock = none ∨ u.ownBlock = none ∨ v.ownBlock ≠ u.ownBlock)
    (hB : B.grownBy w0 none) (b : UInt8) (z : Int) (hz : z = (b.toNat : Int)) (hx : a.eval x = .slice (some ⟨w0.heap.size, 0, none⟩) 1 1) (hn : n < 1000000)
    (h : ∀ v' w', w'.ownsRow B.heap.size 5 1 v' (n + 1) (u8s (ys ++ [b])) → w'.ownsRow B.heap.size 5 1 u m (u8s us) → (u.ownBlock = none ∨ v'.ownBlock ≠ u.ownBlock) → B.grownBy w' none → wpList Tryd.prog ops Q rest (a.put o.dst v') w') : wpList Tryd.prog ops Q (o :: rest) a (w0.alloc (.cells #[.int .u8 z] 5)) := by
  subst hz
  obtain ⟨i0, hi, hz0, hz1, hz2⟩ := info_parts Tryd.info5
  have hB1 : B.grownBy (w0.alloc (.cells #[.int .u8 (b.toNat : Int)] 5)) none := World.grownBy.trans hB (World.grownBy_alloc w0 _ none)
  have hown1 := own_keep hown (World.grownBy_alloc w0 (.cells #[.int .u8 (b.toNat : Int)] 5) none)
  have hown3 := own_keep hown2 (World.grownBy_alloc w0 (.cells #[.int .u8 (b.toNat : Int)] 5) none)
  refine wpList_append_own_at _ hgd s x 66 ho B.heap.size 5 i0 (.int .u8 0) 1 1 Tryd.underlying66 hi hz0 hz1 hz2 rfl Nat.one_pos v n (u8s ys) hs hown1 ⟨w0.heap.size, 0, none⟩ 1 1 [.int .u8 (b.toNat : Int)] hx rfl ?_ (one_u8 _) (by unfold maxLen; omega) (by omega) hB1.size ?_
  · intro j q hq
    obtain rfl : j = 0 := by
      have := (List.getElem?_eq_some_iff.1 hq).1
      simpa using this
    rw [Addr.add_lit]
    exact (Blk.of_alloc w0 #[.int .u8 (b.toNat : Int)] 5).get 0 _ hq
  · intro v' w' h1 h2 _ h4
    have hlt := hown3.lt
    refine h v' w' (by rw [u8s_append]; exact h1) ?_ ?_ (own_grown hown1 hB1 h2)
    · refine hown3.kept h2 ?_
      rcases hne with e | e | e
      · rw [e]
        cases u.ownBlock <;> simp
      · exact .inl e
      · exact .inr (fun e2 => e e2.symm)
    · cases hu : u.ownBlock with
      | none => exact .inl rfl
      | some k =>
        refine .inr ?_
        rcases h4 with e | e
        · rw [e]
          rcases hne with e3 | e3 | e3
          · rw [e3]; simp
          · rw [hu] at e3; cases e3
          · rw [hu] at e3; exact e3
        · rw [e]
          intro e5
          have := (hlt k hu).2
          have := Option.some.inj e5
          omega
theorem made_u8' (s : Nat) : (madeCells #[Value.int .u8 0] s).toList = u8s (zs s) := by
  rw [toList_madeCells_one]
  simp [u8s, zs]
theorem u8_xor' (x : UInt8) (n : UInt8) : bits .xor .u8 (x.toNat : Int) (n.toNat : Int) = ((x ^^^ n).toNat : Int) := by
  rw [u8_xor_nat _ _ x.toNat_lt n.toNat_lt, UInt8.toNat_xor]
theorem xr_snoc (n : UInt8) (l : List UInt8) (k : Nat) (h : k < l.length) : xr n (l.take (k + 1)) = xr n (l.take k) ++ [l[k] ^^^ n] := by
  rw [List.take_succ_eq_append_getElem h, xr, List.map_append]; rfl
set_option maxRecDepth 100000 in
set_option maxHeartbeats 1600000 in
theorem refmac_short (H : HashSays) {w : World} {c1 c2 n m : Nat} {ok : Nat → Prop} {A1 A2 : Option Addr} {key text : List UInt8} (hk : Byt w ok A1 key) (ht : Byt w ok A2 text) (hok : ∀ b, ok b → b < w.heap.size) (hn : key.length = n) (hm : text.length = m) (hn2 : n ≤ 64) (hm2 : m ≤ 15000) :
    Calls Tryd.prog 36 #[.slice A1 n c1, .slice A2 m c2] w fun e w' => e = .returned (.agg (u8s (hmac key text)).toArray) ∧ w.grownBy w' none := by
  have hkp : kpad key = key ++ zs (64 - n) := by unfold kpad; rw [if_neg (by omega), hn]
  obtain ⟨i0, hi, hz0, hz1, hz2⟩ := info_parts Tryd.info5
  have HK := Lib.hid hk
  have HT := Lib.hid ht
  have HN := Lib.hid hn
  have HM := Lib.hid hm
  have HKP := Lib.hid hkp
  clear hk ht hn hm hkp
  go_enter Tryd.func36, Tryd.ntmps36
  go_wp2_with (refine wpList_alloc24 rfl rfl ?_)
  intro w1 hb1 hg1 hzz1
  go_wp2_with (with_reducible refine wpList_make_full _ rfl _ _ 66 rfl w1.heap.size 5 i0 (.int .u8 0) 1 Tryd.underlying66 hi hz0 hz1 .i64 .i64 _ _ 64 rfl rfl rfl rfl ?c1 ?c2 ?c3 ?_)
  case c1 => rw [hz2]; omega
  case c2 => unfold maxLen; omega
  case c3 => exact Nat.le_refl _
  intro w2 hown hg2
  rw [made_u8'] at hown
  have hb2 := Blk.of_owns hown
  obtain ⟨gk, hgk⟩ : ∃ gk, gk = w.heap.size + 1 := ⟨_, rfl⟩
  rw [← hgk] at hb2 ⊢
  have hg12 := World.grownBy.trans hg1 hg2
  have hb12 := hb1.grown hg2 (by simp)
  have hk2 := HK.out.grown hg12 (fun b hb => ⟨hok b hb, by simp⟩)
  have ht2 := HT.out.grown hg12 (fun b hb => ⟨hok b hb, by simp⟩)
  have hlt2 := hb2.lt
  have HB1 := Lib.hid hb12
  have HB2 := Lib.hid hb2
  have HG2 := Lib.hid hg12
  have HK2 := Lib.hid hk2
  have HT2 := Lib.hid ht2
  have HGK := Lib.hid hgk
  clear hown hb1 hb2 hg1 hg2 hg12 hb12 hk2 ht2 hgk hzz1
  go_wp2_with (refine wpList_copy_blk rfl _ _ rfl gk 0 64 64 n c1 A1 key (zs 64) rfl rfl HN.out (zs_length 64) 5 [] [] (HB2.out.to (by simp)) rfl ok HK2.out n (by rw [HN.out, zs_length]; exact Nat.min_eq_left (by omega)) ?_)
  intro w3 hb3 hg3 hz3
  have hkey : Blk w3 gk 5 (u8s (kpad key)) := hb3.to (by rw [HKP.out, lay_le _ _ (by rw [zs_length, HN.out]; exact hn2), zs_drop, HN.out])
  have hb13 := HB1.out.grown hg3 (fun e => by have := Option.some.inj e; have := HGK.out; omega)
  have hg13 : w.grownBy w3 none := World.grownBy.andThen HG2.out hg3 (by rintro _ ⟨⟩; exact .inl (by have := HGK.out; omega))
  have ht3 := HT2.out.grown hg3 (fun b hb => ⟨by have h1 := hok b hb; have h2 := HG2.out.size; omega, fun e => by have h1 := Option.some.inj e; have h2 := hok b hb; have := HGK.out; omega⟩)
  have hl3 : gk < w3.heap.size := hkey.lt
  have HKEY := Lib.hid hkey
  have HB13 := Lib.hid hb13
  have HG13 := Lib.hid hg13
  have HT3 := Lib.hid ht3
  clear hb3 hg3 hz3 hkey hb13 hg13 ht3 HB1 HB2 HG2 HK2 HT2
  go_wp2_with (fail)
  go_loopw [7, 8, 9] (fun v1 v2 i wr => Two w3 (kpad key) v1 v2 i wr) (fun _ _ i _ => 64 - (intOf i).toNat)
  case atStart => exact ⟨0, by omega, rfl, World.ownsRow_nil _ _ _ _, World.ownsRow_nil _ _ _ _, .inl rfl, World.grownBy.refl _ _⟩
  case round =>
    obtain ⟨k, hk, rfl, ho1, ho2, hne, hgr⟩ := hrel
    by_cases hlt : k < 64
    · have hkl := kpad_length key
      obtain ⟨x, hx⟩ : ∃ x, x = (kpad key)[k]'(by omega) := ⟨_, rfl⟩
      have hcx : (u8s (kpad key))[k]? = some (.int .u8 (x.toNat : Int)) := by
        unfold u8s
        rw [List.getElem?_map, List.getElem?_eq_getElem (by omega), ← hx]
        rfl
      have hc := (HKEY.out.grown hgr (by simp)).get k _ hcx
      have hs1 : xr 54 ((kpad key).take (k + 1)) = xr 54 ((kpad key).take k) ++ [x ^^^ 54] := by rw [xr_snoc 54 _ k (by omega), ← hx]
      have hs2 : xr 92 ((kpad key).take (k + 1)) = xr 92 ((kpad key).take k) ++ [x ^^^ 92] := by rw [xr_snoc 92 _ k (by omega), ← hx]
      have z1 : bits .xor .u8 (x.toNat : Int) 54 = ((x ^^^ 54).toNat : Int) := u8_xor' x 54
      have z2 : bits .xor .u8 (x.toNat : Int) 92 = ((x ^^^ 92).toNat : Int) := u8_xor' x 92
      have HO1 := Lib.hid ho1
      have HO2 := Lib.hid ho2
      have HNE := Lib.hid hne
      have HS1 := Lib.hid hs1
      have HS2 := Lib.hid hs2
      have Z1 := Lib.hid z1
      have Z2 := Lib.hid z2
      have HC2 := Lib.hid hcx
      clear ho1 ho2 hne hs1 hs2 z1 z2 hcx hx hkl
      have hkb : ∀ w', w3.grownBy w' none → w'.cell? ⟨gk, k, none⟩ = some (.int .u8 (x.toNat : Int)) := fun w' hg => (HKEY.out.grown hg (by simp)).get k _ HC2.out
      have HKB := Lib.hid hkb
      clear hkb
      have hn1 : u7.ownBlock = none ∨ u8.ownBlock = none ∨ u7.ownBlock ≠ u8.ownBlock := HNE.out.elim .inl (fun e => .inr (.inr e))
      have HN1 := Lib.hid hn1
      clear hn1
      go_wp2_with (at_builtin; refine wpList_push2 rfl _ _ rfl u7 u8 k k (xr 54 ((kpad key).take k)) (xr 92 ((kpad key).take k)) rfl HO1.out HO2.out HN1.out hgr (x ^^^ 54) _ Z1.out rfl (by omega) ?_)
      intro v1 w4 ho3 ho4 hne3 hg4
      have hc4 := HKB.out w4 hg4
      have HO3 := Lib.hid ho3
      have HO4 := Lib.hid ho4
      have hn4 : u8.ownBlock = none ∨ v1.ownBlock = none ∨ u8.ownBlock ≠ v1.ownBlock := hne3.elim .inl (fun e => .inr (.inr (fun e2 => e e2.symm)))
      have HN4 := Lib.hid hn4
      clear ho3 ho4 hne3 hn4 hc
      go_wp2_with (at_builtin; refine wpList_push2 rfl _ _ rfl u8 v1 k (k + 1) (xr 92 ((kpad key).take k)) (xr 54 ((kpad key).take k) ++ [x ^^^ 54]) rfl HO4.out HO3.out HN4.out hg4 (x ^^^ 92) _ Z2.out rfl (by omega) ?_)
      intro v2 w5 ho5 ho6 hne5 hg5
      go_wp2
      go_roundw
      case rel =>
        refine ⟨k + 1, by omega, by go_num, ?_, ?_, ?_, hg5⟩
        · rw [HS1.out]; exact ho6
        · rw [HS2.out]; exact ho5
        · exact hne5.elim .inl (fun e => .inr (fun e2 => e e2.symm))
      case measure => simp [intOf]; omega
    · have ek : k = 64 := by omega
      have hfull : (kpad key).take k = kpad key := by rw [ek, List.take_of_length_le (by rw [kpad_length]; exact Nat.le_refl _)]
      rw [hfull, ek] at ho1 ho2
      have ht4 := HT3.out.grown hgr (fun b hb => ⟨by have h1 := hok b hb; have h2 := HG13.out.size; omega, by simp⟩)
      have HO1 := Lib.hid ho1
      have HO2 := Lib.hid ho2
      have HNE := Lib.hid hne
      have HT4 := Lib.hid ht4
      clear ho1 ho2 hne ht4 hfull ek
      go_wp2_with (at_builtin; refine wpList_append_byt_n _ rfl _ _ 66 rfl w3.heap.size i0 (.int .u8 0) Tryd.underlying66 hi hz0 hz1 hz2 rfl u7 64 (xr 54 (kpad key)) rfl HO1.out ok A2 _ m text HM.out rfl HT4.out ?c4 ?c5 ?_)
      case c4 => omega
      case c5 => exact hgr.size
      intro v5 w6 ho6 hg6 hd6
      have hgr6 := own_grown HO1.out hgr hg6
      have ho26 := HO2.out.kept hg6 (HNE.out.elim (fun e => by rw [e]; cases u8.ownBlock <;> simp) (fun e => .inr (fun e2 => e e2.symm)))
      obtain ⟨A5, c5, hv5, -, -, -, hx6⟩ := own_form ho6
      have hl6 : (xr 54 (kpad key) ++ text).length = 64 + m := by rw [List.length_append, xr_length, kpad_length, HM.out]
      rw [hl6] at hv5
      have hx6' : Byt w6 (fun b => w3.heap.size ≤ b ∧ b < w6.heap.size) A5 (xr 54 (kpad key) ++ text) := hx6.imp fun b hb => hb.2
      subst hv5
      obtain ⟨inn, hinn⟩ : ∃ inn, inn = xr 54 (kpad key) ++ text := ⟨_, rfl⟩
      rw [← hinn] at hx6' hl6
      have HIN := Lib.hid hinn
      have HO26 := Lib.hid ho26
      have HX6 := Lib.hid hx6'
      have HGR6 := Lib.hid hgr6
      have HL6 := Lib.hid hl6
      clear ho6 hg6 hd6 hgr6 ho26 hx6 hx6' hl6 hinn
      have ho18 : ∀ b, (w3.heap.size ≤ b ∧ b < w6.heap.size) → b < w6.heap.size := fun b hb => hb.2
      have hm18 : 64 + m ≤ 20000 := by omega
      go_wp2_with (first
        | (go_at_call 46; refine (short_any H HX6.out ho18 HL6.out hm18).mono ?_; rintro _ w7 ⟨rfl, hg7⟩)
        | (refine wpList_alloc24 rfl rfl ?_))
      intro w8 hb8 hg8 hz8
      obtain ⟨gh, hgh⟩ : ∃ gh, gh = w7.heap.size := ⟨_, rfl⟩
      rw [← hgh] at hb8 hz8 ⊢
      have hg68 := World.grownBy.trans hg7 hg8
      have hgl : w6.heap.size ≤ gh := by rw [hgh]; exact hg7.size
      have ho28 := own_keep HO26.out hg68
      have hgr8 := World.grownBy.trans HGR6.out hg68
      have hgh2 : gh < w8.heap.size := by omega
      have h24 : ∀ w', w8.grownBy w' (some gh) → Blk w' w.heap.size 22 (u8s (zs 32)) := fun w' hg => (HB13.out.grown hgr8 (by simp)).grown hg (fun e => by have h1 := Option.some.inj e; have h2 := HGR6.out.size; have := HGK.out; omega)
      have hu8 : u8.ownBlock = none ∨ u8.ownBlock ≠ some gh := by
        cases hu : u8.ownBlock with
        | none => exact .inl rfl
        | some q => refine .inr (fun e => ?_); have h1 := (HO26.out.lt q hu).2; have h2 := Option.some.inj e; omega
      have HB8 := Lib.hid hb8
      have HO28 := Lib.hid ho28
      have HGR8 := Lib.hid hgr8
      have H24 := Lib.hid h24
      have HU8 := Lib.hid hu8
      have HGL := Lib.hid hgl
      clear hb8 hg68 ho28 hgr8 h24 hu8 hz8 hgh hg8 hg7 hgl
      go_upto_region 15 with (refine wpList_store_row rfl 22 _ _ rfl gh (u8s (sha256 inn)).toArray rfl rfl 22 _ HB8.out (by rw [size24, List.size_toArray, u8s_length, sha256_length]) (by simp [u8s_length, sha256_length, zs_length]) (all_oneCell_toArray (u8s_one _)) ?_)
      obtain ⟨w9, hw9⟩ : ∃ w9, w9 = w8.setRow gh (u8s (sha256 inn)).toArray := ⟨_, rfl⟩
      rw [← hw9]
      have hg9 : w8.grownBy w9 (some gh) := by rw [hw9]; exact grown_setRow _ _ _
      have hb9 : Blk w9 gh 22 (u8s (sha256 inn)) := by rw [hw9]; exact Blk.setRow HB8.out
      have hx9 : Byt w9 (fun b => b = gh) (some ⟨gh, 0, none⟩) (sha256 inn) := (hb9.to (by rw [List.append_nil]; rfl)).byt (pre := []) (post := []) rfl
      have ho29 := HO28.out.kept hg9 HU8.out
      have hb249 := H24.out w9 hg9
      have hgr9 : w3.grownBy w9 none := World.grownBy.andThen HGR8.out hg9 (by rintro _ ⟨⟩; exact .inl (by have h1 := HGR6.out.size; have := HGL.out; omega))
      have HX9 := Lib.hid hx9
      have HO29 := Lib.hid ho29
      have HB249 := Lib.hid hb249
      have HGR9 := Lib.hid hgr9
      clear hw9 hg9 hb9 hx9 ho29 hb249 hgr9 HB8 HO28 HGR8 H24 HU8
      go_wp2_with (at_builtin; (refine wpList_append_byt_n _ rfl _ _ 66 rfl w3.heap.size i0 (.int .u8 0) Tryd.underlying66 hi hz0 hz1 hz2 rfl u8 64 (xr 92 (kpad key)) rfl HO29.out (fun b => b = gh) (some ⟨gh, 0, none⟩) 32 32 (sha256 inn) (sha256_length inn) rfl HX9.out ?c6 ?c7 ?_))
      case c6 => omega
      case c7 => exact HGR9.out.size
      intro v10 w10 ho10 hg10 _
      have hgr10 := own_grown HO29.out HGR9.out hg10
      have hb2410 : Blk w10 w.heap.size 22 (u8s (zs 32)) := by
        refine HB249.out.grown hg10 (fun e => ?_)
        have h1 := (HO29.out.lt _ e.symm).1
        have := HGK.out
        omega
      obtain ⟨A10, c10, hv10, -, -, -, hx10⟩ := own_form ho10
      have hl10 : (xr 92 (kpad key) ++ sha256 inn).length = 96 := by rw [List.length_append, xr_length, kpad_length, sha256_length]
      rw [hl10] at hv10
      have hx10' : Byt w10 (fun b => w3.heap.size ≤ b ∧ b < w10.heap.size) A10 (xr 92 (kpad key) ++ sha256 inn) := hx10.imp fun b hb => hb.2
      subst hv10
      have hfin : sha256 (xr 92 (kpad key) ++ sha256 inn) = hmac key text := by rw [HIN.out]; rfl
      obtain ⟨outt, hout⟩ : ∃ outt, outt = xr 92 (kpad key) ++ sha256 inn := ⟨_, rfl⟩
      rw [← hout] at hx10' hl10 hfin
      have HX10 := Lib.hid hx10'
      have HL10 := Lib.hid hl10
      have HFIN := Lib.hid hfin
      have HGR10 := Lib.hid hgr10
      have HB10 := Lib.hid hb2410
      clear ho10 hg10 hx10 hx10' hl10 hfin hgr10 hb2410 hout HX9 HO29 HB249 HGR9 HX6 HIN HL6
      have ho10 : ∀ b, (w3.heap.size ≤ b ∧ b < w10.heap.size) → b < w10.heap.size := fun b hb => hb.2
      go_wp2_with (first
        | (go_at_call 46; refine (short_any H HX10.out ho10 HL10.out (by omega)).mono ?_; rintro _ w11 ⟨rfl, hg11⟩)
        | (refine wpList_store_row rfl 22 _ _ rfl w.heap.size (u8s (sha256 outt)).toArray rfl rfl 22 _ (HB10.out.grown hg11 (by simp)) (by rw [size24, List.size_toArray, u8s_length, sha256_length]) (by simp [u8s_length, sha256_length, zs_length]) (all_oneCell_toArray (u8s_one _)) ?_))
      have hb11 := HB10.out.grown hg11 (by simp)
      refine bodyPost_ret (results_cell_row rfl _ _ w.heap.size 22 (u8s (sha256 outt)).toArray (0, 0) _ rfl (setRow_heap w11 w.heap.size _ _ 22 (0, 0) hb11) Tryd.underlying22 rfl (by rw [size24, List.size_toArray, u8s_length, sha256_length])) rfl ⟨by rw [HFIN.out], ?_⟩
      exact World.grownBy.andThen (World.grownBy.trans (World.grownBy.trans HG13.out HGR10.out) hg11) (grown_setRow _ _ _) (by rintro _ ⟨⟩; exact .inl (Nat.le_refl _))
set_option maxRecDepth 100000 in
set_option maxHeartbeats 3200000 in
theorem refmac_long (H : HashSays) {w : World} {c1 c2 n m : Nat} {ok : Nat → Prop} {A1 A2 : Option Addr} {key text : List UInt8} (hk : Byt w ok A1 key) (ht : Byt w ok A2 text) (hok : ∀ b, ok b → b < w.heap.size) (hn : key.length = n) (hm : text.length = m) (hn2 : 64 < n) (hn3 : n ≤ 20000) (hm2 : m ≤ 15000) :
    Calls Tryd.prog 36 #[.slice A1 n c1, .slice A2 m c2] w fun e w' => e = .returned (.agg (u8s (hmac key text)).toArray) ∧ w.grownBy w' none := by
  have hkp : kpad key = sha256 key ++ zs 32 := by unfold kpad; rw [if_pos (by omega), sha256_length]
  obtain ⟨i0, hi, hz0, hz1, hz2⟩ := info_parts Tryd.info5
  have HK := Lib.hid hk
  have HT := Lib.hid ht
  have HN := Lib.hid hn
  have HM := Lib.hid hm
  have HKP := Lib.hid hkp
  clear hk ht hn hm hkp
  go_enter Tryd.func36, Tryd.ntmps36
  go_wp2_with (refine wpList_alloc24 rfl rfl ?_)
  intro w1 hb1 hg1 hzz1
  go_wp2_with (with_reducible refine wpList_make_full _ rfl _ _ 66 rfl w1.heap.size 5 i0 (.int .u8 0) 1 Tryd.underlying66 hi hz0 hz1 .i64 .i64 _ _ 64 rfl rfl rfl rfl ?c1 ?c2 ?c3 ?_)
  case c1 => rw [hz2]; omega
  case c2 => unfold maxLen; omega
  case c3 => exact Nat.le_refl _
  intro w2 hown hg2
  rw [made_u8'] at hown
  have hb2 := Blk.of_owns hown
  obtain ⟨g0, hg0⟩ : ∃ g0, g0 = w.heap.size + 1 := ⟨_, rfl⟩
  rw [← hg0] at hb2 ⊢
  have hg12 := World.grownBy.trans hg1 hg2
  have hb12 := hb1.grown hg2 (by simp)
  have hk2 := HK.out.grown hg12 (fun b hb => ⟨hok b hb, by simp⟩)
  have HB1 := Lib.hid hb12
  have HB2 := Lib.hid hb2
  have HG2 := Lib.hid hg12
  have HK2 := Lib.hid hk2
  have HGK0 := Lib.hid hg0
  clear hown hb1 hb2 hg1 hg2 hg12 hb12 hk2 hg0 hzz1
  go_upto_region 3 with (refine wpList_copy_blk rfl _ _ rfl g0 0 64 64 n c1 A1 key (zs 64) rfl rfl HN.out (zs_length 64) 5 [] [] (HB2.out.to (by simp)) rfl ok HK2.out 64 (by rw [HN.out, zs_length]; exact Nat.min_eq_right (by omega)) ?_; intro y3 hb3 hg3 hz3)
  have hyg : w.grownBy y3 none := World.grownBy.andThen HG2.out hg3 (by rintro _ ⟨⟩; exact .inl (by have := HGK0.out; omega))
  have hyb := HB1.out.grown hg3 (fun e => by have := Option.some.inj e; have := HGK0.out; omega)
  have hk3 := HK.out.grown hyg (fun b hb => ⟨hok b hb, by simp⟩)
  have ho3 : ∀ b, ok b → b < y3.heap.size := fun b hb => Nat.lt_of_lt_of_le (hok b hb) hyg.size
  have HYG := Lib.hid hyg
  have HYB := Lib.hid hyb
  have HK3 := Lib.hid hk3
  have HO3 := Lib.hid ho3
  clear hyg hyb hk3 ho3 hb3 hg3 hz3 HB1 HB2 HG2 HK2
  go_upto_region 5 with (first
    | (go_at_call 46; refine (short_any H HK3.out HO3.out HN.out hn3).mono ?_; rintro _ y4 ⟨rfl, hg4⟩)
    | (refine wpList_alloc24 rfl rfl ?_; intro y5 hb5 hg5 hz5)
    | (refine wpList_store_row rfl 22 _ _ rfl y4.heap.size (u8s (sha256 key)).toArray rfl rfl 22 _ hb5 (by rw [size24, List.size_toArray, u8s_length, sha256_length]) (by simp [u8s_length, sha256_length, zs_length]) (all_oneCell_toArray (u8s_one _)) ?_))
  obtain ⟨y6, hy6⟩ : ∃ y6, y6 = y5.setRow y4.heap.size (u8s (sha256 key)).toArray := ⟨_, rfl⟩
  rw [← hy6]
  obtain ⟨gz, hgz⟩ : ∃ gz, gz = y4.heap.size := ⟨_, rfl⟩
  rw [← hgz] at hb5 hy6 hz5 ⊢
  have hg6 : y5.grownBy y6 (some gz) := by rw [hy6]; exact grown_setRow _ _ _
  have hb6 : Blk y6 gz 22 (u8s (sha256 key)) := by rw [hy6]; exact Blk.setRow hb5
  have hy4 := hg4.size
  have hy3 := HYG.out.size
  have hg36 : y3.grownBy y6 none := World.grownBy.andThen (World.grownBy.trans hg4 hg5) hg6 (by rintro _ ⟨⟩; exact .inl (by omega))
  have hgs6 := hg36.size
  have hgl6 : gz < y6.heap.size := hb6.lt
  have HG36 := Lib.hid hg36
  have HB6 := Lib.hid hb6
  have HGZ := Lib.hid hgz
  clear hb5 hy6 hz5 hg6 hb6 hg36 hg4 hg5 hgz
  go_wp2_with (with_reducible refine wpList_make_full _ rfl _ _ 66 rfl y6.heap.size 5 i0 (.int .u8 0) 1 Tryd.underlying66 hi hz0 hz1 .i64 .i64 _ _ 64 rfl rfl rfl rfl ?c4 ?c5 ?c6 ?_)
  case c4 => rw [hz2]; omega
  case c5 => unfold maxLen; omega
  case c6 => exact Nat.le_refl _
  intro y7 hown7 hg7
  rw [made_u8'] at hown7
  have hb7 := Blk.of_owns hown7
  obtain ⟨gk, hgk⟩ : ∃ gk, gk = y6.heap.size := ⟨_, rfl⟩
  rw [← hgk] at hb7 ⊢
  have hbz7 := HB6.out.grown hg7 (by simp)
  have hxz7 : Byt y7 (fun b => b = gz) (some ⟨gz, 0, none⟩) (sha256 key) := (hbz7.to (by rw [List.append_nil]; rfl)).byt (pre := []) (post := []) rfl
  have HB7 := Lib.hid hb7
  have HX7 := Lib.hid hxz7
  have HG7 := Lib.hid hg7
  have hl7 := hb7.lt
  have HGK : Hid (w.heap.size + 1 ≤ gk) := Lib.hid (by have h0 := HGZ.out; omega)
  have HGKE := Lib.hid hgk
  clear hown7 hb7 hbz7 hxz7 hg7 hgk
  go_wp2_with (refine wpList_copy_blk rfl _ _ rfl gk 0 64 64 32 32 (some ⟨gz, 0, none⟩) (sha256 key) (zs 64) rfl rfl (sha256_length key) (zs_length 64) 5 [] [] (HB7.out.to (by simp)) rfl _ HX7.out 32 (by rw [sha256_length, zs_length]; rfl) ?_)
  intro w3 hb3 hg3 hz3
  have hkey : Blk w3 gk 5 (u8s (kpad key)) := hb3.to (by rw [HKP.out, lay_le _ _ (by rw [zs_length, sha256_length]; decide), zs_drop, sha256_length])
  have hg37 := World.grownBy.trans HG36.out HG7.out
  have hg33 : y3.grownBy w3 none := World.grownBy.andThen hg37 hg3 (by rintro _ ⟨⟩; exact .inl (by have := HGKE.out; omega))
  have hb13 := HYB.out.grown hg33 (by simp)
  have hg13 : w.grownBy w3 none := World.grownBy.trans HYG.out hg33
  have ht3 := HT.out.grown hg13 (fun b hb => ⟨hok b hb, by simp⟩)
  have hl3 : gk < w3.heap.size := hkey.lt
  have HKEY := Lib.hid hkey
  have HB13 := Lib.hid hb13
  have HG13 := Lib.hid hg13
  have HT3 := Lib.hid ht3
  clear hb3 hg3 hz3 hkey hb13 hg13 ht3 hg37 hg33 hy3 hy4 hgs6 hgl6 hl7
  go_wp2_with (fail)
  go_loopw [7, 8, 9] (fun v1 v2 i wr => Two w3 (kpad key) v1 v2 i wr) (fun _ _ i _ => 64 - (intOf i).toNat)
  case atStart => exact ⟨0, by omega, rfl, World.ownsRow_nil _ _ _ _, World.ownsRow_nil _ _ _ _, .inl rfl, World.grownBy.refl _ _⟩
  case round =>
    obtain ⟨k, hk, rfl, ho1, ho2, hne, hgr⟩ := hrel
    by_cases hlt : k < 64
    · have hkl := kpad_length key
      obtain ⟨x, hx⟩ : ∃ x, x = (kpad key)[k]'(by omega) := ⟨_, rfl⟩
      have hcx : (u8s (kpad key))[k]? = some (.int .u8 (x.toNat : Int)) := by
        unfold u8s
        rw [List.getElem?_map, List.getElem?_eq_getElem (by omega), ← hx]
        rfl
      have hc := (HKEY.out.grown hgr (by simp)).get k _ hcx
      have hs1 : xr 54 ((kpad key).take (k + 1)) = xr 54 ((kpad key).take k) ++ [x ^^^ 54] := by rw [xr_snoc 54 _ k (by omega), ← hx]
      have hs2 : xr 92 ((kpad key).take (k + 1)) = xr 92 ((kpad key).take k) ++ [x ^^^ 92] := by rw [xr_snoc 92 _ k (by omega), ← hx]
      have z1 : bits .xor .u8 (x.toNat : Int) 54 = ((x ^^^ 54).toNat : Int) := u8_xor' x 54
      have z2 : bits .xor .u8 (x.toNat : Int) 92 = ((x ^^^ 92).toNat : Int) := u8_xor' x 92
      have HO1 := Lib.hid ho1
      have HO2 := Lib.hid ho2
      have HNE := Lib.hid hne
      have HS1 := Lib.hid hs1
      have HS2 := Lib.hid hs2
      have Z1 := Lib.hid z1
      have Z2 := Lib.hid z2
      have HC2 := Lib.hid hcx
      clear ho1 ho2 hne hs1 hs2 z1 z2 hcx hx hkl
      have hkb : ∀ w', w3.grownBy w' none → w'.cell? ⟨gk, k, none⟩ = some (.int .u8 (x.toNat : Int)) := fun w' hg => (HKEY.out.grown hg (by simp)).get k _ HC2.out
      have HKB := Lib.hid hkb
      clear hkb
      have hn1 : u7.ownBlock = none ∨ u8.ownBlock = none ∨ u7.ownBlock ≠ u8.ownBlock := HNE.out.elim .inl (fun e => .inr (.inr e))
      have HN1 := Lib.hid hn1
      clear hn1
      go_wp2_with (at_builtin; refine wpList_push2 rfl _ _ rfl u7 u8 k k (xr 54 ((kpad key).take k)) (xr 92 ((kpad key).take k)) rfl HO1.out HO2.out HN1.out hgr (x ^^^ 54) _ Z1.out rfl (by omega) ?_)
      intro v1 w4 ho3 ho4 hne3 hg4
      have hc4 := HKB.out w4 hg4
      have HO3 := Lib.hid ho3
      have HO4 := Lib.hid ho4
      have hn4 : u8.ownBlock = none ∨ v1.ownBlock = none ∨ u8.ownBlock ≠ v1.ownBlock := hne3.elim .inl (fun e => .inr (.inr (fun e2 => e e2.symm)))
      have HN4 := Lib.hid hn4
      clear ho3 ho4 hne3 hn4 hc
      go_wp2_with (at_builtin; refine wpList_push2 rfl _ _ rfl u8 v1 k (k + 1) (xr 92 ((kpad key).take k)) (xr 54 ((kpad key).take k) ++ [x ^^^ 54]) rfl HO4.out HO3.out HN4.out hg4 (x ^^^ 92) _ Z2.out rfl (by omega) ?_)
      intro v2 w5 ho5 ho6 hne5 hg5
      go_wp2
      go_roundw
      case rel =>
        refine ⟨k + 1, by omega, by go_num, ?_, ?_, ?_, hg5⟩
        · rw [HS1.out]; exact ho6
        · rw [HS2.out]; exact ho5
        · exact hne5.elim .inl (fun e => .inr (fun e2 => e e2.symm))
      case measure => simp [intOf]; omega
    · have ek : k = 64 := by omega
      have hfull : (kpad key).take k = kpad key := by rw [ek, List.take_of_length_le (by rw [kpad_length]; exact Nat.le_refl _)]
      rw [hfull, ek] at ho1 ho2
      have ht4 := HT3.out.grown hgr (fun b hb => ⟨by have h1 := hok b hb; have h2 := HG13.out.size; omega, by simp⟩)
      have HO1 := Lib.hid ho1
      have HO2 := Lib.hid ho2
      have HNE := Lib.hid hne
      have HT4 := Lib.hid ht4
      clear ho1 ho2 hne ht4 hfull ek
      go_wp2_with (at_builtin; refine wpList_append_byt_n _ rfl _ _ 66 rfl w3.heap.size i0 (.int .u8 0) Tryd.underlying66 hi hz0 hz1 hz2 rfl u7 64 (xr 54 (kpad key)) rfl HO1.out ok A2 _ m text HM.out rfl HT4.out ?c4 ?c5 ?_)
      case c4 => omega
      case c5 => exact hgr.size
      intro v5 w6 ho6 hg6 hd6
      have hgr6 := own_grown HO1.out hgr hg6
      have ho26 := HO2.out.kept hg6 (HNE.out.elim (fun e => by rw [e]; cases u8.ownBlock <;> simp) (fun e => .inr (fun e2 => e e2.symm)))
      obtain ⟨A5, c5, hv5, -, -, -, hx6⟩ := own_form ho6
      have hl6 : (xr 54 (kpad key) ++ text).length = 64 + m := by rw [List.length_append, xr_length, kpad_length, HM.out]
      rw [hl6] at hv5
      have hx6' : Byt w6 (fun b => w3.heap.size ≤ b ∧ b < w6.heap.size) A5 (xr 54 (kpad key) ++ text) := hx6.imp fun b hb => hb.2
      subst hv5
      obtain ⟨inn, hinn⟩ : ∃ inn, inn = xr 54 (kpad key) ++ text := ⟨_, rfl⟩
      rw [← hinn] at hx6' hl6
      have HIN := Lib.hid hinn
      have HO26 := Lib.hid ho26
      have HX6 := Lib.hid hx6'
      have HGR6 := Lib.hid hgr6
      have HL6 := Lib.hid hl6
      clear ho6 hg6 hd6 hgr6 ho26 hx6 hx6' hl6 hinn
      have ho18 : ∀ b, (w3.heap.size ≤ b ∧ b < w6.heap.size) → b < w6.heap.size := fun b hb => hb.2
      have hm18 : 64 + m ≤ 20000 := by omega
      go_wp2_with (first
        | (go_at_call 46; refine (short_any H HX6.out ho18 HL6.out hm18).mono ?_; rintro _ w7 ⟨rfl, hg7⟩)
        | (refine wpList_alloc24 rfl rfl ?_))
      intro w8 hb8 hg8 hz8
      obtain ⟨gh, hgh⟩ : ∃ gh, gh = w7.heap.size := ⟨_, rfl⟩
      rw [← hgh] at hb8 hz8 ⊢
      have hg68 := World.grownBy.trans hg7 hg8
      have hgl : w6.heap.size ≤ gh := by rw [hgh]; exact hg7.size
      have ho28 := own_keep HO26.out hg68
      have hgr8 := World.grownBy.trans HGR6.out hg68
      have hgh2 : gh < w8.heap.size := by omega
      have h24 : ∀ w', w8.grownBy w' (some gh) → Blk w' w.heap.size 22 (u8s (zs 32)) := fun w' hg => (HB13.out.grown hgr8 (by simp)).grown hg (fun e => by have h1 := Option.some.inj e; have h2 := HGR6.out.size; have := HGK.out; omega)
      have hu8 : u8.ownBlock = none ∨ u8.ownBlock ≠ some gh := by
        cases hu : u8.ownBlock with
        | none => exact .inl rfl
        | some q => refine .inr (fun e => ?_); have h1 := (HO26.out.lt q hu).2; have h2 := Option.some.inj e; omega
      have HB8 := Lib.hid hb8
      have HO28 := Lib.hid ho28
      have HGR8 := Lib.hid hgr8
      have H24 := Lib.hid h24
      have HU8 := Lib.hid hu8
      have HGL := Lib.hid hgl
      clear hb8 hg68 ho28 hgr8 h24 hu8 hz8 hgh hg8 hg7 hgl
      go_upto_region 15 with (refine wpList_store_row rfl 22 _ _ rfl gh (u8s (sha256 inn)).toArray rfl rfl 22 _ HB8.out (by rw [size24, List.size_toArray, u8s_length, sha256_length]) (by simp [u8s_length, sha256_length, zs_length]) (all_oneCell_toArray (u8s_one _)) ?_)
      obtain ⟨w9, hw9⟩ : ∃ w9, w9 = w8.setRow gh (u8s (sha256 inn)).toArray := ⟨_, rfl⟩
      rw [← hw9]
      have hg9 : w8.grownBy w9 (some gh) := by rw [hw9]; exact grown_setRow _ _ _
      have hb9 : Blk w9 gh 22 (u8s (sha256 inn)) := by rw [hw9]; exact Blk.setRow HB8.out
      have hx9 : Byt w9 (fun b => b = gh) (some ⟨gh, 0, none⟩) (sha256 inn) := (hb9.to (by rw [List.append_nil]; rfl)).byt (pre := []) (post := []) rfl
      have ho29 := HO28.out.kept hg9 HU8.out
      have hb249 := H24.out w9 hg9
      have hgr9 : w3.grownBy w9 none := World.grownBy.andThen HGR8.out hg9 (by rintro _ ⟨⟩; exact .inl (by have h1 := HGR6.out.size; have := HGL.out; omega))
      have HX9 := Lib.hid hx9
      have HO29 := Lib.hid ho29
      have HB249 := Lib.hid hb249
      have HGR9 := Lib.hid hgr9
      clear hw9 hg9 hb9 hx9 ho29 hb249 hgr9 HB8 HO28 HGR8 H24 HU8
      go_wp2_with (at_builtin; (refine wpList_append_byt_n _ rfl _ _ 66 rfl w3.heap.size i0 (.int .u8 0) Tryd.underlying66 hi hz0 hz1 hz2 rfl u8 64 (xr 92 (kpad key)) rfl HO29.out (fun b => b = gh) (some ⟨gh, 0, none⟩) 32 32 (sha256 inn) (sha256_length inn) rfl HX9.out ?c6 ?c7 ?_))
      case c6 => omega
      case c7 => exact HGR9.out.size
      intro v10 w10 ho10 hg10 _
      have hgr10 := own_grown HO29.out HGR9.out hg10
      have hb2410 : Blk w10 w.heap.size 22 (u8s (zs 32)) := by
        refine HB249.out.grown hg10 (fun e => ?_)
        have h1 := (HO29.out.lt _ e.symm).1
        have := HGK.out
        omega
      obtain ⟨A10, c10, hv10, -, -, -, hx10⟩ := own_form ho10
      have hl10 : (xr 92 (kpad key) ++ sha256 inn).length = 96 := by rw [List.length_append, xr_length, kpad_length, sha256_length]
      rw [hl10] at hv10
      have hx10' : Byt w10 (fun b => w3.heap.size ≤ b ∧ b < w10.heap.size) A10 (xr 92 (kpad key) ++ sha256 inn) := hx10.imp fun b hb => hb.2
      subst hv10
      have hfin : sha256 (xr 92 (kpad key) ++ sha256 inn) = hmac key text := by rw [HIN.out]; rfl
      obtain ⟨outt, hout⟩ : ∃ outt, outt = xr 92 (kpad key) ++ sha256 inn := ⟨_, rfl⟩
      rw [← hout] at hx10' hl10 hfin
      have HX10 := Lib.hid hx10'
      have HL10 := Lib.hid hl10
      have HFIN := Lib.hid hfin
      have HGR10 := Lib.hid hgr10
      have HB10 := Lib.hid hb2410
      clear ho10 hg10 hx10 hx10' hl10 hfin hgr10 hb2410 hout HX9 HO29 HB249 HGR9 HX6 HIN HL6
      have ho10 : ∀ b, (w3.heap.size ≤ b ∧ b < w10.heap.size) → b < w10.heap.size := fun b hb => hb.2
      go_wp2_with (first
        | (go_at_call 46; refine (short_any H HX10.out ho10 HL10.out (by omega)).mono ?_; rintro _ w11 ⟨rfl, hg11⟩)
        | (refine wpList_store_row rfl 22 _ _ rfl w.heap.size (u8s (sha256 outt)).toArray rfl rfl 22 _ (HB10.out.grown hg11 (by simp)) (by rw [size24, List.size_toArray, u8s_length, sha256_length]) (by simp [u8s_length, sha256_length, zs_length]) (all_oneCell_toArray (u8s_one _)) ?_))
      have hb11 := HB10.out.grown hg11 (by simp)
      refine bodyPost_ret (results_cell_row rfl _ _ w.heap.size 22 (u8s (sha256 outt)).toArray (0, 0) _ rfl (setRow_heap w11 w.heap.size _ _ 22 (0, 0) hb11) Tryd.underlying22 rfl (by rw [size24, List.size_toArray, u8s_length, sha256_length])) rfl ⟨by rw [HFIN.out], ?_⟩
      exact World.grownBy.andThen (World.grownBy.trans (World.grownBy.trans HG13.out HGR10.out) hg11) (grown_setRow _ _ _) (by rintro _ ⟨⟩; exact .inl (Nat.le_refl _))
/-- The reference's HMAC is HMAC, whatever the key and the text are. -/
theorem refmac_any (H : HashSays) {w : World} {c1 c2 n m : Nat} {ok : Nat → Prop} {A1 A2 : Option Addr} {key text : List UInt8} (hk : Byt w ok A1 key) (ht : Byt w ok A2 text) (hok : ∀ b, ok b → b < w.heap.size) (hn : key.length = n) (hm : text.length = m) (hn3 : n ≤ 20000) (hm2 : m ≤ 15000) :
    Calls Tryd.prog 36 #[.slice A1 n c1, .slice A2 m c2] w fun e w' => e = .returned (.agg (u8s (hmac key text)).toArray) ∧ w.grownBy w' none := by
  by_cases h : n ≤ 64
  · exact refmac_short H hk ht hok hn hm h hm2
  · exact refmac_long H hk ht hok hn hm (by omega) hn3 hm2
end Go.Proofs.YtdnkeaokgkiloaaDoor.S
