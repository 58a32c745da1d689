/- The reference's S, long, Num, All; a row of bytes that grows. Conditions: numbers that have room, at most a million bytes. -/
import Derived.Test.YtonpcenjipigpaaGreatZ8
import Derived.Test.YtonpcenjipigpaaGreatZ10
namespace Go.Proofs.YtonpcenjipigpaaGreat
open Go.RowKit
set_option maxRecDepth 100000 in
theorem rS_any {w : World} {ok : Nat → Prop} {A : Option Addr} {xs : List UInt8} {n c : Nat} (hx : Byt w ok A xs) (hn : xs.length = n) (hm : n ≤ 1048576) : Calls Tryz.prog 61 #[.slice A n c] w fun e w' => e = .returned (.int .i64 (sumS xs : Nat)) ∧ w = w' := by
  subst hn
  go_enter Tryz.func61, Tryz.ntmps61
  go_wp2
  go_loop [3, 4] (fun s i => ∃ k : Nat, k ≤ xs.length ∧ i = .int .i64 k ∧ s = .int .i64 (sumTo xs k : Nat)) (fun _ i => xs.length - (intOf i).toNat)
  case atStart => exact ⟨0, Nat.zero_le _, rfl, rfl⟩
  case round =>
    obtain ⟨k, hk, rfl, rfl⟩ := hrel
    have hs := sumTo_lt xs k
    by_cases hlt : k < xs.length
    · obtain ⟨ad, rfl, _, hc⟩ := hx k hlt
      have hx8 : xs[k].toNat ≤ 255 := by have := xs[k].toNat_lt; omega
      have he : sumTo xs (k + 1) = (sumTo xs k + (k + 1) * xs[k].toNat) % 2147483647 := by
        rw [sumTo, List.getD_eq_getElem?_getD, List.getElem?_eq_getElem hlt]; rfl
      obtain ⟨x, hxx⟩ : ∃ x, x = xs[k].toNat := ⟨_, rfl⟩
      rw [← hxx] at hc hx8 he
      have hp : (k + 1) * x ≤ 1048576 * 255 := Nat.mul_le_mul (by omega) hx8
      have hpe : ((k : Int) + 1) * (x : Int) = (((k + 1) * x : Nat) : Int) := by simp
      have hpi : ((k : Int) + 1) * (x : Int) ≤ 267386880 := by rw [hpe]; omega
      have hp0 : (0 : Int) ≤ ((k : Int) + 1) * (x : Int) := Int.mul_nonneg (by omega) (by omega)
      clear hxx
      have HE := Lib.hid he
      have HP := Lib.hid hpe
      have hrem : ((sumTo xs k : Nat) + ((k : Int) + 1) * (x : Int)).tmod 2147483647 = ((sumTo xs (k + 1) : Nat) : Int) := by
        rw [Int.tmod_eq_emod_of_nonneg (by omega), he, hpe]
        omega
      clear hp he hpe
      go_wp2
      go_round
      case rel => exact ⟨k + 1, by omega, by go_num, by first | rfl | (rw [HE.out, HP.out]; congr 1) | (congr 1)⟩
      case measure => simp [intOf]; omega
    · obtain rfl : k = xs.length := by omega
      go_wp2
      go_ret
      exact ⟨rfl, rfl⟩
theorem long_any (n : Nat) (w : World) (hn : n < 18446744073709551616) : Calls Tryz.prog 59 #[.int .u64 (n : Int)] w (NewB w (be 8 n)) := by
  have hc := refput_any n 8 w (by decide) (by decide) hn
  go_enter Tryz.func59, Tryz.ntmps59
  go_wp2_with (go_at_call 84; refine hc.mono ?_; rintro _ w1 (⟨-, A, c, rfl, h1, h2, h3, h4⟩ | ⟨h, -, -⟩); rotate_left; (exact absurd h (by omega)))
  go_ret
  exact ⟨A, c, rfl, h1, h2, h3, h4⟩
end Go.Proofs.YtonpcenjipigpaaGreat
/- The reference's Num of four bytes, All. Conditions: numbers that have room, texts that do. -/
namespace Go.Proofs.YtonpcenjipigpaaGreat
open Go.RowKit
set_option maxRecDepth 100000 in
set_option maxHeartbeats 800000 in
theorem refput_own (n s : Nat) (w : World) (h1 : 1 ≤ s) (h8 : s ≤ 8) (h64 : n < 18446744073709551616) (hfit : n < 256 ^ s) :
    Calls Tryz.prog 84 #[.int .u64 n, .int .i64 s] w fun e w' => ∃ v, e = .returned (.tuple #[v, .bool true]) ∧ w'.ownsRow w.heap.size 5 1 v (be s n).length (u8s (be s n)) ∧ Below w.heap.size w w' := by
  have HF := Lib.hid hfit
  clear hfit
  have d1 : decide ((s : Int) < 1) = false := by simp; omega
  have d2 : decide (8 < (s : Int)) = false := by simp; omega
  obtain ⟨i0, hi, hz0, hz1, hz2⟩ := info_parts Tryz.info5
  go_enter Tryz.func84, Tryz.ntmps84
  go_wp2_with (with_reducible refine wpList_make_full _ rfl _ _ 40 rfl w.heap.size 5 i0 (.int .u8 0) 1 Tryz.underlying40 hi hz0 hz1 .i64 .i64 _ _ s rfl rfl rfl rfl ?c1 ?c2 ?c3 ?_)
  case c1 => rw [hz2]; omega
  case c2 => unfold maxLen; omega
  case c3 => exact Nat.le_refl _
  intro w1 hown hgrow
  rw [made_u8, ← part_zero s n] at hown
  have hb1 : Below w.heap.size w w1 := (Below.refl _ _).grown hgrow (Nat.le_refl _) (fun _ h => by cases h)
  go_wp2
  go_loopw [0, 7] (fun m i wr => ∃ k : Nat, k ≤ s ∧ i = .int .i64 ((s : Int) - 1 - k) ∧ m = .int .u64 ((n / 256 ^ k : Nat) : Int) ∧ wr.ownsRow w.heap.size 5 1 (.slice (some ⟨w.heap.size, 0, none⟩) s s) s (u8s (part s n k)) ∧ Below w.heap.size w wr) (fun _ i _ => (intOf i + 1).toNat)
  case atStart => exact ⟨0, Nat.zero_le _, by simp, by simp, hown, hb1⟩
  case round =>
    obtain ⟨k, hk, rfl, rfl, ho, hb⟩ := hrel
    clear hown hgrow hb1
    obtain ⟨q, hq⟩ : ∃ q, n / 256 ^ k = q := ⟨_, rfl⟩
    have hq64 : q ≤ 18446744073709551615 := by rw [← hq]; exact Nat.le_trans (Nat.div_le_self _ _) (by omega)
    have hq256 : n / 256 ^ (k + 1) = q / 256 := by rw [← hq, Nat.pow_succ, Nat.div_div_eq_div_mul]
    rw [hq]
    have HQ := Lib.hid hq
    have HR := Lib.hid hq256
    clear hq hq256
    by_cases hlt : k < s
    · have hc : wr.cell? ⟨w.heap.size, s - 1 - k, none⟩ = some (.int .u8 ((part s n k)[s - 1 - k]'(by rw [part_length]; omega)).toNat) := by
        rw [ho.cellAt (s - 1 - k) (by omega)]
        unfold u8s
        rw [List.getElem?_map, List.getElem?_eq_getElem (by rw [part_length]; omega)]
        rfl
      have hf := ho.frozenAt (s - 1 - k)
      go_wp2
      go_roundw
      case rel =>
        refine ⟨k + 1, by omega, by go_num, by rw [HR.out]; go_num, ?_, hb.setCell (Nat.le_refl _) _⟩
        have hs := (ho.stored (s - 1 - k) (.int .u8 ((UInt8.ofNat (n / 256 ^ k)).toNat : Int))).1
        rw [u8s_set, part_step s n k hlt, u8_ofNat, HQ.out] at hs
        exact hs
      case measure => simp [intOf]; omega
    · obtain rfl : k = s := by omega
      rw [part_all] at ho
      obtain ⟨-, -, h4, h5⟩ := Byt.of_own ho
      have hl := be_length k n
      by_cases h0 : n < 256 ^ k
      · have e0 : q = 0 := by rw [← HQ.out]; exact Nat.div_eq_of_lt h0
        subst e0
        go_wp2
        go_ret2
        rw [← hl] at ho
        rw [hl] at ho
        exact ⟨_, rfl, by rw [hl]; exact ho, hb⟩
      · exact absurd HF.out h0
set_option maxRecDepth 100000 in
theorem num4_any (n : Nat) (w : World) (hn : n < 4294967296) : Calls Tryz.prog 60 #[.int .i64 n, .int .i64 4] w (OwnB w (be 4 n)) := by
  have hc := refput_own n 4 w (by decide) (by decide) (by omega) (by omega)
  go_enter Tryz.func60, Tryz.ntmps60
  go_wp2_with (go_at_call 84; refine hc.mono ?_; rintro _ w1 ⟨v, rfl, h1, h2⟩)
  go_ret
  exact ⟨v, rfl, h1, h2⟩
set_option maxRecDepth 100000 in
theorem refAll_any {w : World} {ok : Nat → Prop} {A : Option Addr} {ps : List (List UInt8)} {c : Nat} (hx : Lst w ok A ps) (hok : ∀ b, ok b → b < w.heap.size) (hm : ps.length ≤ maxLen) (hf : oFit ps) :
    Calls Tryz.prog 70 #[.slice A ps.length c] w (NewB w (jn ps)) := by
  have hc := refjoin_any (c := c) hx hok hm
  go_enter Tryz.func70, Tryz.ntmps70
  go_wp2_with (go_at_call 88; refine hc.mono ?_; rintro _ w1 (⟨-, A, c, rfl, h1, h2, h3, h4⟩ | ⟨h, -, -⟩); rotate_left; (exact absurd hf h))
  go_ret
  exact ⟨A, c, rfl, h1, h2, h3, h4⟩
end Go.Proofs.YtonpcenjipigpaaGreat
/- What a block says as a header: bytes.Equal, bytes.HasPrefix, headerOf. Conditions: a block of 64 bytes. -/
namespace Go.Proofs.YtonpcenjipigpaaGreat
open Go.RowKit
theorem equal_any {w : World} {ok ok' : Nat → Prop} {A B : Option Addr} {xs ys : List UInt8} {c d n m : Nat} (ha : Byt w ok A xs) (hb : Byt w ok' B ys) (hn : xs.length = n) (hm : ys.length = m) :
    Calls Tryz.prog 74 #[.slice A n c, .slice B m d] w fun e w' => e = .returned (.bool (decide (xs = ys))) ∧ w = w' := by
  subst hn hm
  have r1 := ha.str c
  have r2 := hb.str d
  go_enter Tryz.func74, Tryz.ntmps74
  go_wp2
  go_ret
  exact ⟨bool_end (by rw [Bool.eq_iff_iff]; simp), rfl⟩
theorem prefix_any {w : World} {ok ok' : Nat → Prop} {A B : Option Addr} {xs ys : List UInt8} {c d n m : Nat} (ha : Byt w ok A xs) (hb : Byt w ok' B ys) (hn : xs.length = n) (hm : ys.length = m) (hmn : m ≤ n) (hnc : n ≤ c) :
    Calls Tryz.prog 76 #[.slice A n c, .slice B m d] w fun e w' => e = .returned (.bool (decide (xs.take m = ys))) ∧ w = w' := by
  have he := equal_any (n := m) (c := c) (d := d) (ha.take m) hb (by rw [List.length_take, hn]; omega) hm
  have d1 : decide ((m : Int) ≤ (n : Int)) = true := by simpa using hmn
  go_enter Tryz.func76, Tryz.ntmps76
  go_wp2_with (go_at_call 74; refine he.mono ?_; rintro _ _ ⟨rfl, rfl⟩)
  go_ret
  exact ⟨rfl, rfl⟩
/-- What a block says: an error's number, the epoch, the count, the end. -/
def headT (b : List UInt8) (h : Nat) : Nat × Nat × Nat × Nat :=
  if b = zb 64 then (2, 0, 0, 0)
  else if hdr1 (nb ((b.drop 4).take 8)) (nb ((b.drop 12).take 4)) (nb ((b.drop 16).take 4)) = b.take 24 ∧ 1 ≤ nb ((b.drop 16).take 4) ∧ nb ((b.drop 16).take 4) ≤ h then (0, nb ((b.drop 4).take 8), nb ((b.drop 12).take 4), nb ((b.drop 16).take 4))
  else (160, 0, 0, 0)
/-- A header's cells. -/
def hcells (e c n : Nat) : List Value := [.int .u64 (e : Int), .int .u64 (c : Int), .int .u64 (n : Int)]
/-- The answer of headerOf. -/
def HeadE (w : World) (t : Nat × Nat × Nat × Nat) (e : Ending) (w' : World) : Prop := e = .returned (.tuple #[.agg (hcells t.2.1 t.2.2.1 t.2.2.2).toArray, .int .i64 (t.1 : Int)]) ∧ w.grownBy w' none
theorem Blk.bytAt {w : World} {g o n : Nat} {b : List UInt8} (h : Blk w g 5 (u8s b)) (ho : o + n ≤ b.length) : Byt w (fun k => k = g) (some ⟨g, o, none⟩) ((b.drop o).take n) := fun j hj => by
  rw [List.length_take, List.length_drop] at hj
  refine ⟨_, rfl, rfl, ?_⟩
  rw [Addr.add_lit]
  refine h.get _ _ ?_
  unfold u8s
  rw [List.getElem?_map, List.getElem?_eq_getElem (by omega)]
  simp [List.getElem_take, List.getElem_drop]
section
variable {w : World} {ops : Array Oper} {rest : List Oper} {o : Oper} {a : Act} {Q : Exit → Act → World → Prop}
theorem run_storeAt_row (w : World) (ty : TypeId) (b i : Nat) (vs : List Value) (h1 : ∀ u ∈ vs, u.oneCell' = true) (cs : List Value) (t : TypeId) (hb : w.heap[b]? = some (.cells cs.toArray t (0, 0))) (hi : i + vs.length ≤ cs.length) (hs : (Tryz.prog.info? ty).map (·.size) = some vs.length) :
    (Instr.storeAt ty (.pointer (some ⟨b, i, none⟩)) (.agg vs.toArray)).run Tryz.prog w = .ok () (w.setRow b (cs.take i ++ vs ++ cs.drop (i + vs.length)).toArray) := by
  have hst := run_storeCells_at Tryz.prog b i t vs 0 cs.toArray w hb (by simp; omega) h1
  simp only [Nat.add_zero] at hst
  cases hq : Tryz.prog.info? ty with
  | none => simp [hq] at hs
  | some inf =>
    have hsz : inf.size = vs.length := by simpa [hq] using hs
    simp [Instr.storeAt, Instr.sureAddr, storeVar, sizeOf, typeInfo, hq, Value.cells, hsz, hst]
/-- A struct is stored into the middle of a block. -/
theorem wpList_store_agg (hgd : o.guard = none) (ty : TypeId) (x y : Operand) (ho : o.op = .store ty x y) (b i : Nat) (vs : List Value) (hx : a.eval x = .pointer (some ⟨b, i, none⟩)) (hy : a.eval y = .agg vs.toArray) (h1 : ∀ u ∈ vs, u.oneCell' = true)
    (hs : (Tryz.prog.info? ty).map (·.size) = some vs.length) (cs : List Value) (t : TypeId) (hb : Blk w b t cs) (hi : i + vs.length ≤ cs.length)
    (h : ∀ w', Hid (Blk w' b t (cs.take i ++ vs ++ cs.drop (i + vs.length))) → Hid (Wr b w w') → wpList Tryz.prog ops Q rest (a.put o.dst undef) w') : wpList Tryz.prog ops Q (o :: rest) a w :=
  wpList_plain hgd fun _ hK => by
    have hrun := run_storeAt_row w ty b i vs h1 cs t hb hi hs
    unfold Oper.wp execOp
    simp only [ho, hx, hy, Sem.run_bind, hrun, Sem.run_pure, Result.andThen_ok]
    exact hK _ _ (h _ (setRow_heap w b _ _ t _ hb) (wr_setRow w b _))
end
theorem hcells_one (e c n : Nat) : ∀ u ∈ hcells e c n, u.oneCell' = true := by
  intro u hu
  simp only [hcells, List.mem_cons, List.not_mem_nil, or_false] at hu
  rcases hu with rfl | rfl | rfl <;> rfl
theorem size56 : (Tryz.prog.info? 73).map (·.size) = some 3 := by kernel_rfl
theorem Below.wr {B w w' : World} {b : Nat} (h : Below B.heap.size B w) (hr : Wr b w w') (hb : B.heap.size ≤ b) : Below B.heap.size B w' :=
  ⟨hr.os.trans h.os, hr.tape.trans h.tape, hr.output.trans h.output, by rw [hr.size]; exact h.size, fun k hk => (hr.block k (by omega)).trans (h.block k hk)⟩
theorem results_hdr {fn : Func} {p t : Tmp} (h : fn.results = #[.cell p 73, .tmp t]) (tmps : Array Value) (w : World) (g : Nat) (e c n : Nat) (hp : tmps.getD p undef = .pointer (some ⟨g, 0, none⟩)) (hk : Blk w g 73 (hcells e c n)) :
    (results fn tmps).run Tryz.prog w = .ok (.tuple #[.agg (hcells e c n).toArray, tmps.getD t undef]) w := by
  have hp' : tmps[p]?.getD undef = .pointer (some ⟨g, 0, none⟩) := by simpa using hp
  simp [results, h, hp', asAddr, run_loadVar_row w g 73 73 _ (0, 0) _ hk Tryz.underlying73 rfl (by kernel_rfl)]
set_option maxRecDepth 100000 in
set_option maxHeartbeats 4000000 in
theorem headerOf_any {w : World} {g h : Nat} {b : List UInt8} (hb : Blk w g 5 (u8s b)) (hl : b.length = 64) :
    Calls Tryz.prog 52 #[.slice (some ⟨g, 0, none⟩) 64 64, .int .u64 (h : Int)] w (HeadE w (headT b h)) := by
  have hmk : ∀ w, (Instr.makeSlice 40 (.int .i64 64) (.int .i64 64)).run Tryz.prog w = .ok (.slice (some ⟨w.heap.size, 0, none⟩) 64 64) (w.alloc (.cells (u8s (zb 64)).toArray 5)) := fun w => by kernel_rfl
  have hg := hb.lt
  obtain ⟨w2, hw2⟩ : ∃ w2, w2 = (w.alloc (.cells #[.int .u64 0, .int .u64 0, .int .u64 0] 73)).alloc (.cells (u8s (zb 64)).toArray 5) := ⟨_, rfl⟩
  have hB2 : Below w.heap.size w w2 := by rw [hw2]; exact bel_alloc _ (below_alloc _ _)
  have hb2 : Blk w2 g 5 (u8s b) := hb.below hB2 hg
  have hz2 : Blk w2 (w.heap.size + 1) 5 (u8s (zb 64)) := by rw [hw2]; have := Blk.of_alloc (w.alloc (.cells #[.int .u64 0, .int .u64 0, .int .u64 0] 73)) (u8s (zb 64)).toArray 5; simpa using this
  have hr2 : Blk w2 w.heap.size 73 (hcells 0 0 0) := by rw [hw2]; exact (Blk.of_alloc w #[.int .u64 0, .int .u64 0, .int .u64 0] 73).below (below_alloc _ _) (by simp)
  have heq := equal_any (c := 64) (d := 64) (hb2.bytAt (o := 0) (n := 64) (by omega)) (hz2.bytAt (o := 0) (n := 64) (by rw [zb_length]; omega)) (n := 64) (m := 64) (by simp [hl]) (by simp [zb])
  rw [List.drop_zero, List.drop_zero, List.take_of_length_le (by omega), List.take_of_length_le (by rw [zb_length]; omega)] at heq
  have hsz : w2.heap.size = w.heap.size + 2 := by rw [hw2]; simp
  clear hb hz2
  rw [hw2] at heq
  by_cases hz : b = zb 64
  · have hT : headT b h = (2, 0, 0, 0) := by rw [headT, if_pos hz]
    rw [hT]
    have d1 : decide (b = zb 64) = true := decide_eq_true hz
    rw [d1] at heq
    clear hT hz d1
    go_enter Tryz.func52, Tryz.ntmps52
    go_wp2_with (go_at_call 74; refine heq.mono ?_; rintro _ _ ⟨rfl, rfl⟩)
    rw [← hw2]
    refine bodyPost_ret (results_hdr rfl _ _ w.heap.size 0 0 0 rfl hr2) rfl ⟨rfl, grown_of_below hB2⟩
  · have d1 : decide (b = zb 64) = false := decide_eq_false hz
    rw [d1] at heq
    obtain ⟨e, he⟩ : ∃ e, e = nb ((b.drop 4).take 8) := ⟨_, rfl⟩
    obtain ⟨c, hc⟩ : ∃ c, c = nb ((b.drop 12).take 4) := ⟨_, rfl⟩
    obtain ⟨n, hn⟩ : ∃ n, n = nb ((b.drop 16).take 4) := ⟨_, rfl⟩
    have hel : e < 18446744073709551616 := by rw [he]; exact nb_lt 8 _ (by rw [List.length_take, List.length_drop]; omega)
    have hcl : c < 4294967296 := by rw [hc]; exact nb_lt 4 _ (by rw [List.length_take, List.length_drop]; omega)
    have hnl : n < 4294967296 := by rw [hn]; exact nb_lt 4 _ (by rw [List.length_take, List.length_drop]; omega)
    have hT : headT b h = if hdr1 e c n = b.take 24 ∧ 1 ≤ n ∧ n ≤ h then (0, e, c, n) else (160, 0, 0, 0) := by rw [headT, if_neg hz, he, hc, hn]
    have hg2 : g < w2.heap.size := by omega
    have kE : Hid (∀ W, Below w2.heap.size w2 W → Calls Tryz.prog 75 #[.slice (some ⟨g, 4, none⟩) 8 60] W fun r w' => r = .returned (.int .u64 (e : Int)) ∧ W = w') := fun W hW => by rw [he]; exact sget_any ((hb2.below hW hg2).bytAt (by omega)) (by rw [List.length_take, List.length_drop]; omega) (by decide) (by decide)
    have kC : Hid (∀ W, Below w2.heap.size w2 W → Calls Tryz.prog 75 #[.slice (some ⟨g, 12, none⟩) 4 52] W fun r w' => r = .returned (.int .u64 (c : Int)) ∧ W = w') := fun W hW => by rw [hc]; exact sget_any ((hb2.below hW hg2).bytAt (by omega)) (by rw [List.length_take, List.length_drop]; omega) (by decide) (by decide)
    have kN : Hid (∀ W, Below w2.heap.size w2 W → Calls Tryz.prog 75 #[.slice (some ⟨g, 16, none⟩) 4 48] W fun r w' => r = .returned (.int .u64 (n : Int)) ∧ W = w') := fun W hW => by rw [hn]; exact sget_any ((hb2.below hW hg2).bytAt (by omega)) (by rw [List.length_take, List.length_drop]; omega) (by decide) (by decide)
    have HSZ := Lib.hid hsz
    have HW2 := Lib.hid hw2
    have HB2 := Lib.hid hB2
    have hq0 : Below w2.heap.size w2 w2.drew := below_of_grown (grown_drewN 1)
    have HBB := Lib.hid hb2
    have HR := Lib.hid hr2
    obtain ⟨T, hTT⟩ : ∃ T, T = headT b h := ⟨_, rfl⟩
    rw [← hTT]
    rw [← hTT] at hT
    have HT := Lib.hid hT
    clear hTT hT hz d1 he hc hn hB2 hb2 hr2
    go_enter Tryz.func52, Tryz.ntmps52
    go_wp2_with (go_at_call 74; refine heq.mono ?_; rintro _ _ ⟨rfl, rfl⟩)
    rw [← HW2.out]
    clear heq hw2 hmk hsz
    go_cut [6] from 11 to 20 (fun v W => v = .pointer (some ⟨w2.heap.size, 0, none⟩) ∧ W = (w2.alloc (.cells #[.int .u64 (e : Int), .int .u64 (c : Int), .int .u64 (n : Int)] 73)).drew)
    case first =>
      go_region_held3 (fun _ => True) (exact trivial) (first
        | (go_at_call 75; with_reducible refine (kE.out _ (by first | exact hq0 | exact bel_drew (below_alloc _ _))).mono ?_; rintro _ _ ⟨rfl, rfl⟩)
        | (go_at_call 75; with_reducible refine (kC.out _ (by first | exact hq0 | exact bel_drew (below_alloc _ _))).mono ?_; rintro _ _ ⟨rfl, rfl⟩)
        | (go_at_call 75; with_reducible refine (kN.out _ (by first | exact hq0 | exact bel_drew (below_alloc _ _))).mono ?_; rintro _ _ ⟨rfl, rfl⟩)
        | fail)
      all_goals
        go_wp2_with fail
        go_meet
        case rel => exact ⟨rfl, rfl⟩
    case rest =>
      obtain ⟨rfl, rfl⟩ := hcut
      have hq3 : Below w2.heap.size w2 (w2.alloc (.cells #[.int .u64 (e : Int), .int .u64 (c : Int), .int .u64 (n : Int)] 73)).drew := bel_drew (below_alloc _ _)
      have hB3 : Blk (w2.alloc (.cells #[.int .u64 (e : Int), .int .u64 (c : Int), .int .u64 (n : Int)] 73)).drew w2.heap.size 73 (hcells e c n) := Blk.of_alloc w2 #[.int .u64 (e : Int), .int .u64 (c : Int), .int .u64 (n : Int)] 73
      have hlt3 : w2.heap.size < (w2.alloc (.cells #[.int .u64 (e : Int), .int .u64 (c : Int), .int .u64 (n : Int)] 73)).drew.heap.size := by simp
      generalize (w2.alloc (.cells #[.int .u64 (e : Int), .int .u64 (c : Int), .int .u64 (n : Int)] 73)).drew = w3 at *
      clear kE kC kN hq0
      have hc0 : w3.cell? ⟨w2.heap.size, 0, none⟩ = some (.int .u64 (e : Int)) := hB3.get 0 _ rfl
      have hc1 : w3.cell? ⟨w2.heap.size, 1, none⟩ = some (.int .u64 (c : Int)) := hB3.get 1 _ rfl
      have hc2 : w3.cell? ⟨w2.heap.size, 2, none⟩ = some (.int .u64 (n : Int)) := hB3.get 2 _ rfl
      have hbl := block_any e c n w3 hel hcl hnl
      go_wp2_with (go_at_call 57; refine hbl.mono ?_)
      rintro _ w4 ⟨v4, rfl, ho4, hb4⟩
      obtain ⟨A4, c4, rfl, -, l4, m4, y4⟩ := own_byt ho4
      rw [hdrB_length] at l4 ⊢
      have hq4 := below_then hq3 hb4
      have hbb := HBB.out.below hq4 hg2
      have hB4 := hB3.below hb4 hlt3
      have hR4 := HR.out.below hq4 (by have := HSZ.out; omega)
      have hpre := prefix_any (c := 64) (d := c4) (hbb.bytAt (o := 0) (n := 64) (by omega)) (y4.take 24) (n := 64) (m := 24) (by simp [hl]) (by rw [List.length_take, hdrB_length]; rfl) (by decide) (by decide)
      rw [List.drop_zero, List.take_take, hdrB_eq, List.take_left' (hdr1_length e c n)] at hpre
      have hmm : min 24 64 = 24 := rfl
      rw [hmm] at hpre
      clear hmm
      have hd0 : w4.cell? ⟨w2.heap.size, 0, none⟩ = some (.int .u64 (e : Int)) := hB4.get 0 _ rfl
      have hd1 : w4.cell? ⟨w2.heap.size, 1, none⟩ = some (.int .u64 (c : Int)) := hB4.get 1 _ rfl
      have hd2 : w4.cell? ⟨w2.heap.size, 2, none⟩ = some (.int .u64 (n : Int)) := hB4.get 2 _ rfl
      have hbw : Below w.heap.size w w4 := below_then HB2.out hq4
      have HRR := Lib.hid hR4
      clear ho4 hb4 hbb hB3 hB4 hR4 hq4 hq3 hlt3 hc0 hc1 hc2 hbl y4 HBB HR m4
      by_cases hP : b.take 24 = hdr1 e c n
      · have dp : decide (b.take 24 = hdr1 e c n) = true := decide_eq_true hP
        rw [dp] at hpre
        by_cases hn1 : n < 1
        · have hT : T = (160, 0, 0, 0) := by rw [HT.out, if_neg (fun hc => by omega)]
          have HTT := Lib.hid hT
          clear hP dp hT HT
          go_wp2_with (first
            | (go_at_call 76; refine hpre.mono ?_; rintro _ _ ⟨rfl, rfl⟩)
            | (refine wpList_store_agg rfl 73 _ _ rfl w.heap.size 0 (hcells 0 0 0) rfl rfl (hcells_one _ _ _) size56 _ _ HRR.out (by simp [hcells]) ?_; intro w5 k5 r5)
            | fail)
          refine bodyPost_ret (results_hdr rfl _ _ w.heap.size 0 0 0 rfl k5.out) rfl ⟨by rw [HTT.out]; rfl, grown_of_below (Below.wr hbw r5.out (Nat.le_refl _))⟩
        · have d1 : decide ((n : Int) < 1) = false := decide_eq_false (by omega)
          by_cases hnh : h < n
          · have hT : T = (160, 0, 0, 0) := by rw [HT.out, if_neg (fun hc => by omega)]
            have HTT := Lib.hid hT
            clear hP dp hT HT
            go_wp2_with (first
              | (go_at_call 76; refine hpre.mono ?_; rintro _ _ ⟨rfl, rfl⟩)
              | (refine wpList_store_agg rfl 73 _ _ rfl w.heap.size 0 (hcells 0 0 0) rfl rfl (hcells_one _ _ _) size56 _ _ HRR.out (by simp [hcells]) ?_; intro w5 k5 r5)
              | fail)
            refine bodyPost_ret (results_hdr rfl _ _ w.heap.size 0 0 0 rfl k5.out) rfl ⟨by rw [HTT.out]; rfl, grown_of_below (Below.wr hbw r5.out (Nat.le_refl _))⟩
          · have hT : T = (0, e, c, n) := by rw [HT.out, if_pos ⟨hP.symm, by omega, by omega⟩]
            have HTT := Lib.hid hT
            clear hP dp hT HT
            go_wp2_with (first
              | (go_at_call 76; refine hpre.mono ?_; rintro _ _ ⟨rfl, rfl⟩)
              | (refine wpList_store_agg rfl 73 _ _ rfl w.heap.size 0 (hcells e c n) rfl rfl (hcells_one _ _ _) size56 _ _ HRR.out (by simp [hcells]) ?_; intro w5 k5 r5)
              | fail)
            refine bodyPost_ret (results_hdr rfl _ _ w.heap.size e c n rfl k5.out) rfl ⟨by rw [HTT.out]; rfl, grown_of_below (Below.wr hbw r5.out (Nat.le_refl _))⟩
      · have dp : decide (b.take 24 = hdr1 e c n) = false := decide_eq_false hP
        rw [dp] at hpre
        have hT : T = (160, 0, 0, 0) := by rw [HT.out, if_neg (fun hc => hP hc.1.symm)]
        have HTT := Lib.hid hT
        clear hP dp hT HT
        go_wp2_with (first
          | (go_at_call 76; refine hpre.mono ?_; rintro _ _ ⟨rfl, rfl⟩)
          | (refine wpList_store_agg rfl 73 _ _ rfl w.heap.size 0 (hcells 0 0 0) rfl rfl (hcells_one _ _ _) size56 _ _ HRR.out (by simp [hcells]) ?_; intro w5 k5 r5)
          | fail)
        refine bodyPost_ret (results_hdr rfl _ _ w.heap.size 0 0 0 rfl k5.out) rfl ⟨by rw [HTT.out]; rfl, grown_of_below (Below.wr hbw r5.out (Nat.le_refl _))⟩
end Go.Proofs.YtonpcenjipigpaaGreat
