/- The reference's Split. Conditions: none. -/
import Derived.Test.YtonpcenjipigpaaGreatZ7
import Derived.Test.YtonpcenjipigpaaGreatZ2
import Derived.Laws.MakeOwn
import Derived.Lib.MinMax
namespace Go.Proofs.YtonpcenjipigpaaGreat
open Go.RowKit
theorem at_pair {w : World} {ok : Nat → Prop} {ab ao : Nat} {xs : List UInt8} {a : Nat} (h : Byt w ok (some ⟨ab, ao, none⟩) xs) (h2 : a + 2 ≤ xs.length) :
    ∃ x y : UInt8, w.cell? ⟨ab, ao + a, none⟩ = some (.int .u8 (x.toNat : Int)) ∧ w.cell? ⟨ab, ao + (a + 1), none⟩ = some (.int .u8 (y.toNat : Int)) ∧ Hid (xs.drop a = x :: y :: xs.drop (a + 2)) := by
  obtain ⟨ad, e, _, h0⟩ := h a (by omega)
  cases e
  obtain ⟨ad, e, _, h1⟩ := h (a + 1) (by omega)
  cases e
  rw [Addr.add_lit] at h0 h1
  refine ⟨_, _, h0, h1, ?_⟩
  show xs.drop a = _
  rw [List.drop_eq_getElem_cons (show a < xs.length by omega), List.drop_eq_getElem_cons (show a + 1 < xs.length by omega)]
theorem own_form_n {w : World} {base n m : Nat} {v : Value} {xs : List UInt8} (h : w.ownsRow base 5 1 v n (u8s xs)) (hm : xs.length = m) :
    ∃ A c, v = .slice A m c ∧ m ≤ c ∧ c ≤ maxLen ∧ Byt w (fun b => v.ownBlock = some b ∧ base ≤ b ∧ b < w.heap.size) A xs := by
  subst hm
  obtain ⟨A, c, h1, _, h2, h3, h4⟩ := own_form h
  exact ⟨A, c, h1, h2, h3, h4⟩
theorem num_sum (x y : UInt8) : (x.toNat : Int) * 256 + (y.toNat : Int) = ((x.toNat * 256 + y.toNat : Nat) : Int) := by omega
set_option maxRecDepth 100000 in
set_option maxHeartbeats 2000000 in
theorem refsplit_any {w : World} {ok : Nat → Prop} {A : Option Addr} {b : List UInt8} {c : Nat} (hx : Byt w ok A b) (hok : ∀ g, ok g → g < w.heap.size) (hc : b.length ≤ c) (hm : c ≤ maxLen) :
    Calls Tryz.prog 62 #[.slice A b.length c] w (SplitE w b) := by
  unfold maxLen at hm
  by_cases h0 : b.length = 0
  · have hnil : Hid (split b = ([], 20)) := by
      show split b = _
      rw [List.eq_nil_of_length_eq_zero h0]; rfl
    have d1 : ((b.length : Int) == 0) = true := by rw [h0]; rfl
    clear h0 hx
    go_enter Tryz.func62, Tryz.ntmps62
    go_wp2
    go_ret2
    exact splitE_err hnil.out (Below.refl _ _)
  have d1 : ((b.length : Int) == 0) = false := by rw [beq_eq_false_iff_ne]; omega
  obtain ⟨ab, ao, rfl, hokb, hc0, -⟩ := at_two hx (by omega)
  obtain ⟨z, hz⟩ : ∃ z, b[0] = z := ⟨_, rfl⟩
  rw [hz] at hc0
  have hspl : Hid (split b = if 64 < z.toNat then ([], 4) else spl z.toNat (b.drop 1) []) := by
    show split b = _
    subst hz
    rcases b with _ | ⟨y, r⟩
    · simp at h0
    · rfl
  have hlt := hok ab hokb
  have hb0 := z.toNat_lt
  clear hz
  by_cases hbig : 64 < z.toNat
  · have hend : Hid (split b = ([], 4)) := by
      show split b = _
      rw [hspl.out, if_pos hbig]
    go_enter Tryz.func62, Tryz.ntmps62
    go_wp2
    go_ret2
    exact splitE_err hend.out (Below.refl _ _)
  have hJ : Hid (spl z.toNat (b.drop 1) [] = split b) := by
    show _ = split b
    rw [hspl.out, if_neg hbig]
  clear hspl
  go_enter Tryz.func62, Tryz.ntmps62
  go_wp2
  go_loopw [4, 5, 6] (fun v t i wr => ∃ (k a : Nat) (acc : List (List UInt8)), i = .int .i64 k ∧ t = .int .i64 a ∧ k ≤ z.toNat ∧ acc.length ≤ k ∧ a ≤ b.length ∧ Hid (spl (z.toNat - k) (b.drop a) acc = split b) ∧ Pcs wr w.heap.size v acc ∧ Below w.heap.size w wr)
    (fun _ _ i _ => z.toNat - (intOf i).toNat)
  case atStart => exact ⟨0, 1, [], rfl, rfl, Nat.zero_le _, Nat.le_refl _, by omega, hJ, Pcs.nil _ _, Below.refl _ _⟩
  case round =>
    obtain ⟨k, a, acc, rfl, rfl, hk, hl, ha, hs, hp, hb⟩ := hrel
    have hcw : wr.cell? ⟨ab, ao, none⟩ = some (.int .u8 (z.toNat : Int)) := (hb.cell (p := ⟨ab, ao, none⟩) hlt).trans hc0
    clear hc0 hJ
    by_cases hround : k < z.toNat
    · have hx' : Byt wr ok (some ⟨ab, ao, none⟩) b := hx.below hb hok
      obtain ⟨l, hzl⟩ : ∃ l, z.toNat - k = l + 1 := ⟨z.toNat - k - 1, by omega⟩
      rw [hzl] at hs
      by_cases h2 : b.length - a < 2
      · have hend : Hid (split b = ([], 20)) := by
          show split b = _
          rw [← hs.out, spl_short _ _ _ (by simp; omega)]
        clear hzl
        have d2 : decide ((b.length : Int) - (a : Int) < 2) = true := by simp; omega
        go_wp2
        go_ret2
        exact splitE_err hend.out hb
      have d2 : decide ((b.length : Int) - (a : Int) < 2) = false := by simp; omega
      obtain ⟨x, y, hca, hcb, htwo⟩ := at_pair (a := a) hx' (by omega)
      have hs1 := hs.out
      rw [htwo.out, spl_cons] at hs1
      obtain ⟨s, hsz⟩ : ∃ s, x.toNat * 256 + y.toNat = s := ⟨_, rfl⟩
      have hx8 := x.toNat_lt
      have hy8 := y.toNat_lt
      have hs64 : s ≤ 65535 := by omega
      have hsum := num_sum x y
      rw [hsz] at hs1 hsum
      have HS : Hid _ := hs1.symm
      have HDL : Hid ((b.drop (a + 2)).length = b.length - (a + 2)) := by
        show (b.drop (a + 2)).length = _
        rw [List.length_drop]
      have w1 : IntKind.i64.wrap ((x.toNat : Int) * 256) = (x.toNat : Int) * 256 := IntWalk.i64_in _ (by omega)
      have w2 : IntKind.i64.wrap ((x.toNat : Int) * 256 + (y.toNat : Int)) = (s : Int) := by rw [hsum]; exact IntWalk.i64_in _ (by omega)
      have w3 : IntKind.i64.wrap ((a : Int) + 1) = (a : Int) + 1 := IntWalk.i64_in _ (by omega)
      have w4 : (0 : Int) ≤ (a : Int) + 1 := by omega
      have w5 : ((a : Int) + 1).toNat = a + 1 := by omega
      have w6 : (a : Int) + 1 < (b.length : Int) := by omega
      have w7 : (a : Int) < (b.length : Int) := by omega
      have w8 : (0 : Int) ≤ (a : Int) := by omega
      have HZL := Lib.hid hzl
      clear hs1 hsz hs hzl htwo
      go_wp2_with fail
      go_quiet (fail)
      clear w1 w2 w3 w4 w5 w6 w7 w8 hca hcb hsum
      have hbq := below_drewN hb nq
      by_cases hbig2 : 4096 < s
      · have hend : Hid (split b = ([], 5)) := by
          show split b = _
          rw [HS.out, if_pos hbig2]
        go_wp2
        go_ret2
        exact splitE_err hend.out hbq
      by_cases hshort : b.length - (a + 2) < s
      · have hend : Hid (split b = ([], 20)) := by
          show split b = _
          rw [HS.out, if_neg hbig2, HDL.out, if_pos hshort]
        have d3 : decide ((b.length : Int) - ((a : Int) + 2) < (s : Int)) = true := by simp; omega
        go_wp2
        go_ret2
        exact splitE_err hend.out hbq
      have d3 : decide ((b.length : Int) - ((a : Int) + 2) < (s : Int)) = false := by simp; omega
      have HN : Hid (split b = spl l (b.drop (a + 2 + s)) (acc ++ [(b.drop (a + 2)).take s])) := by
        show split b = _
        rw [HS.out, if_neg hbig2, HDL.out, if_neg hshort, List.drop_drop]
      have HT : Hid (((b.drop (a + 2)).take s).length = s) := by
        show ((b.drop (a + 2)).take s).length = s
        rw [List.length_take, HDL.out]; omega
      have hx2 := (hx'.drop (k := a + 2) (c := c) (by omega) (by omega)).take s
      have hx3 : Byt (wr.drewN nq) ok (if c = a + 2 then some (⟨ab, ao, none⟩ : Addr) else some ⟨ab, ao + (a + 2), none⟩) ((b.drop (a + 2)).take s) := by
        have hx4 : Byt wr ok (if c = a + 2 then some (⟨ab, ao, none⟩ : Addr) else some ⟨ab, ao + (a + 2), none⟩) ((b.drop (a + 2)).take s) := by
          simpa [Addr.add_lit] using hx2
        exact hx4
      have HT2 : Hid (((b.drop (a + 2)).take s).length = a + 2 + s - (a + 2)) := by
        show ((b.drop (a + 2)).take s).length = _
        rw [HT.out]; omega
      obtain ⟨i0, hi, hz0, hz1, hz2⟩ := info_parts Tryz.info5
      obtain ⟨vals, hvals, hpv⟩ := id hp
      clear hpv hx2 HS
      by_cases hce : c = a + 2
      · subst hce
        rw [if_pos rfl] at hx3
        go_wp2_with (at_builtin; (refine wpList_append_byt_n _ rfl _ _ 40 rfl wr.heap.size i0 (.int .u8 0) Tryz.underlying40 hi hz0 hz1 hz2 rfl (.slice none 0 0) 0 [] rfl (World.ownsRow_nil _ _ _ _) ok _ _ _ _ HT2.out rfl hx3 ?c1 (Nat.le_refl _) ?_))
        case c1 => omega
        intro v1 w3 hown1 hgrow1 hat1
        have hb13 : Below wr.heap.size wr w3 := (below_drewN (Below.refl _ _) nq).trans ⟨hgrow1.os, hgrow1.tape, hgrow1.output, hgrow1.size, fun i hi => hgrow1.block i hi (by simp [Value.ownBlock])⟩
        obtain ⟨A', c', rfl, g1, g2, g3⟩ := own_form_n (by simpa using hown1) HT.out
        have hown3 := (own_below hvals hb13).alloc (.cells #[.slice A' s c'] 40)
        obtain ⟨j0, hj, hy0, hy1, hy2⟩ := info_parts Tryz.info40
        have q1 : w.heap.size ≤ (w3.alloc (.cells #[.slice A' s c'] 40)).heap.size := le_alloc (Nat.le_trans hb.size hb13.size)
        clear hown1 hgrow1 hat1
        go_wp2_with (at_builtin; (refine wpList_append_own_at _ rfl _ _ 42 rfl w.heap.size 40 j0 (.slice none 0 0) 1 24 Tryz.underlying42 hj hy0 hy1 hy2 rfl Nat.one_pos _ _ _ rfl hown3 ⟨w3.heap.size, 0, none⟩ 1 1 [.slice A' s c'] rfl rfl (cell_one_new _ _ _) (one_slice _ _ _) ?c3 ?c4 q1 ?_))
        case c3 => unfold maxLen; omega
        case c4 => omega
        intro v2 w4 hown4 hgrow4 _ hat4
        have hat5 : v2.ownBlock = u4.ownBlock ∨ v2.ownBlock = some (w3.heap.size + 1) := by
          rcases hat4 with h | h
          · exact .inl h
          · exact .inr h
        have hpush : Pcs w4 w.heap.size v2 (acc ++ [(b.drop (a + 2)).take s]) := by
          have hh := HT.out
          refine hp.push (A := A') (c := c') hb.size hb13 (g3.imp fun g hg => hg.2) (by rw [hh]; exact g1) g2 hvals ?_ ?_ hat5
          · rw [hh]; exact hown4
          · rw [hh]; exact hgrow4
        have hb4 : Below w.heap.size w w4 := (hb.trans ((hb13.mono hb.size).alloc (Nat.le_trans hb.size hb13.size) _)).grown hgrow4 q1 fun g hg => (hvals.lt g hg).1
        clear hown3 hown4 hgrow4 hat4 hat5 hvals hx3 hp hb13 hb g3 hbq
        have HN2 : Hid (spl (z.toNat - (k + 1)) (b.drop (a + 2 + s)) (acc ++ [(b.drop (a + 2)).take s]) = split b) := by
          show _ = split b
          rw [show z.toNat - (k + 1) = l by have := HZL.out; omega]
          exact HN.out.symm
        go_wp2
        go_roundw
        case rel => exact ⟨k + 1, a + 2 + s, _, by go_num, by go_num, by omega, by simp; omega, by omega, HN2, hpush, hb4⟩
        case measure => simp [intOf]; omega
      · rw [if_neg hce] at hx3
        go_wp2_with (at_builtin; (refine wpList_append_byt_n _ rfl _ _ 40 rfl wr.heap.size i0 (.int .u8 0) Tryz.underlying40 hi hz0 hz1 hz2 rfl (.slice none 0 0) 0 [] rfl (World.ownsRow_nil _ _ _ _) ok _ _ _ _ HT2.out rfl hx3 ?c1 (Nat.le_refl _) ?_))
        case c1 => omega
        intro v1 w3 hown1 hgrow1 hat1
        have hb13 : Below wr.heap.size wr w3 := (below_drewN (Below.refl _ _) nq).trans ⟨hgrow1.os, hgrow1.tape, hgrow1.output, hgrow1.size, fun i hi => hgrow1.block i hi (by simp [Value.ownBlock])⟩
        obtain ⟨A', c', rfl, g1, g2, g3⟩ := own_form_n (by simpa using hown1) HT.out
        have hown3 := (own_below hvals hb13).alloc (.cells #[.slice A' s c'] 40)
        obtain ⟨j0, hj, hy0, hy1, hy2⟩ := info_parts Tryz.info40
        have q1 : w.heap.size ≤ (w3.alloc (.cells #[.slice A' s c'] 40)).heap.size := le_alloc (Nat.le_trans hb.size hb13.size)
        clear hown1 hgrow1 hat1
        go_wp2_with (at_builtin; (refine wpList_append_own_at _ rfl _ _ 42 rfl w.heap.size 40 j0 (.slice none 0 0) 1 24 Tryz.underlying42 hj hy0 hy1 hy2 rfl Nat.one_pos _ _ _ rfl hown3 ⟨w3.heap.size, 0, none⟩ 1 1 [.slice A' s c'] rfl rfl (cell_one_new _ _ _) (one_slice _ _ _) ?c3 ?c4 q1 ?_))
        case c3 => unfold maxLen; omega
        case c4 => omega
        intro v2 w4 hown4 hgrow4 _ hat4
        have hat5 : v2.ownBlock = u4.ownBlock ∨ v2.ownBlock = some (w3.heap.size + 1) := by
          rcases hat4 with h | h
          · exact .inl h
          · exact .inr h
        have hpush : Pcs w4 w.heap.size v2 (acc ++ [(b.drop (a + 2)).take s]) := by
          have hh := HT.out
          refine hp.push (A := A') (c := c') hb.size hb13 (g3.imp fun g hg => hg.2) (by rw [hh]; exact g1) g2 hvals ?_ ?_ hat5
          · rw [hh]; exact hown4
          · rw [hh]; exact hgrow4
        have hb4 : Below w.heap.size w w4 := (hb.trans ((hb13.mono hb.size).alloc (Nat.le_trans hb.size hb13.size) _)).grown hgrow4 q1 fun g hg => (hvals.lt g hg).1
        clear hown3 hown4 hgrow4 hat4 hat5 hvals hx3 hp hb13 hb g3 hbq
        have HN2 : Hid (spl (z.toNat - (k + 1)) (b.drop (a + 2 + s)) (acc ++ [(b.drop (a + 2)).take s]) = split b) := by
          show _ = split b
          rw [show z.toNat - (k + 1) = l by have := HZL.out; omega]
          exact HN.out.symm
        go_wp2
        go_roundw
        case rel => exact ⟨k + 1, a + 2 + s, _, by go_num, by go_num, by omega, by simp; omega, by omega, HN2, hpush, hb4⟩
        case measure => simp [intOf]; omega
    · have hz0 : z.toNat - k = 0 := by omega
      have HZ : Hid (split b = spl 0 (b.drop a) acc) := by
        have := hs.out
        rw [hz0] at this
        exact this.symm
      clear hz0 hs
      by_cases hmore : a < b.length
      · have hend : Hid (split b = ([], 21)) := by
          show split b = _
          rw [HZ.out, spl_zero, if_neg (by intro e; have := congrArg List.length e; simp at this; omega)]
        go_wp2
        go_ret2
        exact splitE_err hend.out hb
      · have hend : Hid (split b = (acc, 0)) := by
          show split b = _
          rw [HZ.out, spl_zero, if_pos (List.drop_of_length_le (by omega))]
        obtain ⟨A', c', rfl, h1, h2, h3⟩ := hp.lst
        go_wp2
        go_ret2
        exact splitE_ok hend.out h1 h2 h3 hb
end Go.Proofs.YtonpcenjipigpaaGreat
/- A new disk. Conditions: none. -/
namespace Go.Proofs.YtonpcenjipigpaaGreat
open Go.RowKit
theorem Tryz.info96 : (Tryz.prog.info? 96).map (fun i => (i.zero, i.size, i.bytes)) = some (some (.agg (u8s (zb 64)).toArray), 64, 64) := by kernel_rfl
theorem made_zeros (N : Nat) : madeCells (u8s (zb 64)).toArray N = (u8s (zb N)).toArray := by
  apply Array.ext
  · simp [u8s_length, zb_length, size_madeCells]
  · intro i h1 h2
    have hz : ∀ k, k < 64 → (u8s (zb 64))[k]? = some (.int .u8 0) := fun k hk => by
      unfold u8s zb
      rw [List.getElem?_map, List.getElem?_replicate, if_pos hk]
      rfl
    have hl : (u8s (zb 64)).toArray.size = 64 := by simp [u8s_length, zb_length]
    have hm : i % 64 < 64 := Nat.mod_lt _ (by omega)
    have e1 : (madeCells (u8s (zb 64)).toArray N)[i] = (u8s (zb 64)).toArray[i % (u8s (zb 64)).toArray.size]! := by simp [madeCells]
    rw [e1, hl, getElem!_def]
    have := hz (i % 64) hm
    simp only [List.getElem?_toArray, this]
    simp [u8s, zb]
theorem run_make52 {N : Nat} (hN : N ≤ 4096) (w : World) : (Instr.makeSlice 67 (.int .i64 (N : Int)) (.int .i64 (N : Int))).run Tryz.prog w = .ok (.slice (some ⟨w.heap.size, 0, none⟩) N N) (w.alloc (.cells (u8s (zb (64 * N))).toArray 96)) := by
  obtain ⟨i, hi, hz, hs, hb⟩ := info_parts Tryz.info96
  have h := run_makeSlice (P := Tryz.prog) w 67 96 i _ Tryz.underlying67 hi hz .i64 .i64 (N : Int) (N : Int) (by omega) (by omega) (by rw [hs]; simp; omega) (by rw [hb]; simp; omega) (by omega)
  rw [h, hs]
  simp only [Int.toNat_natCast, Value.cells]
  rw [made_zeros, Nat.mul_comm]
/-- How many blocks there are. -/
def nOf (b : Int) : Nat := (min (max b 1) 4096).toNat
theorem nOf_bd (b : Int) : 1 ≤ nOf b ∧ nOf b ≤ 4096 := by unfold nOf; omega
theorem nOf_cast (b : Int) : (nOf b : Int) = min (max b 1) 4096 := by unfold nOf; omega
/-- A pointer to a new disk. -/
def NewD (w : World) (n : Nat) (e : Ending) (w' : World) : Prop := ∃ p foot, e = .returned (.pointer (some ⟨p, 0, none⟩)) ∧ Dsk w' foot p (St.mk0 n) ∧ (∀ k, foot k → w.heap.size ≤ k) ∧ w.grownBy w' none
theorem new_any (w : World) (b : Int) : Calls Tryz.prog 7 #[.int .i64 b] w (NewD w (nOf b)) := by
  obtain ⟨h1, h2⟩ := nOf_bd b
  have hc := nOf_cast b
  generalize nOf b = n at *
  have hm := fun w => run_make52 (N := n) h2 w
  rw [hc] at hm
  have HC := Lib.hid hc
  clear hc
  go_enter Tryz.func7, Tryz.ntmps7
  go_wp2
  go_ret
  have hb : Blk ((w.alloc (.cells (u8s (zb (64 * n))).toArray 96)).alloc (.cells #[.slice (some ⟨w.heap.size, 0, none⟩) n n, .slice none 0 0, .int .i64 (-1), .bool false] 70)) (w.heap.size + 1) 70 (dcells w.heap.size n (.slice none 0 0) (-1) false) := by
    have := heap_alloc_new (w.alloc (.cells (u8s (zb (64 * n))).toArray 96)) (.cells #[.slice (some ⟨w.heap.size, 0, none⟩) n n, .slice none 0 0, .int .i64 (-1), .bool false] 70)
    rw [World.size_alloc] at this
    exact this
  refine ⟨w.heap.size + 1, fun k => w.heap.size ≤ k ∧ k < w.heap.size + 2, by simp, ?_, fun k hk => hk.1, (World.grownBy_alloc _ _ _).trans (World.grownBy_alloc _ _ _)⟩
  refine ⟨w.heap.size, .slice none 0 0, zb (64 * n), [], hb, ?_, World.ownsRow_nil _ _ _ _, ⟨by omega, by omega, by omega, fun k hk => by simp [Value.ownBlock] at hk, fun k hk => by simp; omega⟩, ⟨St.mk0_ok h1 h2, zb_length _, Fit.nil _, Inv.nil _⟩⟩
  exact heap_alloc2_old w _ _
end Go.Proofs.YtonpcenjipigpaaGreat
/- Read of a disk. Conditions: none. -/
namespace Go.Proofs.YtonpcenjipigpaaGreat
open Go.RowKit
theorem lay_full {xs ys : List UInt8} (h : xs.length = ys.length) : lay xs ys = xs := by
  unfold lay
  rw [← h, List.take_length, List.drop_eq_nil_of_le (Nat.le_of_eq h.symm), List.append_nil]
theorem lay_over {xs a b : List UInt8} (h : xs.length = a.length) : lay xs (a ++ b) = xs ++ b := by
  unfold lay
  rw [List.take_of_length_le (by simp [h]), h, List.drop_left]
theorem mid_parts (B : List UInt8) (i : Nat) : u8s B = u8s (B.take (64 * i)) ++ u8s (blk B i) ++ u8s (B.drop (64 * i + 64)) := by
  rw [← u8s_append, ← u8s_append, List.append_assoc, ← parts]
theorem run_make64 (w : World) : (Instr.makeSlice 40 (.int .i64 64) (.int .i64 64)).run Tryz.prog w = .ok (.slice (some ⟨w.heap.size, 0, none⟩) 64 64) (w.alloc (.cells (u8s (zb 64)).toArray 5)) := by
  obtain ⟨i, hi, hz, hs, hb⟩ := info_parts Tryz.info5
  have h := run_makeSlice (P := Tryz.prog) w 40 5 i _ Tryz.underlying40 hi hz .i64 .i64 64 64 (by omega) (by omega) (by rw [hs]; simp) (by rw [hb]; simp) (by omega)
  rw [h, hs]
  have e : madeCells (Value.int .u8 0).cells (Int.toNat 64 * 1) = (u8s (zb 64)).toArray := by
    rw [show (Value.int .u8 0).cells = #[Value.int .u8 0] from rfl]
    apply Array.toList_inj.1
    rw [toList_madeCells_one]
    rfl
  rw [e]
  rfl
theorem run_index52 (w : World) (g n c i : Nat) (hi : i < n) : (Instr.indexAt 67 (.slice (some ⟨g, 0, none⟩) n c) (.int .i64 (i : Int))).run Tryz.prog w = .ok (.pointer (some ⟨g, 64 * i, none⟩)) w := by
  have h := run_indexAt_slice (P := Tryz.prog) w 67 ⟨g, 0, none⟩ n c .i64 (i : Int) (by kernel_rfl)
  have hc : (0 : Int) ≤ (i : Int) ∧ (i : Int) < (n : Int) := by omega
  have hs : (sizeOf (Tryz.prog.elem 67)).run Tryz.prog w = .ok 64 w := by kernel_rfl
  rw [if_pos hc, hs] at h
  rw [h]
  simp [Addr.add_mid, Nat.mul_comm]
/-- What Read answers of a block. -/
def ReadOk (w : World) (b : List UInt8) (e : Ending) (w' : World) : Prop :=
  ∃ g, e = .returned (.tuple #[.slice (some ⟨g, 0, none⟩) 64 64, .int .i64 0]) ∧ Blk w' g 5 (u8s b) ∧ w.heap.size ≤ g ∧ w.grownBy w' none
section
variable {foot : Nat → Prop} {w : World} {p : Nat} {s : St}
theorem has_yes (h : Dsk w foot p s) {i : Nat} (hi : i < s.n) : Calls Tryz.prog 49 #[.pointer (some ⟨p, 0, none⟩), .int .i64 (i : Int)] w fun e w' => e = .returned (.bool true) ∧ w = w' :=
  (has_any h (i : Int)).mono fun e w' ⟨he, hw⟩ => ⟨he.trans (bool_end (by simpa using hi)), hw⟩
theorem has_no (h : Dsk w foot p s) {a : Int} (ha : ¬ (0 ≤ a ∧ a < (s.n : Int))) : Calls Tryz.prog 49 #[.pointer (some ⟨p, 0, none⟩), .int .i64 a] w fun e w' => e = .returned (.bool false) ∧ w = w' :=
  (has_any h a).mono fun e w' ⟨he, hw⟩ => ⟨he.trans (bool_end (by simpa using ha)), hw⟩
theorem read_no (h : Dsk w foot p s) {a : Int} (ha : ¬ (0 ≤ a ∧ a < (s.n : Int))) : Calls Tryz.prog 77 #[.pointer (some ⟨p, 0, none⟩), .int .i64 a] w fun e w' => e = .returned (.tuple #[.slice none 0 0, .int .i64 1]) ∧ w = w' := by
  have HC := Lib.hid (has_no h ha)
  clear ha
  go_enter Tryz.func77, Tryz.ntmps77
  go_wp2_with (first | (go_at_call 49; refine HC.out.mono ?_; rintro e w1 ⟨rfl, rfl⟩) | fail)
  go_ret2
  exact ⟨rfl, rfl⟩
theorem read_dead (h : Dsk w foot p s) {i : Nat} (hi : i < s.n) (hd : s.dead = true) : Calls Tryz.prog 77 #[.pointer (some ⟨p, 0, none⟩), .int .i64 (i : Int)] w fun e w' => e = .returned (.tuple #[.slice none 0 0, .int .i64 150]) ∧ w = w' := by
  have HC := Lib.hid (has_yes h hi)
  obtain ⟨gb, Wv, B, W, h1, h2, h3, h4, h5⟩ := h
  have c3 : w.cell? ⟨p, 3, none⟩ = some (.bool s.dead) := h1.get 3 _ rfl
  rw [hd] at c3
  clear h1 h2 h3 h4 h5 hi hd
  go_enter Tryz.func77, Tryz.ntmps77
  go_wp2_with (first | (go_at_call 49; refine HC.out.mono ?_; rintro e w1 ⟨rfl, rfl⟩) | fail)
  go_ret2
  exact ⟨rfl, rfl⟩
set_option maxHeartbeats 800000 in
theorem read_yes (h : Dsk w foot p s) {i : Nat} (hi : i < s.n) (hd : s.dead = false) : Calls Tryz.prog 77 #[.pointer (some ⟨p, 0, none⟩), .int .i64 (i : Int)] w (ReadOk w (blk (redo s.K s.L) i)) := by
  have HC := Lib.hid (has_yes h hi)
  obtain ⟨gb, Wv, B, W, h1, h2, h3, h4, h5⟩ := h
  have c3 : w.cell? ⟨p, 3, none⟩ = some (.bool s.dead) := h1.get 3 _ rfl
  have c0 : w.cell? ⟨p, 0, none⟩ = some (.slice (some ⟨gb, 0, none⟩) s.n s.n) := h1.get 0 _ rfl
  rw [hd] at c3
  have hB := h5.inv.now
  have hlt := h4.lt gb h4.hgb
  have hl : (blk B i).length = 64 := blk_length h5.len hi
  rw [← hB]
  rw [mid_parts B i] at h2
  have hx : Byt w (fun b => b = gb) (some ⟨gb, 64 * i, none⟩) (blk B i) := h2.byt (by rw [u8s_length, List.length_take, h5.len]; omega)
  have hx2 : Byt (w.alloc (.cells (u8s (zb 64)).toArray 5)) (fun b => b = gb) (some ⟨gb, 64 * i, none⟩) (blk B i) := hx.grown (World.grownBy_alloc _ _ none) (fun b hb => ⟨by omega, by simp⟩)
  have hb2 : Blk (w.alloc (.cells (u8s (zb 64)).toArray 5)) w.heap.size 5 ([] ++ u8s (zb 64) ++ []) := by
    have := Blk.of_alloc w (u8s (zb 64)).toArray 5
    simpa using this
  have c0' : (w.alloc (.cells (u8s (zb 64)).toArray 5)).cell? ⟨p, 0, none⟩ = some (.slice (some ⟨gb, 0, none⟩) s.n s.n) := by
    rw [World.cell?_alloc_lt _ _ _ (World.block_lt_of_cell? w _ c0)]
    exact c0
  have HX := Lib.hid hx2
  have HB := Lib.hid hb2
  have HL := Lib.hid hl
  have hm := run_make64
  have hix := fun w => run_index52 w gb s.n s.n i hi
  clear h1 h2 h3 h4 h5 hd hB hlt hl hx hx2 hb2 c0
  go_enter Tryz.func77, Tryz.ntmps77
  go_wp2_with (first | (go_at_call 49; refine HC.out.mono ?_; rintro e w1 ⟨rfl, rfl⟩) | (refine wpList_copy_blk rfl _ _ rfl w.heap.size 0 64 64 64 64 (some ⟨gb, 64 * i, none⟩) (blk B i) (zb 64) rfl rfl HL.out (zb_length _) 5 [] [] HB.out rfl _ HX.out 64 (by rw [HL.out, zb_length]; rfl) ?_) | fail)
  intro w2 hb3 hg hz
  rw [lay_full (by rw [HL.out, zb_length])] at hb3
  have HB3 := Lib.hid hb3
  have HG := Lib.hid hg
  clear hb3 hg hz
  go_wp2
  go_ret2
  refine ⟨w.heap.size, rfl, by simpa using HB3.out, Nat.le_refl _, ?_⟩
  exact World.grownBy.andThen (World.grownBy_alloc _ _ none) HG.out (by rintro j ⟨⟩; exact .inl (Nat.le_refl _))
end
end Go.Proofs.YtonpcenjipigpaaGreat
