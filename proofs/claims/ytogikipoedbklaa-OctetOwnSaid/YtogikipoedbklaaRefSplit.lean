/- The reference's Split tells the document's pieces of any bytes, in new memory, with its error. Conditions: none. -/
import Derived.Test.YtogikipoedbklaaSplit
namespace Go.Proofs.Ytogikipoedbklaa
open Go.RowKit

theorem at_pair {w : World} {ok : Nat → Prop} {ab ao : Nat} {xs : List UInt8} {a : Nat} (h : Byt w ok (some ⟨ab, ao, none⟩) xs) (h2 : a + 2 ≤ xs.length) :
    ∃ x y : UInt8, w.cell? ⟨ab, ao + a, none⟩ = some (.int .u8 (x.toNat : Int)) ∧ w.cell? ⟨ab, ao + (a + 1), none⟩ = some (.int .u8 (y.toNat : Int)) ∧ Hid (xs.drop a = x :: y :: xs.drop (a + 2)) := by
  obtain ⟨ad, e, _, h0⟩ := h a (by omega)
  cases e
  obtain ⟨ad, e, _, h1⟩ := h (a + 1) (by omega)
  cases e
  rw [Addr.add_lit] at h0 h1
  refine ⟨_, _, h0, h1, ?_⟩
  show xs.drop a = _
  rw [List.drop_eq_getElem_cons (show a < xs.length by omega), List.drop_eq_getElem_cons (show a + 1 < xs.length by omega)]
theorem wpList_append_byt_n {P : Program} (w : World) {ops : Array Oper} {rest : List Oper} {o : Oper} {a : Act} {Q : Exit → Act → World → Prop} (hgd : o.guard = none) (s x : Operand) (t : TypeId)
    (ho : o.op = .call { callee := .builtin .append, args := #[s, x], argTypes := #[t, t] })
    (base : Nat) (i : TypeInfo) (z : Value) (ht : P.underlying t = some (.slice 5)) (hi : P.info? 5 = some i) (hz : i.zero = some z)
    (hsize : i.size = 1) (hby : i.bytes = 1) (hzs : z.cells.size = 1)
    (v : Value) (n : Nat) (ys : List UInt8) (hs : a.eval s = v) (hown : w.ownsRow base 5 1 v n (u8s ys)) (ok : Nat → Prop) (A : Option Addr) (c m : Nat) (xs : List UInt8) (hxm : xs.length = m) (hx : a.eval x = .slice A m c) (hr : Byt w ok A xs)
    (h63 : n + m ≤ 140737488355328) (hbase : base ≤ w.heap.size)
    (h : ∀ v' w', w'.ownsRow base 5 1 v' (n + m) (u8s (ys ++ xs)) → w.grownBy w' v.ownBlock → (v'.ownBlock = v.ownBlock ∨ v'.ownBlock = some w.heap.size) → wpList P ops Q rest (a.put o.dst v') w') :
    wpList P ops Q (o :: rest) a w := by
  subst hxm
  exact wpList_append_byt w hgd s x t ho base i z ht hi hz hsize hby hzs v n ys hs hown ok A c xs hx hr h63 hbase h
theorem own_form_n {w : World} {base n m : Nat} {v : Value} {xs : List UInt8} (h : w.ownsRow base 5 1 v n (u8s xs)) (hm : xs.length = m) :
    ∃ A c, v = .slice A m c ∧ m ≤ c ∧ c ≤ maxLen ∧ Byt w (fun b => v.ownBlock = some b ∧ base ≤ b ∧ b < w.heap.size) A xs := by
  subst hm
  obtain ⟨A, c, h1, _, h2, h3, h4⟩ := own_form h
  exact ⟨A, c, h1, h2, h3, h4⟩
theorem num_sum (x y : UInt8) : (x.toNat : Int) * 256 + (y.toNat : Int) = ((x.toNat * 256 + y.toNat : Nat) : Int) := by omega

set_option maxRecDepth 100000 in
set_option maxHeartbeats 2000000 in
theorem refsplit_any {w : World} {ok : Nat → Prop} {A : Option Addr} {b : List UInt8} {c : Nat} (hx : Byt w ok A b) (hok : ∀ g, ok g → g < w.heap.size) (hc : b.length ≤ c) (hm : c ≤ maxLen) :
    Calls Try.prog 21 #[.slice A b.length c] w (SplitE w b) := by
  unfold maxLen at hm
  by_cases h0 : b.length = 0
  · have hnil : Hid (split b = ([], 20)) := by
      show split b = _
      rw [List.eq_nil_of_length_eq_zero h0]; rfl
    have d1 : ((b.length : Int) == 0) = true := by rw [h0]; rfl
    clear h0 hx
    go_enter Try.func21, Try.ntmps21
    go_wp2
    go_ret2
    exact splitE_err hnil.out (Below.refl _ _)
  have d1 : ((b.length : Int) == 0) = false := by rw [beq_eq_false_iff_ne]; omega
  obtain ⟨ab, ao, rfl, hokb, hc0, -⟩ := at_two hx (by omega)
  obtain ⟨z, hz⟩ : ∃ z, b[0] = z := ⟨_, rfl⟩
  rw [hz] at hc0
  have hspl : Hid (split b = if 64 < z.toNat then ([], 4) else spl z.toNat (b.drop 1) []) := by
    show split b = _
    subst hz
    rcases b with _ | ⟨y, r⟩
    · simp at h0
    · rfl
  have hlt := hok ab hokb
  have hb0 := z.toNat_lt
  clear hz
  by_cases hbig : 64 < z.toNat
  · have hend : Hid (split b = ([], 4)) := by
      show split b = _
      rw [hspl.out, if_pos hbig]
    go_enter Try.func21, Try.ntmps21
    go_wp2
    go_ret2
    exact splitE_err hend.out (Below.refl _ _)
  have hJ : Hid (spl z.toNat (b.drop 1) [] = split b) := by
    show _ = split b
    rw [hspl.out, if_neg hbig]
  clear hspl
  go_enter Try.func21, Try.ntmps21
  go_wp2
  go_loopw [4, 5, 6] (fun v t i wr => ∃ (k a : Nat) (acc : List (List UInt8)), i = .int .i64 k ∧ t = .int .i64 a ∧ k ≤ z.toNat ∧ acc.length ≤ k ∧ a ≤ b.length ∧ Hid (spl (z.toNat - k) (b.drop a) acc = split b) ∧ Pcs wr w.heap.size v acc ∧ Below w.heap.size w wr)
    (fun _ _ i _ => z.toNat - (intOf i).toNat)
  case atStart => exact ⟨0, 1, [], rfl, rfl, Nat.zero_le _, Nat.le_refl _, by omega, hJ, Pcs.nil _ _, Below.refl _ _⟩
  case round =>
    obtain ⟨k, a, acc, rfl, rfl, hk, hl, ha, hs, hp, hb⟩ := hrel
    have hcw : wr.cell? ⟨ab, ao, none⟩ = some (.int .u8 (z.toNat : Int)) := (hb.cell (p := ⟨ab, ao, none⟩) hlt).trans hc0
    clear hc0 hJ
    by_cases hround : k < z.toNat
    · have hx' : Byt wr ok (some ⟨ab, ao, none⟩) b := hx.below hb hok
      obtain ⟨l, hzl⟩ : ∃ l, z.toNat - k = l + 1 := ⟨z.toNat - k - 1, by omega⟩
      rw [hzl] at hs
      by_cases h2 : b.length - a < 2
      · have hend : Hid (split b = ([], 20)) := by
          show split b = _
          rw [← hs.out, spl_short _ _ _ (by simp; omega)]
        clear hzl
        have d2 : decide ((b.length : Int) - (a : Int) < 2) = true := by simp; omega
        go_wp2
        go_ret2
        exact splitE_err hend.out hb
      have d2 : decide ((b.length : Int) - (a : Int) < 2) = false := by simp; omega
      obtain ⟨x, y, hca, hcb, htwo⟩ := at_pair (a := a) hx' (by omega)
      have hs1 := hs.out
      rw [htwo.out, spl_cons] at hs1
      obtain ⟨s, hsz⟩ : ∃ s, x.toNat * 256 + y.toNat = s := ⟨_, rfl⟩
      have hx8 := x.toNat_lt
      have hy8 := y.toNat_lt
      have hs64 : s ≤ 65535 := by omega
      have hsum := num_sum x y
      rw [hsz] at hs1 hsum
      have HS : Hid _ := hs1.symm
      have HDL : Hid ((b.drop (a + 2)).length = b.length - (a + 2)) := by
        show (b.drop (a + 2)).length = _
        rw [List.length_drop]
      have w1 : IntKind.i64.wrap ((x.toNat : Int) * 256) = (x.toNat : Int) * 256 := IntWalk.i64_in _ (by omega)
      have w2 : IntKind.i64.wrap ((x.toNat : Int) * 256 + (y.toNat : Int)) = (s : Int) := by rw [hsum]; exact IntWalk.i64_in _ (by omega)
      have w3 : IntKind.i64.wrap ((a : Int) + 1) = (a : Int) + 1 := IntWalk.i64_in _ (by omega)
      have w4 : (0 : Int) ≤ (a : Int) + 1 := by omega
      have w5 : ((a : Int) + 1).toNat = a + 1 := by omega
      have w6 : (a : Int) + 1 < (b.length : Int) := by omega
      have w7 : (a : Int) < (b.length : Int) := by omega
      have w8 : (0 : Int) ≤ (a : Int) := by omega
      have HZL := Lib.hid hzl
      clear hs1 hsz hs hzl htwo
      go_wp2_with fail
      go_quiet (fail)
      clear w1 w2 w3 w4 w5 w6 w7 w8 hca hcb hsum
      have hbq := below_drewN hb nq
      by_cases hbig2 : 4096 < s
      · have hend : Hid (split b = ([], 5)) := by
          show split b = _
          rw [HS.out, if_pos hbig2]
        go_wp2
        go_ret2
        exact splitE_err hend.out hbq
      by_cases hshort : b.length - (a + 2) < s
      · have hend : Hid (split b = ([], 20)) := by
          show split b = _
          rw [HS.out, if_neg hbig2, HDL.out, if_pos hshort]
        have d3 : decide ((b.length : Int) - ((a : Int) + 2) < (s : Int)) = true := by simp; omega
        go_wp2
        go_ret2
        exact splitE_err hend.out hbq
      have d3 : decide ((b.length : Int) - ((a : Int) + 2) < (s : Int)) = false := by simp; omega
      have HN : Hid (split b = spl l (b.drop (a + 2 + s)) (acc ++ [(b.drop (a + 2)).take s])) := by
        show split b = _
        rw [HS.out, if_neg hbig2, HDL.out, if_neg hshort, List.drop_drop]
      have HT : Hid (((b.drop (a + 2)).take s).length = s) := by
        show ((b.drop (a + 2)).take s).length = s
        rw [List.length_take, HDL.out]; omega
      have hx2 := (hx'.drop (k := a + 2) (c := c) (by omega) (by omega)).take s
      have hx3 : Byt (wr.drewN nq) ok (if c = a + 2 then some (⟨ab, ao, none⟩ : Addr) else some ⟨ab, ao + (a + 2), none⟩) ((b.drop (a + 2)).take s) := by
        have hx4 : Byt wr ok (if c = a + 2 then some (⟨ab, ao, none⟩ : Addr) else some ⟨ab, ao + (a + 2), none⟩) ((b.drop (a + 2)).take s) := by
          simpa [Addr.add_lit] using hx2
        exact hx4
      have HT2 : Hid (((b.drop (a + 2)).take s).length = a + 2 + s - (a + 2)) := by
        show ((b.drop (a + 2)).take s).length = _
        rw [HT.out]; omega
      obtain ⟨i0, hi, hz0, hz1, hz2⟩ := info_parts Try.info5
      obtain ⟨vals, hvals, hpv⟩ := id hp
      clear hpv hx2 HS
      by_cases hce : c = a + 2
      · subst hce
        rw [if_pos rfl] at hx3
        go_wp2_with (at_builtin; (refine wpList_append_byt_n _ rfl _ _ 24 rfl wr.heap.size i0 (.int .u8 0) Try.underlying24 hi hz0 hz1 hz2 rfl (.slice none 0 0) 0 [] rfl (World.ownsRow_nil _ _ _ _) ok _ _ _ _ HT2.out rfl hx3 ?c1 (Nat.le_refl _) ?_))
        case c1 => omega
        intro v1 w3 hown1 hgrow1 hat1
        have hb13 : Below wr.heap.size wr w3 := (below_drewN (Below.refl _ _) nq).trans ⟨hgrow1.os, hgrow1.tape, hgrow1.output, hgrow1.size, fun i hi => hgrow1.block i hi (by simp [Value.ownBlock])⟩
        obtain ⟨A', c', rfl, g1, g2, g3⟩ := own_form_n (by simpa using hown1) HT.out
        have hown3 := (own_below hvals hb13).alloc (.cells #[.slice A' s c'] 24)
        obtain ⟨j0, hj, hy0, hy1, hy2⟩ := info_parts Try.info24
        have q1 : w.heap.size ≤ (w3.alloc (.cells #[.slice A' s c'] 24)).heap.size := le_alloc (Nat.le_trans hb.size hb13.size)
        clear hown1 hgrow1 hat1
        go_wp2_with (at_builtin; (refine wpList_append_own_at _ rfl _ _ 36 rfl w.heap.size 24 j0 (.slice none 0 0) 1 24 Try.underlying36 hj hy0 hy1 hy2 rfl Nat.one_pos _ _ _ rfl hown3 ⟨w3.heap.size, 0, none⟩ 1 1 [.slice A' s c'] rfl rfl (cell_one_new _ _ _) (one_slice _ _ _) ?c3 ?c4 q1 ?_))
        case c3 => unfold maxLen; omega
        case c4 => omega
        intro v2 w4 hown4 hgrow4 _ hat4
        have hat5 : v2.ownBlock = u4.ownBlock ∨ v2.ownBlock = some (w3.heap.size + 1) := by
          rcases hat4 with h | h
          · exact .inl h
          · exact .inr h
        have hpush : Pcs w4 w.heap.size v2 (acc ++ [(b.drop (a + 2)).take s]) := by
          have hh := HT.out
          refine hp.push (A := A') (c := c') hb.size hb13 (g3.imp fun g hg => hg.2) (by rw [hh]; exact g1) g2 hvals ?_ ?_ hat5
          · rw [hh]; exact hown4
          · rw [hh]; exact hgrow4
        have hb4 : Below w.heap.size w w4 := (hb.trans ((hb13.mono hb.size).alloc (Nat.le_trans hb.size hb13.size) _)).grown hgrow4 q1 fun g hg => (hvals.lt g hg).1
        clear hown3 hown4 hgrow4 hat4 hat5 hvals hx3 hp hb13 hb g3 hbq
        have HN2 : Hid (spl (z.toNat - (k + 1)) (b.drop (a + 2 + s)) (acc ++ [(b.drop (a + 2)).take s]) = split b) := by
          show _ = split b
          rw [show z.toNat - (k + 1) = l by have := HZL.out; omega]
          exact HN.out.symm
        go_wp2
        go_roundw
        case rel => exact ⟨k + 1, a + 2 + s, _, by go_num, by go_num, by omega, by simp; omega, by omega, HN2, hpush, hb4⟩
        case measure => simp [intOf]; omega
      · rw [if_neg hce] at hx3
        go_wp2_with (at_builtin; (refine wpList_append_byt_n _ rfl _ _ 24 rfl wr.heap.size i0 (.int .u8 0) Try.underlying24 hi hz0 hz1 hz2 rfl (.slice none 0 0) 0 [] rfl (World.ownsRow_nil _ _ _ _) ok _ _ _ _ HT2.out rfl hx3 ?c1 (Nat.le_refl _) ?_))
        case c1 => omega
        intro v1 w3 hown1 hgrow1 hat1
        have hb13 : Below wr.heap.size wr w3 := (below_drewN (Below.refl _ _) nq).trans ⟨hgrow1.os, hgrow1.tape, hgrow1.output, hgrow1.size, fun i hi => hgrow1.block i hi (by simp [Value.ownBlock])⟩
        obtain ⟨A', c', rfl, g1, g2, g3⟩ := own_form_n (by simpa using hown1) HT.out
        have hown3 := (own_below hvals hb13).alloc (.cells #[.slice A' s c'] 24)
        obtain ⟨j0, hj, hy0, hy1, hy2⟩ := info_parts Try.info24
        have q1 : w.heap.size ≤ (w3.alloc (.cells #[.slice A' s c'] 24)).heap.size := le_alloc (Nat.le_trans hb.size hb13.size)
        clear hown1 hgrow1 hat1
        go_wp2_with (at_builtin; (refine wpList_append_own_at _ rfl _ _ 36 rfl w.heap.size 24 j0 (.slice none 0 0) 1 24 Try.underlying36 hj hy0 hy1 hy2 rfl Nat.one_pos _ _ _ rfl hown3 ⟨w3.heap.size, 0, none⟩ 1 1 [.slice A' s c'] rfl rfl (cell_one_new _ _ _) (one_slice _ _ _) ?c3 ?c4 q1 ?_))
        case c3 => unfold maxLen; omega
        case c4 => omega
        intro v2 w4 hown4 hgrow4 _ hat4
        have hat5 : v2.ownBlock = u4.ownBlock ∨ v2.ownBlock = some (w3.heap.size + 1) := by
          rcases hat4 with h | h
          · exact .inl h
          · exact .inr h
        have hpush : Pcs w4 w.heap.size v2 (acc ++ [(b.drop (a + 2)).take s]) := by
          have hh := HT.out
          refine hp.push (A := A') (c := c') hb.size hb13 (g3.imp fun g hg => hg.2) (by rw [hh]; exact g1) g2 hvals ?_ ?_ hat5
          · rw [hh]; exact hown4
          · rw [hh]; exact hgrow4
        have hb4 : Below w.heap.size w w4 := (hb.trans ((hb13.mono hb.size).alloc (Nat.le_trans hb.size hb13.size) _)).grown hgrow4 q1 fun g hg => (hvals.lt g hg).1
        clear hown3 hown4 hgrow4 hat4 hat5 hvals hx3 hp hb13 hb g3 hbq
        have HN2 : Hid (spl (z.toNat - (k + 1)) (b.drop (a + 2 + s)) (acc ++ [(b.drop (a + 2)).take s]) = split b) := by
          show _ = split b
          rw [show z.toNat - (k + 1) = l by have := HZL.out; omega]
          exact HN.out.symm
        go_wp2
        go_roundw
        case rel => exact ⟨k + 1, a + 2 + s, _, by go_num, by go_num, by omega, by simp; omega, by omega, HN2, hpush, hb4⟩
        case measure => simp [intOf]; omega
    · have hz0 : z.toNat - k = 0 := by omega
      have HZ : Hid (split b = spl 0 (b.drop a) acc) := by
        have := hs.out
        rw [hz0] at this
        exact this.symm
      clear hz0 hs
      by_cases hmore : a < b.length
      · have hend : Hid (split b = ([], 21)) := by
          show split b = _
          rw [HZ.out, spl_zero, if_neg (by intro e; have := congrArg List.length e; simp at this; omega)]
        go_wp2
        go_ret2
        exact splitE_err hend.out hb
      · have hend : Hid (split b = (acc, 0)) := by
          show split b = _
          rw [HZ.out, spl_zero, if_pos (List.drop_of_length_le (by omega))]
        obtain ⟨A', c', rfl, h1, h2, h3⟩ := hp.lst
        go_wp2
        go_ret2
        exact splitE_ok hend.out h1 h2 h3 hb
end Go.Proofs.Ytogikipoedbklaa
