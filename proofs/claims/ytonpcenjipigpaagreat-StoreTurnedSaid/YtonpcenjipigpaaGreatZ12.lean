/- The reference's Head. Conditions: numbers that have room. -/
import Derived.Test.YtonpcenjipigpaaGreatZ11
import Derived.ArgAppend
import Derived.Test.YtonpcenjipigpaaGreatZ8
namespace Go.Proofs.YtonpcenjipigpaaGreat
open Go.RowKit
/-- 0 .. k zeros behind. -/
theorem zb_snoc (k : Nat) : zb (k + 1) = zb k ++ [0] := by unfold zb; exact List.replicate_succ'
theorem Byt.u8at {w : World} {ok : Nat → Prop} {A : Addr} {xs : List UInt8} (h : Byt w ok (some A) xs) : ∀ j u, (u8s xs)[j]? = some u → w.cell? (A.add j) = some u := fun j u hu => by
  have hj : j < xs.length := by
    have := (List.getElem?_eq_some_iff.1 hu).1
    rwa [u8s_length] at this
  obtain ⟨ad, e, _, hc⟩ := h j hj
  cases e
  rw [hc]
  unfold u8s at hu
  rw [List.getElem?_map, List.getElem?_eq_getElem hj] at hu
  exact hu
/-- An append that grows a row that isn't the call's own. -/
theorem wpList_append_out (w : World) {ops : Array Oper} {rest : List Oper} {o : Oper} {a : Act} {Q : Exit → Act → World → Prop} (hgd : o.guard = none) (s x : Operand)
    (ho : o.op = .call { callee := .builtin .append, args := #[s, x], argTypes := #[40, 40] }) (ok0 ok : Nat → Prop) (A0 : Addr) (n cap : Nat) (ys : List UInt8) (hs : a.eval s = .slice (some A0) n cap) (hn : ys.length = n) (hy : Byt w ok0 (some A0) ys)
    (A : Option Addr) (m c : Nat) (xs : List UInt8) (hx : a.eval x = .slice A m c) (hm : xs.length = m) (hr : Byt w ok A xs) (h0 : 0 < m) (hcap : cap < n + m) (h63 : n + m ≤ 1048576)
    (h : ∀ v' w', w'.ownsRow w.heap.size 5 1 v' (n + m) (u8s (ys ++ xs)) → w.grownBy w' none → wpList Tryz.prog ops Q rest (a.put o.dst v') w') :
    wpList Tryz.prog ops Q (o :: rest) a w := by
  subst hn hm
  obtain ⟨i0, hi, hz0, hz1, hz2⟩ := info_parts Tryz.info5
  obtain ⟨ad, rfl, _⟩ := hr 0 h0
  have hfin : ∀ v' w', w'.ownsRow w.heap.size 5 1 v' (ys.length + xs.length) (u8s ys ++ u8s xs) → w.grownBy w' none → wpList Tryz.prog ops Q rest (a.put o.dst v') w' := fun v' w' h1 h2 => h v' w' (by rw [u8s_append]; exact h1) h2
  exact wpList_append_grows w hgd s x 40 ho 5 i0 (.int .u8 0) 1 1 Tryz.underlying40 hi hz0 hz1 hz2 rfl (by decide) (some A0) ys.length cap (u8s ys) hs (by simp) (by rw [u8s_length]; omega) (fun b hb => by cases hb; exact hy.u8at) ad xs.length c (u8s xs) hx (by rw [u8s_length]; omega) hr.u8at (u8s_one _) hcap (by unfold maxLen; omega) (by omega) hfin
theorem sb_zero (w : World) : Byt (w.alloc (.cells #[.int .u8 0] 5)) (fun b => b < (w.alloc (.cells #[.int .u8 0] 5)).heap.size) (some ⟨w.heap.size, 0, none⟩) [0] := by
  have hb : Blk (w.alloc (.cells #[.int .u8 0] 5)) w.heap.size 5 (u8s [0]) := Blk.of_alloc w _ 5
  exact (hb.bytAt (o := 0) (n := 1) (Nat.le_refl _)).imp fun b hb => by subst hb; simp
theorem hdr0_def (e c n : Nat) : head4 ++ be 8 e ++ be 4 c ++ be 4 n = hdr0 e c n := by unfold hdr0; rfl
theorem hid_own {w : World} {b b' n : Nat} {v : Value} {xs ys : List UInt8} (h : w.ownsRow b 5 1 v n (u8s xs)) (hb : b' ≤ b) (e : xs = ys) : w.ownsRow b' 5 1 v ys.length (u8s ys) := by
  subst e
  obtain ⟨A, c, _, h2, _⟩ := own_byt h
  rw [← h2]
  exact own_low h hb
set_option maxRecDepth 100000 in
set_option maxHeartbeats 2000000 in
theorem refHead_any (e c n : Nat) (w : World) (he : e < 18446744073709551616) (hc : c < 4294967296) (hn : n < 4294967296) : Calls Tryz.prog 34 #[.int .u64 (e : Int), .int .i64 (c : Int), .int .i64 (n : Int)] w (OwnB w (hdrB e c n)) := by
  have kE := fun w => long_any e w he
  have kC := fun w => num4_any c w hc
  have kN := fun w => num4_any n w hn
  obtain ⟨i0, hi, hz0, hz1, hz2⟩ := info_parts Tryz.info5
  go_enter Tryz.func34, Tryz.ntmps34
  go_wp2_with (refine wpList_plain rfl fun K hK => wp_mark _ rfl rfl (fun W' hcz hbz => hK _ _ ?_))
  refine (kE _).mono ?_
  rintro _ w1 ⟨A1, c1, rfl, l1, m1, y1, b1⟩
  have h4 : Sb W' (.slice (some ⟨w.heap.size, 0, none⟩) 4 4) head4 := (sb_head w).up hcz
  have hbW : Below w.heap.size w W' := hbz w (below_alloc _ _) (Nat.le_refl _)
  obtain ⟨A4, c4, e4, -, -, y4⟩ := h4
  cases e4
  have y4' := y4.old b1
  have hbw1 := below_then hbW b1
  have hl8 := be_length 8 e
  rw [hl8] at l1
  have hl4 : head4.length = 4 := rfl
  obtain ⟨ad1, rfl, -⟩ := y1 0 (by omega)
  clear y4 hcz hbz hbW hK K
  go_wp2_with (at_builtin; refine wpList_append_out w1 rfl _ _ rfl _ _ _ 4 4 head4 rfl rfl y4' _ 8 c1 (be 8 e) rfl hl8 y1 (by omega) (by omega) (by omega) ?_)
  intro v2 w2 o2 g2
  have hbw2 := below_then hbw1 (below_of_grown g2)
  have o2 := own_low o2 hbw1.size
  clear y1 y4' hbw1 g2 b1
  go_wp2_with fail
  go_at_call 60
  refine (kC _).mono ?_
  rintro _ w3 ⟨v3, rfl, n3, b3⟩
  obtain ⟨A3, c3, rfl, -, l3, m3, y3⟩ := own_byt n3
  have hbw3 := below_then hbw2 b3
  have hs3 := hbw3.size
  have hl3 := be_length 4 c
  have o3 := own_up o2 b3
  clear o2 n3 b3
  go_wp2_with (at_builtin; refine wpList_append_byt_n _ rfl _ _ 40 rfl w.heap.size i0 (.int .u8 0) Tryz.underlying40 hi hz0 hz1 hz2 rfl _ _ _ rfl o3 _ A3 c3 _ (be 4 c) rfl rfl y3 ?qa4 hs3 ?_)
  case qa4 => omega
  intro v4 w4 o4 g4 _
  have hbw4 := hbw3.grown g4 hs3 fun g hg => (o3.lt g hg).1
  have hs4 := hbw4.size
  clear o3 y3 g4 hbw3
  go_wp2_with fail
  go_at_call 60
  refine (kN _).mono ?_
  rintro _ w5 ⟨v5, rfl, n5, b5⟩
  obtain ⟨A5, c5, rfl, -, l5, m5, y5⟩ := own_byt n5
  have hbw5 := below_then hbw4 b5
  have hs5 := hbw5.size
  have hl5 := be_length 4 n
  have o5 := own_up o4 b5
  clear o4 n5 b5
  go_wp2_with (at_builtin; refine wpList_append_byt_n _ rfl _ _ 40 rfl w.heap.size i0 (.int .u8 0) Tryz.underlying40 hi hz0 hz1 hz2 rfl _ _ _ rfl o5 _ A5 c5 _ (be 4 n) rfl rfl y5 ?qa6 hs5 ?_)
  case qa6 => omega
  intro v6 w6 o6 g6 _
  have hbw6 := hbw5.grown g6 hs5 fun g hg => (o5.lt g hg).1
  have hs6 := hbw6.size
  have o6' := hid_own o6 (Nat.le_refl _) (hdr0_def e c n)
  have hl0 := hdr0_length e c n
  clear o5 y5 g6 hbw5 o6
  obtain ⟨t, ht⟩ : ∃ t, t = hdr0 e c n := ⟨_, rfl⟩
  rw [← ht] at o6' hl0
  have HT := Lib.hid ht
  obtain ⟨s, hs⟩ : ∃ s, s = sumS t := ⟨_, rfl⟩
  have hsl : s < 2147483647 := by rw [hs]; exact sumTo_lt t t.length
  rw [hl0] at o6'
  obtain ⟨A6, c6, rfl, l6, m6, y6⟩ := own_form_n o6' hl0
  have hS := rS_any (c := c6) y6 hl0 (by omega)
  rw [← hs] at hS
  have HS := Lib.hid hs
  clear ht hs
  go_wp2_with fail
  go_at_call 61
  refine hS.mono ?_
  rintro _ w7 ⟨rfl, rfl⟩
  clear hS
  go_wp2_with fail
  go_at_call 60
  refine (num4_any s _ (by omega)).mono ?_
  rintro _ w7 ⟨v7, rfl, n7, b7⟩
  obtain ⟨A7, c7, rfl, -, l7, m7, y7⟩ := own_byt n7
  have hbw7 := below_then hbw6 b7
  have hs7 := hbw7.size
  have hl7 := be_length 4 s
  have o7 := own_up o6' b7
  clear o6' y6 b7 n7
  go_wp2_with (at_builtin; refine wpList_append_byt_n _ rfl _ _ 40 rfl w.heap.size i0 (.int .u8 0) Tryz.underlying40 hi hz0 hz1 hz2 rfl _ _ _ rfl o7 _ A7 c7 _ (be 4 s) rfl rfl y7 ?qa8 hs7 ?_)
  case qa8 => omega
  intro v8 w8 o8 g8 _
  have hbw8 := hbw7.grown g8 hs7 fun g hg => (o7.lt g hg).1
  have hs8 := hbw8.size
  have h1 : t ++ be 4 s = hdr1 e c n := by rw [HS.out, HT.out]; rfl
  rw [h1] at o8
  have hl1 := hdr1_length e c n
  obtain ⟨u, hu⟩ : ∃ u, u = hdr1 e c n := ⟨_, rfl⟩
  rw [← hu] at o8 hl1
  have HU := Lib.hid hu
  have o8' : w8.ownsRow w.heap.size 5 1 v8 24 (u8s u) := by
    have := hid_own o8 (Nat.le_refl _) (rfl : u = u)
    rw [hl1] at this
    exact this
  clear o8 o7 y7 g8 hbw7 h1 hu
  go_wp2
  go_loopw [7] (fun v wr => ∃ k : Nat, k ≤ 40 ∧ wr.ownsRow w.heap.size 5 1 v (24 + k) (u8s (u ++ zb k)) ∧ Below w.heap.size w wr) (fun v _ => 64 - (match v with | .slice _ n _ => n | _ => 0))
  case atStart => exact ⟨0, Nat.zero_le _, by simpa [zb] using o8', hbw8⟩
  case round =>
    clear o8' hbw8 hs8
    obtain ⟨k, hk, ho, hb⟩ := hrel
    have hlk : (u ++ zb k).length = 24 + k := by rw [List.length_append, zb_length, hl1]
    obtain ⟨Ak, ck, rfl, lk, mk, yk⟩ := own_form_n ho hlk
    have hsk := hb.size
    clear yk
    by_cases hlt : k < 40
    · have hoA := own_up ho (below_alloc wr (.cells #[.int .u8 0] 5))
      have hbA := bel_alloc (.cells #[.int .u8 0] 5) hb
      have hsA := hbA.size
      have hz := sb_zero wr
      have hzl : ([0] : List UInt8).length = 1 := rfl
      clear ho hb
      go_wp2_with (at_builtin; refine wpList_append_byt_n _ rfl _ _ 40 rfl w.heap.size i0 (.int .u8 0) Tryz.underlying40 hi hz0 hz1 hz2 rfl _ _ _ rfl hoA _ _ 1 _ ([0]) rfl rfl hz ?qz hsA ?_)
      case qz => omega
      intro v9 w9 o9 g9 _
      have hb9 := hbA.grown g9 hsA fun g hg => (hoA.lt g hg).1
      have ez : u ++ (zb k ++ [0]) = u ++ zb (k + 1) := by rw [zb_snoc]
      try rw [List.append_assoc] at o9
      rw [ez] at o9
      have hlk1 : (u ++ zb (k + 1)).length = 24 + k + 1 := by rw [List.length_append, zb_length, hl1]; omega
      obtain ⟨A9, c9, rfl, l9, m9, -⟩ := own_form_n o9 hlk1
      clear hoA hbA hz g9 ez
      go_wp2
      go_roundw
      case rel => exact ⟨k + 1, by omega, o9, hb9⟩
      case measure => simp; omega
    · obtain rfl : k = 40 := by omega
      have hlk' : (u ++ zb 40).length = 64 := hlk
      rw [HU.out, ← hdrB_eq] at ho
      go_wp2
      go_ret
      have hB := hdrB_length e c n
      exact ⟨_, rfl, by rw [hB]; exact ho, hb⟩
end Go.Proofs.YtonpcenjipigpaaGreat
/- The reference's Record. Conditions: at most half a million bytes, numbers that have room. -/
namespace Go.Proofs.YtonpcenjipigpaaGreat
open Go.RowKit
set_option maxRecDepth 100000 in
set_option maxHeartbeats 2000000 in
theorem refRecord_any {w : World} {ok : Nat → Prop} {A : Option Addr} {p : List UInt8} {n cp : Nat} (e kk : Nat) (hp : Byt w ok A p) (hok : ∀ b, ok b → b < w.heap.size) (hn : p.length = n) (_hnc : n ≤ cp) (_hcm : cp ≤ maxLen) (hm : n ≤ 524288) (he : e < 18446744073709551616) (hkk : kk < 4294967296) : Calls Tryz.prog 35 #[.int .u64 (e : Int), .int .i64 (kk : Int), .slice A n cp] w (OwnB w (recB e kk p)) := by
  have hp0 := hp.imp hok
  clear hp hok
  obtain ⟨i0, hi, hz0, hz1, hz2⟩ := info_parts Tryz.info5
  have o0 : w.ownsRow w.heap.size 5 1 (.slice none 0 0) 0 (u8s []) := World.ownsRow_nil w w.heap.size 5 1
  go_enter Tryz.func35, Tryz.ntmps35
  go_wp2_with fail
  go_at_call 59
  refine (long_any e _ he).mono ?_
  rintro _ w1 ⟨A1, c1, rfl, l1, m1, y1, b1⟩
  have o1 := own_up o0 b1
  have hbw1 := b1
  have hs1 := hbw1.size
  have hl1 := be_length 8 e
  clear o0 b1
  go_wp2_with (at_builtin; refine wpList_append_byt_n _ rfl _ _ 40 rfl w.heap.size i0 (.int .u8 0) Tryz.underlying40 hi hz0 hz1 hz2 rfl _ _ _ rfl o1 _ A1 c1 _ (be 8 e) rfl rfl y1 ?qa2 hs1 ?_)
  case qa2 => omega
  intro v2 w2 o2 g2 _
  have hbw2 := hbw1.grown g2 hs1 fun g hg => (o1.lt g hg).1
  have hs2 := hbw2.size
  clear o1 y1 g2 hbw1
  go_wp2_with fail
  go_at_call 60
  refine (num4_any kk _ hkk).mono ?_
  rintro _ w3 ⟨v3, rfl, n3, b3⟩
  obtain ⟨A3, c3, rfl, -, l3, m3, y3⟩ := own_byt n3
  have hbw3 := below_then hbw2 b3
  have hs3 := hbw3.size
  have hl3 := be_length 4 kk
  have o3 := own_up o2 b3
  clear o2 n3 b3
  go_wp2_with (at_builtin; refine wpList_append_byt_n _ rfl _ _ 40 rfl w.heap.size i0 (.int .u8 0) Tryz.underlying40 hi hz0 hz1 hz2 rfl _ _ _ rfl o3 _ A3 c3 _ (be 4 kk) rfl rfl y3 ?qa4 hs3 ?_)
  case qa4 => omega
  intro v4 w4 o4 g4 _
  have hbw4 := hbw3.grown g4 hs3 fun g hg => (o3.lt g hg).1
  have hs4 := hbw4.size
  clear o3 y3 g4 hbw3 hbw2
  go_wp2_with fail
  go_at_call 60
  refine (num4_any n _ (by omega)).mono ?_
  rintro _ w5 ⟨v5, rfl, n5, b5⟩
  obtain ⟨A5, c5, rfl, -, l5, m5, y5⟩ := own_byt n5
  have hbw5 := below_then hbw4 b5
  have hs5 := hbw5.size
  have hl5 := be_length 4 n
  have o5 := own_up o4 b5
  clear o4 n5 b5
  go_wp2_with (at_builtin; refine wpList_append_byt_n _ rfl _ _ 40 rfl w.heap.size i0 (.int .u8 0) Tryz.underlying40 hi hz0 hz1 hz2 rfl _ _ _ rfl o5 _ A5 c5 _ (be 4 n) rfl rfl y5 ?qa6 hs5 ?_)
  case qa6 => omega
  intro v6 w6 o6 g6 _
  have hbw6 := hbw5.grown g6 hs5 fun g hg => (o5.lt g hg).1
  have hs6 := hbw6.size
  have p6 := hp0.below hbw6 fun _ h => h
  clear o5 y5 g6 hbw5 hbw4
  go_wp2_with (at_builtin; refine wpList_append_byt_n _ rfl _ _ 40 rfl w.heap.size i0 (.int .u8 0) Tryz.underlying40 hi hz0 hz1 hz2 rfl _ _ _ rfl o6 _ A cp _ p hn rfl p6 ?qa8 hs6 ?_)
  case qa8 => omega
  intro v8 w8 o8 g8 _
  have hbw8 := hbw6.grown g8 hs6 fun g hg => (o6.lt g hg).1
  have hs8 := hbw8.size
  clear o6 p6 g8 hbw6
  have et : be 8 e ++ be 4 kk ++ be 4 n ++ p = be 8 e ++ (be 4 kk ++ (be 4 n ++ p)) := by rw [List.append_assoc, List.append_assoc]
  obtain ⟨t, ht⟩ : ∃ t, t = be 8 e ++ be 4 kk ++ be 4 n ++ p := ⟨_, rfl⟩
  have o8' := hid_own o8 (Nat.le_refl _) (show _ = t by rw [ht]; simp only [List.append_assoc])
  have hlt' : t.length = 16 + n := by rw [ht]; simp only [List.length_append, be_length, hn]
  rw [hlt'] at o8'
  have HT := Lib.hid ht
  clear o8 ht et
  go_wp2_with fail
  go_at_call 60
  refine (num4_any n _ (by omega)).mono ?_
  rintro _ w9 ⟨v9, rfl, n9, b9⟩
  have hbw9 := below_then hbw8 b9
  have hs9 := hbw9.size
  have hl9 := be_length 4 n
  have o8a := own_up o8' b9
  clear o8' b9 hbw8
  obtain ⟨A8, c8, rfl, l8, m8, y8⟩ := own_form_n o8a hlt'
  obtain ⟨s, hs⟩ : ∃ s, s = sumS t := ⟨_, rfl⟩
  have hsl : s < 2147483647 := by rw [hs]; exact sumTo_lt t t.length
  have hS := rS_any (c := c8) y8 hlt' (by omega)
  rw [← hs] at hS
  have HS := Lib.hid hs
  clear hs o8a
  go_wp2_with fail
  go_at_call 61
  refine hS.mono ?_
  rintro _ w10 ⟨rfl, rfl⟩
  clear hS y8
  go_wp2_with fail
  go_at_call 60
  refine (num4_any s _ (by omega)).mono ?_
  rintro _ w11 ⟨v11, rfl, n11, b11⟩
  obtain ⟨A11, c11, rfl, -, l11, m11, y11⟩ := own_byt n11
  have hbw11 := below_then hbw9 b11
  have hs11 := hbw11.size
  have hl11 := be_length 4 s
  have n9a := own_low (own_up n9 b11) hs8
  clear n9 b11 n11
  go_wp2_with (at_builtin; refine wpList_append_byt_n _ rfl _ _ 40 rfl w.heap.size i0 (.int .u8 0) Tryz.underlying40 hi hz0 hz1 hz2 rfl _ _ _ rfl n9a _ A11 c11 _ (be 4 s) rfl rfl y11 ?qa12 hs11 ?_)
  case qa12 => omega
  intro v12 w12 o12 g12 _
  have hbw12 := hbw11.grown g12 hs11 fun g hg => (n9a.lt g hg).1
  have hs12 := hbw12.size
  have p12 := hp0.below hbw12 fun _ h => h
  clear n9a y11 g12 hbw11 hbw9 hp0
  go_wp2_with (at_builtin; refine wpList_append_byt_n _ rfl _ _ 40 rfl w.heap.size i0 (.int .u8 0) Tryz.underlying40 hi hz0 hz1 hz2 rfl _ _ _ rfl o12 _ A cp _ p hn rfl p12 ?qa13 hs12 ?_)
  case qa13 => omega
  intro v13 w13 o13 g13 _
  have hbw13 := hbw12.grown g13 hs12 fun g hg => (o12.lt g hg).1
  have hs13 := hbw13.size
  clear o12 p12 g13 hbw12
  obtain ⟨u, hu⟩ : ∃ u, u = frontB e kk p ++ p := ⟨_, rfl⟩
  have hfu : be 4 n ++ be 4 s ++ p = u := by rw [hu, frontB, HS.out, HT.out, hn]
  have hl1 : u.length = 8 + n := by rw [hu, List.length_append, frontB_length, hn]
  have o13' := hid_own o13 (Nat.le_refl _) hfu
  rw [hl1] at o13'
  have HU := Lib.hid hu
  clear o13 hu hfu
  go_wp2
  have hnk := nblk_le (8 + n)
  obtain ⟨M, hM⟩ : ∃ M, M = 64 * nblk (8 + n) - (8 + n) := ⟨_, rfl⟩
  have HMe : Hid (8 + n + M = 64 * nblk (8 + n)) := by show _ = _; omega
  have hM64 : M < 64 := by omega
  have hmod : Hid (∀ k, k ≤ M → ((8 + n + k) % 64 = 0 ↔ k = M)) := by show ∀ k, _ → _; intro k hk'; omega
  clear hM hnk
  go_loopw [8] (fun v wr => ∃ k : Nat, k ≤ M ∧ wr.ownsRow w.heap.size 5 1 v (8 + n + k) (u8s (u ++ zb k)) ∧ Below w.heap.size w wr) (fun v _ => 8 + n + M - (match v with | .slice _ n _ => n | _ => 0))
  case atStart => exact ⟨0, Nat.zero_le _, by simpa [zb] using o13', hbw13⟩
  case round =>
    clear o13' hbw13 hs13
    obtain ⟨k, hk, ho, hb⟩ := hrel
    have hlk : (u ++ zb k).length = 8 + n + k := by rw [List.length_append, zb_length, hl1]
    obtain ⟨Ak, ck, rfl, lk, mk, yk⟩ := own_form_n ho hlk
    have hsk := hb.size
    have hmk := hmod.out k hk
    clear yk
    by_cases hlt : k < M
    · have hoA := own_up ho (below_alloc wr (.cells #[.int .u8 0] 5))
      have hbA := bel_alloc (.cells #[.int .u8 0] 5) hb
      have hsA := hbA.size
      have hz := sb_zero wr
      have hzl : ([0] : List UInt8).length = 1 := rfl
      have hne : ¬ (8 + n + k) % 64 = 0 := fun h => by have := hmk.1 h; omega
      have dne : (((8 + (n : Int) + (k : Int)) % 64) != 0) = true := by simp only [bne_iff_ne, ne_eq]; omega
      clear ho hb hmk
      go_wp2_with (at_builtin; refine wpList_append_byt_n _ rfl _ _ 40 rfl w.heap.size i0 (.int .u8 0) Tryz.underlying40 hi hz0 hz1 hz2 rfl _ _ _ rfl hoA _ _ 1 _ ([0]) rfl rfl hz ?qz hsA ?_)
      case qz => omega
      intro v14 w14 o14 g14 _
      have hb14 := hbA.grown g14 hsA fun g hg => (hoA.lt g hg).1
      have ez : u ++ (zb k ++ [0]) = u ++ zb (k + 1) := by rw [zb_snoc]
      try rw [List.append_assoc] at o14
      rw [ez] at o14
      have hlk1 : (u ++ zb (k + 1)).length = 8 + n + k + 1 := by rw [List.length_append, zb_length, hl1]; omega
      obtain ⟨A14, c14, rfl, l14, m14, -⟩ := own_form_n o14 hlk1
      clear hoA hbA hz g14 ez dne
      go_wp2
      go_roundw
      case rel => exact ⟨k + 1, by omega, o14, hb14⟩
      case measure => simp; omega
    · obtain rfl : k = M := by omega
      have h64 : (8 + n + k) % 64 = 0 := hmk.2 rfl
      have dne : (((8 + (n : Int) + (k : Int)) % 64) != 0) = false := by simp only [bne_eq_false_iff_eq]; omega
      have hB := recB_length e kk p
      have hrec : u ++ zb k = recB e kk p := by
        rw [recB, fillB, ← HU.out, hl1]
        congr 2
        have := HMe.out
        omega
      rw [hn, ← HMe.out] at hB
      rw [hrec] at ho
      clear hmk h64
      go_wp2
      go_ret
      exact ⟨_, rfl, by rw [hB]; exact ho, hb⟩
end Go.Proofs.YtonpcenjipigpaaGreat
/- Arrays of 64 bytes as values, and as parts of a write that waits. Conditions: none. -/
namespace Go.Proofs.YtonpcenjipigpaaGreat
open Go.RowKit
/-- 64 bytes, one by one. -/
def k64 (k : Fin 64 → UInt8) : List UInt8 := (List.finRange 64).map k
theorem k64_of (xs : List UInt8) (h : xs.length = 64) : ∃ k, xs = k64 k := by
  refine ⟨fun i => xs[i.1]'(by omega), ?_⟩
  apply List.ext_getElem
  · simp [k64, h]
  · intro j h1 h2
    simp [k64]
/-- The cells of one write that waits. -/
def wcell (i : Nat) (b : List UInt8) : List Value := Value.int .i64 (i : Int) :: u8s b
theorem wcell_length {i : Nat} {b : List UInt8} (h : b.length = 64) : (wcell i b).length = 65 := by simp [wcell, u8s_length, h]
theorem wcell_one (i : Nat) (b : List UInt8) : ∀ u ∈ wcell i b, u.oneCell' = true := by
  intro u hu
  rcases List.mem_cons.1 hu with rfl | hu
  · rfl
  · exact u8s_one b u hu
theorem run_build59k (w : World) (i : Int) (k : Fin 64 → UInt8) : (Instr.build 99 #[(0, .int .i64 i), (1, .agg (u8s (k64 k)).toArray)]).run Tryz.prog w = .ok (.agg (Value.int .i64 i :: u8s (k64 k)).toArray) w := by kernel_rfl
theorem run_build59 (w : World) (i : Nat) (b : List UInt8) (hl : b.length = 64) : (Instr.build 99 #[(0, .int .i64 (i : Int)), (1, .agg (u8s b).toArray)]).run Tryz.prog w = .ok (.agg (wcell i b).toArray) w := by
  obtain ⟨k, rfl⟩ := k64_of b hl
  exact run_build59k w i k
theorem run_buildSlice53k (w : World) (i : Int) (k : Fin 64 → UInt8) : (Instr.buildSlice 68 1 #[(0, .agg (Value.int .i64 i :: u8s (k64 k)).toArray)]).run Tryz.prog w = .ok (.slice (some ⟨w.heap.size, 0, none⟩) 1 1) (w.alloc (.cells (Value.int .i64 i :: u8s (k64 k)).toArray 99)) := by kernel_rfl
theorem run_buildSlice53 (w : World) (i : Nat) (b : List UInt8) (hl : b.length = 64) : (Instr.buildSlice 68 1 #[(0, .agg (wcell i b).toArray)]).run Tryz.prog w = .ok (.slice (some ⟨w.heap.size, 0, none⟩) 1 1) (w.alloc (.cells (wcell i b).toArray 99)) := by
  obtain ⟨k, rfl⟩ := k64_of b hl
  exact run_buildSlice53k w i k
theorem Tryz.info99 : (Tryz.prog.info? 99).map (fun i => (i.zero, i.size, i.bytes)) = some (some (.agg (wcell 0 (zb 64)).toArray), 65, 72) := by kernel_rfl
theorem size59 : (Tryz.prog.info? 99).map (·.size) = some 65 := by kernel_rfl
section
variable {w : World} {ops : Array Oper} {o : Oper} {a : Act} {K : Act → World → Prop} {Q : Exit → Act → World → Prop} {S : World → Prop}
theorem yieldsIf_build59 (hw : Region.wanted o (yielded ops a.tmps) = true) (x y : Operand) (ho : o.op = .build 99 #[(0, x), (1, y)]) (i : Nat) (b : List UInt8) (hl : b.length = 64) (hx : a.eval x = .int .i64 (i : Int)) (hy : a.eval y = .agg (u8s b).toArray) :
    YieldsIf Tryz.prog ops S o (.agg (wcell i b).toArray) a :=
  .inl ⟨hw, fun w _ => by
    have hrun := run_build59 w i b hl
    generalize wcell i b = z at *
    generalize u8s b = y' at *
    unfold execOp
    simp only [ho, List.map_toArray, List.map_cons, List.map_nil, hx, hy, Sem.run_bind, hrun, Result.andThen_ok, Sem.run_pure]⟩
theorem yieldsIf_index52 (hw : Region.wanted o (yielded ops a.tmps) = true) (x y : Operand) (ho : o.op = .indexAddr 67 x y) (g n c i : Nat) (hx : a.eval x = .slice (some ⟨g, 0, none⟩) n c) (hy : a.eval y = .int .i64 (i : Int)) (hi : i < n) :
    YieldsIf Tryz.prog ops S o (.pointer (some ⟨g, 64 * i, none⟩)) a :=
  .inl ⟨hw, fun w _ => by
    have hrun := run_index52 w g n c i hi
    unfold execOp
    simp only [ho, hx, hy, hrun, Sem.run_bind, Sem.run_pure, Result.andThen_ok]⟩
theorem wp_buildSlice53 (x : Operand) (ho : o.op = .buildSlice 68 1 #[(0, x)]) (i : Nat) (b : List UInt8) (hl : b.length = 64) (hx : a.eval x = .agg (wcell i b).toArray)
    (h : ∀ w', Hid (Blk w' w.heap.size 99 (wcell i b)) → Hid (w.grownBy w' none) → Hid (w'.heap.size = w.heap.size + 1) → K (a.put o.dst (.slice (some ⟨w.heap.size, 0, none⟩) 1 1)) w') : o.wp Tryz.prog a w K Q := by
  have hrun := run_buildSlice53 w i b hl
  have hbk := Blk.of_alloc w (wcell i b).toArray 99
  generalize wcell i b = z at *
  unfold Oper.wp
  simp only [execOp, ho, List.map_toArray, List.map_cons, List.map_nil, hx, Sem.run_bind, hrun, Result.andThen_ok, Sem.run_pure]
  exact h _ hbk (World.grownBy_alloc w _ none) (World.size_alloc w _)
theorem wp_store_cell (ty : TypeId) (x y : Operand) (ho : o.op = .store ty x y) (hs : (Tryz.prog.info? ty).map (·.size) = some 1) (b i : Nat) (v : Value) (hx : a.eval x = .pointer (some ⟨b, i, none⟩)) (hy : a.eval y = v) (h1 : v.oneCell' = true)
    (cs : List Value) (t : TypeId) (hb : w.heap[b]? = some (.cells cs.toArray t (0, 0))) (hi : i < cs.length)
    (h : ∀ w', Hid (Blk w' b t (cs.set i v)) → Hid (Wr b w w') → K (a.put o.dst undef) w') : o.wp Tryz.prog a w K Q := by
  have hrun := run_storeAt_cell w ty b i v h1 cs t hb hi hs
  unfold Oper.wp execOp
  simp only [ho, hx, hy, Sem.run_bind, hrun, Sem.run_pure, Result.andThen_ok]
  exact h _ (setRow_heap w b _ _ t _ hb) (wr_setRow w b _)
end
/-- The disk's slice of blocks, and one of its blocks. -/
def HeldW (p gb n o : Nat) (cs : List Value) (W : World) : Prop := W.cell? ⟨p, 0, none⟩ = some (.slice (some ⟨gb, 0, none⟩) n n) ∧ W.rangeAt gb o cs
theorem HeldW.grown {p gb n o : Nat} {cs : List Value} {v v1 : World} {row : Option Nat} (h : HeldW p gb n o cs v) (g : v.grownBy v1 row) (h1 : some p ≠ row) (h2 : some gb ≠ row) : HeldW p gb n o cs v1 :=
  ⟨(World.cell?_of_block (g.block p (World.block_lt_of_cell? v _ h.1) h1)).trans h.1, fun j u hu => by
    have hc := h.2 j u hu
    exact (World.cell?_of_block (g.block gb (World.block_lt_of_cell? v _ hc) h2)).trans hc⟩
theorem HeldW.wr {p gb n o : Nat} {cs ds : List Value} {v v1 : World} {u : Value} (h : HeldW p gb n o cs v) (hr : Wr p v v1) (hne : p ≠ gb) (hb : Blk v1 p 70 (ds.set 1 u)) (hd : ds[0]? = some (.slice (some ⟨gb, 0, none⟩) n n)) : HeldW p gb n o cs v1 :=
  ⟨hb.get 0 _ (by rw [List.getElem?_set_ne (by omega)]; exact hd), fun j u hu => by
    have hc := h.2 j u hu
    exact (World.cell?_of_block (hr.block gb (fun e => hne e.symm))).trans hc⟩
end Go.Proofs.YtonpcenjipigpaaGreat
