/- Split tells what any bytes say as pieces, in new memory, with its error. Conditions: none. -/
import Derived.Test.YtonpcenjipigpaaGreatZ5
import Derived.WalkMore
import Derived.Deep.QuietTactic
import Derived.BigQuiet
import Derived.Deep.RegionHeld3
import Derived.Test.YtonpcenjipigpaaGreatZ2
import Derived.Test.YtonpcenjipigpaaGreatZ1
namespace Go.Proofs.YtonpcenjipigpaaGreat
open Go.RowKit
/-- At the label 'short'. -/
def J0 (w : World) (b : List UInt8) (a : Act) (wr : World) : Prop :=
  ∃ (u0 u1 u2 u3 u4 u5 u6 u7 u8 u9 u10 u11 u12 u13 u14 u15 u16 u17 u18 u19 u20 u21 u22 u23 u24 u25 u26 u27 u28 u29 u30 u31 u32 u33 u34 u35 u36 u37 u38 u39 u40 u41 u42 u43 u44 u45 u46 u47 u48 u49 u50 u51 u52 u53 u54 u55 u56 : Value), a = { tmps := #[u0, u1, u2, u3, u4, u5, u6, u7, u8, u9, u10, u11, u12, u13, u14, u15, u16, u17, u18, u19, u20, u21, u22, u23, u24, u25, u26, u27, u28, u29, u30, u31, u32, u33, u34, u35, u36, u37, u38, u39, u40, u41, u42, u43, u44, u45, u46, u47, u48, u49, u50, u51, u52, u53, u54, u55, u56], defers := [] } ∧ Hid (split b = ([], 20)) ∧ Below w.heap.size w wr
/-- At the label 'behind'. -/
def J1 (w : World) (b : List UInt8) (a : Act) (wr : World) : Prop :=
  ∃ (A : Option Addr) (cur : List UInt8) (n c : Nat) (v : Value) (acc : List (List UInt8)) (u1 u2 u3 u5 u6 u7 u8 u9 u10 u11 u12 u13 u14 u15 u16 u17 u18 u19 u20 u21 u22 u23 u24 u25 u26 u27 u28 u29 u30 u31 u32 u33 u34 u35 u36 u37 u38 u39 u40 u41 u42 u43 u44 u45 u46 u47 u48 u49 u50 u51 u52 u53 u54 u55 u56 : Value), a = { tmps := #[.slice A n c, u1, u2, u3, v, u5, u6, u7, u8, u9, u10, u11, u12, u13, u14, u15, u16, u17, u18, u19, u20, u21, u22, u23, u24, u25, u26, u27, u28, u29, u30, u31, u32, u33, u34, u35, u36, u37, u38, u39, u40, u41, u42, u43, u44, u45, u46, u47, u48, u49, u50, u51, u52, u53, u54, u55, u56], defers := [] } ∧
    Hid (spl 0 cur acc = split b) ∧ Hid (cur.length = n) ∧ n ≤ c ∧ c ≤ 9223372036854775807 ∧ Pcs wr w.heap.size v acc ∧ Below w.heap.size w wr
/-- At the label 'piece'. -/
def J2 (w : World) (b : List UInt8) (ok : Nat → Prop) (a : Act) (wr : World) : Prop :=
  ∃ (A : Option Addr) (cur : List UInt8) (n c left : Nat) (v : Value) (acc : List (List UInt8)) (u1 u2 u3 u6 u7 u8 u9 u10 u11 u12 u13 u14 u15 u16 u17 u18 u19 u20 u21 u22 u23 u24 u25 u26 u27 u28 u29 u30 u31 u32 u33 u34 u35 u36 u37 u38 u39 u40 u41 u42 u43 u44 u45 u46 u47 u48 u49 u50 u51 u52 u53 u54 u55 u56 : Value), a = { tmps := #[.slice A n c, u1, u2, u3, v, .int .i64 left, u6, u7, u8, u9, u10, u11, u12, u13, u14, u15, u16, u17, u18, u19, u20, u21, u22, u23, u24, u25, u26, u27, u28, u29, u30, u31, u32, u33, u34, u35, u36, u37, u38, u39, u40, u41, u42, u43, u44, u45, u46, u47, u48, u49, u50, u51, u52, u53, u54, u55, u56], defers := [] } ∧
    Hid (spl left cur acc = split b) ∧ Hid (cur.length = n) ∧ acc.length + left ≤ 64 ∧ n ≤ c ∧ c ≤ 9223372036854775807 ∧ Byt wr ok A cur ∧ Pcs wr w.heap.size v acc ∧ Below w.heap.size w wr
theorem at_two {w : World} {ok : Nat → Prop} {A : Option Addr} {xs : List UInt8} (h : Byt w ok A xs) (h0 : 0 < xs.length) :
    ∃ ab ao, A = some ⟨ab, ao, none⟩ ∧ ok ab ∧ w.cell? ⟨ab, ao, none⟩ = some (.int .u8 (xs[0].toNat : Int)) ∧ ∀ (h1 : 1 < xs.length), w.cell? ⟨ab, ao + 1, none⟩ = some (.int .u8 (xs[1].toNat : Int)) := by
  obtain ⟨ad, rfl, ho, hc⟩ := h.some_ h0
  obtain ⟨ab, ao, sp⟩ := ad
  have e0 := hc 0 h0
  have hsp : sp = none := by simpa [Addr.add] using World.cell?_spot e0
  subst hsp
  refine ⟨ab, ao, rfl, ho, by simpa [Addr.add_lit] using e0, fun h1 => ?_⟩
  have e1 := hc 1 h1
  rw [Addr.add_lit] at e1
  exact e1
/-- In new memory lies just xs, n bytes. -/
def NewN (w : World) (xs : List UInt8) (n : Nat) (e : Ending) (w' : World) : Prop :=
  ∃ A c, e = .returned (.slice A n c) ∧ n ≤ c ∧ c ≤ maxLen ∧ Byt w' (fun b => w.heap.size ≤ b ∧ b < w'.heap.size) A xs ∧ Below w.heap.size w w'
theorem clone_n {w : World} {ok : Nat → Prop} {A : Option Addr} {xs : List UInt8} {n c : Nat} (hn : xs.length = n) (hx : Byt w ok A xs) (hok : ∀ b, ok b → b < w.heap.size) (hl : n ≤ 1099511627776) :
    Calls Tryz.prog 47 #[.slice A n c] w (NewN w xs n) := by
  subst hn
  exact clone_any hx hok hl
theorem i64_or_num (x y : UInt8) : bits .or .i64 ((x.toNat : Int) * 256) (y.toNat : Int) = ((x.toNat * 256 + y.toNat : Nat) : Int) := by
  have hx := x.toNat_lt
  have hy := y.toNat_lt
  have h := Nat.two_pow_add_eq_or_of_lt (i := 8) (b := y.toNat) (by omega) x.toNat
  have e1 : (BitVec.ofInt 64 ((x.toNat * 256 : Nat) : Int)).toNat = x.toNat * 256 := by
    rw [BitVec.ofInt_natCast, BitVec.toNat_ofNat]; exact Nat.mod_eq_of_lt (by omega)
  have e2 : (BitVec.ofInt 64 ((y.toNat : Nat) : Int)).toNat = y.toNat := by
    rw [BitVec.ofInt_natCast, BitVec.toNat_ofNat]; exact Nat.mod_eq_of_lt (by omega)
  rw [show (x.toNat : Int) * 256 = ((x.toNat * 256 : Nat) : Int) by omega]
  show IntKind.i64.wrap ((BitVec.ofInt 64 _ ||| BitVec.ofInt 64 _).toNat : Int) = _
  rw [BitVec.toNat_or, e1, e2, Nat.mul_comm, ← h, IntWalk.i64_in _ (by omega)]
theorem two_of (xs : List UInt8) (h0 : 0 < xs.length) (h1 : 1 < xs.length) : xs = xs[0] :: xs[1] :: xs.drop 2 := by
  match xs, h0, h1 with
  | x :: y :: r, _, _ => rfl
theorem first_two {w : World} {ok : Nat → Prop} {A : Option Addr} {xs : List UInt8} {n : Nat} (h : Byt w ok A xs) (hn : xs.length = n) (h2 : 2 ≤ n) :
    ∃ (ab ao : Nat) (x y : UInt8), A = some ⟨ab, ao, none⟩ ∧ w.cell? ⟨ab, ao, none⟩ = some (.int .u8 (x.toNat : Int)) ∧ w.cell? ⟨ab, ao + 1, none⟩ = some (.int .u8 (y.toNat : Int)) ∧ Hid (xs = x :: y :: xs.drop 2) := by
  obtain ⟨ab, ao, e, _, h0, h1⟩ := at_two h (by omega)
  exact ⟨ab, ao, _, _, e, h0, h1 (by omega), two_of xs (by omega) (by omega)⟩
theorem alloc_size (w : World) (o : Obj) : (w.alloc o).heap.size = w.heap.size + 1 := by simp
theorem le_alloc {B : Nat} {w : World} {o : Obj} (h : B ≤ w.heap.size) : B ≤ (w.alloc o).heap.size := by simp; omega
theorem one_slice (A : Option Addr) (n c : Nat) : ∀ u ∈ [Value.slice A n c], u.oneCell' = true := by
  intro u hu
  obtain rfl : u = .slice A n c := by simpa using hu
  rfl
theorem below_drewN {B : Nat} {a w : World} (h : Below B a w) (n : Nat) : Below B a (w.drewN n) := ⟨h.os, h.tape, h.output, h.size, h.block⟩
set_option maxRecDepth 1000000 in
set_option maxHeartbeats 2000000 in
theorem split_any {w : World} {ok : Nat → Prop} {A : Option Addr} {b : List UInt8} {c : Nat} (hx : Byt w ok A b) (hok : ∀ g, ok g → g < w.heap.size) (hc : b.length ≤ c) (hm : c ≤ maxLen) :
    Calls Tryz.prog 94 #[.slice A b.length c] w (SplitE w b) := by
  unfold maxLen at hm
  go_enter Tryz.func94, Tryz.ntmps94
  go_wp2
  refine wp_scope_three (J0 w b) (J1 w b) (J2 w b ok) (fun a _ => (intOf (a.tmps.getD 5 undef)).toNat) rfl rfl rfl ?p0 ?p1 ?p2 ?first
  case p0 =>
    clear hx
    rintro a wr ⟨u0, u1, u2, u3, u4, u5, u6, u7, u8, u9, u10, u11, u12, u13, u14, u15, u16, u17, u18, u19, u20, u21, u22, u23, u24, u25, u26, u27, u28, u29, u30, u31, u32, u33, u34, u35, u36, u37, u38, u39, u40, u41, u42, u43, u44, u45, u46, u47, u48, u49, u50, u51, u52, u53, u54, u55, u56, rfl, hs, hb⟩
    go_wp2
    try rw [Exit.noGoto_ret]
    go_ret2
    exact splitE_err hs.out hb
  case p1 =>
    clear hx
    rintro a wr ⟨A, cur, n, c, v, acc, u1, u2, u3, u5, u6, u7, u8, u9, u10, u11, u12, u13, u14, u15, u16, u17, u18, u19, u20, u21, u22, u23, u24, u25, u26, u27, u28, u29, u30, u31, u32, u33, u34, u35, u36, u37, u38, u39, u40, u41, u42, u43, u44, u45, u46, u47, u48, u49, u50, u51, u52, u53, u54, u55, u56, rfl, hs, hn, hc, hm, hp, hb⟩
    by_cases hz : 0 < n
    · go_wp2
      try rw [Exit.noGoto_ret]
      go_ret2
      refine splitE_err ?_ hb
      rw [← hs.out, spl_zero, if_neg (by intro e; have := hn.out; rw [e] at this; simp at this; omega)]
    · have hnil : Hid (cur = []) := List.eq_nil_of_length_eq_zero (by have := hn.out; omega)
      obtain ⟨A', c', rfl, h1, h2, h3⟩ := hp.lst
      go_wp2
      try rw [Exit.noGoto_ret]
      go_ret2
      refine splitE_ok ?_ h1 h2 h3 hb
      rw [← hs.out, spl_zero, if_pos hnil.out]
  case p2 =>
    clear hx
    rintro a wr ⟨A, cur, n, c, left, v, acc, u1, u2, u3, u6, u7, u8, u9, u10, u11, u12, u13, u14, u15, u16, u17, u18, u19, u20, u21, u22, u23, u24, u25, u26, u27, u28, u29, u30, u31, u32, u33, u34, u35, u36, u37, u38, u39, u40, u41, u42, u43, u44, u45, u46, u47, u48, u49, u50, u51, u52, u53, u54, u55, u56, rfl, hs, hn, hl, hc, hm, hx, hp, hb⟩
    by_cases h0 : left = 0
    · subst h0
      go_wp2
      go_step3
      exact ⟨A, cur, n, c, v, acc, _, _, _, _, _, _, _, _, _, _, _, _, _, _, _, _, _, _, _, _, _, _, _, _, _, _, _, _, _, _, _, _, _, _, _, _, _, _, _, _, _, _, _, _, _, _, _, _, _, _, _, _, _, _, _, rfl, hs, hn, hc, hm, hp, hb⟩
    obtain ⟨l, rfl⟩ : ∃ l, left = l + 1 := ⟨left - 1, by omega⟩
    clear h0
    have d0 : (((l : Nat) : Int) + 1 == 0) = false := by simp; omega
    by_cases h2 : n < 2
    · have d1 : decide ((n : Int) < 2) = true := by simp; omega
      have hend : Hid (split b = ([], 20)) := by
        show split b = _
        rw [← hs.out, spl_short _ _ _ (by rw [hn.out]; exact h2)]
      go_wp2
      go_step3
      exact ⟨_, _, _, _, _, _, _, _, _, _, _, _, _, _, _, _, _, _, _, _, _, _, _, _, _, _, _, _, _, _, _, _, _, _, _, _, _, _, _, _, _, _, _, _, _, _, _, _, _, _, _, _, _, _, _, _, _, rfl, hend, hb⟩
    have d1 : decide ((n : Int) < 2) = false := by simp; omega
    obtain ⟨ab, ao, x, y, rfl, hc0, hc1, htwo⟩ := first_two hx hn.out (by omega)
    have hx2 := hx.drop (k := 2) (c := c) (by have := hn.out; omega) (by have := hn.out; omega)
    have hsl : spl (l + 1) cur acc = spl (l + 1) (x :: y :: cur.drop 2) acc := congrArg (fun z => spl (l + 1) z acc) htwo.out
    rw [spl_cons] at hsl
    have hor := i64_or_num x y
    have hb0 := x.toNat_lt
    have hb1 := y.toNat_lt
    obtain ⟨s, hsz⟩ : ∃ s, x.toNat * 256 + y.toNat = s := ⟨_, rfl⟩
    rw [hsz] at hor hsl
    have hs64 : s ≤ 65535 := by omega
    have HDL : Hid ((cur.drop 2).length = n - 2) := by
      show (cur.drop 2).length = n - 2
      rw [List.length_drop, hn.out]
    have HS : Hid _ := hs.out.symm.trans hsl
    obtain ⟨A2, hA2⟩ : ∃ A2 : Option Addr, (if c = 2 then some (⟨ab, ao, none⟩ : Addr) else some ⟨ab, ao + 2, none⟩) = A2 := ⟨_, rfl⟩
    have hx2' : Byt wr ok A2 (cur.drop 2) := by
      rw [← hA2]
      simpa [Addr.add_lit] using hx2
    clear hx2 htwo hsl hsz hs
    go_wp2_with fail
    go_quiet (fail)
    clear hA2 hor hc0 hc1 hx
    have hbq := below_drewN hb nq
    by_cases hbig : 4096 < s
    · have hend : Hid (split b = ([], 5)) := by
        show split b = _
        rw [HS.out, if_pos hbig]
      go_wp2
      simp only [three]
      go_ret2
      exact splitE_err hend.out hbq
    by_cases hshort : n - 2 < s
    · have hend : Hid (split b = ([], 20)) := by
        show split b = _
        rw [HS.out, if_neg hbig, HDL.out, if_pos hshort]
      have d3 : decide (((n - 2 : Nat) : Int) < (s : Int)) = true := by simp; omega
      go_wp2
      go_step3
      exact ⟨_, _, _, _, _, _, _, _, _, _, _, _, _, _, _, _, _, _, _, _, _, _, _, _, _, _, _, _, _, _, _, _, _, _, _, _, _, _, _, _, _, _, _, _, _, _, _, _, _, _, _, _, _, _, _, _, _, rfl, hend, hbq⟩
    have d3 : decide (((n - 2 : Nat) : Int) < (s : Int)) = false := by simp; omega
    have HN : Hid (split b = spl l ((cur.drop 2).drop s) (acc ++ [(cur.drop 2).take s])) := by
      show split b = _
      rw [HS.out, if_neg hbig, HDL.out, if_neg hshort]
    obtain ⟨vals, hvals, hpv⟩ := id hp
    have HT : Hid (((cur.drop 2).take s).length = s) := by
      show ((cur.drop 2).take s).length = s
      rw [List.length_take, HDL.out]; omega
    have HD : Hid (((cur.drop 2).drop s).length = n - 2 - s) := by
      show ((cur.drop 2).drop s).length = n - 2 - s
      rw [List.length_drop, HDL.out]
    have hxt := hx2'.take s
    have hxd := hx2'.drop (k := s) (c := c - 2) (by have := HDL.out; omega) (by have := HDL.out; omega)
    obtain ⟨A3, hA3⟩ : ∃ A3 : Option Addr, (if c - 2 = s then A2 else A2.map (·.add s)) = A3 := ⟨_, rfl⟩
    rw [hA3] at hxd
    have k1 : (s : Int) ≤ ((c - 2 : Nat) : Int) := by omega
    have k2 : (s : Int) ≤ ((n - 2 : Nat) : Int) := by omega
    have k3 : (0 : Int) ≤ (s : Int) := by omega
    have k4 : ((n - 2 : Nat) : Int) ≤ ((c - 2 : Nat) : Int) := by omega
    obtain ⟨i0, hi, hz0, hz1, hz2⟩ := info_parts Tryz.info40
    have hokr : ∀ g, ok g → g < (wr.drewN (nq + 1)).heap.size := fun g h => Nat.lt_of_lt_of_le (hok g h) hb.size
    have hxt1 : Byt (wr.drewN (nq + 1)) ok A2 ((cur.drop 2).take s) := hxt
    have hvals1 : (wr.drewN (nq + 1)).ownsRow w.heap.size 40 1 v acc.length vals := hvals
    have hb1 : w.heap.size ≤ (wr.drewN (nq + 1)).heap.size := hb.size
    have f0 : s ≤ 1099511627776 := by omega
    have f1 : acc.length + 1 ≤ maxLen := by unfold maxLen; omega
    have f2 : (acc.length + 1) * 24 ≤ 140737488355328 := by omega
    clear HS hpv
    go_wp2_with fail
    go_region_held3 (fun _ => True) (trivial)
      (first
        | (go_at_call 47
           (with_reducible refine (clone_n HT.out hxt1 hokr f0).mono ?_)
           rintro e w2 ⟨A', c', rfl, g1, g2, g3, g4⟩)
        | (refine step_append_lies _ rfl _ _ _ rfl w.heap.size 40 i0 _ 1 24 Tryz.underlying42 hi hz0 hz1 hz2 rfl Nat.one_pos v acc.length vals rfl ((own_below hvals1 g4).alloc _) ⟨w2.heap.size, 0, none⟩ 1 1 [.slice A' s c'] rfl rfl (cell_one_new _ _ _) (one_slice _ _ _) Nat.one_pos f1 f2 (le_alloc (Nat.le_trans hb1 g4.size)) (w2.heap.size + 1) (alloc_size _ _) ?_
           intro gg cap w4 hown4 hgrow4 hat4 hlt4)
        | fail)
    go_wp2
    go_step3
    have hb14 : Below w.heap.size wr w4 :=
      ((below_drewN (Below.refl w.heap.size wr) (nq + 1)).trans ((g4.mono hb1).alloc (Nat.le_trans hb1 g4.size) _)).grown hgrow4 (le_alloc (Nat.le_trans hb1 g4.size)) fun g hg => (hvals.lt g hg).1
    have hb4 : Below w.heap.size w w4 := hb.trans hb14
    have hat5 : (Value.slice (some ⟨gg, 0, none⟩) (acc.length + 1) cap).ownBlock = v.ownBlock ∨ (Value.slice (some ⟨gg, 0, none⟩) (acc.length + 1) cap).ownBlock = some (w2.heap.size + 1) := by
      rcases hat4 with h | h
      · exact .inl h.symm
      · exact .inr (by rw [h]; rfl)
    have hpush : Pcs w4 w.heap.size (.slice (some ⟨gg, 0, none⟩) (acc.length + 1) cap) (acc ++ [(cur.drop 2).take s]) := by
      have hh := HT.out
      refine (hp.drewN (nq + 1)).push (A := A') (c := c') hb1 g4 g3 (by rw [hh]; exact g1) g2 hvals1 ?_ ?_ hat5
      · rw [hh]; exact hown4
      · rw [hh]; exact hgrow4
    exact ⟨⟨A3, (cur.drop 2).drop s, n - 2 - s, c - 2 - s, l, _, acc ++ [(cur.drop 2).take s], _, _, _, _, _, _, _, _, _, _, _, _, _, _, _, _, _, _, _, _, _, _, _, _, _, _, _, _, _, _, _, _, _, _, _, _, _, _, _, _, _, _, _, _, _, _, _, _, _, _, _, _, _, _, rfl, HN.out.symm, HD, by simp; omega, by omega, by omega, hxd.below hb14 hok, hpush, hb4⟩, by simp [intOf]⟩
  case first =>
    intro hpass
    by_cases h0 : b.length = 0
    · have hnil : Hid (split b = ([], 20)) := by
        show split b = _
        rw [List.eq_nil_of_length_eq_zero h0]; rfl
      have d1 : ((b.length : Int) == 0) = true := by rw [h0]; rfl
      clear h0
      go_wp2
      go_step3
      exact ⟨_, _, _, _, _, _, _, _, _, _, _, _, _, _, _, _, _, _, _, _, _, _, _, _, _, _, _, _, _, _, _, _, _, _, _, _, _, _, _, _, _, _, _, _, _, _, _, _, _, _, _, _, _, _, _, _, _, rfl, hnil, Below.refl _ _⟩
    have d1 : ((b.length : Int) == 0) = false := by rw [beq_eq_false_iff_ne]; omega
    obtain ⟨ab, ao, rfl, _, hc0, -⟩ := at_two hx (by omega)
    have hx1 := hx.drop (k := 1) (c := c) (by omega) hc
    obtain ⟨x, r, rfl⟩ : ∃ x r, b = x :: r := by
      rcases b with _ | ⟨x, r⟩
      · simp at h0
      · exact ⟨x, r, rfl⟩
    obtain ⟨A2, hA2⟩ : ∃ A2 : Option Addr, (if c = 1 then some (⟨ab, ao, none⟩ : Addr) else some ⟨ab, ao + 1, none⟩) = A2 := ⟨_, rfl⟩
    have hx1' : Byt w ok A2 r := by
      rw [← hA2]
      simpa [Addr.add_lit] using hx1
    have hc0' : w.cell? ⟨ab, ao, none⟩ = some (.int .u8 (x.toNat : Int)) := hc0
    have hspl : Hid (split (x :: r) = if 64 < x.toNat then ([], 4) else spl x.toNat r []) := rfl
    have hlen : (x :: r).length = r.length + 1 := rfl
    rw [hlen] at hc h0 d1 ⊢
    have hb0 := x.toNat_lt
    clear hc0 hx1 hlen hx
    go_wp2_with fail
    go_quiet (fail)
    clear hA2 hc0'
    have hbq := below_drewN (Below.refl w.heap.size w) nq
    by_cases hbig : 64 < x.toNat
    · have hend : Hid (split (x :: r) = ([], 4)) := by
        show split (x :: r) = _
        rw [hspl.out, if_pos hbig]
      go_wp2
      simp only [three]
      go_ret2
      exact splitE_err hend.out hbq
    have hJ : Hid (split (x :: r) = spl x.toNat r []) := by
      show split (x :: r) = _
      rw [hspl.out, if_neg hbig]
    go_wp2
    go_step3
    first
      | (rename_i hk; exact hk _ _ (hpass _ _ ⟨A2, r, r.length, c - 1, x.toNat, .slice none 0 0, [], _, _, _, _, _, _, _, _, _, _, _, _, _, _, _, _, _, _, _, _, _, _, _, _, _, _, _, _, _, _, _, _, _, _, _, _, _, _, _, _, _, _, _, _, _, _, _, _, _, _, _, _, _, _, rfl, hJ.out.symm, rfl, by simp; omega, by omega, by omega, hx1', (Pcs.nil w w.heap.size).drewN nq, hbq⟩))
      | (rename_i hk _; exact hk _ _ (hpass _ _ ⟨A2, r, r.length, c - 1, x.toNat, .slice none 0 0, [], _, _, _, _, _, _, _, _, _, _, _, _, _, _, _, _, _, _, _, _, _, _, _, _, _, _, _, _, _, _, _, _, _, _, _, _, _, _, _, _, _, _, _, _, _, _, _, _, _, _, _, _, _, _, rfl, hJ.out.symm, rfl, by simp; omega, by omega, by omega, hx1', (Pcs.nil w w.heap.size).drewN nq, hbq⟩))
      | (rename_i hk _ _; exact hk _ _ (hpass _ _ ⟨A2, r, r.length, c - 1, x.toNat, .slice none 0 0, [], _, _, _, _, _, _, _, _, _, _, _, _, _, _, _, _, _, _, _, _, _, _, _, _, _, _, _, _, _, _, _, _, _, _, _, _, _, _, _, _, _, _, _, _, _, _, _, _, _, _, _, _, _, _, rfl, hJ.out.symm, rfl, by simp; omega, by omega, by omega, hx1', (Pcs.nil w w.heap.size).drewN nq, hbq⟩))
end Go.Proofs.YtonpcenjipigpaaGreat
