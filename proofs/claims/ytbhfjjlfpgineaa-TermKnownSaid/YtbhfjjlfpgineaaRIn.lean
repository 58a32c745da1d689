/- The reference's In tells the numbers of the names in bytes. Conditions: at most 70000 terms. -/
import Derived.Test.YtbhfjjlfpgineaaRow
import Derived.Deep.QuietTactic
namespace Go.Proofs.Ytbhfjjlfpgineaa
open Go.RowKit

/-- Numbers, in new memory. -/
def ints (ns : List Nat) : List Value := ns.map fun (n : Nat) => Value.int .i64 (n : Int)
theorem ints_length (ns : List Nat) : (ints ns).length = ns.length := by simp [ints]
theorem ints_append (a b : List Nat) : ints (a ++ b) = ints a ++ ints b := by simp [ints]
/-- What In tells. -/
def InE (w : World) (ns : List Nat) (e : Ending) (w' : World) : Prop :=
  ∃ A c, e = .returned (.slice A ns.length c) ∧ ns.length ≤ c ∧ c ≤ maxLen ∧ (∀ j (h : j < ns.length), ∃ g, A = some ⟨g, 0, none⟩ ∧ w.heap.size ≤ g ∧ w'.cell? ⟨g, j, none⟩ = some (.int .i64 (ns[j] : Nat))) ∧ Below w.heap.size w w'
theorem info3 : (Try.prog.info? 3).map (fun i => (i.zero, i.size, i.bytes)) = some (some (.int .i64 0), 1, 8) := by kernel_rfl
theorem num_here {b : List UInt8} {most n : Nat} (hl : 32 ≤ b.length) (hn : nb ((b.drop 4).take 4) = n) : (num b (most + 1) = n ∧ 0 < n ↔ 1 ≤ n ∧ n ≤ most ∧ b.take 32 = nm n) ∧ (¬ (1 ≤ n ∧ n ≤ most ∧ b.take 32 = nm n) → num b (most + 1) = 0) := by
  have h1 : num b (most + 1) = n ∧ 0 < n ↔ 1 ≤ n ∧ n ≤ most ∧ b.take 32 = nm n := by
    constructor
    · rintro ⟨e, h0⟩
      have := (num_iff b (most + 1) n h0).1 e
      exact ⟨h0, by omega, this.2.2.2⟩
    · rintro ⟨e1, e2, e3⟩
      exact ⟨(num_iff b (most + 1) n e1).2 ⟨hl, by omega, hn, e3⟩, e1⟩
  refine ⟨h1, fun hx => ?_⟩
  rcases Nat.eq_zero_or_pos (num b (most + 1)) with h0 | h0
  · exact h0
  · have h2 := (num_iff b (most + 1) _ h0).1 rfl
    have e : num b (most + 1) = n := by rw [← hn]; exact h2.2.2.1.symm
    exact absurd (h1.1 ⟨e, by omega⟩) hx
theorem nb_four (a b c d : UInt8) : nb [a, b, c, d] = a.toNat * 16777216 + b.toNat * 65536 + c.toNat * 256 + d.toNat := by
  simp [nb]
  omega
theorem four_at {b : List UInt8} {p : Nat} (h : p + 32 ≤ b.length) : ((b.drop p).drop 4).take 4 = [b[p + 4], b[p + 5], b[p + 6], b[p + 7]] := by
  apply List.ext_getElem
  · simp; omega
  · intro i h1 h2
    simp only [List.length_take, List.length_drop] at h1
    have hi : i < 4 := by omega
    rw [List.getElem_take, List.getElem_drop, List.getElem_drop]
    rcases (by omega : i = 0 ∨ i = 1 ∨ i = 2 ∨ i = 3) with rfl | rfl | rfl | rfl <;> simp

theorem byt_addr {w : World} {ok : Nat → Prop} {A : Option Addr} {xs : List UInt8} (h : Byt w ok A xs) (h0 : 0 < xs.length) : ∃ ab ao, A = some ⟨ab, ao, none⟩ := by
  obtain ⟨ad, rfl, _, hc⟩ := h 0 h0
  obtain ⟨ab, ao, sp⟩ := ad
  refine ⟨ab, ao, ?_⟩
  have : sp = none := by simpa [Addr.add] using World.cell?_spot hc
  rw [this]
theorem byt_cell {w : World} {ok : Nat → Prop} {ab ao : Nat} {xs : List UInt8} (h : Byt w ok (some ⟨ab, ao, none⟩) xs) {j : Nat} (hj : j < xs.length) : w.cell? ⟨ab, ao + j, none⟩ = some (.int .u8 (xs[j].toNat : Int)) := by
  obtain ⟨ad, e, _, hc⟩ := h j hj
  cases e
  rw [Addr.add_lit] at hc
  exact hc
theorem inE_end {w w' : World} {v : Value} {m : Nat} {os ns : List Nat} (h : w'.ownsRow w.heap.size 3 1 v m (ints os)) (hm : os.length = m) (he : ns = os) (hb : Below w.heap.size w w') : InE w ns (.returned v) w' := by
  subst he hm
  rcases h.2 with ⟨e, h0⟩ | ⟨g, cap, cur, e, hg, hgb, h1, h2, _⟩
  · subst e
    exact ⟨none, 0, by rw [h0], by omega, by unfold maxLen; omega, fun j hj => by omega, hb⟩
  · subst e
    refine ⟨_, cap, rfl, h1, h2, fun j hj => ⟨g, rfl, hg, ?_⟩, hb⟩
    have hc := h.cells (g := g) rfl j (.int .i64 (ns[j] : Nat)) (by simp [ints, hj])
    rw [Addr.add_lit, Nat.zero_add] at hc
    exact hc

set_option maxRecDepth 100000 in
set_option maxHeartbeats 4000000 in
theorem rin_any {w : World} {ok : Nat → Prop} {A : Option Addr} {b : List UInt8} {n c N : Nat} (hn : b.length = n) (hx : Byt w ok A b) (hok : ∀ g, ok g → g < w.heap.size) (hc : n ≤ c) (hl : n ≤ 100000000) (hN : N ≤ 70000) :
    Calls Try.prog 16 #[.slice A n c, .int .i64 N] w (InE w (nms b (N + 1))) := by

  have HX := Lib.hid hx
  have HOK := Lib.hid hok
  have HL := Lib.hid hn
  obtain ⟨i3, hi3, hz0, hz1, hz2⟩ := info_parts info3
  have HI3 := Lib.hid hi3
  have HZ0 := Lib.hid hz0
  have HZ1 := Lib.hid hz1
  have HZ2 := Lib.hid hz2
  clear hx hok hn hi3 hz0 hz1 hz2
  go_enter Try.func16, Try.ntmps16
  go_wp2_with fail
  go_loopg [5, 6] (n + 1) (fun G v p wr => ∃ (at_ m : Nat) (os : List Nat), p = .int .i64 at_ ∧ at_ ≤ n ∧ n + 1 - at_ ≤ G ∧ os.length = m ∧ m ≤ at_ ∧ Hid (os ++ nms (b.drop at_) (N + 1) = nms b (N + 1)) ∧ Hid (wr.ownsRow w.heap.size 3 1 v m (ints os)) ∧ Hid (Below w.heap.size w wr))
  case atStart => exact ⟨0, 0, [], rfl, by omega, by omega, rfl, by omega, (show [] ++ nms (b.drop 0) (N + 1) = nms b (N + 1) by simp), World.ownsRow_nil _ _ _ _, Below.refl _ _⟩
  case round =>
    obtain ⟨p, m, os, rfl, hpn, hgk, hos, hmp, hsp, hown, hb⟩ := hrel
    have HGK := Lib.hid hgk
    have HOS := Lib.hid hos
    clear hgk hos
    rcases Nat.lt_or_ge (n - p) 32 with hsh | hlo
    · have d0 : ¬ ((32 : Int) ≤ (n : Int) - (p : Int)) := by omega
      have hend : nms b (N + 1) = os := by
        rw [← hsp.out, nms_short _ _ (by rw [List.length_drop, HL.out]; omega), List.append_nil]
      have HEND := Lib.hid hend
      clear hend
      go_wp2_with fail
      go_ret
      exact inE_end hown.out HOS.out HEND.out hb.out
    · have d0 : (32 : Int) ≤ (n : Int) - (p : Int) := by omega
      have hx := HX.out.keep fun g hg => hb.out.block g (HOK.out g hg)
      have hpl : p + 32 ≤ b.length := by rw [HL.out]; omega
      obtain ⟨ab, ao, rfl⟩ : ∃ ab ao, A = some ⟨ab, ao, none⟩ := byt_addr hx (by omega)
      obtain ⟨x4, h4⟩ : ∃ x, b[p + 4]'(by omega) = x := ⟨_, rfl⟩
      obtain ⟨x5, h5⟩ : ∃ x, b[p + 5]'(by omega) = x := ⟨_, rfl⟩
      obtain ⟨x6, h6⟩ : ∃ x, b[p + 6]'(by omega) = x := ⟨_, rfl⟩
      obtain ⟨x7, h7⟩ : ∃ x, b[p + 7]'(by omega) = x := ⟨_, rfl⟩
      have k4 := byt_cell hx (j := p + 4) (by omega)
      have k5 := byt_cell hx (j := p + 5) (by omega)
      have k6 := byt_cell hx (j := p + 6) (by omega)
      have k7 := byt_cell hx (j := p + 7) (by omega)
      have hnb := congrArg nb (four_at hpl)
      rw [h4, h5, h6, h7, nb_four] at hnb
      rw [h4] at k4
      rw [h5] at k5
      rw [h6] at k6
      rw [h7] at k7
      obtain ⟨y4, e4⟩ : ∃ y, x4.toNat = y := ⟨_, rfl⟩
      obtain ⟨y5, e5⟩ : ∃ y, x5.toNat = y := ⟨_, rfl⟩
      obtain ⟨y6, e6⟩ : ∃ y, x6.toNat = y := ⟨_, rfl⟩
      obtain ⟨y7, e7⟩ : ∃ y, x7.toNat = y := ⟨_, rfl⟩
      have l4 : y4 < 256 := by rw [← e4]; exact x4.toNat_lt
      have l5 : y5 < 256 := by rw [← e5]; exact x5.toNat_lt
      have l6 : y6 < 256 := by rw [← e6]; exact x6.toNat_lt
      have l7 : y7 < 256 := by rw [← e7]; exact x7.toNat_lt
      rw [e4, e5, e6, e7] at hnb
      rw [e4] at k4
      rw [e5] at k5
      rw [e6] at k6
      rw [e7] at k7
      obtain ⟨z, hz⟩ : ∃ z, y4 * 16777216 + y5 * 65536 + y6 * 256 + y7 = z := ⟨_, rfl⟩
      rw [hz] at hnb
      have HNB := Lib.hid hnb
      have HPL := Lib.hid hpl
      have zlt : z < 4294967296 := by omega
      clear h4 h5 h6 h7 e4 e5 e6 e7 hnb hx hpl
      have a4 : IntKind.i64.wrap ((p : Int) + 4) = (p : Int) + 4 := IntWalk.i64_in _ (by omega)
      have a5 : IntKind.i64.wrap ((p : Int) + 5) = (p : Int) + 5 := IntWalk.i64_in _ (by omega)
      have a6 : IntKind.i64.wrap ((p : Int) + 6) = (p : Int) + 6 := IntWalk.i64_in _ (by omega)
      have a7 : IntKind.i64.wrap ((p : Int) + 7) = (p : Int) + 7 := IntWalk.i64_in _ (by omega)
      have t4 : ((p : Int) + 4).toNat = p + 4 := by omega
      have t5 : ((p : Int) + 5).toNat = p + 5 := by omega
      have t6 : ((p : Int) + 6).toNat = p + 6 := by omega
      have t7 : ((p : Int) + 7).toNat = p + 7 := by omega
      have b4 : (0 : Int) ≤ (p : Int) + 4 ∧ (p : Int) + 4 < (n : Int) := by omega
      have b5 : (0 : Int) ≤ (p : Int) + 5 ∧ (p : Int) + 5 < (n : Int) := by omega
      have b6 : (0 : Int) ≤ (p : Int) + 6 ∧ (p : Int) + 6 < (n : Int) := by omega
      have b7 : (0 : Int) ≤ (p : Int) + 7 ∧ (p : Int) + 7 < (n : Int) := by omega
      go_wp2_with fail
      go_quiet (fail)
      have hzi : (y4 : Int) * 16777216 + (y5 : Int) * 65536 + (y6 : Int) * 256 + (y7 : Int) = (z : Int) := by omega
      rw [hzi]
      clear a4 a5 a6 a7 t4 t5 t6 t7 b4 b5 b6 b7 k4 k5 k6 k7 l4 l5 l6 l7 hzi hz
      have HNM := Lib.hid (refname_any z (wr.drewN nq) zlt)
      go_wp2_with fail
      go_at_call 12
      refine HNM.out.mono ?_
      rintro _ wa ⟨rfl, hba⟩
      go_wp2_with (first | (refine wpList_alloc32 i34 rfl rfl ?_) | fail)
      intro wb hb1 hb2 hb3
      go_wp2_with (first | (refine wpList_store32 i34 rfl _ _ rfl wa.heap.size z32 (nm z) rfl rfl hb1 z32_length (nm_length z) wa.heap.size (Nat.le_refl _) ?_) | fail)
      intro ws hs1 hs2 hs3 hs4
      have HBR : Hid (Below wr.heap.size wr ws) := ((below_dN (Below.refl wr.heap.size wr) nq).trans hba).trans ((hb2.trans hs2).mono hba.size)
      have HKY := Lib.hid hs1
      obtain ⟨gk, hgk⟩ : ∃ gk, wa.heap.size = gk := ⟨_, rfl⟩
      rw [hgk] at HKY ⊢
      have HBW := Lib.hid (hb.out.trans (HBR.out.mono hb.out.size))
      have HOW := Lib.hid (own_below hown.out HBR.out)
      have hlt : ((b.drop p).take 32).length = 32 := by rw [List.length_take, List.length_drop, HL.out]; omega
      have HST : Hid (∀ m, (convert 41 9 (.slice (some ⟨ab, ao + p, none⟩) 32 (c - p))).run Try.prog (ws.drewN m) = .ok (.string ⟨((b.drop p).take 32).toArray⟩) (ws.drewN m)) := fun m => by
        have hx2 := (HX.out.keep (w' := ws.drewN m) fun g hg => HBW.out.block g (HOK.out g hg)).drop (k := p) (c := c) (by rw [HL.out]; omega) (by rw [HL.out]; exact hc)
        rw [if_neg (by omega), Option.map_some, Addr.add_lit] at hx2
        have h := (hx2.take 32).str (c - p)
        rw [hlt] at h
        exact h
      have HSK : Hid (∀ m, (convert 41 9 (.slice (some ⟨gk, 0, none⟩) 32 32)).run Try.prog (ws.drewN m) = .ok (.string ⟨(nm z).toArray⟩) (ws.drewN m)) := fun m => by
        have h := ((HKY.out.keep (w' := ws.drewN m) rfl).byt (ok := fun _ => True) trivial).str 32
        rw [nm_length] at h
        exact h
      clear hba hb1 hb2 hb3 hs1 hs2 hs3 hs4 hgk HNM hown hb
      have hnh := num_here (b := b.drop p) (most := N) (n := z) (by rw [List.length_drop, HL.out]; omega) HNB.out
      have HNH := Lib.hid hnh
      clear hnh hlt
      obtain ⟨sb, hsb⟩ : ∃ sb, (b.drop p).take 32 = sb := ⟨_, rfl⟩
      rw [hsb] at HST HNH
      have q1 : (0 : Int) ≤ (p : Int) := by omega
      have q2 : (p : Int) ≤ (n : Int) := by omega
      have q3 : (p : Int) + 32 ≤ (n : Int) := by omega
      by_cases h1 : 1 ≤ z ∧ z ≤ N
      · have d1 : decide ((1 : Int) ≤ (z : Int)) = true := by simp; omega
        have d2 : decide ((z : Int) ≤ (N : Int)) = true := by simp; omega
        have a32 : IntKind.i64.wrap ((p : Int) + 32) = (p : Int) + 32 := IntWalk.i64_in _ (by omega)
        have t32 : ((p : Int) + 32).toNat = p + 32 := by omega
        have z32' : (0 : Int) ≤ (p : Int) + 32 := by omega
        have HQ1 : Hid (N ≤ 70000) := hN
        by_cases hs : sb = nm z
        · have hnum := (HNH.out.1).2 ⟨h1.1, h1.2, hs⟩
          have hmore : nms (b.drop p) (N + 1) = z :: nms (b.drop (p + 32)) (N + 1) := by
            rw [nms_hit _ _ (by rw [hnum.1]; exact hnum.2), hnum.1, List.drop_drop]
          have HSP2 : Hid ((os ++ [z]) ++ nms (b.drop (p + 32)) (N + 1) = nms b (N + 1)) := by
            rw [List.append_assoc, List.singleton_append, ← hmore]
            exact hsp.out
          rw [hs] at HST
          have hcs := HST.out
          have hck := HSK.out
          clear hnum hmore hs HNH
          go_wp2_with fail
          refine wp_region_quiet_lit (by kernel_rfl) (by kernel_rfl) ?_
          repeat (go_big_quiet_step (fail))
          refine wpQuiet_nil ?_
          rintro _ ⟨nr, rfl⟩
          clear hcs hck
          have HOW2 := Lib.hid ((own_below HOW.out (below_dN (Below.refl ws.heap.size ws) nr)).alloc (.cells #[.int .i64 (z : Int)] 3))
          have F1 : Hid (∀ q u, [Value.int .i64 (z : Int)][q]? = some u → ((ws.drewN nr).alloc (.cells #[.int .i64 (z : Int)] 3)).cell? ((⟨ws.heap.size, 0, none⟩ : Addr).add q) = some u) := World.news_of_block (heap_alloc_new (ws.drewN nr) _)
          have F2 : Hid (∀ u ∈ [Value.int .i64 (z : Int)], u.oneCell' = true) := fun u hu => by
            obtain rfl : u = .int .i64 (z : Int) := by simpa using hu
            rfl
          have F3 : Hid (m + 1 ≤ maxLen) := by show m + 1 ≤ maxLen; unfold maxLen; omega
          have F4 : Hid ((m + 1) * 8 ≤ 140737488355328) := by show (m + 1) * 8 ≤ _; omega
          have F6 : Hid (w.heap.size ≤ ((ws.drewN nr).alloc (.cells #[.int .i64 (z : Int)] 3)).heap.size) := le_alc HBW.out.size _
          go_wp2_with (first | (at_builtin; refine wpList_append_own_at _ rfl _ _ 42 rfl w.heap.size 3 i3 (.int .i64 0) 1 8 Try.underlying42 HI3.out HZ0.out HZ1.out HZ2.out rfl Nat.one_pos u5 m _ rfl HOW2.out ⟨ws.heap.size, 0, none⟩ 1 1 [.int .i64 (z : Int)] rfl rfl F1.out F2.out F3.out F4.out F6.out ?_) | fail)
          intro v5 w5 ho hg _ hat
          have HO5 : Hid (w5.ownsRow w.heap.size 3 1 v5 (m + 1) (ints (os ++ [z]))) := by rw [ints_append]; exact ho
          have HB5 : Hid (Below w.heap.size w w5) := ((below_dN HBW.out nr).alloc HBW.out.size _).grown hg F6.out fun g hg => (HOW.out.lt g hg).1
          have HOS5 : Hid ((os ++ [z]).length = m + 1) := by rw [List.length_append, HOS.out]; rfl
          clear ho hg hat F1 F2 F3 F4 F6 HOW2
          go_wp2_with fail
          go_roundg (n + 1 - (p + 32))
          case measure => have := HGK.out; omega
          case rel => exact ⟨p + 32, m + 1, os ++ [z], by go_num, by omega, Nat.le_refl _, HOS5.out, by omega, HSP2.out, HO5.out, HB5.out⟩
        · have hne : (sb == nm z) = false := by rw [beq_eq_false_iff_ne]; exact hs
          have hsp2 := hsp.out
          rw [nms_drop1 _ _ (HNH.out.2 (fun h => hs h.2.2)), List.drop_drop] at hsp2
          have HSP2 := Lib.hid hsp2
          have hcs := HST.out
          have hck := HSK.out
          clear hsp2 HNH
          go_wp2_with fail
          refine wp_region_quiet_lit (by kernel_rfl) (by kernel_rfl) ?_
          repeat (go_big_quiet_step (fail))
          refine wpQuiet_nil ?_
          rintro _ ⟨nr, rfl⟩
          clear hcs hck
          have HO5 := Lib.hid (own_below HOW.out (below_dN (Below.refl ws.heap.size ws) nr))
          have HB5 := Lib.hid (below_dN HBW.out nr)
          go_wp2_with fail
          go_roundg (n + 1 - (p + 1))
          case measure => have := HGK.out; omega
          case rel => exact ⟨p + 1, m, os, by go_num, by omega, Nat.le_refl _, HOS.out, by omega, HSP2.out, HO5.out, HB5.out⟩
      · by_cases h2 : 1 ≤ z
        · have d1 : decide ((1 : Int) ≤ (z : Int)) = true := by simp; omega
          have d2 : decide (z ≤ N) = false := by simp; omega
          have hsp2 := hsp.out
          rw [nms_drop1 _ _ (HNH.out.2 (fun h => h1 ⟨h.1, h.2.1⟩)), List.drop_drop] at hsp2
          have HSP2 := Lib.hid hsp2
          clear hsp2 HNH
          go_wp2_with fail
          refine wp_region_quiet_lit (by kernel_rfl) (by kernel_rfl) ?_
          repeat (go_big_quiet_step (fail))
          refine wpQuiet_nil ?_
          rintro _ ⟨nr, rfl⟩
          have HO5 := Lib.hid (own_below HOW.out (below_dN (Below.refl ws.heap.size ws) nr))
          have HB5 := Lib.hid (below_dN HBW.out nr)
          go_wp2_with fail
          go_roundg (n + 1 - (p + 1))
          case measure => have := HGK.out; omega
          case rel => exact ⟨p + 1, m, os, by go_num, by omega, Nat.le_refl _, HOS.out, by omega, HSP2.out, HO5.out, HB5.out⟩
        · have d1 : decide ((1 : Int) ≤ (z : Int)) = false := by simp; omega
          have hsp2 := hsp.out
          rw [nms_drop1 _ _ (HNH.out.2 (fun h => h1 ⟨h.1, h.2.1⟩)), List.drop_drop] at hsp2
          have HSP2 := Lib.hid hsp2
          clear hsp2 HNH
          go_wp2_with fail
          refine wp_region_quiet_lit (by kernel_rfl) (by kernel_rfl) ?_
          repeat (go_big_quiet_step (fail))
          refine wpQuiet_nil ?_
          rintro _ ⟨nr, rfl⟩
          have HO5 := Lib.hid (own_below HOW.out (below_dN (Below.refl ws.heap.size ws) nr))
          have HB5 := Lib.hid (below_dN HBW.out nr)
          go_wp2_with fail
          go_roundg (n + 1 - (p + 1))
          case measure => have := HGK.out; omega
          case rel => exact ⟨p + 1, m, os, by go_num, by omega, Nat.le_refl _, HOS.out, by omega, HSP2.out, HO5.out, HB5.out⟩
end Go.Proofs.Ytbhfjjlfpgineaa
