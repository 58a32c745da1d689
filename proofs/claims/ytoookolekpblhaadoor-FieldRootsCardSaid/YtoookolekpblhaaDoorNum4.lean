/- The reference's fold. Conditions: no more than 31 digits, none above 2^40, all of them below 2^512. -/
import Derived.Test.YtoookolekpblhaaDoorNum3
import Derived.Deep.LoopGhost
import Derived.Deep.RegionHeld3
namespace Go.Proofs.YtoookolekpblhaaDoor
open Go.RowKit
/-- The digits under way, wherever they lie. -/
def Fd (V0 : Nat) (H gr ga : Nat) (g : Nat) (b cap : Nat) (post : List Value) (L : List Nat) (wr : World) : Prop :=
  Blk wr b 3 (ints L ++ post) ∧ L.length ≤ cap ∧ cap ≤ maxLen ∧ (ints L ++ post).length = cap ∧ 1 ≤ L.length ∧ L.length ≤ 31 ∧ (∀ x ∈ L, x ≤ 1099511627776) ∧ vl L < 65536 ^ 32 ∧ vl L % fq = V0 % fq ∧ (b = g ∨ H ≤ b) ∧ b ≠ ga ∧ b ≠ gr
theorem le_getD {L : List Nat} {B i : Nat} (h : ∀ x ∈ L, x ≤ B) (hi : i < L.length) : L.getD i 0 ≤ B := by
  rw [List.getD_eq_getElem?_getD, List.getElem?_eq_getElem hi]
  exact h _ (List.getElem_mem hi)
/-- While digits are carried. -/
def Nm (L U : List Nat) (i c : Nat) : Prop := U.length = i ∧ (∀ x ∈ U, x < 65536) ∧ c ≤ 1099511627776 ∧ vl (L.take i) = vl U + 65536 ^ i * c
theorem Nm.next {L U : List Nat} {i c : Nat} (h : Nm L U i c) (hL : ∀ x ∈ L, x ≤ 1099511627776) (hi : i < L.length) : Nm L (U ++ [(c + L.getD i 0) % 65536]) (i + 1) ((c + L.getD i 0) / 65536) := by
  have h1 := le_getD hL hi
  have h2 := h.2.2.1
  exact ⟨by rw [List.length_append, h.1]; rfl, all_snoc h.2.1 (Nat.mod_lt _ (by decide)), by omega, norm_step h.1 h.2.2.2 hi⟩
/-- While digits are put behind. -/
def Ps (V : Nat) (U : List Nat) (c : Nat) : Prop := (∀ x ∈ U, x < 65536) ∧ V = vl U + 65536 ^ U.length * c ∧ c ≤ 1099511627776 ∧ 1 ≤ U.length ∧ U.length ≤ 32
theorem Ps.next {V : Nat} {U : List Nat} {c : Nat} (h : Ps V U c) (hV : V < 65536 ^ 32) (hc : 0 < c) : Ps V (U ++ [c % 65536]) (c / 65536) := by
  obtain ⟨h1, h2, h3, h4, h5⟩ := h
  refine ⟨all_snoc h1 (Nat.mod_lt _ (by decide)), ?_, by omega, by rw [List.length_append]; omega, ?_⟩
  · rw [List.length_append]
    exact push_step rfl h2
  · rw [List.length_append]
    have h6 : 65536 ^ U.length * 1 ≤ 65536 ^ U.length * c := Nat.mul_le_mul_left _ hc
    have h7 : 65536 ^ U.length < 65536 ^ 32 := by omega
    have h8 : U.length < 32 := (Nat.pow_lt_pow_iff_right (by decide)).1 h7
    show U.length + 1 ≤ 32
    omega
theorem Ps.done {V : Nat} {U : List Nat} (h : Ps V U 0) : U = dgs U.length V ∧ V < 65536 ^ U.length := by
  have hV : V = vl U := by rw [h.2.1, Nat.mul_zero, Nat.add_zero]
  rw [hV]
  exact ⟨(dgs_vl U h.1).symm, vl_lt U h.1⟩
theorem big_of {V : Nat} {U : List Nat} {c : Nat} (h : Ps V U c) (hc : 0 < c) (h16 : 16 ≤ U.length) : 65536 ^ 16 ≤ V := by
  have h6 : 65536 ^ U.length * 1 ≤ 65536 ^ U.length * c := Nat.mul_le_mul_left _ hc
  have h7 : 65536 ^ 16 ≤ 65536 ^ U.length := Nat.pow_le_pow_right (by decide) h16
  have h8 := h.2.1
  omega
theorem getD_mem {l : List Nat} {i : Nat} (h : i < l.length) : l.getD i 0 ∈ l := by
  rw [List.getD_eq_getElem?_getD, List.getElem?_eq_getElem h]
  exact List.getElem_mem h
theorem fq_lt16 : fq < 65536 ^ 16 := by decide +kernel
theorem fq_pos : 0 < fq := by decide
/-- The first i digits. -/
def upf (V i j : Nat) : Nat := if j < i then dgt V j else 0
theorem upf_zero (V : Nat) : num (fun _ => 0) = num (upf V 0) := by
  congr 1
theorem num_ext {l : List Value} {f : Nat → Nat} (hl : l.length = 16) (h : ∀ j, j < 16 → l[j]? = some (.int .i64 (f j : Int))) : l = num f := by
  apply List.ext_getElem?
  intro j
  by_cases hj : j < 16
  · rw [h j hj, num_get f j hj]
  · rw [List.getElem?_eq_none (by omega), List.getElem?_eq_none (by rw [num_length]; omega)]
theorem upf_set (V i : Nat) : (num (upf V i)).set i (.int .i64 ((dgt V i : Nat) : Int)) = num (upf V (i + 1)) := by
  refine num_ext (by rw [List.length_set, num_length]) fun j hj => ?_
  rw [List.getElem?_set, num_length, num_get _ j hj]
  unfold upf
  by_cases hij : i = j
  · subst hij
    rw [if_pos rfl, if_pos hj, if_pos (by omega)]
  · have h3 : (j < i + 1) = (j < i) := by simp; omega
    rw [if_neg hij]
    simp only [h3]
theorem upf_all {V K : Nat} (hV : V < 65536 ^ K) : num (upf V K) = num (dgt V) := by
  refine num_ext (num_length _) fun j hj => ?_
  rw [num_get _ j hj]
  unfold upf
  by_cases hk : j < K
  · rw [if_pos hk]
  · rw [if_neg hk, dgt_over hV (by omega)]
/-- Such digits, where they lie. -/
def Sg (V H gr ga g b cap : Nat) (post : List Value) (U : List Nat) (c : Nat) (wr : World) : Prop :=
  Ps V U c ∧ Blk wr b 3 (ints U ++ post) ∧ U.length ≤ cap ∧ cap ≤ maxLen ∧ (ints U ++ post).length = cap ∧ (b = g ∨ H ≤ b) ∧ b ≠ ga ∧ b ≠ gr
theorem grown_or {A B C : World} {g b : Nat} (h1 : A.grownBy B (some g)) (h2 : B.grownBy C (some b)) (h : b = g ∨ A.heap.size ≤ b) : A.grownBy C (some g) :=
  World.grownBy.andThen h1 h2 (by
    rintro _ ⟨⟩
    rcases h with rfl | h
    · exact .inr rfl
    · exact .inl h)
set_option maxRecDepth 100000 in
set_option maxHeartbeats 3200000 in
theorem fold_any {w : World} {g k : Nat} {l : List Nat} (hb : Blk w g 3 (ints l)) (hk : l.length = k) (h1 : 1 ≤ k) (h31 : k ≤ 31) (hB : ∀ x ∈ l, x ≤ 1099511627776) (hv : vl l < 65536 ^ 32) :
    Calls Tryd.prog 21 #[.slice (some ⟨g, 0, none⟩) k k] w fun e w' => e = .returned (.agg (num (dgt (vl l % fq))).toArray) ∧ w.grownBy w' (some g) := by
  subst hk
  obtain ⟨V0, hV0⟩ : ∃ V0, V0 = vl l := ⟨_, rfl⟩
  have hF0 : ∀ H gr ga, g ≠ ga → g ≠ gr → Fd V0 H gr ga g g l.length [] l w := fun H gr ga n1 n2 => ⟨hb.to (by rw [List.append_nil]), Nat.le_refl _, by unfold maxLen; omega, by rw [List.append_nil, ints_length], h1, h31, hB, hv, by rw [hV0], .inl rfl, n1, n2⟩
  have HF0 := Lib.hid hF0
  have HGL := Lib.hid hb.lt
  rw [← hV0]
  clear hb h1 h31 hB hv hF0
  go_enter Tryd.func21, Tryd.ntmps21
  go_wp2_with (refine wpList_alloc32 rfl rfl ?_)
  intro w1 hb1 hg1 hz1
  go_wp2_with (refine wpList_alloc32 rfl rfl ?_)
  intro w2 hb2 hg2 hz2
  obtain ⟨gr, hgr⟩ : ∃ g, g = w.heap.size := ⟨_, rfl⟩
  obtain ⟨ga, hga⟩ : ∃ g, g = w.heap.size + 1 := ⟨_, rfl⟩
  rw [← hga, ← hgr]
  rw [← hgr] at hb1
  rw [← hga] at hb2
  have hgg := HGL.out
  have HR : Hid (Blk w2 gr 31 (num fun _ => 0)) := Lib.hid (hb1.grown hg2 (by simp))
  have HA : Hid (Blk w2 ga 31 (num fun _ => 0)) := Lib.hid hb2
  have HG : Hid (w.grownBy w2 none) := Lib.hid (World.grownBy.trans hg1 hg2)
  have HH : Hid (gr < w2.heap.size ∧ ga < w2.heap.size ∧ gr ≠ ga ∧ g ≠ gr ∧ g ≠ ga ∧ w.heap.size ≤ gr ∧ w.heap.size ≤ ga) := Lib.hid (by omega)
  have HF : Hid (Fd V0 w2.heap.size gr ga g g l.length [] l w2) := by
    obtain ⟨f1, f2⟩ := HF0.out w2.heap.size gr ga (by omega) (by omega)
    exact Lib.hid ⟨f1.grown (World.grownBy.trans hg1 hg2) (by simp), f2⟩
  clear hb1 hg1 hz1 hb2 hg2 hz2 hga hgr HF0 hgg
  go_wp2_with (fail)
  go_loopg [0, 4, 5, 6, 7] (V0 + 100) (fun G x _ _ _ _ wr => ∃ b cap post L, x = .slice (some ⟨b, 0, none⟩) L.length cap ∧ Fd V0 w2.heap.size gr ga g b cap post L wr ∧ w2.grownBy wr (some g) ∧ vl L + L.length ≤ G)
  case atStart => exact ⟨g, l.length, [], l, rfl, HF.out, World.grownBy.refl _ _, by rw [hV0]; have := HF.out.2.2.2.2.2.1; omega⟩
  case round =>
    clear HF hV0
    obtain ⟨b, cap, post, L, rfl, hF, hg, hG⟩ := hrel
    have HF := Lib.hid hF
    have HGR := Lib.hid hg
    have HGG := Lib.hid hG
    obtain ⟨k, hk⟩ : ∃ k, k = L.length := ⟨_, rfl⟩
    rw [← hk]
    have HK := Lib.hid hk
    have hk31 : k ≤ 31 := by rw [hk]; exact hF.2.2.2.2.2.1
    have hkc : (k : Int) ≤ (cap : Int) := by have := hF.2.1; omega
    clear hF hg hG hk
    go_wp2_with (fail)
    go_loopw [4, 5] (fun y x wi => ∃ (i c : Nat) (U : List Nat), i ≤ k ∧ x = .int .i64 (i : Int) ∧ y = .int .i64 (c : Int) ∧ Nm L U i c ∧ Blk wi b 3 (ints (U ++ L.drop i) ++ post) ∧ wr.grownBy wi (some b)) (fun _ x _ => k - (intOf x).toNat)
    case atStart => exact ⟨0, 0, [], Nat.zero_le _, rfl, rfl, ⟨rfl, by simp, by omega, by simp [vl]⟩, HF.out.1, World.grownBy.refl _ _⟩
    case round =>
      obtain ⟨i, c, U, hi, rfl, rfl, hN, hb, hgi⟩ := hrel
      by_cases hlt : i < k
      · have e1 : (i : Int) < (k : Int) := by omega
        have hlen : i < L.length := by have := HK.out; omega
        have c1 := hb.get i (.int .i64 ((L.getD i 0 : Nat) : Int)) (by rw [List.getElem?_append_left (by rw [ints_length, List.length_append, List.length_drop, hN.1]; omega), ints_at _ i (by rw [List.length_append, List.length_drop, hN.1]; omega), getD_mid U L i hN.1 hlen])
        have hf := hb.frozen i
        have hb2 := fun x : Nat => (hb.set i (.int .i64 (x : Int))).to (by rw [List.set_append_left _ _ (by rw [ints_length, List.length_append, List.length_drop, hN.1]; omega), ints_set, set_mid U L i x hN.1 hlen])
        have hnx := hN.next HF.out.2.2.2.2.2.2.1 hlen
        have hy1 := le_getD HF.out.2.2.2.2.2.2.1 hlen
        have hc1 := hN.2.2.1
        obtain ⟨y, hy⟩ : ∃ y, y = L.getD i 0 := ⟨_, rfl⟩
        rw [← hy] at c1 hnx hy1
        obtain ⟨s, hs⟩ : ∃ s, s = c + y := ⟨_, rfl⟩
        rw [← hs] at hnx
        have d1 : (c : Int) + (y : Int) = (s : Int) := by omega
        have d2 := i64_keep s (by omega)
        obtain ⟨r, hr⟩ : ∃ r, r = s % 65536 := ⟨_, rfl⟩
        obtain ⟨q, hq⟩ : ∃ q, q = s / 65536 := ⟨_, rfl⟩
        rw [← hr, ← hq] at hnx
        have d3 : (s : Int).tmod 65536 = (r : Int) := by rw [Int.tmod_eq_emod_of_nonneg (by omega)]; omega
        have d4 : (s : Int) % 65536 = (r : Int) := by omega
        have d5 : (s : Int).tdiv 65536 = (q : Int) := by rw [Int.tdiv_eq_ediv_of_nonneg (by omega)]; omega
        have d6 : (s : Int) / 65536 = (q : Int) := by omega
        have d7 := i64_keep r (by omega)
        have d8 := i64_keep q (by omega)
        have HB2 := Lib.hid hb2
        have HNX := Lib.hid hnx
        have HGI := Lib.hid hgi
        clear hb hb2 hnx hgi hy hs hr hq hN
        go_wp2_with (fail)
        exact ⟨⟨i + 1, q, U ++ [r], by omega, by go_num, rfl, HNX.out, HB2.out r, World.grownBy.trans HGI.out (grown_set _ b i _)⟩, by simp [intOf]; omega⟩
      · have ei : i = k := by omega
        subst ei
        obtain ⟨V, hV⟩ : ∃ V, V = vl L := ⟨_, rfl⟩
        have hP : Ps V U c := by
          refine ⟨hN.2.1, ?_, hN.2.2.1, ?_, ?_⟩
          · rw [hN.1, ← hN.2.2.2, List.take_of_length_le (by have := HK.out; omega)]
            exact hV
          · rw [hN.1, HK.out]; exact HF.out.2.2.2.2.1
          · rw [hN.1]; omega
        have hVlt : V < 65536 ^ 32 := by rw [hV]; exact HF.out.2.2.2.2.2.2.2.1
        have hVm : V % fq = V0 % fq := by rw [hV]; exact HF.out.2.2.2.2.2.2.2.2.1
        have hVG : V + i ≤ gk := by rw [hV, HK.out]; exact HGG.out
        have hbg : b = g ∨ w2.heap.size ≤ b := HF.out.2.2.2.2.2.2.2.2.2.1
        have hb2 : Blk wr b 3 (ints U ++ post) := hb.to (by rw [List.drop_eq_nil_of_le (by have := HK.out; omega), List.append_nil])
        have hg2 : w2.grownBy wr (some g) := grown_or HGR.out hgi hbg
        have hub : U.length = i := hN.1
        have h3 : (ints U ++ post).length = cap := by have := HF.out.2.2.2.1; rw [List.length_append, ints_length] at this ⊢; have := HK.out; omega
        have hS : Sg V w2.heap.size gr ga g b cap post U c wr := ⟨hP, hb2, by rw [hub, HK.out]; exact HF.out.2.1, HF.out.2.2.1, h3, hbg, HF.out.2.2.2.2.2.2.2.2.2.2.1, HF.out.2.2.2.2.2.2.2.2.2.2.2⟩
        have HS := Lib.hid hS
        have HVL := Lib.hid hVlt
        have HVM := Lib.hid hVm
        have HVG := Lib.hid hVG
        have HG2 := Lib.hid hg2
        have HUB := Lib.hid hub
        clear hV hP hVlt hVm hVG hbg hb2 hg2 hub h3 hS hN hb hgi hlt hi hkc
        go_wp2_with (fail)
        rw [← HUB.out]
        go_loopw [0, 4] (fun x y wj => ∃ (b2 cap2 : Nat) (post2 : List Value) (D : List Nat) (q : Nat), x = .slice (some ⟨b2, 0, none⟩) D.length cap2 ∧ y = .int .i64 (q : Int) ∧ Sg V w2.heap.size gr ga g b2 cap2 post2 D q wj ∧ w2.grownBy wj (some g) ∧ (16 < D.length → 16 < i ∨ 65536 ^ 16 ≤ V)) (fun _ y _ => (intOf y).toNat)
        case atStart => exact ⟨b, cap, post, U, c, rfl, rfl, HS.out, HG2.out, fun h => .inl (by have := HUB.out; omega)⟩
        case round =>
          clear HS HG2 HUB HF HGR HGG
          obtain ⟨b2, cap2, post2, D, q, rfl, rfl, hS, hgj, hbig⟩ := hrel
          by_cases hq : 0 < q
          · have e1 : (0 : Int) < (q : Int) := by omega
            have hq1 := hS.1.2.2.1
            obtain ⟨r, hr⟩ : ∃ r, r = q % 65536 := ⟨_, rfl⟩
            obtain ⟨q2, hq2⟩ : ∃ q2, q2 = q / 65536 := ⟨_, rfl⟩
            have hnx := hS.1.next HVL.out hq
            rw [← hr, ← hq2] at hnx
            have d3 : (q : Int).tmod 65536 = (r : Int) := by rw [Int.tmod_eq_emod_of_nonneg (by omega)]; omega
            have d4 : (q : Int) % 65536 = (r : Int) := by omega
            have d5 : (q : Int).tdiv 65536 = (q2 : Int) := by rw [Int.tdiv_eq_ediv_of_nonneg (by omega)]; omega
            have d6 : (q : Int) / 65536 = (q2 : Int) := by omega
            have d7 := i64_keep r (by omega)
            have d8 := i64_keep q2 (by omega)
            have hlt2 : q2 < q := by omega
            have hbig2 : 16 < (D ++ [r]).length → 16 < i ∨ 65536 ^ 16 ≤ V := fun h => .inr (big_of hS.1 hq (by rw [List.length_append] at h; simp at h; omega))
            have HBIG := Lib.hid hbig2
            have HS := Lib.hid hS
            have HNX := Lib.hid hnx
            have HGJ := Lib.hid hgj
            have HQ := Lib.hid hlt2
            clear hS hnx hgj hq hr hq2 hq1 hlt2 hbig hbig2
            go_wp2_with (first
              | (refine wpList_int1 rfl _ rfl r rfl ?_
                 intro w5 hb5 hg5 hz5
                 obtain ⟨g5, hg5e⟩ : ∃ g, g = wr.heap.size := ⟨_, rfl⟩
                 rw [← hg5e] at hb5 ⊢
                 have HB5 := Lib.hid hb5
                 have HG5 := Lib.hid hg5
                 clear hb5 hg5 hz5 hg5e)
              | (at_builtin
                 refine wpList_append_int rfl _ _ rfl b2 D.length cap2 D post2 rfl (HS.out.2.1.grown HG5.out (by simp)) HS.out.2.2.1 HS.out.2.2.2.1 HS.out.2.2.2.2.1 rfl g5 r HB5.out rfl (by have := HS.out.1.2.2.2.2; omega) ?_
                 intro b3 cap3 post3 w6 hb6 hc6 hm6 hl6 hg6 hw6
                 have hg56 : wr.heap.size ≤ w5.heap.size := HG5.out.size
                 have hgw : w2.heap.size ≤ wr.heap.size := HGJ.out.size
                 have h2 := HS.out.2.2.2.2.2
                 have hh := HH.out
                 have hb3 : (b3 = g ∨ w2.heap.size ≤ b3) ∧ b3 ≠ ga ∧ b3 ≠ gr := by
                   rcases hw6 with rfl | rfl
                   · exact h2
                   · exact ⟨.inr (by omega), by omega, by omega⟩
                 have HS6 : Hid (Sg V w2.heap.size gr ga g b3 cap3 post3 (D ++ [r]) q2 w6) := Lib.hid ⟨HNX.out, hb6, by rw [List.length_append]; exact hc6, hm6, hl6, hb3⟩
                 have HG6 : Hid (w2.grownBy w6 (some g)) := Lib.hid (grown_or (World.grownBy.trans HGJ.out (HG5.out.but _)) hg6 h2.1)
                 clear hb6 hc6 hm6 hl6 hg6 hw6 hg56 hgw h2 hh hb3))
            go_roundw
            case rel => exact ⟨b3, cap3, post3, D ++ [r], q2, by rw [List.length_append]; rfl, rfl, HS6.out, HG6.out, HBIG.out⟩
            case measure => have := HQ.out; simp [intOf]; omega
          · have hq0 : q = 0 := by omega
            subst hq0
            obtain ⟨hDd, hDV⟩ := hS.1.done
            obtain ⟨K, hK⟩ : ∃ K, K = D.length := ⟨_, rfl⟩
            rw [← hK] at hDd hDV hbig ⊢
            have hK32 : K ≤ 32 := by rw [hK]; exact hS.1.2.2.2.2
            have hK1 : 1 ≤ K := by rw [hK]; exact hS.1.2.2.2.1
            have hb3 : Blk wr b2 3 (ints (dgs K V) ++ post2) := hS.2.1.to (by rw [← hDd])
            have hkc : (K : Int) ≤ (cap2 : Int) := by have := hS.2.2.1; omega
            have hb22 := hS.2.2.2.2.2
            have HB3 := Lib.hid hb3
            have HDV := Lib.hid hDV
            have HBIG := Lib.hid hbig
            have HGJ := Lib.hid hgj
            have HB22 := Lib.hid hb22
            clear hDd hDV hbig hb3 hgj hS hK hq hb22
            by_cases h16 : K ≤ 16
            · have e1 : (K : Int) ≤ 16 := by omega
              have hh := HH.out
              have HA2 : Hid (Blk wr ga 31 (num (upf V 0))) := Lib.hid ((HA.out.grown HGJ.out (fun e => hh.2.2.2.2.1 (Option.some.inj e).symm)).to (by rw [upf_zero]))
              have HR2 : Hid (Blk wr gr 31 (num fun _ => 0)) := Lib.hid (HR.out.grown HGJ.out (fun e => hh.2.2.2.1 (Option.some.inj e).symm))
              have HGW : Hid (w.grownBy wr (some g)) := Lib.hid (World.grownBy.trans (HG.out.but _) HGJ.out)
              clear HVL HVG HBIG hh HA HR HG HGJ
              go_wp2_with (fail)
              obtain ⟨wo, hwo⟩ : ∃ wo, wo = wr := ⟨_, rfl⟩
              rw [← hwo] at HA2 HR2 HGW HB3 ⊢
              clear hwo
              go_loopw [8] (fun x wx => ∃ i : Nat, i ≤ K ∧ x = .int .i64 (i : Int) ∧ Blk wx ga 31 (num (upf V i)) ∧ wo.grownBy wx (some ga)) (fun x _ => K - (intOf x).toNat)
              case atStart => exact ⟨0, Nat.zero_le _, rfl, HA2.out, World.grownBy.refl _ _⟩
              case round =>
                clear HA2
                obtain ⟨j, hj, rfl, hba, hga⟩ := hrel
                by_cases hlt : j < K
                · have f1 : (j : Int) < (K : Int) := by omega
                  have f2 : (j : Int) < 16 := by omega
                  have c1 := (HB3.out.grown hga (fun e => HB22.out.2.1 (Option.some.inj e))).get j (.int .i64 ((dgt V j : Nat) : Int)) (by rw [List.getElem?_append_left (by rw [ints_length, dgs_length]; exact hlt), ints_at _ j (by rw [dgs_length]; exact hlt), dgs_getD _ _ _ hlt])
                  have c2 := hba.get j _ (num_get _ j (by omega))
                  have hf := hba.frozen j
                  have hb2 := (hba.set j (.int .i64 ((dgt V j : Nat) : Int))).to (upf_set V j)
                  obtain ⟨y, hy⟩ : ∃ y, y = dgt V j := ⟨_, rfl⟩
                  rw [← hy] at c1 hb2
                  have HB7 := Lib.hid hb2
                  have HGE := Lib.hid hga
                  clear hba hga hb2 hy
                  go_wp2_with (fail)
                  exact ⟨⟨j + 1, by omega, by go_num, HB7.out, World.grownBy.trans HGE.out (grown_set wr ga j _)⟩, by simp [intOf]; omega⟩
                · have ej : j = K := by omega
                  subst ej
                  have hh := HH.out
                  have HA9 : Hid (Blk wr ga 31 (num (dgt V))) := Lib.hid (hba.to (upf_all HDV.out))
                  have HR9 : Hid (Blk wr gr 31 (num fun _ => 0)) := Lib.hid (HR2.out.grown hga (fun e => hh.2.2.1 (Option.some.inj e)))
                  have HG9 : Hid (w.grownBy wr (some g)) := Lib.hid (World.grownBy.andThen HGW.out hga (by rintro _ ⟨⟩; exact .inl hh.2.2.2.2.2.2))
                  have HV9 : Hid (V < 65536 ^ 16) := Lib.hid (Nat.lt_of_lt_of_le HDV.out (Nat.pow_le_pow_right (by decide) h16))
                  clear hba hga hlt hj hh HR2 HGW HB3 HDV HB22
                  go_wp2_with (fail)
                  go_loopg [] (V + 1) (fun G wx => ∃ n : Nat, n < G ∧ Blk wx ga 31 (num (dgt n)) ∧ Blk wx gr 31 (num fun _ => 0) ∧ n < 65536 ^ 16 ∧ n % fq = V0 % fq ∧ w.grownBy wx (some g))
                  case atStart => exact ⟨V, by omega, HA9.out, HR9.out, HV9.out, HVM.out, HG9.out⟩
                  case round =>
                    clear HA9 HR9 HG9 HV9 HVM
                    obtain ⟨n, hnG, hA, hR, hn16, hnm, hG⟩ := hrel
                    have hh := HH.out
                    have HN16 := Lib.hid hn16
                    have HA := Lib.hid hA
                    have HR := Lib.hid hR
                    have HG := Lib.hid hG
                    have HNM := Lib.hid hnm
                    have HNG := Lib.hid hnG
                    have HNE : Hid (gr ≠ ga) := Lib.hid hh.2.2.1
                    have HWA : Hid (w.heap.size ≤ ga) := Lib.hid hh.2.2.2.2.2.2
                    have HWR : Hid (w.heap.size ≤ gr) := Lib.hid hh.2.2.2.2.2.1
                    clear hA hR hG hn16 hnm hnG hh
                    by_cases hlt : n < fq
                    · have HD : Hid (decide (n < fq) = true) := Lib.hid (by simpa using hlt)
                      have HNV : Hid (n = V0 % fq) := Lib.hid (by rw [← HNM.out, Nat.mod_eq_of_lt hlt])
                      clear hlt
                      go_wp2_with (fail)
                      refine wp_region_held_drew (S := fun w' => Blk w' ga 31 (num (dgt n))) (by kernel_rfl) (HA.out.keep rfl) (fun hHeld => ?_)
                      refine' wpAnyH_take (i := 0) (oi := { dst := some 89, op := Op.load 31 (Operand.tmp 3), type := 31, pos := "ref.go:67", after := #[], guard := none }) (v := _) rfl (by kernel_rfl) (by kernel_rfl) (by kernel_rfl) (fun _ _ _ h => h) (yieldsIf_load_mid (by rfl) _ _ rfl ga 0 rfl (num (dgt n)) _ (fun w' hs => range_blk hs) Tryd.underlying31 rfl (num_size' _)) (by assumption) ?p0
                      try simp only [Act.put, List.setIfInBounds_toArray, List.set_cons_zero, List.set_cons_succ]
                      refine wpAnyH_ready (rs := [1]) (by kernel_rfl) (by simp) ?_
                      refine AllReadyH.cons (o := { dst := some 90, op := Op.call { callee := Callee.value (Operand.func 26), args := #[], argTypes := #[] }, type := 31, pos := "ref.go:67", after := #[], guard := none }) rfl (fun K hK => ?_) AllReadyH.nil
                      rw [if_pos (by rfl)]
                      go_simp
                      refine (prime_any _).mono ?_
                      rintro _ wp ⟨rfl, hgp⟩
                      refine hK.out _ _ (hHeld.grown hgp (by simp)) (fun hHeld => ?_)
                      clear hK K
                      try simp only [Act.put, List.setIfInBounds_toArray, List.set_cons_zero, List.set_cons_succ]
                      refine wpAnyH_ready (rs := [2]) (by kernel_rfl) (by simp) ?_
                      refine AllReadyH.cons (o := { dst := some 91, op := Op.call { callee := Callee.value (Operand.func 32), args := #[Operand.tmp 89, Operand.tmp 90], argTypes := #[31, 31] }, type := 4, pos := "ref.go:67", after := #[{ on := 0, ground := Ground.data }, { on := 1, ground := Ground.data }, { on := 1, ground := Ground.chain }], guard := none }) rfl (fun K hK => ?_) AllReadyH.nil
                      rw [if_pos (by rfl)]
                      go_simp
                      refine (less_any _ n fq HN16.out fq_lt16).mono ?_
                      rintro _ wl ⟨rfl, hgl⟩
                      rw [HD.out]
                      refine hK.out _ _ (hHeld.grown hgl (by simp)) (fun hHeld => ?_)
                      clear hK K
                      try simp only [Act.put, List.setIfInBounds_toArray, List.set_cons_zero, List.set_cons_succ]
                      refine wpAnyH_ready (rs := [3]) (by kernel_rfl) (by simp) ?_
                      refine AllReadyH.cons (o := { dst := some 92, op := Op.unOp UnOp.not 4 (Operand.tmp 91), type := 4, pos := "ref.go:67", after := #[{ on := 2, ground := Ground.data }], guard := none }) rfl (fun K hK => ?_) AllReadyH.nil
                      rw [if_pos (by rfl)]
                      go_simp
                      refine hK.out _ _ hHeld (fun hHeld => ?_)
                      clear hK K
                      try simp only [Act.put, List.setIfInBounds_toArray, List.set_cons_zero, List.set_cons_succ]
                      refine wpAnyH_done (by kernel_rfl) ?_ _
                      obtain ⟨wz, hwz⟩ : ∃ wz, wz = wl := ⟨_, rfl⟩
                      rw [← hwz] at hHeld hgl ⊢
                      have HAZ := Lib.hid hHeld
                      have HRZ : Hid (Blk wz gr 31 (num fun _ => 0)) := Lib.hid (((HR.out.keep (w' := wr.drew) rfl).grown hgp (by simp)).grown hgl (by simp))
                      have HGZ : Hid (w.grownBy wz (some g)) := Lib.hid (World.grownBy.trans (World.grownBy.trans (grown_drew HG.out) (hgp.but _)) (hgl.but _))
                      clear hHeld hwz hgp hgl HA HR HG
                      go_wp2_with (first
                        | (refine wpList_load_mid rfl 31 _ rfl ga 0 rfl (num (dgt n)) _ (range_blk HAZ.out) Tryd.underlying31 rfl (num_size' _) ?_)
                        | (refine wpList_store_row rfl 31 _ _ rfl gr (num (dgt n)).toArray rfl rfl 31 _ HRZ.out (num_size _) (num_same _ _) (all_oneCell_toArray (num_one _)) ?_))
                      exact bodyPost_ret (results_cell_row rfl _ _ gr 31 (num (dgt n)).toArray (0, 0) _ rfl (setRow_heap wz gr _ _ 31 (0, 0) HRZ.out) Tryd.underlying31 rfl (num_size _)) rfl ⟨by rw [← HNV.out], World.grownBy.andThen HGZ.out (grown_setRow _ _ _) (by rintro _ ⟨⟩; exact .inl HWR.out)⟩
                    · have HD : Hid (decide (n < fq) = false) := Lib.hid (by simpa using hlt)
                      have HLE : Hid (fq ≤ n) := Lib.hid (by omega)
                      have HSUB : Hid (n - fq < n ∧ n - fq < 65536 ^ 16 ∧ (n - fq) % fq = V0 % fq) := by
                        have h1 := HN16.out
                        have h2 := HLE.out
                        have h3 := fq_pos
                        refine Lib.hid ⟨by omega, by omega, ?_⟩
                        rw [← HNM.out]
                        exact (Nat.mod_eq_sub_mod h2).symm
                      clear hlt
                      go_wp2_with (fail)
                      refine wp_region_held_drew (S := fun w' => Blk w' ga 31 (num (dgt n))) (by kernel_rfl) (HA.out.keep rfl) (fun hHeld => ?_)
                      refine' wpAnyH_take (i := 0) (oi := { dst := some 89, op := Op.load 31 (Operand.tmp 3), type := 31, pos := "ref.go:67", after := #[], guard := none }) (v := _) rfl (by kernel_rfl) (by kernel_rfl) (by kernel_rfl) (fun _ _ _ h => h) (yieldsIf_load_mid (by rfl) _ _ rfl ga 0 rfl (num (dgt n)) _ (fun w' hs => range_blk hs) Tryd.underlying31 rfl (num_size' _)) (by assumption) ?p1
                      try simp only [Act.put, List.setIfInBounds_toArray, List.set_cons_zero, List.set_cons_succ]
                      refine wpAnyH_ready (rs := [1]) (by kernel_rfl) (by simp) ?_
                      refine AllReadyH.cons (o := { dst := some 90, op := Op.call { callee := Callee.value (Operand.func 26), args := #[], argTypes := #[] }, type := 31, pos := "ref.go:67", after := #[], guard := none }) rfl (fun K hK => ?_) AllReadyH.nil
                      rw [if_pos (by rfl)]
                      go_simp
                      refine (prime_any _).mono ?_
                      rintro _ wp ⟨rfl, hgp⟩
                      refine hK.out _ _ (hHeld.grown hgp (by simp)) (fun hHeld => ?_)
                      clear hK K
                      try simp only [Act.put, List.setIfInBounds_toArray, List.set_cons_zero, List.set_cons_succ]
                      refine wpAnyH_ready (rs := [2]) (by kernel_rfl) (by simp) ?_
                      refine AllReadyH.cons (o := { dst := some 91, op := Op.call { callee := Callee.value (Operand.func 32), args := #[Operand.tmp 89, Operand.tmp 90], argTypes := #[31, 31] }, type := 4, pos := "ref.go:67", after := #[{ on := 0, ground := Ground.data }, { on := 1, ground := Ground.data }, { on := 1, ground := Ground.chain }], guard := none }) rfl (fun K hK => ?_) AllReadyH.nil
                      rw [if_pos (by rfl)]
                      go_simp
                      refine (less_any _ n fq HN16.out fq_lt16).mono ?_
                      rintro _ wl ⟨rfl, hgl⟩
                      rw [HD.out]
                      refine hK.out _ _ (hHeld.grown hgl (by simp)) (fun hHeld => ?_)
                      clear hK K
                      try simp only [Act.put, List.setIfInBounds_toArray, List.set_cons_zero, List.set_cons_succ]
                      refine wpAnyH_ready (rs := [3]) (by kernel_rfl) (by simp) ?_
                      refine AllReadyH.cons (o := { dst := some 92, op := Op.unOp UnOp.not 4 (Operand.tmp 91), type := 4, pos := "ref.go:67", after := #[{ on := 2, ground := Ground.data }], guard := none }) rfl (fun K hK => ?_) AllReadyH.nil
                      rw [if_pos (by rfl)]
                      go_simp
                      refine hK.out _ _ hHeld (fun hHeld => ?_)
                      clear hK K
                      try simp only [Act.put, List.setIfInBounds_toArray, List.set_cons_zero, List.set_cons_succ]
                      refine wpAnyH_done (by kernel_rfl) ?_ _
                      obtain ⟨wz, hwz⟩ : ∃ wz, wz = wl := ⟨_, rfl⟩
                      rw [← hwz] at hHeld hgl ⊢
                      have HAZ := Lib.hid hHeld
                      have HRZ : Hid (Blk wz gr 31 (num fun _ => 0)) := Lib.hid (((HR.out.keep (w' := wr.drew) rfl).grown hgp (by simp)).grown hgl (by simp))
                      have HGZ : Hid (w.grownBy wz (some g)) := Lib.hid (World.grownBy.trans (World.grownBy.trans (grown_drew HG.out) (hgp.but _)) (hgl.but _))
                      clear hHeld hwz hgp hgl HA HR HG
                      go_wp2_with (fail)
                      refine wp_region_held_drew (S := fun _ => True) (by kernel_rfl) trivial (fun _ => ?_)
                      refine wpAnyH_ready (rs := [0, 1]) (by kernel_rfl) (by simp) ?_
                      refine (AllReadyH.cons (o := { dst := some 93, op := Op.load 31 (Operand.tmp 3), type := 31, pos := "ref.go:68", after := #[], guard := none }) rfl (fun K hK => ?_) (AllReadyH.cons (o := { dst := some 94, op := Op.call { callee := Callee.value (Operand.func 26), args := #[], argTypes := #[] }, type := 31, pos := "ref.go:68", after := #[], guard := none }) rfl (fun K hK => ?_) AllReadyH.nil))
                      · rw [if_pos (by rfl)]
                        refine wp_load_mid 31 _ rfl ga 0 rfl (num (dgt n)) _ (range_blk (HAZ.out.keep (w' := wz.drew) rfl)) Tryd.underlying31 rfl (num_size' _) ?_
                        refine hK.out _ _ trivial (fun _ => ?_)
                        clear hK K
                        try simp only [Act.put, List.setIfInBounds_toArray, List.set_cons_zero, List.set_cons_succ]
                        refine wpAnyH_ready (rs := [1]) (by kernel_rfl) (by simp) ?_
                        refine AllReadyH.cons (o := { dst := some 94, op := Op.call { callee := Callee.value (Operand.func 26), args := #[], argTypes := #[] }, type := 31, pos := "ref.go:68", after := #[], guard := none }) rfl (fun K hK => ?_) AllReadyH.nil
                        rw [if_pos (by rfl)]
                        go_simp
                        refine (prime_any _).mono ?_
                        rintro _ wp ⟨rfl, hgp⟩
                        have hap : Blk wp ga 31 (num (dgt n)) := (HAZ.out.keep (w' := wz.drew) rfl).grown hgp (by simp)
                        have hrp : Blk wp gr 31 (num fun _ => 0) := (HRZ.out.keep (w' := wz.drew) rfl).grown hgp (by simp)
                        have hgw : w.grownBy wp (some g) := World.grownBy.trans (grown_drew HGZ.out) (hgp.but _)
                        refine hK.out _ _ trivial (fun _ => ?_)
                        clear hK K
                        try simp only [Act.put, List.setIfInBounds_toArray, List.set_cons_zero, List.set_cons_succ]
                        refine wpAnyH_ready (rs := [2]) (by kernel_rfl) (by simp) ?_
                        refine AllReadyH.cons (o := { dst := some 95, op := Op.call { callee := Callee.value (Operand.func 25), args := #[Operand.tmp 93, Operand.tmp 94], argTypes := #[31, 31] }, type := 31, pos := "ref.go:68", after := #[{ on := 0, ground := Ground.data }, { on := 1, ground := Ground.data }, { on := 1, ground := Ground.chain }], guard := none }) rfl (fun K hK => ?_) AllReadyH.nil
                        rw [if_pos (by rfl)]
                        go_simp
                        refine (minus_any _ n fq HN16.out HLE.out).mono ?_
                        rintro _ wm ⟨rfl, hgm⟩
                        refine hK.out _ _ trivial (fun _ => ?_)
                        clear hK K
                        try simp only [Act.put, List.setIfInBounds_toArray, List.set_cons_zero, List.set_cons_succ]
                        refine wpAnyH_ready (rs := [3]) (by kernel_rfl) (by simp) ?_
                        refine AllReadyH.cons (o := { dst := none, op := Op.store 31 (Operand.tmp 3) (Operand.tmp 95), type := 0, pos := "ref.go:68", after := #[{ on := 2, ground := Ground.data }, { on := 2, ground := Ground.chain }, { on := 0, ground := Ground.phase }, { on := 1, ground := Ground.phase }, { on := 2, ground := Ground.phase }], guard := none }) rfl (fun K hK => ?_) AllReadyH.nil
                        rw [if_pos (by rfl)]
                        have ha8 : Blk wm ga 31 (num (dgt n)) := hap.grown hgm (by simp)
                        have hr8 : Blk wm gr 31 (num fun _ => 0) := hrp.grown hgm (by simp)
                        have hg8 : w.grownBy wm (some g) := World.grownBy.trans hgw (hgm.but _)
                        refine wp_store_row 31 _ _ rfl ga (num (dgt (n - fq))).toArray rfl rfl 31 _ ha8 (num_size _) (num_same _ _) (all_oneCell_toArray (num_one _)) ?_
                        refine hK.out _ _ trivial (fun _ => ?_)
                        clear hK K
                        refine wpAnyH_done (by kernel_rfl) ?_ _
                        dsimp only [Act.put]
                        have ha9 : Blk (wm.setRow ga (num (dgt (n - fq))).toArray) ga 31 (num (dgt (n - fq))) := Blk.setRow ha8
                        have hr9 : Blk (wm.setRow ga (num (dgt (n - fq))).toArray) gr 31 (num fun _ => 0) := hr8.grown (grown_setRow _ _ _) (fun e => HNE.out (Option.some.inj e))
                        have hg9 : w.grownBy (wm.setRow ga (num (dgt (n - fq))).toArray) (some g) := World.grownBy.andThen hg8 (grown_setRow _ _ _) (by rintro _ ⟨⟩; exact .inl HWA.out)
                        have HA9 := Lib.hid ha9
                        have HR9 := Lib.hid hr9
                        have HG9 := Lib.hid hg9
                        clear ha9 hr9 hg9 ha8 hr8 hg8
                        go_wp2_with (fail)
                        go_roundg n
                        case measure => exact HNG.out
                        case rel => exact ⟨n - fq, HSUB.out.1, HA9.out, HR9.out, HSUB.out.2.1, HSUB.out.2.2, HG9.out⟩
                      · rw [if_pos (by rfl)]
                        go_simp
                        refine (prime_any _).mono ?_
                        rintro _ wp ⟨rfl, hgp⟩
                        have hap : Blk wp ga 31 (num (dgt n)) := (HAZ.out.keep (w' := wz.drew) rfl).grown hgp (by simp)
                        have hrp : Blk wp gr 31 (num fun _ => 0) := (HRZ.out.keep (w' := wz.drew) rfl).grown hgp (by simp)
                        have hgw : w.grownBy wp (some g) := World.grownBy.trans (grown_drew HGZ.out) (hgp.but _)
                        refine hK.out _ _ trivial (fun _ => ?_)
                        clear hK K
                        try simp only [Act.put, List.setIfInBounds_toArray, List.set_cons_zero, List.set_cons_succ]
                        refine wpAnyH_ready (rs := [0]) (by kernel_rfl) (by simp) ?_
                        refine AllReadyH.cons (o := { dst := some 93, op := Op.load 31 (Operand.tmp 3), type := 31, pos := "ref.go:68", after := #[], guard := none }) rfl (fun K hK => ?_) AllReadyH.nil
                        rw [if_pos (by rfl)]
                        refine wp_load_mid 31 _ rfl ga 0 rfl (num (dgt n)) _ (range_blk hap) Tryd.underlying31 rfl (num_size' _) ?_
                        refine hK.out _ _ trivial (fun _ => ?_)
                        clear hK K
                        try simp only [Act.put, List.setIfInBounds_toArray, List.set_cons_zero, List.set_cons_succ]
                        refine wpAnyH_ready (rs := [2]) (by kernel_rfl) (by simp) ?_
                        refine AllReadyH.cons (o := { dst := some 95, op := Op.call { callee := Callee.value (Operand.func 25), args := #[Operand.tmp 93, Operand.tmp 94], argTypes := #[31, 31] }, type := 31, pos := "ref.go:68", after := #[{ on := 0, ground := Ground.data }, { on := 1, ground := Ground.data }, { on := 1, ground := Ground.chain }], guard := none }) rfl (fun K hK => ?_) AllReadyH.nil
                        rw [if_pos (by rfl)]
                        go_simp
                        refine (minus_any _ n fq HN16.out HLE.out).mono ?_
                        rintro _ wm ⟨rfl, hgm⟩
                        refine hK.out _ _ trivial (fun _ => ?_)
                        clear hK K
                        try simp only [Act.put, List.setIfInBounds_toArray, List.set_cons_zero, List.set_cons_succ]
                        refine wpAnyH_ready (rs := [3]) (by kernel_rfl) (by simp) ?_
                        refine AllReadyH.cons (o := { dst := none, op := Op.store 31 (Operand.tmp 3) (Operand.tmp 95), type := 0, pos := "ref.go:68", after := #[{ on := 2, ground := Ground.data }, { on := 2, ground := Ground.chain }, { on := 0, ground := Ground.phase }, { on := 1, ground := Ground.phase }, { on := 2, ground := Ground.phase }], guard := none }) rfl (fun K hK => ?_) AllReadyH.nil
                        rw [if_pos (by rfl)]
                        have ha8 : Blk wm ga 31 (num (dgt n)) := hap.grown hgm (by simp)
                        have hr8 : Blk wm gr 31 (num fun _ => 0) := hrp.grown hgm (by simp)
                        have hg8 : w.grownBy wm (some g) := World.grownBy.trans hgw (hgm.but _)
                        refine wp_store_row 31 _ _ rfl ga (num (dgt (n - fq))).toArray rfl rfl 31 _ ha8 (num_size _) (num_same _ _) (all_oneCell_toArray (num_one _)) ?_
                        refine hK.out _ _ trivial (fun _ => ?_)
                        clear hK K
                        refine wpAnyH_done (by kernel_rfl) ?_ _
                        dsimp only [Act.put]
                        have ha9 : Blk (wm.setRow ga (num (dgt (n - fq))).toArray) ga 31 (num (dgt (n - fq))) := Blk.setRow ha8
                        have hr9 : Blk (wm.setRow ga (num (dgt (n - fq))).toArray) gr 31 (num fun _ => 0) := hr8.grown (grown_setRow _ _ _) (fun e => HNE.out (Option.some.inj e))
                        have hg9 : w.grownBy (wm.setRow ga (num (dgt (n - fq))).toArray) (some g) := World.grownBy.andThen hg8 (grown_setRow _ _ _) (by rintro _ ⟨⟩; exact .inl HWA.out)
                        have HA9 := Lib.hid ha9
                        have HR9 := Lib.hid hr9
                        have HG9 := Lib.hid hg9
                        clear ha9 hr9 hg9 ha8 hr8 hg8
                        go_wp2_with (fail)
                        go_roundg n
                        case measure => exact HNG.out
                        case rel => exact ⟨n - fq, HSUB.out.1, HA9.out, HR9.out, HSUB.out.2.1, HSUB.out.2.2, HG9.out⟩
            · have e1 : ¬ (K : Int) ≤ 16 := by omega
              obtain ⟨i0, hi0, hz0, hz1, hz2⟩ := info_parts Tryd.info3
              go_wp2_with (with_reducible refine wpList_make_full _ rfl _ _ 43 rfl wr.heap.size 3 i0 (.int .i64 0) 1 Tryd.underlying43 hi0 hz0 hz1 .i64 .i64 _ _ 16 rfl rfl rfl rfl ?n1 ?n2 ?n3 ?_)
              case n2 => unfold maxLen; omega
              intro w5 hown hg5
              rw [made_ints] at hown
              obtain ⟨ge, hge⟩ : ∃ g, g = wr.heap.size := ⟨_, rfl⟩
              rw [← hge] at hown ⊢
              have hb5 := Blk.of_owns_e hown
              have hw5 := HGJ.out.size
              have hbl := HB3.out.lt
              have hh := HH.out
              have HB5 : Hid (Blk w5 ge 3 (ints (foD V 0))) := Lib.hid (hb5.to (by rw [foD_zero]))
              have HB6 := Lib.hid (HB3.out.grown hg5 (by simp))
              have HG5 : Hid (w2.grownBy w5 (some g)) := Lib.hid (World.grownBy.trans HGJ.out (hg5.but _))
              have HNE : Hid (b2 ≠ ge ∧ w2.heap.size ≤ ge ∧ ge ≠ ga ∧ ge ≠ gr) := Lib.hid (by omega)
              clear hown hb5 hge hg5 hi0 hz0 hz1 hz2 hw5 hbl hh HB3 HGJ
              go_wp2_with (fail)
              go_loopw [7] (fun x wr => ∃ i : Nat, i ≤ K ∧ x = .int .i64 (i : Int) ∧ Blk wr ge 3 (ints (foD V i)) ∧ w5.grownBy wr (some ge)) (fun x _ => K - (intOf x).toNat)
              case atStart => exact ⟨0, Nat.zero_le _, rfl, HB5.out, World.grownBy.refl _ _⟩
              case round =>
                clear HB5
                obtain ⟨j, hj, rfl, hbe, hge⟩ := hrel
                by_cases hlt : j < K
                · have f1 : (j : Int) < (K : Int) := by omega
                  have c1 := (HB6.out.grown hge (fun e => HNE.out.1 (Option.some.inj e))).get j (.int .i64 ((dgt V j : Nat) : Int)) (by rw [List.getElem?_append_left (by rw [ints_length, dgs_length]; exact hlt), ints_at _ j (by rw [dgs_length]; exact hlt), dgs_getD _ _ _ hlt])
                  have hy1 := dgt_lt V j
                  by_cases hj16 : j < 16
                  · have f2 : (j : Int) < 16 := by omega
                    have c2 := hbe.get j _ (ints_at _ j (by rw [foD_length]; exact hj16))
                    have hf := hbe.frozen j
                    have hx1 := foD_le V j _ (getD_mem (l := foD V j) (i := j) (by rw [foD_length]; exact hj16))
                    obtain ⟨s, hs⟩ : ∃ s, s = (foD V j).getD j 0 + dgt V j := ⟨_, rfl⟩
                    have hb2 := (hbe.set j (.int .i64 (s : Int))).to (by rw [ints_set, hs, foD_low V j hj16])
                    obtain ⟨x, hx⟩ : ∃ x, x = (foD V j).getD j 0 := ⟨_, rfl⟩
                    obtain ⟨y, hy⟩ : ∃ y, y = dgt V j := ⟨_, rfl⟩
                    rw [← hx, ← hy] at hs
                    rw [← hx] at c2 hx1
                    rw [← hy] at c1 hy1
                    have d1 : (x : Int) + (y : Int) = (s : Int) := by omega
                    have d2 := i64_keep s (by omega)
                    have HB7 := Lib.hid hb2
                    have HGE := Lib.hid hge
                    clear hbe hge hb2 hx hy hs
                    go_wp2_with (fail)
                    refine wp_region_still_tail 12 (by kernel_rfl) (by kernel_rfl) ?_
                    change wpStill _ _ wr.drew (fun a' => wpList _ _ _ _ a' wr.drew) _ _
                    simp only [List.take_succ_cons, List.take_zero, List.drop_succ_cons, List.drop_zero]
                    repeat still_step
                    refine wpStill_nil ?_
                    go_wp2
                    exact ⟨⟨j + 1, by omega, by go_num, HB7.out.keep rfl, World.grownBy.trans (grown_drew HGE.out) (grown_set wr.drew ge j _)⟩, by simp [intOf]; omega⟩
                  · have f2 : ¬ (j : Int) < 16 := by omega
                    obtain ⟨t, ht⟩ : ∃ t, t = j - 16 := ⟨_, rfl⟩
                    have ht16 : t < 16 := by omega
                    have f3 : (j : Int) - 16 = (t : Int) := by omega
                    have f4 := i64_keep t (by omega)
                    have f5 : (t : Int) < 16 := by omega
                    have c2 := hbe.get t _ (ints_at _ t (by rw [foD_length]; exact ht16))
                    have hf := hbe.frozen t
                    have hx1 := foD_le V j _ (getD_mem (l := foD V j) (i := t) (by rw [foD_length]; exact ht16))
                    obtain ⟨s, hs⟩ : ∃ s, s = (foD V j).getD t 0 + 38 * dgt V j := ⟨_, rfl⟩
                    have hb2 := (hbe.set t (.int .i64 (s : Int))).to (by rw [ints_set, hs, ht, foD_high V j (by omega) (by omega)])
                    obtain ⟨x, hx⟩ : ∃ x, x = (foD V j).getD t 0 := ⟨_, rfl⟩
                    obtain ⟨y, hy⟩ : ∃ y, y = dgt V j := ⟨_, rfl⟩
                    rw [← hx, ← hy] at hs
                    rw [← hx] at c2 hx1
                    rw [← hy] at c1 hy1
                    obtain ⟨z, hz⟩ : ∃ z, z = 38 * y := ⟨_, rfl⟩
                    rw [← hz] at hs
                    have d0 : (38 : Int) * (y : Int) = (z : Int) := by omega
                    have d3 := i64_keep z (by omega)
                    have d1 : (x : Int) + (z : Int) = (s : Int) := by omega
                    have d2 := i64_keep s (by omega)
                    have HB7 := Lib.hid hb2
                    have HGE := Lib.hid hge
                    clear hbe hge hb2 hx hy hs ht hz
                    go_wp2_with (fail)
                    refine wp_region_still_tail 15 (by kernel_rfl) (by kernel_rfl) ?_
                    change wpStill _ _ wr.drew (fun a' => wpList _ _ _ _ a' wr.drew) _ _
                    simp only [List.take_succ_cons, List.take_zero, List.drop_succ_cons, List.drop_zero]
                    repeat still_step
                    refine wpStill_nil ?_
                    go_wp2
                    exact ⟨⟨j + 1, by omega, by go_num, HB7.out.keep rfl, World.grownBy.trans (grown_drew HGE.out) (grown_set wr.drew ge t _)⟩, by simp [intOf]; omega⟩
                · have ej : j = K := by omega
                  subst ej
                  have hvf := foD_vl HDV.out (by omega) hK32
                  have hlen := foD_length V j
                  have hval : vl (foD V j) < 65536 ^ 32 := by rw [hvf]; exact Nat.lt_of_le_of_lt (fo_le V) HVL.out
                  have hF : Fd V0 w2.heap.size gr ga g ge 16 [] (foD V j) wr := ⟨hbe.to (by rw [List.append_nil]), by rw [hlen]; omega, by unfold maxLen; omega, by rw [List.append_nil, ints_length, hlen], by rw [hlen]; omega, by rw [hlen]; omega, fun x hx => Nat.le_trans (foD_le V j x hx) (by omega), hval, by rw [hvf, fo_mod]; exact HVM.out, .inr HNE.out.2.1, HNE.out.2.2.1, HNE.out.2.2.2⟩
                  have hms : fo V + 16 < gk := by
                    have h5 := HVG.out
                    rcases HBIG.out (by omega) with h6 | h6
                    · have := fo_le V; omega
                    · have := fo_lt h6; omega
                  have HF := Lib.hid hF
                  have HGF : Hid (w2.grownBy wr (some g)) := Lib.hid (grown_or HG5.out hge (.inr HNE.out.2.1))
                  have HMS := Lib.hid hms
                  have HVF : Hid (vl (foD V j) + (foD V j).length ≤ fo V + 16) := Lib.hid (by rw [hvf, hlen]; exact Nat.le_refl _)
                  have HLEN := Lib.hid hlen
                  clear hvf hlen hval hF hms hbe hge hlt hj
                  go_wp2_with (fail)
                  go_roundg (fo V + 16)
                  case measure => exact HMS.out
                  case rel => exact ⟨ge, 16, [], foD V j, by rw [HLEN.out], HF.out, HGF.out, HVF.out⟩
end Go.Proofs.YtoookolekpblhaaDoor
