/- The hash of a form and of texts behind it. Conditions: none. -/
import Derived.Test.YtgphopahlgfogaaDoorForms
namespace Go.Proofs.YtgphopahlgfogaaDoor
open Go.RowKit
/-- The bytes of the k first texts. -/
def flat (ps : List (List UInt8)) (k : Nat) : List UInt8 := (ps.take k).flatten
theorem flat_zero (ps : List (List UInt8)) : flat ps 0 = [] := rfl
theorem flat_all (ps : List (List UInt8)) (k : Nat) (h : ps.length = k) : flat ps k = ps.flatten := by subst h; simp [flat]
theorem flat_succ (ps : List (List UInt8)) (k : Nat) (h : k < ps.length) : flat ps (k + 1) = flat ps k ++ ps[k] := by
  unfold flat
  rw [List.take_succ_eq_append_getElem h, List.flatten_append]
  simp
theorem flat_le (ps : List (List UInt8)) (k : Nat) (h : k < ps.length) : (flat ps k).length + ps[k].length ≤ ps.flatten.length := by
  have e : ps.flatten = flat ps (k + 1) ++ (ps.drop (k + 1)).flatten := by
    unfold flat
    rw [← List.flatten_append, List.take_append_drop]
  rw [e, flat_succ ps k h, List.length_append, List.length_append]
  omega
/-- While the texts are put. -/
def TextAt (B : World) (p : Nat) (form : List UInt8) (ps : List (List UInt8)) (i : Value) (wr : World) : Prop :=
  ∃ k : Nat, k ≤ ps.length ∧ i = .int .i64 (k : Int) ∧ HashAt wr p (form ++ flat ps k) ∧ B.grownBy wr (some p)
set_option maxRecDepth 100000 in
set_option maxHeartbeats 1600000 in
theorem mhash_any {w : World} {c1 c2 n m : Nat} {ok : Nat → Prop} {A1 A2 : Option Addr} {form : List UInt8} {ps : List (List UInt8)} (hf : Byt w ok A1 form) (hp : Lst w ok A2 ps) (hok : ∀ b, ok b → b < w.heap.size) (hn : form.length = n) (hc : n ≤ c1) (hcm : c1 ≤ maxLen) (hm : ps.length = m) (hm2 : m ≤ 1000000)
    (hs : n + ps.flatten.length < 2305843009213693952) (hT : Tab w) :
    Calls Tryd.prog 21 #[.slice A1 n c1, .slice A2 m c2] w fun e w' => e = .returned (.agg (u8s (sha256 (form ++ ps.flatten))).toArray) ∧ w.grownBy w' none := by
  have h1w := hT.lt
  have HF := Lib.hid hf
  have HP := Lib.hid hp
  have HN := Lib.hid hn
  have HM := Lib.hid hm
  have HT := Lib.hid hT
  clear hf hp hn hm hT
  go_enter Tryd.func21, Tryd.ntmps21
  go_wp2_with (refine wpList_alloc24 rfl rfl ?_)
  intro w1 hb1 hg1 hz1
  have hT1 := HT.out.grown hg1 (by simp) (by simp)
  have HB1 := Lib.hid hb1
  have HG1 := Lib.hid hg1
  have HT1 := Lib.hid hT1
  clear hb1 hg1 hT1
  go_wp2_with (go_at_call 18; refine (new_any HT1.out.1).mono ?_; rintro _ w2 ⟨rfl, hh2, hg2⟩)
  rw [hz1] at hh2
  obtain ⟨p, hpe⟩ : ∃ p, p = w.heap.size + 1 := ⟨_, rfl⟩
  rw [← hpe] at hh2 ⊢
  have hg12 := World.grownBy.trans HG1.out hg2
  have hf2 := HF.out.grown hg12 (fun b hb => ⟨hok b hb, by simp⟩)
  have ho2 : ∀ b, ok b → b < w2.heap.size ∧ b ≠ p := fun b hb => by have h1 := hok b hb; have h2 := hg12.size; omega
  have hT2 := HT1.out.grown hg2 (by simp) (by simp)
  have hb2 := HB1.out.grown hg2 (by simp)
  have hp1 : 1 < p := by omega
  have hpw : w.heap.size ≤ p := by omega
  have hpn : w.heap.size ≠ p := by omega
  have hs0 : ([] : List UInt8).length + n < 2305843009213693952 := by simp; omega
  have HH2 := Lib.hid hh2
  have HG2 := Lib.hid hg12
  have HF2 := Lib.hid hf2
  have HO2 := Lib.hid ho2
  have HT2 := Lib.hid hT2
  have HB2 := Lib.hid hb2
  have HS0 := Lib.hid hs0
  clear hh2 hg12 hf2 ho2 hT2 hb2 hg2 hz1 hpe HB1 HG1 HT1 hs0
  go_wp2_with (go_at_call 19; refine (put_any hp1 HH2.out HF2.out HO2.out HN.out hc hcm HS0.out HT2.out.2).mono ?_; rintro _ w3 ⟨rfl, hh3, hg3⟩)
  rw [List.nil_append] at hh3
  have hT3 := HT2.out.grown hg3 (fun e => by have := Option.some.inj e; omega) (fun e => by have := Option.some.inj e; omega)
  have hb3 := HB2.out.grown hg3 (fun e => hpn (Option.some.inj e))
  have hg13 : w.grownBy w3 none := World.grownBy.andThen HG2.out hg3 (by rintro _ ⟨⟩; exact .inl hpw)
  have hh3' : HashAt w3 p (form ++ flat ps 0) := by rw [flat_zero, List.append_nil]; exact hh3
  have HH3 := Lib.hid hh3'
  have HT3 := Lib.hid hT3
  have HB3 := Lib.hid hb3
  have HG3 := Lib.hid hg13
  clear hh3 hh3' hT3 hb3 hg13 hg3 HH2 HG2 HF2 HO2 HT2 HB2 HS0
  go_loopw [14] (fun i wr => TextAt w3 p form ps i wr) (fun i _ => ps.length - (intOf i).toNat)
  case atStart => exact ⟨0, Nat.zero_le _, rfl, HH3.out, World.grownBy.refl _ _⟩
  case round =>
    obtain ⟨k, hk, rfl, hh, hgr⟩ := hrel
    have hml := HM.out
    by_cases hlt : k < ps.length
    · obtain ⟨ad, A', c', rfl, hoka, hcl, hl1, hl2, hbx⟩ := HP.out k hlt
      have hgw : ∀ b, ok b → wr.heap[b]? = w.heap[b]? := fun b hb => by
        rw [hgr.block b (Nat.lt_of_lt_of_le (hok b hb) HG3.out.size) (fun e => by have := Option.some.inj e; have := hok b hb; omega), HG3.out.block b (hok b hb) (by simp)]
      have hcl2 : wr.cell? (ad.add k) = some (.slice A' ps[k].length c') := (World.cell?_of_block (by rw [block_of_plus]; exact hgw _ hoka)).trans hcl
      have hbx2 : Byt wr ok A' ps[k] := hbx.keep hgw
      have hfl := flat_le ps k hlt
      have hstep := flat_succ ps k hlt
      obtain ⟨x, hx⟩ : ∃ x, x = ps[k] := ⟨_, rfl⟩
      rw [← hx] at hcl2 hbx2 hl1 hfl hstep
      obtain ⟨q, hq⟩ : ∃ q, x.length = q := ⟨_, rfl⟩
      rw [hq] at hcl2 hl1 hfl
      have hs1 : (form ++ flat ps k).length + q < 2305843009213693952 := by rw [List.length_append, HN.out]; omega
      have ho1 : ∀ b, ok b → b < wr.heap.size ∧ b ≠ p := fun b hb => by have h1 := hok b hb; have h2 := HG3.out.size; have h3 := hgr.size; omega
      have hT4 := HT3.out.grown hgr (fun e => by have := Option.some.inj e; omega) (fun e => by have := Option.some.inj e; omega)
      have HH := Lib.hid hh
      have HQ := Lib.hid hq
      have HX := Lib.hid hbx2
      have HS1 := Lib.hid hs1
      have HO1 := Lib.hid ho1
      have HT4 := Lib.hid hT4
      have HST := Lib.hid hstep
      have HGR := Lib.hid hgr
      have kk : k < m := by omega
      clear hh hq hx hbx hbx2 hs1 ho1 hT4 hstep hgr hfl hgw hcl hml
      go_wp2_with (go_at_call 19; refine (put_any hp1 HH.out HX.out HO1.out HQ.out hl1 hl2 HS1.out HT4.out.2).mono ?_; rintro _ w4 ⟨rfl, hh4, hg4⟩)
      go_roundw
      case rel => exact ⟨k + 1, by omega, by go_num, by rw [HST.out, ← List.append_assoc]; exact hh4, World.grownBy.trans HGR.out hg4⟩
      case measure => simp [intOf]; omega
    · have ek : k = m := by omega
      have hh2 : HashAt wr p (form ++ ps.flatten) := by rw [flat_all ps k (by rw [hml, ek])] at hh; exact hh
      have hlen : (form ++ ps.flatten).length < 2305843009213693952 := by rw [List.length_append, HN.out]; exact hs
      have hT4 := HT3.out.grown hgr (fun e => by have := Option.some.inj e; omega) (fun e => by have := Option.some.inj e; omega)
      have hb4 := HB3.out.grown hgr (fun e => hpn (Option.some.inj e))
      have hg4 : w.grownBy wr none := World.grownBy.andThen HG3.out hgr (by rintro _ ⟨⟩; exact .inl hpw)
      obtain ⟨tx, htx⟩ : ∃ tx, tx = form ++ ps.flatten := ⟨_, rfl⟩
      rw [← htx] at hh2 hlen
      have HTX := Lib.hid htx
      have HH := Lib.hid hh2
      have HLE := Lib.hid hlen
      have HT4 := Lib.hid hT4
      have HB4 := Lib.hid hb4
      have HG4 := Lib.hid hg4
      clear hh hh2 hlen hT4 hb4 hg4 hgr htx
      go_wp2_with (first
        | (go_at_call 20; (refine (sum_any HH.out HLE.out HT4.out.2).mono ?_; rintro _ w5 ⟨rfl, hg5⟩))
        | (refine wpList_store_row rfl 24 _ _ rfl w.heap.size (u8s (sha256 tx)).toArray rfl rfl 24 _ (HB4.out.grown hg5 (by simp)) (by rw [size24, List.size_toArray, u8s_length, sha256_length]) (by simp [u8s_length, sha256_length, zs_length]) (all_oneCell_toArray (u8s_one _)) ?_))
      have hb5 := HB4.out.grown hg5 (by simp)
      refine bodyPost_ret (results_cell_row rfl _ _ w.heap.size 24 (u8s (sha256 tx)).toArray (0, 0) _ rfl (setRow_heap w5 w.heap.size _ _ 24 (0, 0) hb5) Tryd.underlying24 rfl (by rw [size24, List.size_toArray, u8s_length, sha256_length])) rfl ⟨by rw [HTX.out], ?_⟩
      exact World.grownBy.andThen (World.grownBy.trans HG4.out hg5) (grown_setRow _ _ _) (by rintro _ ⟨⟩; exact .inl (Nat.le_refl _))
end Go.Proofs.YtgphopahlgfogaaDoor
