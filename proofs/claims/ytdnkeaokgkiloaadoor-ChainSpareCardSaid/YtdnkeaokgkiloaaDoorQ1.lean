/- chain.place, chain.laid, chain.reach. Conditions: the lists have no more than 1,000 keys. -/
import Derived.Test.YtdnkeaokgkiloaaDoorP3
namespace Go.Proofs.YtdnkeaokgkiloaaDoor
open Go.RowKit T
/-- Is it the key of that ratchet key and number? -/
def hit (r : List UInt8) (n : Nat) (x : Kep) : Bool := x.1 == r && x.2.1 == n
/-- Where the first such key stands; -1, if there is none. -/
def plc (L : List Kep) (r : List UInt8) (n : Nat) : Int := match L.findIdx? (hit r n) with | some i => (i : Int) | none => -1
theorem plc_here {L : List Kep} {r : List UInt8} {n i : Nat} (hi : i < L.length) (hno : ∀ j (hj : j < L.length), j < i → hit r n L[j] = false) (hy : hit r n L[i] = true) : plc L r n = (i : Int) := by
  have h : L.findIdx? (hit r n) = some i := List.findIdx?_eq_some_iff_getElem.2 ⟨hi, hy, fun j hj => by rw [hno j (by omega) hj]; simp⟩
  unfold plc
  rw [h]
theorem plc_none {L : List Kep} {r : List UInt8} {n : Nat} (hno : ∀ j (hj : j < L.length), hit r n L[j] = false) : plc L r n = -1 := by
  have h : L.findIdx? (hit r n) = none := List.findIdx?_eq_none_iff.2 fun x hx => by
    obtain ⟨j, hj, rfl⟩ := List.getElem_of_mem hx
    exact hno j hj
  unfold plc
  rw [h]
theorem plc_lt (L : List Kep) (r : List UInt8) (n : Nat) : -1 ≤ plc L r n ∧ plc L r n < (L.length : Int) := by
  unfold plc
  cases h : L.findIdx? (hit r n) with
  | none => exact ⟨by show (-1 : Int) ≤ -1; omega, by show (-1 : Int) < _; omega⟩
  | some i =>
    obtain ⟨hi, _⟩ := List.findIdx?_eq_some_iff_getElem.1 h
    exact ⟨by show (-1 : Int) ≤ (i : Int); omega, by show (i : Int) < _; omega⟩
set_option maxRecDepth 100000 in
theorem hit_any {w : World} {x : Kep} (hx : KOk x) {g1 g2 : Nat} {r : List UInt8} {n : Nat} (hr : r.length = 32) (h1 : C.Blk w g1 24 (u8s r)) (h2 : w.cell? ⟨g2, 0, none⟩ = some (.int .u16 (n : Int))) :
    Calls Tryd.prog 38 #[.agg (kv x).toArray, .pointer (some ⟨g1, 0, none⟩), .pointer (some ⟨g2, 0, none⟩)] w fun e w' => e = .returned (.bool (hit r n x)) ∧ w.grownBy w' none := by
  obtain ⟨q, m, k⟩ := x
  obtain ⟨hq, hm, hk⟩ := hx
  dsimp only at hq hm hk
  obtain ⟨b, hb⟩ : ∃ b, (q == r) = b := ⟨_, rfl⟩
  have hh : hit r n (q, m, k) = (b && m == n) := by unfold hit; rw [hb]
  rw [hh]
  obtain ⟨z, hz⟩ : ∃ z, z = kv (q, m, k) := ⟨_, rfl⟩
  have HZ := Lib.hid hz
  have HB := Lib.hid hb
  have H1 := Lib.hid h1
  have HR := Lib.hid hr
  have HQ := Lib.hid hq
  rw [← hz]
  clear hz hb h1 hr hq hh
  go_enter Tryd.func38, Tryd.ntmps38
  go_wp2_with (refine wpList_boxG rfl _ rfl (vs := z) rfl ?_)
  intro g w1 hg hbk hgr
  have HBK : Hid (C.Blk w1 g 49 (u8s q ++ Value.int .u16 (m : Int) :: u8s k)) := by have h := hbk.out; rw [HZ.out] at h; exact h
  have G1 := Lib.hid hgr.out
  have HB1 := Lib.hid (H1.out.grown hgr.out (by simp))
  have hc2 : w1.cell? ⟨g2, 0, none⟩ = some (.int .u16 (n : Int)) := (World.cell?_of_block (hgr.out.block g2 (World.block_lt_of_cell? w _ h2) (by simp))).trans h2
  have hc1 : w1.cell? ⟨g, 32, none⟩ = some (.int .u16 (m : Int)) := HBK.out.get 32 _ (by rw [List.getElem?_append_right (by rw [u8s_length, HQ.out]; exact Nat.le_refl _), u8s_length, HQ.out]; rfl)
  have hrg : w1.rangeAt g 0 (u8s q) := fun j v hv => by
    have hj := (List.getElem?_eq_some_iff.1 hv).1
    exact range_of HBK.out j v (by rw [List.getElem?_append_left hj]; exact hv)
  have HRG := Lib.hid hrg
  clear hbk hgr hg hrg h2 HBK H1
  cases b with
  | false =>
    go_wp2_with (first | (refine wpList_loadR agY rfl (.tmp 5) rfl g 0 rfl HRG.out (by rw [u8s_length, HQ.out]) ?_) | (refine wpList_loadG agY rfl (.tmp 1) rfl g1 rfl HB1.out (by rw [u8s_length, HR.out]) ?_) | (refine wpList_eqlY (by rfl) (.tmp 6) (.tmp 7) rfl q r rfl rfl HQ.out HR.out false HB.out ?_))
    go_ret
    exact ⟨rfl, G1.out⟩
  | true =>
    by_cases hmn : m = n
    · have d1 : ((m : Int) == (n : Int)) = true := by simp; omega
      have d2 : decide ((m : Int) = (n : Int)) = true := by simp; omega
      have e1 : (m == n) = true := by simp [hmn]
      have E1 := Lib.hid e1
      clear hmn e1
      go_wp2_with (first | (refine wpList_loadR agY rfl (.tmp 5) rfl g 0 rfl HRG.out (by rw [u8s_length, HQ.out]) ?_) | (refine wpList_loadG agY rfl (.tmp 1) rfl g1 rfl HB1.out (by rw [u8s_length, HR.out]) ?_) | (refine wpList_eqlY (by rfl) (.tmp 6) (.tmp 7) rfl q r rfl rfl HQ.out HR.out true HB.out ?_))
      go_ret
      exact ⟨by rw [E1.out]; rfl, G1.out⟩
    · have d1 : ((m : Int) == (n : Int)) = false := by simp; omega
      have d2 : decide ((m : Int) = (n : Int)) = false := by simp; omega
      have e1 : (m == n) = false := by simp [hmn]
      have E1 := Lib.hid e1
      clear hmn e1
      go_wp2_with (first | (refine wpList_loadR agY rfl (.tmp 5) rfl g 0 rfl HRG.out (by rw [u8s_length, HQ.out]) ?_) | (refine wpList_loadG agY rfl (.tmp 1) rfl g1 rfl HB1.out (by rw [u8s_length, HR.out]) ?_) | (refine wpList_eqlY (by rfl) (.tmp 6) (.tmp 7) rfl q r rfl rfl HQ.out HR.out true HB.out ?_))
      go_ret
      exact ⟨by rw [E1.out]; rfl, G1.out⟩
end Go.Proofs.YtdnkeaokgkiloaaDoor
