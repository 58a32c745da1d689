/- chain.Keep. Conditions: the list has no more than 1,000 keys. -/
import Derived.Test.YtdnkeaokgkiloaaDoorQ3
namespace Go.Proofs.YtdnkeaokgkiloaaDoor
open Go.RowKit T
/-- What Keep answers. -/
def keepE (L : List Kep) (x : Kep) : Int := if 0 ≤ plc L x.1 x.2.1 then 3 else if 16 ≤ L.length then 4 else 0
def keepL (L : List Kep) (x : Kep) : List Kep := if keepE L x = 0 then L ++ [x] else []
/-- A list and an error's number are answered; the list is in new memory. -/
def ListE (w : World) (L : List Kep) (E : Int) (e : Ending) (w' : World) : Prop := ∃ A c, e = .returned (.tuple #[.slice A L.length c, .int .i64 E]) ∧ L.length ≤ c ∧ c ≤ maxLen ∧ Kps w' (fun b => w.heap.size ≤ b ∧ b < w'.heap.size) A L ∧ w.grownBy w' none
set_option maxRecDepth 100000 in
set_option maxHeartbeats 1600000 in
theorem keep_any {w : World} {ok : Nat → Prop} {A : Option Addr} {L : List Kep} {n c : Nat} {x : Kep} (hL : Kps w ok A L) (hK : KAll L) (hn : L.length = n) (hle : n ≤ 900) (hx : KOk x) :
    Calls Tryd.prog 16 #[.slice A n c, .agg (kv x).toArray] w (ListE w (keepL L x) (keepE L x)) := by
  have HL := Lib.hid hL
  have HK := Lib.hid hK
  have HN := Lib.hid hn
  have HX := Lib.hid hx
  have HLE := Lib.hid hle
  obtain ⟨q, m, k⟩ := x
  obtain ⟨hq, _, hk⟩ := hx
  dsimp only at hq hk
  have HQ := Lib.hid hq
  obtain ⟨z, hz⟩ : ∃ z, z = kv (q, m, k) := ⟨_, rfl⟩
  have HZ := Lib.hid hz
  obtain ⟨p, hp⟩ : ∃ p, p = plc L q m := ⟨_, rfl⟩
  have HP := Lib.hid hp
  rw [← hz]
  clear hL hK hn hz hq hk hp hle
  go_enter Tryd.func16, Tryd.ntmps16
  go_wp2_with (first | (refine wpList_boxG rfl _ rfl (vs := z) rfl ?_) | fail)
  intro g w1 hg hbk hgr
  have HBK : Hid (C.Blk w1 g 49 (u8s q ++ Value.int .u16 (m : Int) :: u8s k)) := by have h := hbk.out; rw [HZ.out] at h; exact h
  have hc1 : w1.cell? ⟨g, 32, none⟩ = some (.int .u16 (m : Int)) := HBK.out.get 32 _ (by rw [List.getElem?_append_right (by rw [u8s_length, HQ.out]; exact Nat.le_refl _), u8s_length, HQ.out]; rfl)
  have hrg : w1.rangeAt g 0 (u8s q) := fun j v hv => by
    have hj := (List.getElem?_eq_some_iff.1 hv).1
    exact range_of HBK.out j v (by rw [List.getElem?_append_left hj]; exact hv)
  have HRG := Lib.hid hrg
  have G1 := Lib.hid hgr.out
  have HB := Lib.hid hbk.out
  have hpl := place_any (n := m) (c := c) (HL.out.grown G1.out) HK.out HN.out (by have := HLE.out; omega) HQ.out
  rw [← HP.out] at hpl
  have HPL := Lib.hid hpl
  clear hbk hgr hg hrg hpl HBK
  by_cases hp0 : 0 ≤ p
  · have d1 : (0 : Int) ≤ p := hp0
    have he : keepE L (q, m, k) = 3 := by unfold keepE; dsimp only; rw [← HP.out, if_pos hp0]
    have hl : keepL L (q, m, k) = [] := by unfold keepL; rw [he]; rfl
    have HE := Lib.hid he
    have HLL := Lib.hid hl
    clear he hl
    go_wp2_with (first | (refine wpList_loadR agY rfl (.tmp 8) rfl g 0 rfl HRG.out (by rw [u8s_length, HQ.out]) ?_) | (go_at_call 28; refine HPL.out.mono ?_; rintro _ w2 ⟨rfl, hg2⟩; have HG2 := Lib.hid hg2; clear hg2) | fail)
    go_ret2
    rw [HE.out, HLL.out]
    exact ⟨none, 0, rfl, Nat.le_refl _, by unfold maxLen; omega, Kps.nil, G1.out.trans HG2.out⟩
  · have d1 : ¬ (0 : Int) ≤ p := hp0
    by_cases h16 : 16 ≤ n
    · have d2 : (16 : Int) ≤ (n : Int) := by omega
      have he : keepE L (q, m, k) = 4 := by unfold keepE; dsimp only; rw [← HP.out, if_neg hp0, if_pos (by rw [HN.out]; exact h16)]
      have hl : keepL L (q, m, k) = [] := by unfold keepL; rw [he]; rfl
      have HE := Lib.hid he
      have HLL := Lib.hid hl
      clear he hl
      go_wp2_with (first | (refine wpList_loadR agY rfl (.tmp 8) rfl g 0 rfl HRG.out (by rw [u8s_length, HQ.out]) ?_) | (go_at_call 28; refine HPL.out.mono ?_; rintro _ w2 ⟨rfl, hg2⟩; have HG2 := Lib.hid hg2; clear hg2) | fail)
      go_ret2
      rw [HE.out, HLL.out]
      exact ⟨none, 0, rfl, Nat.le_refl _, by unfold maxLen; omega, Kps.nil, G1.out.trans HG2.out⟩
    · have d2 : ¬ (16 : Int) ≤ (n : Int) := by omega
      have he : keepE L (q, m, k) = 0 := by unfold keepE; dsimp only; rw [← HP.out, if_neg hp0, if_neg (by rw [HN.out]; exact h16)]
      have hl : keepL L (q, m, k) = L ++ [(q, m, k)] := by unfold keepL; rw [he]; rfl
      have HE := Lib.hid he
      have HLL := Lib.hid hl
      have H16 := Lib.hid h16
      clear he hl h16
      go_wp2_with (first | (refine wpList_loadR agY rfl (.tmp 8) rfl g 0 rfl HRG.out (by rw [u8s_length, HQ.out]) ?_) | (go_at_call 28; refine HPL.out.mono ?_; rintro _ w2 ⟨rfl, hg2⟩; have HG2 := Lib.hid hg2; clear hg2; have HB2 := Lib.hid (HB.out.grown HG2.out (by simp))) | (refine wpList_loadG agK rfl (.tmp 3) rfl g (vs := z) rfl HB2.out (by rw [HZ.out]; exact kv_length HX.out) ?_) | (refine wpList_sliceK rfl (.tmp 19) rfl HX.out (by rw [← HZ.out]; rfl) ?_) | fail)
      intro gs w3 hgs hks hg3
      have G3 := Lib.hid ((G1.out.trans HG2.out).trans hg3.out)
      have hld := laid_any (c := c) (c2 := 1) (HL.out.grown G3.out) HK.out HN.out (m := 1) hks.out (KAll.one HX.out) rfl (by have := H16.out; omega)
      rw [← HLL.out] at hld
      have HLD := Lib.hid hld
      clear hld hks hg3 hgs
      go_wp2_with (go_at_call 29; refine HLD.out.mono ?_; rintro _ w4 ⟨A4, c4, rfl, hl1, hl2, hl3, hl4⟩; have HR1 := Lib.hid hl1; have HR2 := Lib.hid hl2; have HR3 := Lib.hid hl3; have HR4 := Lib.hid hl4; clear hl1 hl2 hl3 hl4)
      go_ret2
      rw [HE.out]
      exact ⟨A4, c4, rfl, HR1.out, HR2.out, HR3.out.imp fun b hb => ⟨Nat.le_trans G3.out.size hb.1, hb.2⟩, G3.out.trans HR4.out⟩
end Go.Proofs.YtdnkeaokgkiloaaDoor
