/- ChainKeeps' walk: what is kept and taken is the document's. Conditions: the tables of the hash lie where the program lays them. -/
import Derived.Test.YtdnkeaokgkiloaaDoorT2
namespace Go.Proofs.YtdnkeaokgkiloaaDoor
open Go.RowKit T
theorem plc_at {L : List Kep} {r : List UInt8} {q : Nat} (hp : 0 ≤ plc L r q) : ∃ i, i < L.length ∧ plc L r q = (i : Int) :=
  ⟨(plc L r q).toNat, by have := plc_lt L r q; omega, by omega⟩
theorem takeL_at {L : List Kep} {r : List UInt8} {q i : Nat} (hp : 0 ≤ plc L r q) (hpi : plc L r q = (i : Int)) : takeL L r q = L.eraseIdx i := by
  unfold takeL
  rw [if_pos hp, hpi, Int.toNat_natCast, List.eraseIdx_eq_take_drop_succ]
theorem takeK_at {L : List Kep} {r : List UInt8} {q i : Nat} (hp : 0 ≤ plc L r q) (hpi : plc L r q = (i : Int)) (hi : i < L.length) : takeK L r q = L[i].2.2 := by
  unfold takeK
  rw [if_pos hp, hpi, Int.toNat_natCast, List.getD_eq_getElem?_getD, List.getElem?_eq_getElem hi]
  rfl
theorem range_key {w : World} {b o : Nat} {x : Kep} (hx : KOk x) (h : w.rangeAt b o (kv x)) : w.rangeAt b (o + 33) (u8s x.2.2) := fun j v hv => by
  have h1 := h (33 + j) v (by unfold kv; rw [List.getElem?_append_right (by rw [u8s_length, hx.1]; omega), u8s_length, hx.1, show 33 + j - 32 = j + 1 by omega]; exact hv)
  rw [show o + 33 + j = o + (33 + j) by omega]
  exact h1
theorem grown_app {w v v' : World} {B : Nat} (hg : w.grownBy v none) (hb : w.heap.size ≤ B) (l : Below B v v') : w.grownBy v' none := below_grown ((grown_below hg).trans (l.mono hb))
theorem blk_num {w : World} {g n : Nat} {r k : List UInt8} (hb : C.Blk w g 49 (kv (r, n, k))) (hr : r.length = 32) : w.cell? ⟨g, 32, none⟩ = some (.int .u16 (n : Int)) :=
  hb.get 32 _ (by show (u8s r ++ Value.int .u16 (n : Int) :: u8s k)[32]? = _; rw [List.getElem?_append_right (by rw [u8s_length]; omega), u8s_length, hr]; rfl)
theorem range_rat {w : World} {g n : Nat} {r k : List UInt8} (hb : C.Blk w g 49 (kv (r, n, k))) : w.rangeAt g 0 (u8s r) := fun j v hv => by
  have hj := (List.getElem?_eq_some_iff.1 hv).1
  exact range_of hb j v (by unfold kv; rw [List.getElem?_append_left hj]; exact hv)
section
variable {w : World} {ops : Array Oper} {rest : List Oper} {o : Oper} {a : Act} {K : Act → World → Prop} {Q : Exit → Act → World → Prop} {t : TypeId} {z : List Value}
theorem wpList_zeroGw (hZ : Ze t z) (hw : Region.wanted o (yielded ops a.tmps) = true) (ho : o.op = .build t #[])
    (h : wpList Tryd.prog ops Q rest (a.put o.dst (.agg z.toArray)) w) : wpList Tryd.prog ops Q (o :: rest) a w :=
  wpList_step fun K hK => by
    have hrun := hZ.build w
    rw [if_pos hw]
    unfold Oper.wp
    simp [execOp, ho, hrun, Result.andThen]
    exact hK _ _ h
theorem run_slice0K (w : World) : (Instr.buildSlice 47 0 #[]).run Tryd.prog w = .ok (.slice (some ⟨w.heap.size, 0, none⟩) 0 0) (w.alloc (.cells #[] 49)) := by kernel_rfl
theorem wp_slice0K (ho : o.op = .buildSlice 47 0 #[]) (h : ∀ g w', Hid (w.grownBy w' none) → K (a.put o.dst (.slice (some ⟨g, 0, none⟩) 0 0)) w') : o.wp Tryd.prog a w K Q := by
  have hrun := run_slice0K w
  unfold Oper.wp
  simp only [execOp, ho, List.map_toArray, List.map_nil, Sem.run_bind, hrun, Result.andThen_ok, Sem.run_pure]
  exact h _ _ (World.grownBy_alloc w _ none)
theorem wp_sliceK (x : Operand) (ho : o.op = .buildSlice 47 1 #[(0, x)]) {y : Kep} (hy : KOk y) (hx : a.eval x = .agg (kv y).toArray)
    (h : ∀ g w', Hid (g = w.heap.size) → Hid (Kps w' (fun b => b = g) (some ⟨g, 0, none⟩) [y]) → Hid (w.grownBy w' none) → K (a.put o.dst (.slice (some ⟨g, 0, none⟩) 1 1)) w') : o.wp Tryd.prog a w K Q := by
  have hrun := run_buildSliceK w hy
  have hb : C.Blk (w.alloc (.cells (kv y).toArray 49)) w.heap.size 49 (kv y) := C.Blk.of_alloc w (kv y).toArray 49
  have hk : Hid (Kps (w.alloc (.cells (kv y).toArray 49)) (fun b => b = w.heap.size) (some ⟨w.heap.size, 0, none⟩) [y]) := fun i hi => by
    obtain rfl : i = 0 := by simpa using hi
    exact ⟨_, 0, rfl, rfl, by simpa using range_of hb⟩
  generalize kv y = z at *
  unfold Oper.wp
  simp only [execOp, ho, List.map_toArray, List.map_cons, List.map_nil, hx, Sem.run_bind, hrun, Result.andThen_ok, Sem.run_pure]
  exact h _ _ rfl hk (World.grownBy_alloc w _ none)
end
set_option maxRecDepth 100000 in
set_option maxHeartbeats 16000000 in
theorem keeps_walk {w : World} (hT : S.Tab w) {okL0 : Nat → Prop} {r : List UInt8} {q m c : Nat} {A : Option Addr} {L : List Kep} {x : Kep} (hr : r.length = 32) (hx : KOk x) (hL : Kps w okL0 A L) (hK : KAll L) (hm : L.length = m) (hc : m ≤ c) :
    Calls Tryd.prog 5 #[.slice A m c, .agg (kv x).toArray, .agg (u8s r).toArray, .int .u16 (q : Int)] w fun e w' => e = .returned (.bool true) ∧ w.grownBy w' none := by
  obtain ⟨xr, xn, xk⟩ := x
  obtain ⟨z, hz⟩ : ∃ z, z = kv (xr, xn, xk) := ⟨_, rfl⟩
  obtain ⟨y, hy⟩ : ∃ y, y = u8s r := ⟨_, rfl⟩
  have HT := Lib.hid hT
  have HX := Lib.hid hx
  have HXR : Hid (xr.length = 32) := hx.1
  have HR := Lib.hid hr
  have HL := Lib.hid hL
  have HK := Lib.hid hK
  have HM := Lib.hid hm
  have HC := Lib.hid hc
  have HZ := Lib.hid hz
  have HY := Lib.hid hy
  rw [← hz, ← hy]
  clear hT hx hr hL hK hm hc hz hy
  go_enter Tryd.func5, Tryd.ntmps5
  go_wp2_with (first | (refine wpList_boxG rfl _ rfl (vs := z) rfl ?_) | fail)
  intro g5 w1 e5 k5 q5
  go_wp2_with (first | (refine wpList_boxG rfl _ rfl (vs := y) rfl ?_) | fail)
  intro g6 w2 e6 k6 q6
  have G2 := Lib.hid (q5.out.trans q6.out)
  have B5a : Hid (C.Blk w2 g5 49 (kv (xr, xn, xk))) := by have hh := k5.out.grown q6.out (by simp); rw [HZ.out] at hh; exact hh
  have B6a : Hid (C.Blk w2 g6 22 (u8s r)) := by have hh := k6.out; rw [HY.out] at hh; exact hh
  have T2 := Lib.hid (HT.out.grown G2.out (by simp) (by simp))
  have MA := Lib.hid (alive_any T2.out)
  clear e5 k5 q5 e6 k6 q6
  by_cases h100 : 100 < m
  · have d1 : (100 : Int) < (m : Int) := by omega
    clear h100
    go_wp2_with (first | (go_at_call 9; refine MA.out.mono ?_; rintro _ w3 ⟨rfl, hg3⟩; have G3 := Lib.hid hg3; clear hg3) | fail)
    go_ret
    exact ⟨rfl, G2.out.trans G3.out⟩
  · have d1 : ¬ (100 : Int) < (m : Int) := by omega
    have M100 : m ≤ 100 := by omega
    clear h100
    obtain ⟨p, hp⟩ : ∃ e, e = plc L xr xn := ⟨_, rfl⟩
    have HP := Lib.hid hp
    clear hp
    have MK : ∀ (w3 : World) (E : Int) (LK : List Kep) (lk : Nat), keepE L (xr, xn, xk) = E → keepL L (xr, xn, xk) = LK → LK.length = lk → w2.grownBy w3 none → Calls Tryd.prog 16 #[.slice A m c, .agg (kv (xr, xn, xk)).toArray] w3 fun e w' => ∃ A' c', e = .returned (.tuple #[.slice A' lk c', .int .i64 E]) ∧ Kps w' (fun b => w3.heap.size ≤ b ∧ b < w'.heap.size) A' LK ∧ w3.grownBy w' none := by
      intro w3 E LK lk h1 h2 h3 h4
      subst h1 h2 h3
      exact (keep_any (c := c) (HL.out.grown (G2.out.trans h4)) HK.out HM.out (by omega) HX.out).mono fun e w' ⟨A', c', he, _, _, h5, h6⟩ => ⟨A', c', he, h5, h6⟩
    have MKK := Lib.hid MK
    clear MK
    have MP : ∀ (w4 : World), w2.grownBy w4 none → Calls Tryd.prog 17 #[.slice A m c, .agg (u8s xr).toArray, .int .u16 (xn : Int)] w4 fun e w' => e = .returned (.int .i64 p) ∧ w4.grownBy w' none := by
      intro w4 h4
      have h := at_any (c := c) (n := xn) (HL.out.grown (G2.out.trans h4)) HK.out HM.out (by omega) HXR.out
      rw [← HP.out] at h
      exact h
    have MPP := Lib.hid MP
    clear MP
    by_cases hp0 : 0 ≤ p
    · have d2 : (0 : Int) ≤ p := hp0
      have he : keepE L (xr, xn, xk) = 3 := by unfold keepE; dsimp only; rw [← HP.out, if_pos hp0]
      have hl : keepL L (xr, xn, xk) = [] := by unfold keepL; rw [he]; rfl
      have HE := Lib.hid he
      have HLE := Lib.hid hl
      clear he hl hp0
      by_cases hp2 : 0 ≤ plc L r q
      · obtain ⟨i, hi, hpi⟩ := plc_at hp2
        have d5 : ¬ (i : Int) < 0 := by omega
        have him : i < m := by have := HM.out; omega
        obtain ⟨kt, hkt⟩ : ∃ t, t = (L[i]'hi).2.2 := ⟨_, rfl⟩
        have hktl : kt.length = 32 := by rw [hkt]; exact (HK.out.at i hi).2.2
        obtain ⟨l1, hl1⟩ : ∃ t, (L.eraseIdx i).length = t := ⟨_, rfl⟩
        have hl1b : l1 ≤ 100 := by rw [← hl1, List.length_eraseIdx_of_lt hi]; have := HM.out; omega
        have hKE : KAll (L.eraseIdx i) := fun y hy => HK.out y (List.mem_of_mem_eraseIdx hy)
        obtain ⟨b, o, hA, _, hrg⟩ := HL.out i hi
        have hrgk : w.rangeAt b (o + 65 * i + 33) (u8s kt) := by rw [hkt]; exact range_key (HK.out.at i hi) hrg
        have MT : Hid (∀ ws, w2.grownBy ws none → Calls Tryd.prog 19 #[.slice A m c, .agg (u8s r).toArray, .int .u16 (q : Int)] ws fun e w' => ∃ A' c', e = .returned (.tuple #[.slice A' l1 c', .agg (u8s kt).toArray, .bool true]) ∧ Kps w' (fun b => ws.heap.size ≤ b ∧ b < w'.heap.size) A' (L.eraseIdx i) ∧ ws.grownBy w' none) := by
          intro ws hgs
          have h := take_any (c := c) (m := q) (HL.out.grown (G2.out.trans hgs)) HK.out HM.out (by omega) HC.out HR.out
          rw [takeL_at hp2 hpi, takeK_at hp2 hpi hi, decide_eq_true hp2] at h
          exact h.mono fun e w' ⟨A', c', he, _, _, h3, h4⟩ => ⟨A', c', by rw [he, hl1, hkt], h3, h4⟩
        have HPI := Lib.hid hpi; have KT := Lib.hid hkt; have KTL := Lib.hid hktl; have HL1 := Lib.hid hl1; have HKE := Lib.hid hKE; have HI := Lib.hid hi; have RG0 := Lib.hid hrgk
        clear hpi hkt hktl hl1 hKE hrgk hrg hp2
        subst hA
        go_wp2_with (first | (go_at_call 9; refine MA.out.mono ?_; rintro _ w3 ⟨rfl, hg3⟩; have G3 := Lib.hid hg3; clear hg3; have B5 := Lib.hid (B5a.out.grown G3.out (by simp)); have M5 := Lib.hid (MKK.out _ _ _ 0 HE.out HLE.out rfl G3.out)) | (refine wpList_loadG agK rfl (.tmp 5) rfl g5 rfl B5.out (kv_length HX.out) ?_) | (go_at_call 16; refine M5.out.mono ?_; rintro _ w4 ⟨A9, c9, rfl, hl3, hl4⟩; have G4 := Lib.hid (G3.out.trans hl4); clear hl3 hl4; have hc5 := blk_num (B5a.out.grown G4.out (by simp)) HXR.out; have R5 := Lib.hid (range_rat (B5a.out.grown G4.out (by simp))); have M17 := Lib.hid (MPP.out _ G4.out)) | (refine wpList_loadR agY rfl (.tmp 41) rfl g5 0 rfl R5.out (by rw [u8s_length, HXR.out]) ?_) | (go_at_call 17; refine M17.out.mono ?_; rintro _ w5 ⟨rfl, hg5⟩; have GS := Lib.hid (G4.out.trans hg5); clear hg5 hc5; have B6s := Lib.hid (B6a.out.grown GS.out (by simp)); have Ls := Lib.hid (HL.out.grown (G2.out.trans GS.out)); have M19 := Lib.hid (MT.out _ GS.out); have RG : Hid (w5.rangeAt b (o + 65 * i + 33) (u8s kt)) := range_keep RG0.out fun h => (G2.out.trans GS.out).block b h (by simp)) | (refine wpList_loadG agA rfl (.tmp 6) rfl g6 rfl B6s.out (by rw [u8s_length, HR.out]) ?_) | (go_at_call 19; refine M19.out.mono ?_; rintro _ wt ⟨A11, c11, rfl, h3, h4⟩; have K11 := Lib.hid h3; have GT := Lib.hid h4; clear h3 h4) | (refine wpList_allocG zeY rfl rfl ?_) | fail)
        intro g12 wa e12 k12 q12
        go_wp2_with (first | (refine wpList_storeG agY rfl _ _ rfl g12 (vs := u8s kt) rfl rfl k12.out (by rw [u8s_length, z32_length]) (by rw [u8s_length, KTL.out]) (u8s_one _) ?_) | fail)
        intro wb k12b q12b z12
        have NT : Hid (wt.heap.size ≤ g12) := Nat.le_of_eq e12.out.symm
        have K11b := Lib.hid ((K11.out.grown q12.out).keep (w' := wb) fun b hb _ => q12b.out.block b (Nat.lt_of_lt_of_le hb.2 q12.out.size) (fun e => by have e' := Option.some.inj e; have := NT.out; omega))
        have Gb : Hid (w5.grownBy wb none) := World.grownBy.andThen (GT.out.trans q12.out) q12b.out (by rintro _ ⟨⟩; exact .inl (Nat.le_trans GT.out.size NT.out))
        have B6b := Lib.hid (B6s.out.grown Gb.out (by simp))
        have Lb := Lib.hid (Ls.out.grown Gb.out)
        have RGb : Hid (wb.rangeAt b (o + 65 * i + 33) (u8s kt)) := range_keep RG.out fun h => Gb.out.block b h (by simp)
        have MP : Hid (Calls Tryd.prog 17 #[.slice (some ⟨b, o, none⟩) m c, .agg (u8s r).toArray, .int .u16 (q : Int)] wb fun e w' => e = .returned (.int .i64 (i : Int)) ∧ wb.grownBy w' none) := by
          have h := at_any (c := c) (n := q) Lb.out HK.out HM.out (by omega) HR.out
          rw [HPI.out] at h
          exact h
        have B12 := Lib.hid k12b.out
        clear e12 k12 q12 k12b q12b z12 MT M19
        go_wp2_with (first | (refine wpList_loadG agA rfl (.tmp 6) rfl g6 rfl B6b.out (by rw [u8s_length, HR.out]) ?_) | (go_at_call 17; refine MP.out.mono ?_; rintro _ wc ⟨rfl, h4⟩; have GC := Lib.hid h4; clear h4) | fail)
        have B12c := Lib.hid (B12.out.grown GC.out (by simp))
        have RGc : Hid (wc.rangeAt b (o + 65 * i + 33) (u8s kt)) := range_keep RGb.out fun h => GC.out.block b h (by simp)
        have Lc := Lib.hid (Lb.out.grown GC.out)
        have K11c := Lib.hid (K11b.out.grown GC.out)
        refine wp_region_held_drew (S := fun W => W.rangeAt g12 0 (u8s kt) ∧ W.rangeAt b (o + 65 * i + 33) (u8s kt)) (by kernel_rfl) ⟨range_of B12c.out, RGc.out⟩ (fun hHeld => ?_)
        obtain ⟨v0, hv0⟩ : ∃ v, v = wc.drew := ⟨_, rfl⟩
        have hg0 : wc.grownBy v0 none := by rw [hv0]; exact grown_drew wc
        rw [← hv0] at hHeld ⊢
        clear hv0
        refine' wpAnyH_take (i := 0) (oi := { dst := some 91, op := Op.move (Operand.tmp 13), type := 4, pos := "law.go:78", after := #[], guard := none }) (v := .bool true) rfl (by kernel_rfl) (by kernel_rfl) (by kernel_rfl) (fun _ _ _ h => h) (Or.inl ⟨by rfl, fun w' hSw => by go_simp⟩) (by assumption) ?qz101
        try simp only [Act.put, List.setIfInBounds_toArray, List.set_cons_zero, List.set_cons_succ]
        refine' wpAnyH_take (i := 1) (oi := { dst := some 92, op := Op.move (Operand.tmp 91), type := 4, pos := "law.go:78", after := #[{ on := 0, ground := Ground.data }], guard := none }) (v := .bool true) rfl (by kernel_rfl) (by kernel_rfl) (by kernel_rfl) (fun _ _ _ h => h) (Or.inl ⟨by rfl, fun w' hSw => by go_simp⟩) (by assumption) ?qz102
        try simp only [Act.put, List.setIfInBounds_toArray, List.set_cons_zero, List.set_cons_succ]
        refine' wpAnyH_take (i := 2) (oi := { dst := some 93, op := Op.load 24 (Operand.tmp 12), type := 24, pos := "law.go:78", after := #[{ on := 1, ground := Ground.guard }], guard := some (1, true) }) (v := .agg (u8s kt).toArray) rfl (by kernel_rfl) (by kernel_rfl) (by kernel_rfl) (fun _ _ _ h => h) (yieldsIf_loadR agY (by rfl) (.tmp 12) rfl g12 0 rfl (by rw [u8s_length, KTL.out]) (fun _ h => h.1)) (by assumption) ?qz103
        try simp only [Act.put, List.setIfInBounds_toArray, List.set_cons_zero, List.set_cons_succ]
        refine' wpAnyH_take (i := 3) (oi := { dst := some 94, op := Op.move (Operand.tmp 0), type := 47, pos := "law.go:78", after := #[{ on := 1, ground := Ground.guard }], guard := some (1, true) }) (v := .slice (some ⟨b, o, none⟩) m c) rfl (by kernel_rfl) (by kernel_rfl) (by kernel_rfl) (fun _ _ _ h => h) (Or.inl ⟨by rfl, fun w' hSw => by go_simp⟩) (by assumption) ?qz104
        try simp only [Act.put, List.setIfInBounds_toArray, List.set_cons_zero, List.set_cons_succ]
        refine' wpAnyH_take (i := 4) (oi := { dst := some 95, op := Op.move (Operand.tmp 14), type := 3, pos := "law.go:78", after := #[{ on := 1, ground := Ground.guard }], guard := some (1, true) }) (v := .int .i64 (i : Int)) rfl (by kernel_rfl) (by kernel_rfl) (by kernel_rfl) (fun _ _ _ h => h) (Or.inl ⟨by rfl, fun w' hSw => by go_simp⟩) (by assumption) ?qz105
        try simp only [Act.put, List.setIfInBounds_toArray, List.set_cons_zero, List.set_cons_succ]
        refine' wpAnyH_take (i := 5) (oi := { dst := some 96, op := Op.indexAddr 47 (Operand.tmp 94) (Operand.tmp 95), type := 0, pos := "law.go:78", after := #[{ on := 3, ground := Ground.data }, { on := 4, ground := Ground.data }, { on := 1, ground := Ground.guard }], guard := some (1, true) }) (v := .pointer (some ⟨b, o + 65 * i, none⟩)) rfl (by kernel_rfl) (by kernel_rfl) (by kernel_rfl) (fun _ _ _ h => h) (yieldsIf_indexK (by rfl) (.tmp 94) (.tmp 95) rfl b o m c i rfl rfl him) (by assumption) ?qz106
        try simp only [Act.put, List.setIfInBounds_toArray, List.set_cons_zero, List.set_cons_succ]
        refine' wpAnyH_take (i := 6) (oi := { dst := some 97, op := Op.fieldAddr 49 (Operand.tmp 96) 2, type := 0, pos := "law.go:78", after := #[{ on := 5, ground := Ground.data }, { on := 1, ground := Ground.guard }], guard := some (1, true) }) (v := .pointer (some ⟨b, o + 65 * i + 33, none⟩)) rfl (by kernel_rfl) (by kernel_rfl) (by kernel_rfl) (fun _ _ _ h => h) (Or.inl ⟨by rfl, fun w' hSw => by go_simp⟩) (by assumption) ?qz107
        try simp only [Act.put, List.setIfInBounds_toArray, List.set_cons_zero, List.set_cons_succ]
        refine' wpAnyH_take (i := 7) (oi := { dst := some 98, op := Op.load 24 (Operand.tmp 97), type := 24, pos := "law.go:78", after := #[{ on := 6, ground := Ground.data }, { on := 1, ground := Ground.guard }], guard := some (1, true) }) (v := .agg (u8s kt).toArray) rfl (by kernel_rfl) (by kernel_rfl) (by kernel_rfl) (fun _ _ _ h => h) (yieldsIf_loadR agY (by rfl) (.tmp 97) rfl b (o + 65 * i + 33) rfl (by rw [u8s_length, KTL.out]) (fun _ h => h.2)) (by assumption) ?qz108
        try simp only [Act.put, List.setIfInBounds_toArray, List.set_cons_zero, List.set_cons_succ]
        refine' wpAnyH_take (i := 8) (oi := { dst := some 99, op := Op.binOp BinOp.eql 24 (Operand.tmp 93) (Operand.tmp 98) 24, type := 4, pos := "law.go:78", after := #[{ on := 2, ground := Ground.data }, { on := 7, ground := Ground.data }, { on := 1, ground := Ground.guard }], guard := some (1, true) }) (v := .bool true) rfl (by kernel_rfl) (by kernel_rfl) (by kernel_rfl) (fun _ _ _ h => h) (yieldsIf_eqs (eqsY KTL.out) (by rfl) (.tmp 93) (.tmp 98) rfl rfl rfl) (by assumption) ?qz109
        try simp only [Act.put, List.setIfInBounds_toArray, List.set_cons_zero, List.set_cons_succ]
        refine' wpAnyH_take (i := 9) (oi := { dst := some 100, op := Op.pick (Operand.tmp 92) (Operand.tmp 99) (Operand.const (Value.bool false)), type := 4, pos := "law.go:78", after := #[{ on := 1, ground := Ground.data }, { on := 8, ground := Ground.data }], guard := none }) (v := .bool true) rfl (by kernel_rfl) (by kernel_rfl) (by kernel_rfl) (fun _ _ _ h => h) (Or.inl ⟨by rfl, fun w' hSw => by go_simp⟩) (by assumption) ?qz110
        try simp only [Act.put, List.setIfInBounds_toArray, List.set_cons_zero, List.set_cons_succ]
        refine' wpAnyH_take (i := 10) (oi := { dst := some 101, op := Op.move (Operand.tmp 100), type := 4, pos := "law.go:78", after := #[{ on := 9, ground := Ground.data }, { on := 1, ground := Ground.chain }], guard := none }) (v := .bool true) rfl (by kernel_rfl) (by kernel_rfl) (by kernel_rfl) (fun _ _ _ h => h) (Or.inl ⟨by rfl, fun w' hSw => by go_simp⟩) (by assumption) ?qz111
        try simp only [Act.put, List.setIfInBounds_toArray, List.set_cons_zero, List.set_cons_succ]
        refine' wpAnyH_take (i := 11) (oi := { dst := some 102, op := Op.move (Operand.tmp 11), type := 47, pos := "law.go:78", after := #[{ on := 10, ground := Ground.guard }], guard := some (10, true) }) (v := .slice A11 l1 c11) rfl (by kernel_rfl) (by kernel_rfl) (by kernel_rfl) (fun _ _ _ h => h) (Or.inl ⟨by rfl, fun w' hSw => by go_simp⟩) (by assumption) ?qz112
        try simp only [Act.put, List.setIfInBounds_toArray, List.set_cons_zero, List.set_cons_succ]
        refine' wpAnyH_take (i := 12) (oi := { dst := some 103, op := Op.move (Operand.tmp 0), type := 47, pos := "law.go:78", after := #[{ on := 10, ground := Ground.guard }], guard := some (10, true) }) (v := .slice (some ⟨b, o, none⟩) m c) rfl (by kernel_rfl) (by kernel_rfl) (by kernel_rfl) (fun _ _ _ h => h) (Or.inl ⟨by rfl, fun w' hSw => by go_simp⟩) (by assumption) ?qz113
        try simp only [Act.put, List.setIfInBounds_toArray, List.set_cons_zero, List.set_cons_succ]
        refine' wpAnyH_take (i := 13) (oi := { dst := some 104, op := Op.move (Operand.tmp 14), type := 3, pos := "law.go:78", after := #[{ on := 10, ground := Ground.guard }], guard := some (10, true) }) (v := .int .i64 (i : Int)) rfl (by kernel_rfl) (by kernel_rfl) (by kernel_rfl) (fun _ _ _ h => h) (Or.inl ⟨by rfl, fun w' hSw => by go_simp⟩) (by assumption) ?qz114
        try simp only [Act.put, List.setIfInBounds_toArray, List.set_cons_zero, List.set_cons_succ]
        refine wpAnyH_ready (rs := [14]) (by kernel_rfl) (by simp) ?_
        refine AllReadyH.cons (o := { dst := some 105, op := Op.call { callee := Callee.value (Operand.func 20), args := #[Operand.tmp 103, Operand.tmp 104], argTypes := #[47, 3] }, type := 47, pos := "law.go:78", after := #[{ on := 12, ground := Ground.data }, { on := 13, ground := Ground.data }, { on := 10, ground := Ground.chain }, { on := 10, ground := Ground.guard }], guard := some (10, true) }) rfl (fun K hK => ?_) AllReadyH.nil
        rw [if_pos (by rfl)]
        go_simp
        have hcall : Calls Tryd.prog 20 #[.slice (some ⟨b, o, none⟩) m c, .int .i64 (i : Int)] v0 fun e w' => ∃ A' c', e = .returned (.slice A' l1 c') ∧ Kps w' (fun b => v0.heap.size ≤ b ∧ b < w'.heap.size) A' (L.eraseIdx i) ∧ v0.grownBy w' none := (without_any (c := c) (k := i) (Lc.out.grown hg0) HK.out HM.out (by omega) (by omega)).mono fun e w' ⟨A', c', he, _, _, h3, h4⟩ => ⟨A', c', by rw [he, HL1.out], h3, h4⟩
        with_reducible refine hcall.mono ?_
        rintro _ x1 ⟨A20, c20, rfl, hk20, hg1⟩
        refine hK.out _ _ ⟨range_of (B12c.out.grown (hg0.trans hg1) (by simp)), range_keep RGc.out fun h => ((hg0.trans hg1)).block b h (by simp)⟩ (fun hHeld => ?_)
        clear hK K
        try simp only [Act.put, List.setIfInBounds_toArray, List.set_cons_zero, List.set_cons_succ]
        refine wpAnyH_ready (rs := [15]) (by kernel_rfl) (by simp) ?_
        refine AllReadyH.cons (o := { dst := some 106, op := Op.call { callee := Callee.value (Operand.func 18), args := #[Operand.tmp 102, Operand.tmp 105], argTypes := #[47, 47] }, type := 4, pos := "law.go:78", after := #[{ on := 11, ground := Ground.data }, { on := 14, ground := Ground.data }, { on := 14, ground := Ground.chain }, { on := 10, ground := Ground.guard }], guard := some (10, true) }) rfl (fun K hK => ?_) AllReadyH.nil
        rw [if_pos (by rfl)]
        go_simp
        with_reducible refine (same_any (c := c11) (c2 := c20) (K11c.out.grown (hg0.trans hg1)) hk20 HKE.out HL1.out (by omega)).mono ?_
        rintro _ x2 ⟨rfl, hg2⟩
        refine hK.out _ _ ⟨range_of (B12c.out.grown ((hg0.trans hg1).trans hg2) (by simp)), range_keep RGc.out fun h => (((hg0.trans hg1).trans hg2)).block b h (by simp)⟩ (fun hHeld => ?_)
        clear hK K
        try simp only [Act.put, List.setIfInBounds_toArray, List.set_cons_zero, List.set_cons_succ]
        refine' wpAnyH_take (i := 16) (oi := { dst := some 107, op := Op.pick (Operand.tmp 101) (Operand.tmp 106) (Operand.const (Value.bool false)), type := 4, pos := "law.go:78", after := #[{ on := 10, ground := Ground.data }, { on := 15, ground := Ground.data }], guard := none }) (v := .bool true) rfl (by kernel_rfl) (by kernel_rfl) (by kernel_rfl) (fun _ _ _ h => h) (Or.inl ⟨by rfl, fun w' hSw => by go_simp⟩) (by assumption) ?qz115
        try simp only [Act.put, List.setIfInBounds_toArray, List.set_cons_zero, List.set_cons_succ]
        refine' wpAnyH_take (i := 17) (oi := { dst := some 8, op := Op.assign (Operand.tmp 107), type := 4, pos := "law.go:78", after := #[{ on := 16, ground := Ground.data }, { on := 15, ground := Ground.chain }, { on := 0, ground := Ground.phase }, { on := 1, ground := Ground.phase }, { on := 2, ground := Ground.phase }, { on := 3, ground := Ground.phase }, { on := 4, ground := Ground.phase }, { on := 5, ground := Ground.phase }, { on := 6, ground := Ground.phase }, { on := 7, ground := Ground.phase }, { on := 8, ground := Ground.phase }, { on := 9, ground := Ground.phase }, { on := 10, ground := Ground.phase }, { on := 11, ground := Ground.phase }, { on := 12, ground := Ground.phase }, { on := 13, ground := Ground.phase }, { on := 14, ground := Ground.phase }, { on := 15, ground := Ground.phase }, { on := 16, ground := Ground.phase }], guard := none }) (v := .bool true) rfl (by kernel_rfl) (by kernel_rfl) (by kernel_rfl) (fun _ _ _ h => h) (Or.inl ⟨by rfl, fun w' hSw => by go_simp⟩) (by assumption) ?qz116
        try simp only [Act.put, List.setIfInBounds_toArray, List.set_cons_zero, List.set_cons_succ]
        refine wpAnyH_done (by kernel_rfl) ?_ _
        have GE := Lib.hid ((hg0.trans hg1).trans hg2)
        go_wp2
        go_ret
        exact ⟨rfl, ((((G2.out.trans GS.out).trans Gb.out).trans GC.out).trans GE.out)⟩
      · have hpm := plc_lt L r q
        have hpi : plc L r q = -1 := by omega
        have MT : Hid (∀ ws, w2.grownBy ws none → Calls Tryd.prog 19 #[.slice A m c, .agg (u8s r).toArray, .int .u16 (q : Int)] ws fun e w' => ∃ A' c', e = .returned (.tuple #[.slice A' m c', .agg (u8s z32).toArray, .bool false]) ∧ Kps w' (fun b => ws.heap.size ≤ b ∧ b < w'.heap.size) A' L ∧ ws.grownBy w' none) := by
          intro ws hgs
          have h := take_any (c := c) (m := q) (HL.out.grown (G2.out.trans hgs)) HK.out HM.out (by omega) HC.out HR.out
          rw [show takeL L r q = L from if_neg hp2, show takeK L r q = z32 from if_neg hp2, decide_eq_false hp2] at h
          exact h.mono fun e w' ⟨A', c', he, _, _, h3, h4⟩ => ⟨A', c', by rw [he, HM.out], h3, h4⟩
        have HPI := Lib.hid hpi
        clear hpm hpi hp2
        go_wp2_with (first | (go_at_call 9; refine MA.out.mono ?_; rintro _ w3 ⟨rfl, hg3⟩; have G3 := Lib.hid hg3; clear hg3; have B5 := Lib.hid (B5a.out.grown G3.out (by simp)); have M5 := Lib.hid (MKK.out _ _ _ 0 HE.out HLE.out rfl G3.out)) | (refine wpList_loadG agK rfl (.tmp 5) rfl g5 rfl B5.out (kv_length HX.out) ?_) | (go_at_call 16; refine M5.out.mono ?_; rintro _ w4 ⟨A9, c9, rfl, hl3, hl4⟩; have G4 := Lib.hid (G3.out.trans hl4); clear hl3 hl4; have hc5 := blk_num (B5a.out.grown G4.out (by simp)) HXR.out; have R5 := Lib.hid (range_rat (B5a.out.grown G4.out (by simp))); have M17 := Lib.hid (MPP.out _ G4.out)) | (refine wpList_loadR agY rfl (.tmp 41) rfl g5 0 rfl R5.out (by rw [u8s_length, HXR.out]) ?_) | (go_at_call 17; refine M17.out.mono ?_; rintro _ w5 ⟨rfl, hg5⟩; have GS := Lib.hid (G4.out.trans hg5); clear hg5 hc5; have B6s := Lib.hid (B6a.out.grown GS.out (by simp)); have Ls := Lib.hid (HL.out.grown (G2.out.trans GS.out)); have M19 := Lib.hid (MT.out _ GS.out)) | (refine wpList_loadG agA rfl (.tmp 6) rfl g6 rfl B6s.out (by rw [u8s_length, HR.out]) ?_) | (go_at_call 19; refine M19.out.mono ?_; rintro _ wt ⟨A11, c11, rfl, h3, h4⟩; have K11 := Lib.hid h3; have GT := Lib.hid h4; clear h3 h4) | (refine wpList_allocG zeY rfl rfl ?_) | fail)
        intro g12 wa e12 k12 q12
        go_wp2_with (first | (refine wpList_storeG agY rfl _ _ rfl g12 (vs := u8s z32) rfl rfl k12.out (by rw [u8s_length, z32_length]) (by rw [u8s_length, z32_length]) (u8s_one _) ?_) | fail)
        intro wb k12b q12b z12
        have NT : Hid (wt.heap.size ≤ g12) := Nat.le_of_eq e12.out.symm
        have K11b := Lib.hid ((K11.out.grown q12.out).keep (w' := wb) fun b hb _ => q12b.out.block b (Nat.lt_of_lt_of_le hb.2 q12.out.size) (fun e => by have e' := Option.some.inj e; have := NT.out; omega))
        have Gb : Hid (w5.grownBy wb none) := World.grownBy.andThen (GT.out.trans q12.out) q12b.out (by rintro _ ⟨⟩; exact .inl (Nat.le_trans GT.out.size NT.out))
        have B6b := Lib.hid (B6s.out.grown Gb.out (by simp))
        have Lb := Lib.hid (Ls.out.grown Gb.out)
        have MP : Hid (Calls Tryd.prog 17 #[.slice A m c, .agg (u8s r).toArray, .int .u16 (q : Int)] wb fun e w' => e = .returned (.int .i64 (-1)) ∧ wb.grownBy w' none) := by
          have h := at_any (c := c) (n := q) Lb.out HK.out HM.out (by omega) HR.out
          rw [HPI.out] at h
          exact h
        have B12 := Lib.hid k12b.out
        clear e12 k12 q12 k12b q12b z12 MT M19
        go_wp2_with (first | (refine wpList_loadG agA rfl (.tmp 6) rfl g6 rfl B6b.out (by rw [u8s_length, HR.out]) ?_) | (go_at_call 17; refine MP.out.mono ?_; rintro _ wc ⟨rfl, h4⟩; have GC := Lib.hid h4; clear h4; have B12c := Lib.hid (B12.out.grown GC.out (by simp)); have MS := Lib.hid (same_any (c := c11) (c2 := c) (K11b.out.grown GC.out) (Lb.out.grown GC.out) HK.out HM.out (by omega))) | (refine wpList_loadGw agY (by rfl) (.tmp 12) rfl g12 rfl B12c.out (by rw [u8s_length, z32_length]) ?_) | (refine wpList_zeroGw zeY (by rfl) rfl ?_) | (refine wpList_eqs (eqsY z32_length) (by rfl) (.tmp 82) (.tmp 83) rfl rfl rfl ?_) | (go_at_call 18; refine MS.out.mono ?_; rintro _ we ⟨rfl, h4⟩; have GE := Lib.hid h4; clear h4) | fail)
        go_ret
        exact ⟨rfl, ((((G2.out.trans GS.out).trans Gb.out).trans GC.out).trans GE.out)⟩
    · have d2 : ¬ (0 : Int) ≤ p := hp0
      by_cases h16 : 16 ≤ m
      · have d3 : (16 : Int) ≤ (m : Int) := by omega
        have he : keepE L (xr, xn, xk) = 4 := by unfold keepE; dsimp only; rw [← HP.out, if_neg hp0, if_pos (by rw [HM.out]; exact h16)]
        have hl : keepL L (xr, xn, xk) = [] := by unfold keepL; rw [he]; rfl
        have HE := Lib.hid he
        have HLE := Lib.hid hl
        clear he hl hp0 h16
        by_cases hp2 : 0 ≤ plc L r q
        · obtain ⟨i, hi, hpi⟩ := plc_at hp2
          have d5 : ¬ (i : Int) < 0 := by omega
          have him : i < m := by have := HM.out; omega
          obtain ⟨kt, hkt⟩ : ∃ t, t = (L[i]'hi).2.2 := ⟨_, rfl⟩
          have hktl : kt.length = 32 := by rw [hkt]; exact (HK.out.at i hi).2.2
          obtain ⟨l1, hl1⟩ : ∃ t, (L.eraseIdx i).length = t := ⟨_, rfl⟩
          have hl1b : l1 ≤ 100 := by rw [← hl1, List.length_eraseIdx_of_lt hi]; have := HM.out; omega
          have hKE : KAll (L.eraseIdx i) := fun y hy => HK.out y (List.mem_of_mem_eraseIdx hy)
          obtain ⟨b, o, hA, _, hrg⟩ := HL.out i hi
          have hrgk : w.rangeAt b (o + 65 * i + 33) (u8s kt) := by rw [hkt]; exact range_key (HK.out.at i hi) hrg
          have MT : Hid (∀ ws, w2.grownBy ws none → Calls Tryd.prog 19 #[.slice A m c, .agg (u8s r).toArray, .int .u16 (q : Int)] ws fun e w' => ∃ A' c', e = .returned (.tuple #[.slice A' l1 c', .agg (u8s kt).toArray, .bool true]) ∧ Kps w' (fun b => ws.heap.size ≤ b ∧ b < w'.heap.size) A' (L.eraseIdx i) ∧ ws.grownBy w' none) := by
            intro ws hgs
            have h := take_any (c := c) (m := q) (HL.out.grown (G2.out.trans hgs)) HK.out HM.out (by omega) HC.out HR.out
            rw [takeL_at hp2 hpi, takeK_at hp2 hpi hi, decide_eq_true hp2] at h
            exact h.mono fun e w' ⟨A', c', he, _, _, h3, h4⟩ => ⟨A', c', by rw [he, hl1, hkt], h3, h4⟩
          have HPI := Lib.hid hpi; have KT := Lib.hid hkt; have KTL := Lib.hid hktl; have HL1 := Lib.hid hl1; have HKE := Lib.hid hKE; have HI := Lib.hid hi; have RG0 := Lib.hid hrgk
          clear hpi hkt hktl hl1 hKE hrgk hrg hp2
          subst hA
          go_wp2_with (first | (go_at_call 9; refine MA.out.mono ?_; rintro _ w3 ⟨rfl, hg3⟩; have G3 := Lib.hid hg3; clear hg3; have B5 := Lib.hid (B5a.out.grown G3.out (by simp)); have M5 := Lib.hid (MKK.out _ _ _ 0 HE.out HLE.out rfl G3.out)) | (refine wpList_loadG agK rfl (.tmp 5) rfl g5 rfl B5.out (kv_length HX.out) ?_) | (go_at_call 16; refine M5.out.mono ?_; rintro _ w4 ⟨A9, c9, rfl, hl3, hl4⟩; have G4 := Lib.hid (G3.out.trans hl4); clear hl3 hl4; have hc5 := blk_num (B5a.out.grown G4.out (by simp)) HXR.out; have R5 := Lib.hid (range_rat (B5a.out.grown G4.out (by simp))); have M17 := Lib.hid (MPP.out _ G4.out)) | (refine wpList_loadR agY rfl (.tmp 41) rfl g5 0 rfl R5.out (by rw [u8s_length, HXR.out]) ?_) | (go_at_call 17; refine M17.out.mono ?_; rintro _ w5 ⟨rfl, hg5⟩; have GS := Lib.hid (G4.out.trans hg5); clear hg5 hc5; have B6s := Lib.hid (B6a.out.grown GS.out (by simp)); have Ls := Lib.hid (HL.out.grown (G2.out.trans GS.out)); have M19 := Lib.hid (MT.out _ GS.out); have RG : Hid (w5.rangeAt b (o + 65 * i + 33) (u8s kt)) := range_keep RG0.out fun h => (G2.out.trans GS.out).block b h (by simp)) | (refine wpList_loadG agA rfl (.tmp 6) rfl g6 rfl B6s.out (by rw [u8s_length, HR.out]) ?_) | (go_at_call 19; refine M19.out.mono ?_; rintro _ wt ⟨A11, c11, rfl, h3, h4⟩; have K11 := Lib.hid h3; have GT := Lib.hid h4; clear h3 h4) | (refine wpList_allocG zeY rfl rfl ?_) | fail)
          intro g12 wa e12 k12 q12
          go_wp2_with (first | (refine wpList_storeG agY rfl _ _ rfl g12 (vs := u8s kt) rfl rfl k12.out (by rw [u8s_length, z32_length]) (by rw [u8s_length, KTL.out]) (u8s_one _) ?_) | fail)
          intro wb k12b q12b z12
          have NT : Hid (wt.heap.size ≤ g12) := Nat.le_of_eq e12.out.symm
          have K11b := Lib.hid ((K11.out.grown q12.out).keep (w' := wb) fun b hb _ => q12b.out.block b (Nat.lt_of_lt_of_le hb.2 q12.out.size) (fun e => by have e' := Option.some.inj e; have := NT.out; omega))
          have Gb : Hid (w5.grownBy wb none) := World.grownBy.andThen (GT.out.trans q12.out) q12b.out (by rintro _ ⟨⟩; exact .inl (Nat.le_trans GT.out.size NT.out))
          have B6b := Lib.hid (B6s.out.grown Gb.out (by simp))
          have Lb := Lib.hid (Ls.out.grown Gb.out)
          have RGb : Hid (wb.rangeAt b (o + 65 * i + 33) (u8s kt)) := range_keep RG.out fun h => Gb.out.block b h (by simp)
          have MP : Hid (Calls Tryd.prog 17 #[.slice (some ⟨b, o, none⟩) m c, .agg (u8s r).toArray, .int .u16 (q : Int)] wb fun e w' => e = .returned (.int .i64 (i : Int)) ∧ wb.grownBy w' none) := by
            have h := at_any (c := c) (n := q) Lb.out HK.out HM.out (by omega) HR.out
            rw [HPI.out] at h
            exact h
          have B12 := Lib.hid k12b.out
          clear e12 k12 q12 k12b q12b z12 MT M19
          go_wp2_with (first | (refine wpList_loadG agA rfl (.tmp 6) rfl g6 rfl B6b.out (by rw [u8s_length, HR.out]) ?_) | (go_at_call 17; refine MP.out.mono ?_; rintro _ wc ⟨rfl, h4⟩; have GC := Lib.hid h4; clear h4) | fail)
          have B12c := Lib.hid (B12.out.grown GC.out (by simp))
          have RGc : Hid (wc.rangeAt b (o + 65 * i + 33) (u8s kt)) := range_keep RGb.out fun h => GC.out.block b h (by simp)
          have Lc := Lib.hid (Lb.out.grown GC.out)
          have K11c := Lib.hid (K11b.out.grown GC.out)
          refine wp_region_held_drew (S := fun W => W.rangeAt g12 0 (u8s kt) ∧ W.rangeAt b (o + 65 * i + 33) (u8s kt)) (by kernel_rfl) ⟨range_of B12c.out, RGc.out⟩ (fun hHeld => ?_)
          obtain ⟨v0, hv0⟩ : ∃ v, v = wc.drew := ⟨_, rfl⟩
          have hg0 : wc.grownBy v0 none := by rw [hv0]; exact grown_drew wc
          rw [← hv0] at hHeld ⊢
          clear hv0
          refine' wpAnyH_take (i := 0) (oi := { dst := some 91, op := Op.move (Operand.tmp 13), type := 4, pos := "law.go:78", after := #[], guard := none }) (v := .bool true) rfl (by kernel_rfl) (by kernel_rfl) (by kernel_rfl) (fun _ _ _ h => h) (Or.inl ⟨by rfl, fun w' hSw => by go_simp⟩) (by assumption) ?qz201
          try simp only [Act.put, List.setIfInBounds_toArray, List.set_cons_zero, List.set_cons_succ]
          refine' wpAnyH_take (i := 1) (oi := { dst := some 92, op := Op.move (Operand.tmp 91), type := 4, pos := "law.go:78", after := #[{ on := 0, ground := Ground.data }], guard := none }) (v := .bool true) rfl (by kernel_rfl) (by kernel_rfl) (by kernel_rfl) (fun _ _ _ h => h) (Or.inl ⟨by rfl, fun w' hSw => by go_simp⟩) (by assumption) ?qz202
          try simp only [Act.put, List.setIfInBounds_toArray, List.set_cons_zero, List.set_cons_succ]
          refine' wpAnyH_take (i := 2) (oi := { dst := some 93, op := Op.load 24 (Operand.tmp 12), type := 24, pos := "law.go:78", after := #[{ on := 1, ground := Ground.guard }], guard := some (1, true) }) (v := .agg (u8s kt).toArray) rfl (by kernel_rfl) (by kernel_rfl) (by kernel_rfl) (fun _ _ _ h => h) (yieldsIf_loadR agY (by rfl) (.tmp 12) rfl g12 0 rfl (by rw [u8s_length, KTL.out]) (fun _ h => h.1)) (by assumption) ?qz203
          try simp only [Act.put, List.setIfInBounds_toArray, List.set_cons_zero, List.set_cons_succ]
          refine' wpAnyH_take (i := 3) (oi := { dst := some 94, op := Op.move (Operand.tmp 0), type := 47, pos := "law.go:78", after := #[{ on := 1, ground := Ground.guard }], guard := some (1, true) }) (v := .slice (some ⟨b, o, none⟩) m c) rfl (by kernel_rfl) (by kernel_rfl) (by kernel_rfl) (fun _ _ _ h => h) (Or.inl ⟨by rfl, fun w' hSw => by go_simp⟩) (by assumption) ?qz204
          try simp only [Act.put, List.setIfInBounds_toArray, List.set_cons_zero, List.set_cons_succ]
          refine' wpAnyH_take (i := 4) (oi := { dst := some 95, op := Op.move (Operand.tmp 14), type := 3, pos := "law.go:78", after := #[{ on := 1, ground := Ground.guard }], guard := some (1, true) }) (v := .int .i64 (i : Int)) rfl (by kernel_rfl) (by kernel_rfl) (by kernel_rfl) (fun _ _ _ h => h) (Or.inl ⟨by rfl, fun w' hSw => by go_simp⟩) (by assumption) ?qz205
          try simp only [Act.put, List.setIfInBounds_toArray, List.set_cons_zero, List.set_cons_succ]
          refine' wpAnyH_take (i := 5) (oi := { dst := some 96, op := Op.indexAddr 47 (Operand.tmp 94) (Operand.tmp 95), type := 0, pos := "law.go:78", after := #[{ on := 3, ground := Ground.data }, { on := 4, ground := Ground.data }, { on := 1, ground := Ground.guard }], guard := some (1, true) }) (v := .pointer (some ⟨b, o + 65 * i, none⟩)) rfl (by kernel_rfl) (by kernel_rfl) (by kernel_rfl) (fun _ _ _ h => h) (yieldsIf_indexK (by rfl) (.tmp 94) (.tmp 95) rfl b o m c i rfl rfl him) (by assumption) ?qz206
          try simp only [Act.put, List.setIfInBounds_toArray, List.set_cons_zero, List.set_cons_succ]
          refine' wpAnyH_take (i := 6) (oi := { dst := some 97, op := Op.fieldAddr 49 (Operand.tmp 96) 2, type := 0, pos := "law.go:78", after := #[{ on := 5, ground := Ground.data }, { on := 1, ground := Ground.guard }], guard := some (1, true) }) (v := .pointer (some ⟨b, o + 65 * i + 33, none⟩)) rfl (by kernel_rfl) (by kernel_rfl) (by kernel_rfl) (fun _ _ _ h => h) (Or.inl ⟨by rfl, fun w' hSw => by go_simp⟩) (by assumption) ?qz207
          try simp only [Act.put, List.setIfInBounds_toArray, List.set_cons_zero, List.set_cons_succ]
          refine' wpAnyH_take (i := 7) (oi := { dst := some 98, op := Op.load 24 (Operand.tmp 97), type := 24, pos := "law.go:78", after := #[{ on := 6, ground := Ground.data }, { on := 1, ground := Ground.guard }], guard := some (1, true) }) (v := .agg (u8s kt).toArray) rfl (by kernel_rfl) (by kernel_rfl) (by kernel_rfl) (fun _ _ _ h => h) (yieldsIf_loadR agY (by rfl) (.tmp 97) rfl b (o + 65 * i + 33) rfl (by rw [u8s_length, KTL.out]) (fun _ h => h.2)) (by assumption) ?qz208
          try simp only [Act.put, List.setIfInBounds_toArray, List.set_cons_zero, List.set_cons_succ]
          refine' wpAnyH_take (i := 8) (oi := { dst := some 99, op := Op.binOp BinOp.eql 24 (Operand.tmp 93) (Operand.tmp 98) 24, type := 4, pos := "law.go:78", after := #[{ on := 2, ground := Ground.data }, { on := 7, ground := Ground.data }, { on := 1, ground := Ground.guard }], guard := some (1, true) }) (v := .bool true) rfl (by kernel_rfl) (by kernel_rfl) (by kernel_rfl) (fun _ _ _ h => h) (yieldsIf_eqs (eqsY KTL.out) (by rfl) (.tmp 93) (.tmp 98) rfl rfl rfl) (by assumption) ?qz209
          try simp only [Act.put, List.setIfInBounds_toArray, List.set_cons_zero, List.set_cons_succ]
          refine' wpAnyH_take (i := 9) (oi := { dst := some 100, op := Op.pick (Operand.tmp 92) (Operand.tmp 99) (Operand.const (Value.bool false)), type := 4, pos := "law.go:78", after := #[{ on := 1, ground := Ground.data }, { on := 8, ground := Ground.data }], guard := none }) (v := .bool true) rfl (by kernel_rfl) (by kernel_rfl) (by kernel_rfl) (fun _ _ _ h => h) (Or.inl ⟨by rfl, fun w' hSw => by go_simp⟩) (by assumption) ?qz210
          try simp only [Act.put, List.setIfInBounds_toArray, List.set_cons_zero, List.set_cons_succ]
          refine' wpAnyH_take (i := 10) (oi := { dst := some 101, op := Op.move (Operand.tmp 100), type := 4, pos := "law.go:78", after := #[{ on := 9, ground := Ground.data }, { on := 1, ground := Ground.chain }], guard := none }) (v := .bool true) rfl (by kernel_rfl) (by kernel_rfl) (by kernel_rfl) (fun _ _ _ h => h) (Or.inl ⟨by rfl, fun w' hSw => by go_simp⟩) (by assumption) ?qz211
          try simp only [Act.put, List.setIfInBounds_toArray, List.set_cons_zero, List.set_cons_succ]
          refine' wpAnyH_take (i := 11) (oi := { dst := some 102, op := Op.move (Operand.tmp 11), type := 47, pos := "law.go:78", after := #[{ on := 10, ground := Ground.guard }], guard := some (10, true) }) (v := .slice A11 l1 c11) rfl (by kernel_rfl) (by kernel_rfl) (by kernel_rfl) (fun _ _ _ h => h) (Or.inl ⟨by rfl, fun w' hSw => by go_simp⟩) (by assumption) ?qz212
          try simp only [Act.put, List.setIfInBounds_toArray, List.set_cons_zero, List.set_cons_succ]
          refine' wpAnyH_take (i := 12) (oi := { dst := some 103, op := Op.move (Operand.tmp 0), type := 47, pos := "law.go:78", after := #[{ on := 10, ground := Ground.guard }], guard := some (10, true) }) (v := .slice (some ⟨b, o, none⟩) m c) rfl (by kernel_rfl) (by kernel_rfl) (by kernel_rfl) (fun _ _ _ h => h) (Or.inl ⟨by rfl, fun w' hSw => by go_simp⟩) (by assumption) ?qz213
          try simp only [Act.put, List.setIfInBounds_toArray, List.set_cons_zero, List.set_cons_succ]
          refine' wpAnyH_take (i := 13) (oi := { dst := some 104, op := Op.move (Operand.tmp 14), type := 3, pos := "law.go:78", after := #[{ on := 10, ground := Ground.guard }], guard := some (10, true) }) (v := .int .i64 (i : Int)) rfl (by kernel_rfl) (by kernel_rfl) (by kernel_rfl) (fun _ _ _ h => h) (Or.inl ⟨by rfl, fun w' hSw => by go_simp⟩) (by assumption) ?qz214
          try simp only [Act.put, List.setIfInBounds_toArray, List.set_cons_zero, List.set_cons_succ]
          refine wpAnyH_ready (rs := [14]) (by kernel_rfl) (by simp) ?_
          refine AllReadyH.cons (o := { dst := some 105, op := Op.call { callee := Callee.value (Operand.func 20), args := #[Operand.tmp 103, Operand.tmp 104], argTypes := #[47, 3] }, type := 47, pos := "law.go:78", after := #[{ on := 12, ground := Ground.data }, { on := 13, ground := Ground.data }, { on := 10, ground := Ground.chain }, { on := 10, ground := Ground.guard }], guard := some (10, true) }) rfl (fun K hK => ?_) AllReadyH.nil
          rw [if_pos (by rfl)]
          go_simp
          have hcall : Calls Tryd.prog 20 #[.slice (some ⟨b, o, none⟩) m c, .int .i64 (i : Int)] v0 fun e w' => ∃ A' c', e = .returned (.slice A' l1 c') ∧ Kps w' (fun b => v0.heap.size ≤ b ∧ b < w'.heap.size) A' (L.eraseIdx i) ∧ v0.grownBy w' none := (without_any (c := c) (k := i) (Lc.out.grown hg0) HK.out HM.out (by omega) (by omega)).mono fun e w' ⟨A', c', he, _, _, h3, h4⟩ => ⟨A', c', by rw [he, HL1.out], h3, h4⟩
          with_reducible refine hcall.mono ?_
          rintro _ x1 ⟨A20, c20, rfl, hk20, hg1⟩
          refine hK.out _ _ ⟨range_of (B12c.out.grown (hg0.trans hg1) (by simp)), range_keep RGc.out fun h => ((hg0.trans hg1)).block b h (by simp)⟩ (fun hHeld => ?_)
          clear hK K
          try simp only [Act.put, List.setIfInBounds_toArray, List.set_cons_zero, List.set_cons_succ]
          refine wpAnyH_ready (rs := [15]) (by kernel_rfl) (by simp) ?_
          refine AllReadyH.cons (o := { dst := some 106, op := Op.call { callee := Callee.value (Operand.func 18), args := #[Operand.tmp 102, Operand.tmp 105], argTypes := #[47, 47] }, type := 4, pos := "law.go:78", after := #[{ on := 11, ground := Ground.data }, { on := 14, ground := Ground.data }, { on := 14, ground := Ground.chain }, { on := 10, ground := Ground.guard }], guard := some (10, true) }) rfl (fun K hK => ?_) AllReadyH.nil
          rw [if_pos (by rfl)]
          go_simp
          with_reducible refine (same_any (c := c11) (c2 := c20) (K11c.out.grown (hg0.trans hg1)) hk20 HKE.out HL1.out (by omega)).mono ?_
          rintro _ x2 ⟨rfl, hg2⟩
          refine hK.out _ _ ⟨range_of (B12c.out.grown ((hg0.trans hg1).trans hg2) (by simp)), range_keep RGc.out fun h => (((hg0.trans hg1).trans hg2)).block b h (by simp)⟩ (fun hHeld => ?_)
          clear hK K
          try simp only [Act.put, List.setIfInBounds_toArray, List.set_cons_zero, List.set_cons_succ]
          refine' wpAnyH_take (i := 16) (oi := { dst := some 107, op := Op.pick (Operand.tmp 101) (Operand.tmp 106) (Operand.const (Value.bool false)), type := 4, pos := "law.go:78", after := #[{ on := 10, ground := Ground.data }, { on := 15, ground := Ground.data }], guard := none }) (v := .bool true) rfl (by kernel_rfl) (by kernel_rfl) (by kernel_rfl) (fun _ _ _ h => h) (Or.inl ⟨by rfl, fun w' hSw => by go_simp⟩) (by assumption) ?qz215
          try simp only [Act.put, List.setIfInBounds_toArray, List.set_cons_zero, List.set_cons_succ]
          refine' wpAnyH_take (i := 17) (oi := { dst := some 8, op := Op.assign (Operand.tmp 107), type := 4, pos := "law.go:78", after := #[{ on := 16, ground := Ground.data }, { on := 15, ground := Ground.chain }, { on := 0, ground := Ground.phase }, { on := 1, ground := Ground.phase }, { on := 2, ground := Ground.phase }, { on := 3, ground := Ground.phase }, { on := 4, ground := Ground.phase }, { on := 5, ground := Ground.phase }, { on := 6, ground := Ground.phase }, { on := 7, ground := Ground.phase }, { on := 8, ground := Ground.phase }, { on := 9, ground := Ground.phase }, { on := 10, ground := Ground.phase }, { on := 11, ground := Ground.phase }, { on := 12, ground := Ground.phase }, { on := 13, ground := Ground.phase }, { on := 14, ground := Ground.phase }, { on := 15, ground := Ground.phase }, { on := 16, ground := Ground.phase }], guard := none }) (v := .bool true) rfl (by kernel_rfl) (by kernel_rfl) (by kernel_rfl) (fun _ _ _ h => h) (Or.inl ⟨by rfl, fun w' hSw => by go_simp⟩) (by assumption) ?qz216
          try simp only [Act.put, List.setIfInBounds_toArray, List.set_cons_zero, List.set_cons_succ]
          refine wpAnyH_done (by kernel_rfl) ?_ _
          have GE := Lib.hid ((hg0.trans hg1).trans hg2)
          go_wp2
          go_ret
          exact ⟨rfl, ((((G2.out.trans GS.out).trans Gb.out).trans GC.out).trans GE.out)⟩
        · have hpm := plc_lt L r q
          have hpi : plc L r q = -1 := by omega
          have MT : Hid (∀ ws, w2.grownBy ws none → Calls Tryd.prog 19 #[.slice A m c, .agg (u8s r).toArray, .int .u16 (q : Int)] ws fun e w' => ∃ A' c', e = .returned (.tuple #[.slice A' m c', .agg (u8s z32).toArray, .bool false]) ∧ Kps w' (fun b => ws.heap.size ≤ b ∧ b < w'.heap.size) A' L ∧ ws.grownBy w' none) := by
            intro ws hgs
            have h := take_any (c := c) (m := q) (HL.out.grown (G2.out.trans hgs)) HK.out HM.out (by omega) HC.out HR.out
            rw [show takeL L r q = L from if_neg hp2, show takeK L r q = z32 from if_neg hp2, decide_eq_false hp2] at h
            exact h.mono fun e w' ⟨A', c', he, _, _, h3, h4⟩ => ⟨A', c', by rw [he, HM.out], h3, h4⟩
          have HPI := Lib.hid hpi
          clear hpm hpi hp2
          go_wp2_with (first | (go_at_call 9; refine MA.out.mono ?_; rintro _ w3 ⟨rfl, hg3⟩; have G3 := Lib.hid hg3; clear hg3; have B5 := Lib.hid (B5a.out.grown G3.out (by simp)); have M5 := Lib.hid (MKK.out _ _ _ 0 HE.out HLE.out rfl G3.out)) | (refine wpList_loadG agK rfl (.tmp 5) rfl g5 rfl B5.out (kv_length HX.out) ?_) | (go_at_call 16; refine M5.out.mono ?_; rintro _ w4 ⟨A9, c9, rfl, hl3, hl4⟩; have G4 := Lib.hid (G3.out.trans hl4); clear hl3 hl4; have hc5 := blk_num (B5a.out.grown G4.out (by simp)) HXR.out; have R5 := Lib.hid (range_rat (B5a.out.grown G4.out (by simp))); have M17 := Lib.hid (MPP.out _ G4.out)) | (refine wpList_loadR agY rfl (.tmp 41) rfl g5 0 rfl R5.out (by rw [u8s_length, HXR.out]) ?_) | (go_at_call 17; refine M17.out.mono ?_; rintro _ w5 ⟨rfl, hg5⟩; have GS := Lib.hid (G4.out.trans hg5); clear hg5 hc5; have B6s := Lib.hid (B6a.out.grown GS.out (by simp)); have Ls := Lib.hid (HL.out.grown (G2.out.trans GS.out)); have M19 := Lib.hid (MT.out _ GS.out)) | (refine wpList_loadG agA rfl (.tmp 6) rfl g6 rfl B6s.out (by rw [u8s_length, HR.out]) ?_) | (go_at_call 19; refine M19.out.mono ?_; rintro _ wt ⟨A11, c11, rfl, h3, h4⟩; have K11 := Lib.hid h3; have GT := Lib.hid h4; clear h3 h4) | (refine wpList_allocG zeY rfl rfl ?_) | fail)
          intro g12 wa e12 k12 q12
          go_wp2_with (first | (refine wpList_storeG agY rfl _ _ rfl g12 (vs := u8s z32) rfl rfl k12.out (by rw [u8s_length, z32_length]) (by rw [u8s_length, z32_length]) (u8s_one _) ?_) | fail)
          intro wb k12b q12b z12
          have NT : Hid (wt.heap.size ≤ g12) := Nat.le_of_eq e12.out.symm
          have K11b := Lib.hid ((K11.out.grown q12.out).keep (w' := wb) fun b hb _ => q12b.out.block b (Nat.lt_of_lt_of_le hb.2 q12.out.size) (fun e => by have e' := Option.some.inj e; have := NT.out; omega))
          have Gb : Hid (w5.grownBy wb none) := World.grownBy.andThen (GT.out.trans q12.out) q12b.out (by rintro _ ⟨⟩; exact .inl (Nat.le_trans GT.out.size NT.out))
          have B6b := Lib.hid (B6s.out.grown Gb.out (by simp))
          have Lb := Lib.hid (Ls.out.grown Gb.out)
          have MP : Hid (Calls Tryd.prog 17 #[.slice A m c, .agg (u8s r).toArray, .int .u16 (q : Int)] wb fun e w' => e = .returned (.int .i64 (-1)) ∧ wb.grownBy w' none) := by
            have h := at_any (c := c) (n := q) Lb.out HK.out HM.out (by omega) HR.out
            rw [HPI.out] at h
            exact h
          have B12 := Lib.hid k12b.out
          clear e12 k12 q12 k12b q12b z12 MT M19
          go_wp2_with (first | (refine wpList_loadG agA rfl (.tmp 6) rfl g6 rfl B6b.out (by rw [u8s_length, HR.out]) ?_) | (go_at_call 17; refine MP.out.mono ?_; rintro _ wc ⟨rfl, h4⟩; have GC := Lib.hid h4; clear h4; have B12c := Lib.hid (B12.out.grown GC.out (by simp)); have MS := Lib.hid (same_any (c := c11) (c2 := c) (K11b.out.grown GC.out) (Lb.out.grown GC.out) HK.out HM.out (by omega))) | (refine wpList_loadGw agY (by rfl) (.tmp 12) rfl g12 rfl B12c.out (by rw [u8s_length, z32_length]) ?_) | (refine wpList_zeroGw zeY (by rfl) rfl ?_) | (refine wpList_eqs (eqsY z32_length) (by rfl) (.tmp 82) (.tmp 83) rfl rfl rfl ?_) | (go_at_call 18; refine MS.out.mono ?_; rintro _ we ⟨rfl, h4⟩; have GE := Lib.hid h4; clear h4) | fail)
          go_ret
          exact ⟨rfl, ((((G2.out.trans GS.out).trans Gb.out).trans GC.out).trans GE.out)⟩
      · have d3 : ¬ (16 : Int) ≤ (m : Int) := by omega
        have he : keepE L (xr, xn, xk) = 0 := by unfold keepE; dsimp only; rw [← HP.out, if_neg hp0, if_neg (by rw [HM.out]; exact h16)]
        have hl : keepL L (xr, xn, xk) = L ++ [(xr, xn, xk)] := by unfold keepL; rw [he]; rfl
        have HE := Lib.hid he
        have HLE2 := Lib.hid hl
        have HLE : Hid ((L ++ [(xr, xn, xk)]).length = m + 1) := by have := HM.out; show _ = _; rw [List.length_append, this]; rfl
        clear he hl hp0
        go_wp2_with (first | (go_at_call 9; refine MA.out.mono ?_; rintro _ w3 ⟨rfl, hg3⟩; have G3 := Lib.hid hg3; clear hg3; have B5 := Lib.hid (B5a.out.grown G3.out (by simp)); have M5 := Lib.hid (MKK.out _ _ _ (m + 1) HE.out HLE2.out HLE.out G3.out)) | (refine wpList_loadG agK rfl (.tmp 5) rfl g5 rfl B5.out (kv_length HX.out) ?_) | (go_at_call 16; refine M5.out.mono ?_; rintro _ w4 ⟨A9, c9, rfl, hl3, hl4⟩; have G4 := Lib.hid (G3.out.trans hl4); have R4 := Lib.hid hl3; clear hl3 hl4; have hc5 := blk_num (B5a.out.grown G4.out (by simp)) HXR.out; have R5 := Lib.hid (range_rat (B5a.out.grown G4.out (by simp))); have M17 := Lib.hid (MPP.out _ G4.out)) | (refine wpList_loadR agY rfl (.tmp 41) rfl g5 0 rfl R5.out (by rw [u8s_length, HXR.out]) ?_) | (go_at_call 17; refine M17.out.mono ?_; rintro _ w5 ⟨rfl, hg5⟩; have G5 := Lib.hid (G4.out.trans hg5); have R9 := Lib.hid (R4.out.grown hg5); have B5s := Lib.hid (B5a.out.grown G5.out (by simp)); have L5 := Lib.hid (HL.out.grown (G2.out.trans G5.out)); clear hg5 hc5; clear MKK) | fail)
        refine wp_region_held_drew (S := fun W => W.rangeAt g5 0 (kv (xr, xn, xk))) (by kernel_rfl) (range_of B5s.out) (fun hHeld => ?_)
        obtain ⟨v0, hv0⟩ : ∃ v, v = w5.drew := ⟨_, rfl⟩
        have hg0 : w5.grownBy v0 none := by rw [hv0]; exact grown_drew w5
        rw [← hv0] at hHeld ⊢
        clear hv0
        refine' wpAnyH_take (i := 0) (oi := { dst := some 26, op := Op.move (Operand.tmp 10), type := 41, pos := "law.go:69", after := #[], guard := none }) (v := .int .i64 0) rfl (by kernel_rfl) (by kernel_rfl) (by kernel_rfl) (fun _ _ _ h => h) (Or.inl ⟨by rfl, fun w' hSw => by go_simp⟩) (by assumption) ?qz901
        try simp only [Act.put, List.setIfInBounds_toArray, List.set_cons_zero, List.set_cons_succ]
        refine' wpAnyH_take (i := 1) (oi := { dst := some 27, op := Op.binOp BinOp.neq 41 (Operand.tmp 26) (Operand.const (Value.int IntKind.i64 0)) 41, type := 4, pos := "law.go:69", after := #[{ on := 0, ground := Ground.data }], guard := none }) (v := .bool false) rfl (by kernel_rfl) (by kernel_rfl) (by kernel_rfl) (fun _ _ _ h => h) (Or.inl ⟨by rfl, fun w' hSw => by go_simp⟩) (by assumption) ?qz902
        try simp only [Act.put, List.setIfInBounds_toArray, List.set_cons_zero, List.set_cons_succ]
        refine' wpAnyH_take (i := 2) (oi := { dst := some 28, op := Op.move (Operand.tmp 27), type := 4, pos := "law.go:69", after := #[{ on := 1, ground := Ground.data }], guard := none }) (v := .bool false) rfl (by kernel_rfl) (by kernel_rfl) (by kernel_rfl) (fun _ _ _ h => h) (Or.inl ⟨by rfl, fun w' hSw => by go_simp⟩) (by assumption) ?qz903
        try simp only [Act.put, List.setIfInBounds_toArray, List.set_cons_zero, List.set_cons_succ]
        refine' wpAnyH_take (i := 3) (oi := { dst := some 29, op := Op.move (Operand.tmp 9), type := 47, pos := "law.go:69", after := #[{ on := 2, ground := Ground.guard }], guard := some (2, false) }) (v := .slice A9 (m + 1 : Nat) c9) rfl (by kernel_rfl) (by kernel_rfl) (by kernel_rfl) (fun _ _ _ h => h) (Or.inl ⟨by rfl, fun w' hSw => by go_simp⟩) (by assumption) ?qz904
        try simp only [Act.put, List.setIfInBounds_toArray, List.set_cons_zero, List.set_cons_succ]
        refine' wpAnyH_take (i := 5) (oi := { dst := some 31, op := Op.move (Operand.tmp 0), type := 47, pos := "law.go:69", after := #[{ on := 2, ground := Ground.guard }], guard := some (2, false) }) (v := .slice A m c) rfl (by kernel_rfl) (by kernel_rfl) (by kernel_rfl) (fun _ _ _ h => h) (Or.inl ⟨by rfl, fun w' hSw => by go_simp⟩) (by assumption) ?qz905
        try simp only [Act.put, List.setIfInBounds_toArray, List.set_cons_zero, List.set_cons_succ]
        refine' wpAnyH_take (i := 7) (oi := { dst := some 33, op := Op.load 49 (Operand.tmp 5), type := 49, pos := "law.go:69", after := #[{ on := 2, ground := Ground.guard }], guard := some (2, false) }) (v := .agg (kv (xr, xn, xk)).toArray) rfl (by kernel_rfl) (by kernel_rfl) (by kernel_rfl) (fun _ _ _ h => h) (yieldsIf_loadR agK (by rfl) (.tmp 5) rfl g5 0 rfl (kv_length HX.out) (fun _ h => h)) (by assumption) ?qz906
        try simp only [Act.put, List.setIfInBounds_toArray, List.set_cons_zero, List.set_cons_succ]
        refine wpAnyH_ready (rs := [4, 8]) (by kernel_rfl) (by simp) ?_
        refine AllReadyH.cons (o := { dst := some 30, op := Op.buildSlice 47 0 #[], type := 47, pos := "law.go:69", after := #[{ on := 2, ground := Ground.guard }], guard := some (2, false) }) rfl (fun K hK => ?_) (AllReadyH.cons (o := { dst := some 34, op := Op.buildSlice 47 1 #[(0, Operand.tmp 33)], type := 47, pos := "law.go:69", after := #[{ on := 7, ground := Ground.data }, { on := 2, ground := Ground.guard }], guard := some (2, false) }) rfl (fun K hK => ?_) AllReadyH.nil)
        · rw [if_pos (by rfl)]
          refine wp_slice0K rfl (fun gz908 vz907 hz909 => ?_)
          refine hK.out _ _ (range_of (B5s.out.grown (hg0.trans hz909.out) (by simp))) (fun hHeld => ?_)
          clear hK K
          dsimp only [Act.put]
          refine wpAnyH_ready (rs := [6, 8]) (by kernel_rfl) (by simp) ?_
          refine AllReadyH.cons (o := { dst := some 32, op := Op.call { callee := Callee.builtin Builtin.append, args := #[Operand.tmp 30, Operand.tmp 31], argTypes := #[47, 47] }, type := 47, pos := "law.go:69", after := #[{ on := 4, ground := Ground.data }, { on := 5, ground := Ground.data }, { on := 2, ground := Ground.chain }, { on := 2, ground := Ground.guard }], guard := some (2, false) }) rfl (fun K hK => ?_) (AllReadyH.cons (o := { dst := some 34, op := Op.buildSlice 47 1 #[(0, Operand.tmp 33)], type := 47, pos := "law.go:69", after := #[{ on := 7, ground := Ground.data }, { on := 2, ground := Ground.guard }], guard := some (2, false) }) rfl (fun K hK => ?_) AllReadyH.nil)
          · rw [if_pos (by rfl)]
            refine op_appK (.tmp 30) (.tmp 31) rfl (v := .slice (some ⟨gz908, 0, none⟩) 0 0) (c2 := c) (k := m) rfl rfl (KRow.mk0 vz907.heap.size vz907 _) HK.out (L5.out.grown (hg0.trans hz909.out)) HM.out (Nat.zero_add m) (by omega) (Nat.le_refl _) (fun Az911 cz912 vz910 rz913 lz914 => ?_)
            refine hK.out _ _ (range_of (B5s.out.grown ((hg0.trans hz909.out).trans (below_grown lz914.out)) (by simp))) (fun hHeld => ?_)
            clear hK K
            dsimp only [Act.put]
            refine wpAnyH_ready (rs := [8]) (by kernel_rfl) (by simp) ?_
            refine AllReadyH.cons (o := { dst := some 34, op := Op.buildSlice 47 1 #[(0, Operand.tmp 33)], type := 47, pos := "law.go:69", after := #[{ on := 7, ground := Ground.data }, { on := 2, ground := Ground.guard }], guard := some (2, false) }) rfl (fun K hK => ?_) AllReadyH.nil
            rw [if_pos (by rfl)]
            refine wp_sliceK (.tmp 33) rfl HX.out rfl (fun gz916 vz915 ez919 kz918 hz917 => ?_)
            refine hK.out _ _ (range_of (B5s.out.grown (((hg0.trans hz909.out).trans (below_grown lz914.out)).trans hz917.out) (by simp))) (fun hHeld => ?_)
            clear hK K
            dsimp only [Act.put]
            refine wpAnyH_ready (rs := [9]) (by kernel_rfl) (by simp) ?_
            refine AllReadyH.cons (o := { dst := some 35, op := Op.call { callee := Callee.builtin Builtin.append, args := #[Operand.tmp 32, Operand.tmp 34], argTypes := #[47, 47] }, type := 47, pos := "law.go:69", after := #[{ on := 6, ground := Ground.data }, { on := 8, ground := Ground.data }, { on := 6, ground := Ground.chain }, { on := 2, ground := Ground.guard }], guard := some (2, false) }) rfl (fun K hK => ?_) AllReadyH.nil
            rw [if_pos (by rfl)]
            refine op_appK (.tmp 32) (.tmp 34) rfl (v := .slice Az911 m cz912) (c2 := 1) (k := m + 1) rfl rfl (rz913.out.up (grown_below hz917.out)) (KAll.one HX.out) kz918.out rfl rfl (by omega) (Nat.le_trans lz914.out.size hz917.out.size) (fun Az921 cz922 vz920 rz923 lz924 => ?_)
            refine hK.out _ _ (range_of (B5s.out.grown (grown_app (((hg0.trans hz909.out).trans (below_grown lz914.out)).trans hz917.out) ((hg0.trans hz909.out)).size lz924.out) (by simp))) (fun hHeld => ?_)
            clear hK K
            dsimp only [Act.put]
            refine wpAnyH_ready (rs := [10]) (by kernel_rfl) (by simp) ?_
            refine AllReadyH.cons (o := { dst := some 36, op := Op.call { callee := Callee.value (Operand.func 18), args := #[Operand.tmp 29, Operand.tmp 35], argTypes := #[47, 47] }, type := 4, pos := "law.go:69", after := #[{ on := 3, ground := Ground.data }, { on := 9, ground := Ground.data }, { on := 9, ground := Ground.chain }, { on := 2, ground := Ground.guard }], guard := some (2, false) }) rfl (fun K hK => ?_) AllReadyH.nil
            rw [if_pos (by rfl)]
            go_simp
            obtain ⟨Ax, cx, ex, _, _, hkx⟩ := rz923.out.kps
            obtain ⟨rfl, rfl⟩ : Az921 = Ax ∧ cz922 = cx := by cases ex; exact ⟨rfl, rfl⟩
            with_reducible refine (same_any (c := c9) (c2 := cz922) (R9.out.grown (grown_app (((hg0.trans hz909.out).trans (below_grown lz914.out)).trans hz917.out) ((hg0.trans hz909.out)).size lz924.out)) hkx (HK.out.append (KAll.one HX.out)) HLE.out (by omega)).mono ?_
            rintro _ vz925 ⟨rfl, hz926⟩
            refine hK.out _ _ (range_of (B5s.out.grown ((grown_app (((hg0.trans hz909.out).trans (below_grown lz914.out)).trans hz917.out) ((hg0.trans hz909.out)).size lz924.out).trans hz926) (by simp))) (fun hHeld => ?_)
            clear hK K
            try simp only [Act.put, List.setIfInBounds_toArray, List.set_cons_zero, List.set_cons_succ]
            refine' wpAnyH_take (i := 11) (oi := { dst := some 37, op := Op.unOp UnOp.not 4 (Operand.tmp 36), type := 4, pos := "law.go:69", after := #[{ on := 10, ground := Ground.data }, { on := 2, ground := Ground.guard }], guard := some (2, false) }) (v := .bool false) rfl (by kernel_rfl) (by kernel_rfl) (by kernel_rfl) (fun _ _ _ h => h) (Or.inl ⟨by rfl, fun w' hSw => by go_simp⟩) (by assumption) ?qz927
            try simp only [Act.put, List.setIfInBounds_toArray, List.set_cons_zero, List.set_cons_succ]
            refine' wpAnyH_take (i := 12) (oi := { dst := some 38, op := Op.pick (Operand.tmp 28) (Operand.const (Value.bool true)) (Operand.tmp 37), type := 4, pos := "law.go:69", after := #[{ on := 2, ground := Ground.data }, { on := 11, ground := Ground.data }], guard := none }) (v := .bool false) rfl (by kernel_rfl) (by kernel_rfl) (by kernel_rfl) (fun _ _ _ h => h) (Or.inl ⟨by rfl, fun w' hSw => by go_simp⟩) (by assumption) ?qz928
            try simp only [Act.put, List.setIfInBounds_toArray, List.set_cons_zero, List.set_cons_succ]
            refine wpAnyH_done (by kernel_rfl) ?_ _
            have GE := Lib.hid ((grown_app (((hg0.trans hz909.out).trans (below_grown lz914.out)).trans hz917.out) ((hg0.trans hz909.out)).size lz924.out).trans hz926)
            have GS := Lib.hid (G5.out.trans GE.out)
            by_cases hp2 : 0 ≤ plc L r q
            · obtain ⟨i, hi, hpi⟩ := plc_at hp2
              have d5 : ¬ (i : Int) < 0 := by omega
              have him : i < m := by have := HM.out; omega
              obtain ⟨kt, hkt⟩ : ∃ t, t = (L[i]'hi).2.2 := ⟨_, rfl⟩
              have hktl : kt.length = 32 := by rw [hkt]; exact (HK.out.at i hi).2.2
              obtain ⟨l1, hl1⟩ : ∃ t, (L.eraseIdx i).length = t := ⟨_, rfl⟩
              have hl1b : l1 ≤ 100 := by rw [← hl1, List.length_eraseIdx_of_lt hi]; have := HM.out; omega
              have hKE : KAll (L.eraseIdx i) := fun y hy => HK.out y (List.mem_of_mem_eraseIdx hy)
              obtain ⟨b, o, hA, _, hrg⟩ := HL.out i hi
              have hrgk : w.rangeAt b (o + 65 * i + 33) (u8s kt) := by rw [hkt]; exact range_key (HK.out.at i hi) hrg
              have MT : Hid (∀ ws, w2.grownBy ws none → Calls Tryd.prog 19 #[.slice A m c, .agg (u8s r).toArray, .int .u16 (q : Int)] ws fun e w' => ∃ A' c', e = .returned (.tuple #[.slice A' l1 c', .agg (u8s kt).toArray, .bool true]) ∧ Kps w' (fun b => ws.heap.size ≤ b ∧ b < w'.heap.size) A' (L.eraseIdx i) ∧ ws.grownBy w' none) := by
                intro ws hgs
                have h := take_any (c := c) (m := q) (HL.out.grown (G2.out.trans hgs)) HK.out HM.out (by omega) HC.out HR.out
                rw [takeL_at hp2 hpi, takeK_at hp2 hpi hi, decide_eq_true hp2] at h
                exact h.mono fun e w' ⟨A', c', he, _, _, h3, h4⟩ => ⟨A', c', by rw [he, hl1, hkt], h3, h4⟩
              have HPI := Lib.hid hpi; have KT := Lib.hid hkt; have KTL := Lib.hid hktl; have HL1 := Lib.hid hl1; have HKE := Lib.hid hKE; have HI := Lib.hid hi; have RG0 := Lib.hid hrgk
              clear hpi hkt hktl hl1 hKE hrgk hrg hp2
              subst hA
              have B6s := Lib.hid (B6a.out.grown GS.out (by simp))
              have Ls := Lib.hid (HL.out.grown (G2.out.trans GS.out))
              have M19 := Lib.hid (MT.out _ GS.out)
              have RG : Hid (vz925.rangeAt b (o + 65 * i + 33) (u8s kt)) := range_keep RG0.out fun h => (G2.out.trans GS.out).block b h (by simp)
              go_wp2_with (first | (refine wpList_loadG agA rfl (.tmp 6) rfl g6 rfl B6s.out (by rw [u8s_length, HR.out]) ?_) | (go_at_call 19; refine M19.out.mono ?_; rintro _ wt ⟨A11, c11, rfl, h3, h4⟩; have K11 := Lib.hid h3; have GT := Lib.hid h4; clear h3 h4) | (refine wpList_allocG zeY rfl rfl ?_) | fail)
              intro g12 wa e12 k12 q12
              go_wp2_with (first | (refine wpList_storeG agY rfl _ _ rfl g12 (vs := u8s kt) rfl rfl k12.out (by rw [u8s_length, z32_length]) (by rw [u8s_length, KTL.out]) (u8s_one _) ?_) | fail)
              intro wb k12b q12b z12
              have NT : Hid (wt.heap.size ≤ g12) := Nat.le_of_eq e12.out.symm
              have K11b := Lib.hid ((K11.out.grown q12.out).keep (w' := wb) fun b hb _ => q12b.out.block b (Nat.lt_of_lt_of_le hb.2 q12.out.size) (fun e => by have e' := Option.some.inj e; have := NT.out; omega))
              have Gb : Hid (vz925.grownBy wb none) := World.grownBy.andThen (GT.out.trans q12.out) q12b.out (by rintro _ ⟨⟩; exact .inl (Nat.le_trans GT.out.size NT.out))
              have B6b := Lib.hid (B6s.out.grown Gb.out (by simp))
              have Lb := Lib.hid (Ls.out.grown Gb.out)
              have RGb : Hid (wb.rangeAt b (o + 65 * i + 33) (u8s kt)) := range_keep RG.out fun h => Gb.out.block b h (by simp)
              have MP : Hid (Calls Tryd.prog 17 #[.slice (some ⟨b, o, none⟩) m c, .agg (u8s r).toArray, .int .u16 (q : Int)] wb fun e w' => e = .returned (.int .i64 (i : Int)) ∧ wb.grownBy w' none) := by
                have h := at_any (c := c) (n := q) Lb.out HK.out HM.out (by omega) HR.out
                rw [HPI.out] at h
                exact h
              have B12 := Lib.hid k12b.out
              clear e12 k12 q12 k12b q12b z12 MT M19
              go_wp2_with (first | (refine wpList_loadG agA rfl (.tmp 6) rfl g6 rfl B6b.out (by rw [u8s_length, HR.out]) ?_) | (go_at_call 17; refine MP.out.mono ?_; rintro _ wc ⟨rfl, h4⟩; have GC := Lib.hid h4; clear h4) | fail)
              have B12c := Lib.hid (B12.out.grown GC.out (by simp))
              have RGc : Hid (wc.rangeAt b (o + 65 * i + 33) (u8s kt)) := range_keep RGb.out fun h => GC.out.block b h (by simp)
              have Lc := Lib.hid (Lb.out.grown GC.out)
              have K11c := Lib.hid (K11b.out.grown GC.out)
              refine wp_region_held_drew (S := fun W => W.rangeAt g12 0 (u8s kt) ∧ W.rangeAt b (o + 65 * i + 33) (u8s kt)) (by kernel_rfl) ⟨range_of B12c.out, RGc.out⟩ (fun hHeld => ?_)
              obtain ⟨v0, hv0⟩ : ∃ v, v = wc.drew := ⟨_, rfl⟩
              have hg0 : wc.grownBy v0 none := by rw [hv0]; exact grown_drew wc
              rw [← hv0] at hHeld ⊢
              clear hv0
              refine' wpAnyH_take (i := 0) (oi := { dst := some 91, op := Op.move (Operand.tmp 13), type := 4, pos := "law.go:78", after := #[], guard := none }) (v := .bool true) rfl (by kernel_rfl) (by kernel_rfl) (by kernel_rfl) (fun _ _ _ h => h) (Or.inl ⟨by rfl, fun w' hSw => by go_simp⟩) (by assumption) ?qz301
              try simp only [Act.put, List.setIfInBounds_toArray, List.set_cons_zero, List.set_cons_succ]
              refine' wpAnyH_take (i := 1) (oi := { dst := some 92, op := Op.move (Operand.tmp 91), type := 4, pos := "law.go:78", after := #[{ on := 0, ground := Ground.data }], guard := none }) (v := .bool true) rfl (by kernel_rfl) (by kernel_rfl) (by kernel_rfl) (fun _ _ _ h => h) (Or.inl ⟨by rfl, fun w' hSw => by go_simp⟩) (by assumption) ?qz302
              try simp only [Act.put, List.setIfInBounds_toArray, List.set_cons_zero, List.set_cons_succ]
              refine' wpAnyH_take (i := 2) (oi := { dst := some 93, op := Op.load 24 (Operand.tmp 12), type := 24, pos := "law.go:78", after := #[{ on := 1, ground := Ground.guard }], guard := some (1, true) }) (v := .agg (u8s kt).toArray) rfl (by kernel_rfl) (by kernel_rfl) (by kernel_rfl) (fun _ _ _ h => h) (yieldsIf_loadR agY (by rfl) (.tmp 12) rfl g12 0 rfl (by rw [u8s_length, KTL.out]) (fun _ h => h.1)) (by assumption) ?qz303
              try simp only [Act.put, List.setIfInBounds_toArray, List.set_cons_zero, List.set_cons_succ]
              refine' wpAnyH_take (i := 3) (oi := { dst := some 94, op := Op.move (Operand.tmp 0), type := 47, pos := "law.go:78", after := #[{ on := 1, ground := Ground.guard }], guard := some (1, true) }) (v := .slice (some ⟨b, o, none⟩) m c) rfl (by kernel_rfl) (by kernel_rfl) (by kernel_rfl) (fun _ _ _ h => h) (Or.inl ⟨by rfl, fun w' hSw => by go_simp⟩) (by assumption) ?qz304
              try simp only [Act.put, List.setIfInBounds_toArray, List.set_cons_zero, List.set_cons_succ]
              refine' wpAnyH_take (i := 4) (oi := { dst := some 95, op := Op.move (Operand.tmp 14), type := 3, pos := "law.go:78", after := #[{ on := 1, ground := Ground.guard }], guard := some (1, true) }) (v := .int .i64 (i : Int)) rfl (by kernel_rfl) (by kernel_rfl) (by kernel_rfl) (fun _ _ _ h => h) (Or.inl ⟨by rfl, fun w' hSw => by go_simp⟩) (by assumption) ?qz305
              try simp only [Act.put, List.setIfInBounds_toArray, List.set_cons_zero, List.set_cons_succ]
              refine' wpAnyH_take (i := 5) (oi := { dst := some 96, op := Op.indexAddr 47 (Operand.tmp 94) (Operand.tmp 95), type := 0, pos := "law.go:78", after := #[{ on := 3, ground := Ground.data }, { on := 4, ground := Ground.data }, { on := 1, ground := Ground.guard }], guard := some (1, true) }) (v := .pointer (some ⟨b, o + 65 * i, none⟩)) rfl (by kernel_rfl) (by kernel_rfl) (by kernel_rfl) (fun _ _ _ h => h) (yieldsIf_indexK (by rfl) (.tmp 94) (.tmp 95) rfl b o m c i rfl rfl him) (by assumption) ?qz306
              try simp only [Act.put, List.setIfInBounds_toArray, List.set_cons_zero, List.set_cons_succ]
              refine' wpAnyH_take (i := 6) (oi := { dst := some 97, op := Op.fieldAddr 49 (Operand.tmp 96) 2, type := 0, pos := "law.go:78", after := #[{ on := 5, ground := Ground.data }, { on := 1, ground := Ground.guard }], guard := some (1, true) }) (v := .pointer (some ⟨b, o + 65 * i + 33, none⟩)) rfl (by kernel_rfl) (by kernel_rfl) (by kernel_rfl) (fun _ _ _ h => h) (Or.inl ⟨by rfl, fun w' hSw => by go_simp⟩) (by assumption) ?qz307
              try simp only [Act.put, List.setIfInBounds_toArray, List.set_cons_zero, List.set_cons_succ]
              refine' wpAnyH_take (i := 7) (oi := { dst := some 98, op := Op.load 24 (Operand.tmp 97), type := 24, pos := "law.go:78", after := #[{ on := 6, ground := Ground.data }, { on := 1, ground := Ground.guard }], guard := some (1, true) }) (v := .agg (u8s kt).toArray) rfl (by kernel_rfl) (by kernel_rfl) (by kernel_rfl) (fun _ _ _ h => h) (yieldsIf_loadR agY (by rfl) (.tmp 97) rfl b (o + 65 * i + 33) rfl (by rw [u8s_length, KTL.out]) (fun _ h => h.2)) (by assumption) ?qz308
              try simp only [Act.put, List.setIfInBounds_toArray, List.set_cons_zero, List.set_cons_succ]
              refine' wpAnyH_take (i := 8) (oi := { dst := some 99, op := Op.binOp BinOp.eql 24 (Operand.tmp 93) (Operand.tmp 98) 24, type := 4, pos := "law.go:78", after := #[{ on := 2, ground := Ground.data }, { on := 7, ground := Ground.data }, { on := 1, ground := Ground.guard }], guard := some (1, true) }) (v := .bool true) rfl (by kernel_rfl) (by kernel_rfl) (by kernel_rfl) (fun _ _ _ h => h) (yieldsIf_eqs (eqsY KTL.out) (by rfl) (.tmp 93) (.tmp 98) rfl rfl rfl) (by assumption) ?qz309
              try simp only [Act.put, List.setIfInBounds_toArray, List.set_cons_zero, List.set_cons_succ]
              refine' wpAnyH_take (i := 9) (oi := { dst := some 100, op := Op.pick (Operand.tmp 92) (Operand.tmp 99) (Operand.const (Value.bool false)), type := 4, pos := "law.go:78", after := #[{ on := 1, ground := Ground.data }, { on := 8, ground := Ground.data }], guard := none }) (v := .bool true) rfl (by kernel_rfl) (by kernel_rfl) (by kernel_rfl) (fun _ _ _ h => h) (Or.inl ⟨by rfl, fun w' hSw => by go_simp⟩) (by assumption) ?qz310
              try simp only [Act.put, List.setIfInBounds_toArray, List.set_cons_zero, List.set_cons_succ]
              refine' wpAnyH_take (i := 10) (oi := { dst := some 101, op := Op.move (Operand.tmp 100), type := 4, pos := "law.go:78", after := #[{ on := 9, ground := Ground.data }, { on := 1, ground := Ground.chain }], guard := none }) (v := .bool true) rfl (by kernel_rfl) (by kernel_rfl) (by kernel_rfl) (fun _ _ _ h => h) (Or.inl ⟨by rfl, fun w' hSw => by go_simp⟩) (by assumption) ?qz311
              try simp only [Act.put, List.setIfInBounds_toArray, List.set_cons_zero, List.set_cons_succ]
              refine' wpAnyH_take (i := 11) (oi := { dst := some 102, op := Op.move (Operand.tmp 11), type := 47, pos := "law.go:78", after := #[{ on := 10, ground := Ground.guard }], guard := some (10, true) }) (v := .slice A11 l1 c11) rfl (by kernel_rfl) (by kernel_rfl) (by kernel_rfl) (fun _ _ _ h => h) (Or.inl ⟨by rfl, fun w' hSw => by go_simp⟩) (by assumption) ?qz312
              try simp only [Act.put, List.setIfInBounds_toArray, List.set_cons_zero, List.set_cons_succ]
              refine' wpAnyH_take (i := 12) (oi := { dst := some 103, op := Op.move (Operand.tmp 0), type := 47, pos := "law.go:78", after := #[{ on := 10, ground := Ground.guard }], guard := some (10, true) }) (v := .slice (some ⟨b, o, none⟩) m c) rfl (by kernel_rfl) (by kernel_rfl) (by kernel_rfl) (fun _ _ _ h => h) (Or.inl ⟨by rfl, fun w' hSw => by go_simp⟩) (by assumption) ?qz313
              try simp only [Act.put, List.setIfInBounds_toArray, List.set_cons_zero, List.set_cons_succ]
              refine' wpAnyH_take (i := 13) (oi := { dst := some 104, op := Op.move (Operand.tmp 14), type := 3, pos := "law.go:78", after := #[{ on := 10, ground := Ground.guard }], guard := some (10, true) }) (v := .int .i64 (i : Int)) rfl (by kernel_rfl) (by kernel_rfl) (by kernel_rfl) (fun _ _ _ h => h) (Or.inl ⟨by rfl, fun w' hSw => by go_simp⟩) (by assumption) ?qz314
              try simp only [Act.put, List.setIfInBounds_toArray, List.set_cons_zero, List.set_cons_succ]
              refine wpAnyH_ready (rs := [14]) (by kernel_rfl) (by simp) ?_
              refine AllReadyH.cons (o := { dst := some 105, op := Op.call { callee := Callee.value (Operand.func 20), args := #[Operand.tmp 103, Operand.tmp 104], argTypes := #[47, 3] }, type := 47, pos := "law.go:78", after := #[{ on := 12, ground := Ground.data }, { on := 13, ground := Ground.data }, { on := 10, ground := Ground.chain }, { on := 10, ground := Ground.guard }], guard := some (10, true) }) rfl (fun K hK => ?_) AllReadyH.nil
              rw [if_pos (by rfl)]
              go_simp
              have hcall : Calls Tryd.prog 20 #[.slice (some ⟨b, o, none⟩) m c, .int .i64 (i : Int)] v0 fun e w' => ∃ A' c', e = .returned (.slice A' l1 c') ∧ Kps w' (fun b => v0.heap.size ≤ b ∧ b < w'.heap.size) A' (L.eraseIdx i) ∧ v0.grownBy w' none := (without_any (c := c) (k := i) (Lc.out.grown hg0) HK.out HM.out (by omega) (by omega)).mono fun e w' ⟨A', c', he, _, _, h3, h4⟩ => ⟨A', c', by rw [he, HL1.out], h3, h4⟩
              with_reducible refine hcall.mono ?_
              rintro _ x1 ⟨A20, c20, rfl, hk20, hg1⟩
              refine hK.out _ _ ⟨range_of (B12c.out.grown (hg0.trans hg1) (by simp)), range_keep RGc.out fun h => ((hg0.trans hg1)).block b h (by simp)⟩ (fun hHeld => ?_)
              clear hK K
              try simp only [Act.put, List.setIfInBounds_toArray, List.set_cons_zero, List.set_cons_succ]
              refine wpAnyH_ready (rs := [15]) (by kernel_rfl) (by simp) ?_
              refine AllReadyH.cons (o := { dst := some 106, op := Op.call { callee := Callee.value (Operand.func 18), args := #[Operand.tmp 102, Operand.tmp 105], argTypes := #[47, 47] }, type := 4, pos := "law.go:78", after := #[{ on := 11, ground := Ground.data }, { on := 14, ground := Ground.data }, { on := 14, ground := Ground.chain }, { on := 10, ground := Ground.guard }], guard := some (10, true) }) rfl (fun K hK => ?_) AllReadyH.nil
              rw [if_pos (by rfl)]
              go_simp
              with_reducible refine (same_any (c := c11) (c2 := c20) (K11c.out.grown (hg0.trans hg1)) hk20 HKE.out HL1.out (by omega)).mono ?_
              rintro _ x2 ⟨rfl, hg2⟩
              refine hK.out _ _ ⟨range_of (B12c.out.grown ((hg0.trans hg1).trans hg2) (by simp)), range_keep RGc.out fun h => (((hg0.trans hg1).trans hg2)).block b h (by simp)⟩ (fun hHeld => ?_)
              clear hK K
              try simp only [Act.put, List.setIfInBounds_toArray, List.set_cons_zero, List.set_cons_succ]
              refine' wpAnyH_take (i := 16) (oi := { dst := some 107, op := Op.pick (Operand.tmp 101) (Operand.tmp 106) (Operand.const (Value.bool false)), type := 4, pos := "law.go:78", after := #[{ on := 10, ground := Ground.data }, { on := 15, ground := Ground.data }], guard := none }) (v := .bool true) rfl (by kernel_rfl) (by kernel_rfl) (by kernel_rfl) (fun _ _ _ h => h) (Or.inl ⟨by rfl, fun w' hSw => by go_simp⟩) (by assumption) ?qz315
              try simp only [Act.put, List.setIfInBounds_toArray, List.set_cons_zero, List.set_cons_succ]
              refine' wpAnyH_take (i := 17) (oi := { dst := some 8, op := Op.assign (Operand.tmp 107), type := 4, pos := "law.go:78", after := #[{ on := 16, ground := Ground.data }, { on := 15, ground := Ground.chain }, { on := 0, ground := Ground.phase }, { on := 1, ground := Ground.phase }, { on := 2, ground := Ground.phase }, { on := 3, ground := Ground.phase }, { on := 4, ground := Ground.phase }, { on := 5, ground := Ground.phase }, { on := 6, ground := Ground.phase }, { on := 7, ground := Ground.phase }, { on := 8, ground := Ground.phase }, { on := 9, ground := Ground.phase }, { on := 10, ground := Ground.phase }, { on := 11, ground := Ground.phase }, { on := 12, ground := Ground.phase }, { on := 13, ground := Ground.phase }, { on := 14, ground := Ground.phase }, { on := 15, ground := Ground.phase }, { on := 16, ground := Ground.phase }], guard := none }) (v := .bool true) rfl (by kernel_rfl) (by kernel_rfl) (by kernel_rfl) (fun _ _ _ h => h) (Or.inl ⟨by rfl, fun w' hSw => by go_simp⟩) (by assumption) ?qz316
              try simp only [Act.put, List.setIfInBounds_toArray, List.set_cons_zero, List.set_cons_succ]
              refine wpAnyH_done (by kernel_rfl) ?_ _
              have GE := Lib.hid ((hg0.trans hg1).trans hg2)
              go_wp2
              go_ret
              exact ⟨rfl, ((((G2.out.trans GS.out).trans Gb.out).trans GC.out).trans GE.out)⟩
            · have hpm := plc_lt L r q
              have hpi : plc L r q = -1 := by omega
              have MT : Hid (∀ ws, w2.grownBy ws none → Calls Tryd.prog 19 #[.slice A m c, .agg (u8s r).toArray, .int .u16 (q : Int)] ws fun e w' => ∃ A' c', e = .returned (.tuple #[.slice A' m c', .agg (u8s z32).toArray, .bool false]) ∧ Kps w' (fun b => ws.heap.size ≤ b ∧ b < w'.heap.size) A' L ∧ ws.grownBy w' none) := by
                intro ws hgs
                have h := take_any (c := c) (m := q) (HL.out.grown (G2.out.trans hgs)) HK.out HM.out (by omega) HC.out HR.out
                rw [show takeL L r q = L from if_neg hp2, show takeK L r q = z32 from if_neg hp2, decide_eq_false hp2] at h
                exact h.mono fun e w' ⟨A', c', he, _, _, h3, h4⟩ => ⟨A', c', by rw [he, HM.out], h3, h4⟩
              have HPI := Lib.hid hpi
              clear hpm hpi hp2
              have B6s := Lib.hid (B6a.out.grown GS.out (by simp))
              have Ls := Lib.hid (HL.out.grown (G2.out.trans GS.out))
              have M19 := Lib.hid (MT.out _ GS.out)
              go_wp2_with (first | (refine wpList_loadG agA rfl (.tmp 6) rfl g6 rfl B6s.out (by rw [u8s_length, HR.out]) ?_) | (go_at_call 19; refine M19.out.mono ?_; rintro _ wt ⟨A11, c11, rfl, h3, h4⟩; have K11 := Lib.hid h3; have GT := Lib.hid h4; clear h3 h4) | (refine wpList_allocG zeY rfl rfl ?_) | fail)
              intro g12 wa e12 k12 q12
              go_wp2_with (first | (refine wpList_storeG agY rfl _ _ rfl g12 (vs := u8s z32) rfl rfl k12.out (by rw [u8s_length, z32_length]) (by rw [u8s_length, z32_length]) (u8s_one _) ?_) | fail)
              intro wb k12b q12b z12
              have NT : Hid (wt.heap.size ≤ g12) := Nat.le_of_eq e12.out.symm
              have K11b := Lib.hid ((K11.out.grown q12.out).keep (w' := wb) fun b hb _ => q12b.out.block b (Nat.lt_of_lt_of_le hb.2 q12.out.size) (fun e => by have e' := Option.some.inj e; have := NT.out; omega))
              have Gb : Hid (vz925.grownBy wb none) := World.grownBy.andThen (GT.out.trans q12.out) q12b.out (by rintro _ ⟨⟩; exact .inl (Nat.le_trans GT.out.size NT.out))
              have B6b := Lib.hid (B6s.out.grown Gb.out (by simp))
              have Lb := Lib.hid (Ls.out.grown Gb.out)
              have MP : Hid (Calls Tryd.prog 17 #[.slice A m c, .agg (u8s r).toArray, .int .u16 (q : Int)] wb fun e w' => e = .returned (.int .i64 (-1)) ∧ wb.grownBy w' none) := by
                have h := at_any (c := c) (n := q) Lb.out HK.out HM.out (by omega) HR.out
                rw [HPI.out] at h
                exact h
              have B12 := Lib.hid k12b.out
              clear e12 k12 q12 k12b q12b z12 MT M19
              go_wp2_with (first | (refine wpList_loadG agA rfl (.tmp 6) rfl g6 rfl B6b.out (by rw [u8s_length, HR.out]) ?_) | (go_at_call 17; refine MP.out.mono ?_; rintro _ wc ⟨rfl, h4⟩; have GC := Lib.hid h4; clear h4; have B12c := Lib.hid (B12.out.grown GC.out (by simp)); have MS := Lib.hid (same_any (c := c11) (c2 := c) (K11b.out.grown GC.out) (Lb.out.grown GC.out) HK.out HM.out (by omega))) | (refine wpList_loadGw agY (by rfl) (.tmp 12) rfl g12 rfl B12c.out (by rw [u8s_length, z32_length]) ?_) | (refine wpList_zeroGw zeY (by rfl) rfl ?_) | (refine wpList_eqs (eqsY z32_length) (by rfl) (.tmp 82) (.tmp 83) rfl rfl rfl ?_) | (go_at_call 18; refine MS.out.mono ?_; rintro _ we ⟨rfl, h4⟩; have GE := Lib.hid h4; clear h4) | fail)
              go_ret
              exact ⟨rfl, ((((G2.out.trans GS.out).trans Gb.out).trans GC.out).trans GE.out)⟩
          · rw [if_pos (by rfl)]
            refine wp_sliceK (.tmp 33) rfl HX.out rfl (fun gz930 vz929 ez933 kz932 hz931 => ?_)
            refine hK.out _ _ (range_of (B5s.out.grown ((hg0.trans hz909.out).trans hz931.out) (by simp))) (fun hHeld => ?_)
            clear hK K
            dsimp only [Act.put]
            refine wpAnyH_ready (rs := [6]) (by kernel_rfl) (by simp) ?_
            refine AllReadyH.cons (o := { dst := some 32, op := Op.call { callee := Callee.builtin Builtin.append, args := #[Operand.tmp 30, Operand.tmp 31], argTypes := #[47, 47] }, type := 47, pos := "law.go:69", after := #[{ on := 4, ground := Ground.data }, { on := 5, ground := Ground.data }, { on := 2, ground := Ground.chain }, { on := 2, ground := Ground.guard }], guard := some (2, false) }) rfl (fun K hK => ?_) AllReadyH.nil
            rw [if_pos (by rfl)]
            refine op_appK (.tmp 30) (.tmp 31) rfl (v := .slice (some ⟨gz908, 0, none⟩) 0 0) (c2 := c) (k := m) rfl rfl (KRow.mk0 vz929.heap.size vz929 _) HK.out (L5.out.grown ((hg0.trans hz909.out).trans hz931.out)) HM.out (Nat.zero_add m) (by omega) (Nat.le_refl _) (fun Az935 cz936 vz934 rz937 lz938 => ?_)
            refine hK.out _ _ (range_of (B5s.out.grown (((hg0.trans hz909.out).trans hz931.out).trans (below_grown lz938.out)) (by simp))) (fun hHeld => ?_)
            clear hK K
            dsimp only [Act.put]
            refine wpAnyH_ready (rs := [9]) (by kernel_rfl) (by simp) ?_
            refine AllReadyH.cons (o := { dst := some 35, op := Op.call { callee := Callee.builtin Builtin.append, args := #[Operand.tmp 32, Operand.tmp 34], argTypes := #[47, 47] }, type := 47, pos := "law.go:69", after := #[{ on := 6, ground := Ground.data }, { on := 8, ground := Ground.data }, { on := 6, ground := Ground.chain }, { on := 2, ground := Ground.guard }], guard := some (2, false) }) rfl (fun K hK => ?_) AllReadyH.nil
            rw [if_pos (by rfl)]
            refine op_appK (.tmp 32) (.tmp 34) rfl (v := .slice Az935 m cz936) (c2 := 1) (k := m + 1) rfl rfl rz937.out (KAll.one HX.out) (kz932.out.grown (below_grown lz938.out)) rfl rfl (by omega) lz938.out.size (fun Az940 cz941 vz939 rz942 lz943 => ?_)
            refine hK.out _ _ (range_of (B5s.out.grown (grown_app (((hg0.trans hz909.out).trans hz931.out).trans (below_grown lz938.out)) (((hg0.trans hz909.out).trans hz931.out)).size lz943.out) (by simp))) (fun hHeld => ?_)
            clear hK K
            dsimp only [Act.put]
            refine wpAnyH_ready (rs := [10]) (by kernel_rfl) (by simp) ?_
            refine AllReadyH.cons (o := { dst := some 36, op := Op.call { callee := Callee.value (Operand.func 18), args := #[Operand.tmp 29, Operand.tmp 35], argTypes := #[47, 47] }, type := 4, pos := "law.go:69", after := #[{ on := 3, ground := Ground.data }, { on := 9, ground := Ground.data }, { on := 9, ground := Ground.chain }, { on := 2, ground := Ground.guard }], guard := some (2, false) }) rfl (fun K hK => ?_) AllReadyH.nil
            rw [if_pos (by rfl)]
            go_simp
            obtain ⟨Ax, cx, ex, _, _, hkx⟩ := rz942.out.kps
            obtain ⟨rfl, rfl⟩ : Az940 = Ax ∧ cz941 = cx := by cases ex; exact ⟨rfl, rfl⟩
            with_reducible refine (same_any (c := c9) (c2 := cz941) (R9.out.grown (grown_app (((hg0.trans hz909.out).trans hz931.out).trans (below_grown lz938.out)) (((hg0.trans hz909.out).trans hz931.out)).size lz943.out)) hkx (HK.out.append (KAll.one HX.out)) HLE.out (by omega)).mono ?_
            rintro _ vz944 ⟨rfl, hz945⟩
            refine hK.out _ _ (range_of (B5s.out.grown ((grown_app (((hg0.trans hz909.out).trans hz931.out).trans (below_grown lz938.out)) (((hg0.trans hz909.out).trans hz931.out)).size lz943.out).trans hz945) (by simp))) (fun hHeld => ?_)
            clear hK K
            try simp only [Act.put, List.setIfInBounds_toArray, List.set_cons_zero, List.set_cons_succ]
            refine' wpAnyH_take (i := 11) (oi := { dst := some 37, op := Op.unOp UnOp.not 4 (Operand.tmp 36), type := 4, pos := "law.go:69", after := #[{ on := 10, ground := Ground.data }, { on := 2, ground := Ground.guard }], guard := some (2, false) }) (v := .bool false) rfl (by kernel_rfl) (by kernel_rfl) (by kernel_rfl) (fun _ _ _ h => h) (Or.inl ⟨by rfl, fun w' hSw => by go_simp⟩) (by assumption) ?qz946
            try simp only [Act.put, List.setIfInBounds_toArray, List.set_cons_zero, List.set_cons_succ]
            refine' wpAnyH_take (i := 12) (oi := { dst := some 38, op := Op.pick (Operand.tmp 28) (Operand.const (Value.bool true)) (Operand.tmp 37), type := 4, pos := "law.go:69", after := #[{ on := 2, ground := Ground.data }, { on := 11, ground := Ground.data }], guard := none }) (v := .bool false) rfl (by kernel_rfl) (by kernel_rfl) (by kernel_rfl) (fun _ _ _ h => h) (Or.inl ⟨by rfl, fun w' hSw => by go_simp⟩) (by assumption) ?qz947
            try simp only [Act.put, List.setIfInBounds_toArray, List.set_cons_zero, List.set_cons_succ]
            refine wpAnyH_done (by kernel_rfl) ?_ _
            have GE := Lib.hid ((grown_app (((hg0.trans hz909.out).trans hz931.out).trans (below_grown lz938.out)) (((hg0.trans hz909.out).trans hz931.out)).size lz943.out).trans hz945)
            have GS := Lib.hid (G5.out.trans GE.out)
            by_cases hp2 : 0 ≤ plc L r q
            · obtain ⟨i, hi, hpi⟩ := plc_at hp2
              have d5 : ¬ (i : Int) < 0 := by omega
              have him : i < m := by have := HM.out; omega
              obtain ⟨kt, hkt⟩ : ∃ t, t = (L[i]'hi).2.2 := ⟨_, rfl⟩
              have hktl : kt.length = 32 := by rw [hkt]; exact (HK.out.at i hi).2.2
              obtain ⟨l1, hl1⟩ : ∃ t, (L.eraseIdx i).length = t := ⟨_, rfl⟩
              have hl1b : l1 ≤ 100 := by rw [← hl1, List.length_eraseIdx_of_lt hi]; have := HM.out; omega
              have hKE : KAll (L.eraseIdx i) := fun y hy => HK.out y (List.mem_of_mem_eraseIdx hy)
              obtain ⟨b, o, hA, _, hrg⟩ := HL.out i hi
              have hrgk : w.rangeAt b (o + 65 * i + 33) (u8s kt) := by rw [hkt]; exact range_key (HK.out.at i hi) hrg
              have MT : Hid (∀ ws, w2.grownBy ws none → Calls Tryd.prog 19 #[.slice A m c, .agg (u8s r).toArray, .int .u16 (q : Int)] ws fun e w' => ∃ A' c', e = .returned (.tuple #[.slice A' l1 c', .agg (u8s kt).toArray, .bool true]) ∧ Kps w' (fun b => ws.heap.size ≤ b ∧ b < w'.heap.size) A' (L.eraseIdx i) ∧ ws.grownBy w' none) := by
                intro ws hgs
                have h := take_any (c := c) (m := q) (HL.out.grown (G2.out.trans hgs)) HK.out HM.out (by omega) HC.out HR.out
                rw [takeL_at hp2 hpi, takeK_at hp2 hpi hi, decide_eq_true hp2] at h
                exact h.mono fun e w' ⟨A', c', he, _, _, h3, h4⟩ => ⟨A', c', by rw [he, hl1, hkt], h3, h4⟩
              have HPI := Lib.hid hpi; have KT := Lib.hid hkt; have KTL := Lib.hid hktl; have HL1 := Lib.hid hl1; have HKE := Lib.hid hKE; have HI := Lib.hid hi; have RG0 := Lib.hid hrgk
              clear hpi hkt hktl hl1 hKE hrgk hrg hp2
              subst hA
              have B6s := Lib.hid (B6a.out.grown GS.out (by simp))
              have Ls := Lib.hid (HL.out.grown (G2.out.trans GS.out))
              have M19 := Lib.hid (MT.out _ GS.out)
              have RG : Hid (vz944.rangeAt b (o + 65 * i + 33) (u8s kt)) := range_keep RG0.out fun h => (G2.out.trans GS.out).block b h (by simp)
              go_wp2_with (first | (refine wpList_loadG agA rfl (.tmp 6) rfl g6 rfl B6s.out (by rw [u8s_length, HR.out]) ?_) | (go_at_call 19; refine M19.out.mono ?_; rintro _ wt ⟨A11, c11, rfl, h3, h4⟩; have K11 := Lib.hid h3; have GT := Lib.hid h4; clear h3 h4) | (refine wpList_allocG zeY rfl rfl ?_) | fail)
              intro g12 wa e12 k12 q12
              go_wp2_with (first | (refine wpList_storeG agY rfl _ _ rfl g12 (vs := u8s kt) rfl rfl k12.out (by rw [u8s_length, z32_length]) (by rw [u8s_length, KTL.out]) (u8s_one _) ?_) | fail)
              intro wb k12b q12b z12
              have NT : Hid (wt.heap.size ≤ g12) := Nat.le_of_eq e12.out.symm
              have K11b := Lib.hid ((K11.out.grown q12.out).keep (w' := wb) fun b hb _ => q12b.out.block b (Nat.lt_of_lt_of_le hb.2 q12.out.size) (fun e => by have e' := Option.some.inj e; have := NT.out; omega))
              have Gb : Hid (vz944.grownBy wb none) := World.grownBy.andThen (GT.out.trans q12.out) q12b.out (by rintro _ ⟨⟩; exact .inl (Nat.le_trans GT.out.size NT.out))
              have B6b := Lib.hid (B6s.out.grown Gb.out (by simp))
              have Lb := Lib.hid (Ls.out.grown Gb.out)
              have RGb : Hid (wb.rangeAt b (o + 65 * i + 33) (u8s kt)) := range_keep RG.out fun h => Gb.out.block b h (by simp)
              have MP : Hid (Calls Tryd.prog 17 #[.slice (some ⟨b, o, none⟩) m c, .agg (u8s r).toArray, .int .u16 (q : Int)] wb fun e w' => e = .returned (.int .i64 (i : Int)) ∧ wb.grownBy w' none) := by
                have h := at_any (c := c) (n := q) Lb.out HK.out HM.out (by omega) HR.out
                rw [HPI.out] at h
                exact h
              have B12 := Lib.hid k12b.out
              clear e12 k12 q12 k12b q12b z12 MT M19
              go_wp2_with (first | (refine wpList_loadG agA rfl (.tmp 6) rfl g6 rfl B6b.out (by rw [u8s_length, HR.out]) ?_) | (go_at_call 17; refine MP.out.mono ?_; rintro _ wc ⟨rfl, h4⟩; have GC := Lib.hid h4; clear h4) | fail)
              have B12c := Lib.hid (B12.out.grown GC.out (by simp))
              have RGc : Hid (wc.rangeAt b (o + 65 * i + 33) (u8s kt)) := range_keep RGb.out fun h => GC.out.block b h (by simp)
              have Lc := Lib.hid (Lb.out.grown GC.out)
              have K11c := Lib.hid (K11b.out.grown GC.out)
              refine wp_region_held_drew (S := fun W => W.rangeAt g12 0 (u8s kt) ∧ W.rangeAt b (o + 65 * i + 33) (u8s kt)) (by kernel_rfl) ⟨range_of B12c.out, RGc.out⟩ (fun hHeld => ?_)
              obtain ⟨v0, hv0⟩ : ∃ v, v = wc.drew := ⟨_, rfl⟩
              have hg0 : wc.grownBy v0 none := by rw [hv0]; exact grown_drew wc
              rw [← hv0] at hHeld ⊢
              clear hv0
              refine' wpAnyH_take (i := 0) (oi := { dst := some 91, op := Op.move (Operand.tmp 13), type := 4, pos := "law.go:78", after := #[], guard := none }) (v := .bool true) rfl (by kernel_rfl) (by kernel_rfl) (by kernel_rfl) (fun _ _ _ h => h) (Or.inl ⟨by rfl, fun w' hSw => by go_simp⟩) (by assumption) ?qz401
              try simp only [Act.put, List.setIfInBounds_toArray, List.set_cons_zero, List.set_cons_succ]
              refine' wpAnyH_take (i := 1) (oi := { dst := some 92, op := Op.move (Operand.tmp 91), type := 4, pos := "law.go:78", after := #[{ on := 0, ground := Ground.data }], guard := none }) (v := .bool true) rfl (by kernel_rfl) (by kernel_rfl) (by kernel_rfl) (fun _ _ _ h => h) (Or.inl ⟨by rfl, fun w' hSw => by go_simp⟩) (by assumption) ?qz402
              try simp only [Act.put, List.setIfInBounds_toArray, List.set_cons_zero, List.set_cons_succ]
              refine' wpAnyH_take (i := 2) (oi := { dst := some 93, op := Op.load 24 (Operand.tmp 12), type := 24, pos := "law.go:78", after := #[{ on := 1, ground := Ground.guard }], guard := some (1, true) }) (v := .agg (u8s kt).toArray) rfl (by kernel_rfl) (by kernel_rfl) (by kernel_rfl) (fun _ _ _ h => h) (yieldsIf_loadR agY (by rfl) (.tmp 12) rfl g12 0 rfl (by rw [u8s_length, KTL.out]) (fun _ h => h.1)) (by assumption) ?qz403
              try simp only [Act.put, List.setIfInBounds_toArray, List.set_cons_zero, List.set_cons_succ]
              refine' wpAnyH_take (i := 3) (oi := { dst := some 94, op := Op.move (Operand.tmp 0), type := 47, pos := "law.go:78", after := #[{ on := 1, ground := Ground.guard }], guard := some (1, true) }) (v := .slice (some ⟨b, o, none⟩) m c) rfl (by kernel_rfl) (by kernel_rfl) (by kernel_rfl) (fun _ _ _ h => h) (Or.inl ⟨by rfl, fun w' hSw => by go_simp⟩) (by assumption) ?qz404
              try simp only [Act.put, List.setIfInBounds_toArray, List.set_cons_zero, List.set_cons_succ]
              refine' wpAnyH_take (i := 4) (oi := { dst := some 95, op := Op.move (Operand.tmp 14), type := 3, pos := "law.go:78", after := #[{ on := 1, ground := Ground.guard }], guard := some (1, true) }) (v := .int .i64 (i : Int)) rfl (by kernel_rfl) (by kernel_rfl) (by kernel_rfl) (fun _ _ _ h => h) (Or.inl ⟨by rfl, fun w' hSw => by go_simp⟩) (by assumption) ?qz405
              try simp only [Act.put, List.setIfInBounds_toArray, List.set_cons_zero, List.set_cons_succ]
              refine' wpAnyH_take (i := 5) (oi := { dst := some 96, op := Op.indexAddr 47 (Operand.tmp 94) (Operand.tmp 95), type := 0, pos := "law.go:78", after := #[{ on := 3, ground := Ground.data }, { on := 4, ground := Ground.data }, { on := 1, ground := Ground.guard }], guard := some (1, true) }) (v := .pointer (some ⟨b, o + 65 * i, none⟩)) rfl (by kernel_rfl) (by kernel_rfl) (by kernel_rfl) (fun _ _ _ h => h) (yieldsIf_indexK (by rfl) (.tmp 94) (.tmp 95) rfl b o m c i rfl rfl him) (by assumption) ?qz406
              try simp only [Act.put, List.setIfInBounds_toArray, List.set_cons_zero, List.set_cons_succ]
              refine' wpAnyH_take (i := 6) (oi := { dst := some 97, op := Op.fieldAddr 49 (Operand.tmp 96) 2, type := 0, pos := "law.go:78", after := #[{ on := 5, ground := Ground.data }, { on := 1, ground := Ground.guard }], guard := some (1, true) }) (v := .pointer (some ⟨b, o + 65 * i + 33, none⟩)) rfl (by kernel_rfl) (by kernel_rfl) (by kernel_rfl) (fun _ _ _ h => h) (Or.inl ⟨by rfl, fun w' hSw => by go_simp⟩) (by assumption) ?qz407
              try simp only [Act.put, List.setIfInBounds_toArray, List.set_cons_zero, List.set_cons_succ]
              refine' wpAnyH_take (i := 7) (oi := { dst := some 98, op := Op.load 24 (Operand.tmp 97), type := 24, pos := "law.go:78", after := #[{ on := 6, ground := Ground.data }, { on := 1, ground := Ground.guard }], guard := some (1, true) }) (v := .agg (u8s kt).toArray) rfl (by kernel_rfl) (by kernel_rfl) (by kernel_rfl) (fun _ _ _ h => h) (yieldsIf_loadR agY (by rfl) (.tmp 97) rfl b (o + 65 * i + 33) rfl (by rw [u8s_length, KTL.out]) (fun _ h => h.2)) (by assumption) ?qz408
              try simp only [Act.put, List.setIfInBounds_toArray, List.set_cons_zero, List.set_cons_succ]
              refine' wpAnyH_take (i := 8) (oi := { dst := some 99, op := Op.binOp BinOp.eql 24 (Operand.tmp 93) (Operand.tmp 98) 24, type := 4, pos := "law.go:78", after := #[{ on := 2, ground := Ground.data }, { on := 7, ground := Ground.data }, { on := 1, ground := Ground.guard }], guard := some (1, true) }) (v := .bool true) rfl (by kernel_rfl) (by kernel_rfl) (by kernel_rfl) (fun _ _ _ h => h) (yieldsIf_eqs (eqsY KTL.out) (by rfl) (.tmp 93) (.tmp 98) rfl rfl rfl) (by assumption) ?qz409
              try simp only [Act.put, List.setIfInBounds_toArray, List.set_cons_zero, List.set_cons_succ]
              refine' wpAnyH_take (i := 9) (oi := { dst := some 100, op := Op.pick (Operand.tmp 92) (Operand.tmp 99) (Operand.const (Value.bool false)), type := 4, pos := "law.go:78", after := #[{ on := 1, ground := Ground.data }, { on := 8, ground := Ground.data }], guard := none }) (v := .bool true) rfl (by kernel_rfl) (by kernel_rfl) (by kernel_rfl) (fun _ _ _ h => h) (Or.inl ⟨by rfl, fun w' hSw => by go_simp⟩) (by assumption) ?qz410
              try simp only [Act.put, List.setIfInBounds_toArray, List.set_cons_zero, List.set_cons_succ]
              refine' wpAnyH_take (i := 10) (oi := { dst := some 101, op := Op.move (Operand.tmp 100), type := 4, pos := "law.go:78", after := #[{ on := 9, ground := Ground.data }, { on := 1, ground := Ground.chain }], guard := none }) (v := .bool true) rfl (by kernel_rfl) (by kernel_rfl) (by kernel_rfl) (fun _ _ _ h => h) (Or.inl ⟨by rfl, fun w' hSw => by go_simp⟩) (by assumption) ?qz411
              try simp only [Act.put, List.setIfInBounds_toArray, List.set_cons_zero, List.set_cons_succ]
              refine' wpAnyH_take (i := 11) (oi := { dst := some 102, op := Op.move (Operand.tmp 11), type := 47, pos := "law.go:78", after := #[{ on := 10, ground := Ground.guard }], guard := some (10, true) }) (v := .slice A11 l1 c11) rfl (by kernel_rfl) (by kernel_rfl) (by kernel_rfl) (fun _ _ _ h => h) (Or.inl ⟨by rfl, fun w' hSw => by go_simp⟩) (by assumption) ?qz412
              try simp only [Act.put, List.setIfInBounds_toArray, List.set_cons_zero, List.set_cons_succ]
              refine' wpAnyH_take (i := 12) (oi := { dst := some 103, op := Op.move (Operand.tmp 0), type := 47, pos := "law.go:78", after := #[{ on := 10, ground := Ground.guard }], guard := some (10, true) }) (v := .slice (some ⟨b, o, none⟩) m c) rfl (by kernel_rfl) (by kernel_rfl) (by kernel_rfl) (fun _ _ _ h => h) (Or.inl ⟨by rfl, fun w' hSw => by go_simp⟩) (by assumption) ?qz413
              try simp only [Act.put, List.setIfInBounds_toArray, List.set_cons_zero, List.set_cons_succ]
              refine' wpAnyH_take (i := 13) (oi := { dst := some 104, op := Op.move (Operand.tmp 14), type := 3, pos := "law.go:78", after := #[{ on := 10, ground := Ground.guard }], guard := some (10, true) }) (v := .int .i64 (i : Int)) rfl (by kernel_rfl) (by kernel_rfl) (by kernel_rfl) (fun _ _ _ h => h) (Or.inl ⟨by rfl, fun w' hSw => by go_simp⟩) (by assumption) ?qz414
              try simp only [Act.put, List.setIfInBounds_toArray, List.set_cons_zero, List.set_cons_succ]
              refine wpAnyH_ready (rs := [14]) (by kernel_rfl) (by simp) ?_
              refine AllReadyH.cons (o := { dst := some 105, op := Op.call { callee := Callee.value (Operand.func 20), args := #[Operand.tmp 103, Operand.tmp 104], argTypes := #[47, 3] }, type := 47, pos := "law.go:78", after := #[{ on := 12, ground := Ground.data }, { on := 13, ground := Ground.data }, { on := 10, ground := Ground.chain }, { on := 10, ground := Ground.guard }], guard := some (10, true) }) rfl (fun K hK => ?_) AllReadyH.nil
              rw [if_pos (by rfl)]
              go_simp
              have hcall : Calls Tryd.prog 20 #[.slice (some ⟨b, o, none⟩) m c, .int .i64 (i : Int)] v0 fun e w' => ∃ A' c', e = .returned (.slice A' l1 c') ∧ Kps w' (fun b => v0.heap.size ≤ b ∧ b < w'.heap.size) A' (L.eraseIdx i) ∧ v0.grownBy w' none := (without_any (c := c) (k := i) (Lc.out.grown hg0) HK.out HM.out (by omega) (by omega)).mono fun e w' ⟨A', c', he, _, _, h3, h4⟩ => ⟨A', c', by rw [he, HL1.out], h3, h4⟩
              with_reducible refine hcall.mono ?_
              rintro _ x1 ⟨A20, c20, rfl, hk20, hg1⟩
              refine hK.out _ _ ⟨range_of (B12c.out.grown (hg0.trans hg1) (by simp)), range_keep RGc.out fun h => ((hg0.trans hg1)).block b h (by simp)⟩ (fun hHeld => ?_)
              clear hK K
              try simp only [Act.put, List.setIfInBounds_toArray, List.set_cons_zero, List.set_cons_succ]
              refine wpAnyH_ready (rs := [15]) (by kernel_rfl) (by simp) ?_
              refine AllReadyH.cons (o := { dst := some 106, op := Op.call { callee := Callee.value (Operand.func 18), args := #[Operand.tmp 102, Operand.tmp 105], argTypes := #[47, 47] }, type := 4, pos := "law.go:78", after := #[{ on := 11, ground := Ground.data }, { on := 14, ground := Ground.data }, { on := 14, ground := Ground.chain }, { on := 10, ground := Ground.guard }], guard := some (10, true) }) rfl (fun K hK => ?_) AllReadyH.nil
              rw [if_pos (by rfl)]
              go_simp
              with_reducible refine (same_any (c := c11) (c2 := c20) (K11c.out.grown (hg0.trans hg1)) hk20 HKE.out HL1.out (by omega)).mono ?_
              rintro _ x2 ⟨rfl, hg2⟩
              refine hK.out _ _ ⟨range_of (B12c.out.grown ((hg0.trans hg1).trans hg2) (by simp)), range_keep RGc.out fun h => (((hg0.trans hg1).trans hg2)).block b h (by simp)⟩ (fun hHeld => ?_)
              clear hK K
              try simp only [Act.put, List.setIfInBounds_toArray, List.set_cons_zero, List.set_cons_succ]
              refine' wpAnyH_take (i := 16) (oi := { dst := some 107, op := Op.pick (Operand.tmp 101) (Operand.tmp 106) (Operand.const (Value.bool false)), type := 4, pos := "law.go:78", after := #[{ on := 10, ground := Ground.data }, { on := 15, ground := Ground.data }], guard := none }) (v := .bool true) rfl (by kernel_rfl) (by kernel_rfl) (by kernel_rfl) (fun _ _ _ h => h) (Or.inl ⟨by rfl, fun w' hSw => by go_simp⟩) (by assumption) ?qz415
              try simp only [Act.put, List.setIfInBounds_toArray, List.set_cons_zero, List.set_cons_succ]
              refine' wpAnyH_take (i := 17) (oi := { dst := some 8, op := Op.assign (Operand.tmp 107), type := 4, pos := "law.go:78", after := #[{ on := 16, ground := Ground.data }, { on := 15, ground := Ground.chain }, { on := 0, ground := Ground.phase }, { on := 1, ground := Ground.phase }, { on := 2, ground := Ground.phase }, { on := 3, ground := Ground.phase }, { on := 4, ground := Ground.phase }, { on := 5, ground := Ground.phase }, { on := 6, ground := Ground.phase }, { on := 7, ground := Ground.phase }, { on := 8, ground := Ground.phase }, { on := 9, ground := Ground.phase }, { on := 10, ground := Ground.phase }, { on := 11, ground := Ground.phase }, { on := 12, ground := Ground.phase }, { on := 13, ground := Ground.phase }, { on := 14, ground := Ground.phase }, { on := 15, ground := Ground.phase }, { on := 16, ground := Ground.phase }], guard := none }) (v := .bool true) rfl (by kernel_rfl) (by kernel_rfl) (by kernel_rfl) (fun _ _ _ h => h) (Or.inl ⟨by rfl, fun w' hSw => by go_simp⟩) (by assumption) ?qz416
              try simp only [Act.put, List.setIfInBounds_toArray, List.set_cons_zero, List.set_cons_succ]
              refine wpAnyH_done (by kernel_rfl) ?_ _
              have GE := Lib.hid ((hg0.trans hg1).trans hg2)
              go_wp2
              go_ret
              exact ⟨rfl, ((((G2.out.trans GS.out).trans Gb.out).trans GC.out).trans GE.out)⟩
            · have hpm := plc_lt L r q
              have hpi : plc L r q = -1 := by omega
              have MT : Hid (∀ ws, w2.grownBy ws none → Calls Tryd.prog 19 #[.slice A m c, .agg (u8s r).toArray, .int .u16 (q : Int)] ws fun e w' => ∃ A' c', e = .returned (.tuple #[.slice A' m c', .agg (u8s z32).toArray, .bool false]) ∧ Kps w' (fun b => ws.heap.size ≤ b ∧ b < w'.heap.size) A' L ∧ ws.grownBy w' none) := by
                intro ws hgs
                have h := take_any (c := c) (m := q) (HL.out.grown (G2.out.trans hgs)) HK.out HM.out (by omega) HC.out HR.out
                rw [show takeL L r q = L from if_neg hp2, show takeK L r q = z32 from if_neg hp2, decide_eq_false hp2] at h
                exact h.mono fun e w' ⟨A', c', he, _, _, h3, h4⟩ => ⟨A', c', by rw [he, HM.out], h3, h4⟩
              have HPI := Lib.hid hpi
              clear hpm hpi hp2
              have B6s := Lib.hid (B6a.out.grown GS.out (by simp))
              have Ls := Lib.hid (HL.out.grown (G2.out.trans GS.out))
              have M19 := Lib.hid (MT.out _ GS.out)
              go_wp2_with (first | (refine wpList_loadG agA rfl (.tmp 6) rfl g6 rfl B6s.out (by rw [u8s_length, HR.out]) ?_) | (go_at_call 19; refine M19.out.mono ?_; rintro _ wt ⟨A11, c11, rfl, h3, h4⟩; have K11 := Lib.hid h3; have GT := Lib.hid h4; clear h3 h4) | (refine wpList_allocG zeY rfl rfl ?_) | fail)
              intro g12 wa e12 k12 q12
              go_wp2_with (first | (refine wpList_storeG agY rfl _ _ rfl g12 (vs := u8s z32) rfl rfl k12.out (by rw [u8s_length, z32_length]) (by rw [u8s_length, z32_length]) (u8s_one _) ?_) | fail)
              intro wb k12b q12b z12
              have NT : Hid (wt.heap.size ≤ g12) := Nat.le_of_eq e12.out.symm
              have K11b := Lib.hid ((K11.out.grown q12.out).keep (w' := wb) fun b hb _ => q12b.out.block b (Nat.lt_of_lt_of_le hb.2 q12.out.size) (fun e => by have e' := Option.some.inj e; have := NT.out; omega))
              have Gb : Hid (vz944.grownBy wb none) := World.grownBy.andThen (GT.out.trans q12.out) q12b.out (by rintro _ ⟨⟩; exact .inl (Nat.le_trans GT.out.size NT.out))
              have B6b := Lib.hid (B6s.out.grown Gb.out (by simp))
              have Lb := Lib.hid (Ls.out.grown Gb.out)
              have MP : Hid (Calls Tryd.prog 17 #[.slice A m c, .agg (u8s r).toArray, .int .u16 (q : Int)] wb fun e w' => e = .returned (.int .i64 (-1)) ∧ wb.grownBy w' none) := by
                have h := at_any (c := c) (n := q) Lb.out HK.out HM.out (by omega) HR.out
                rw [HPI.out] at h
                exact h
              have B12 := Lib.hid k12b.out
              clear e12 k12 q12 k12b q12b z12 MT M19
              go_wp2_with (first | (refine wpList_loadG agA rfl (.tmp 6) rfl g6 rfl B6b.out (by rw [u8s_length, HR.out]) ?_) | (go_at_call 17; refine MP.out.mono ?_; rintro _ wc ⟨rfl, h4⟩; have GC := Lib.hid h4; clear h4; have B12c := Lib.hid (B12.out.grown GC.out (by simp)); have MS := Lib.hid (same_any (c := c11) (c2 := c) (K11b.out.grown GC.out) (Lb.out.grown GC.out) HK.out HM.out (by omega))) | (refine wpList_loadGw agY (by rfl) (.tmp 12) rfl g12 rfl B12c.out (by rw [u8s_length, z32_length]) ?_) | (refine wpList_zeroGw zeY (by rfl) rfl ?_) | (refine wpList_eqs (eqsY z32_length) (by rfl) (.tmp 82) (.tmp 83) rfl rfl rfl ?_) | (go_at_call 18; refine MS.out.mono ?_; rintro _ we ⟨rfl, h4⟩; have GE := Lib.hid h4; clear h4) | fail)
              go_ret
              exact ⟨rfl, ((((G2.out.trans GS.out).trans Gb.out).trans GC.out).trans GE.out)⟩
        · rw [if_pos (by rfl)]
          refine wp_sliceK (.tmp 33) rfl HX.out rfl (fun gz949 vz948 ez952 kz951 hz950 => ?_)
          refine hK.out _ _ (range_of (B5s.out.grown (hg0.trans hz950.out) (by simp))) (fun hHeld => ?_)
          clear hK K
          dsimp only [Act.put]
          refine wpAnyH_ready (rs := [4]) (by kernel_rfl) (by simp) ?_
          refine AllReadyH.cons (o := { dst := some 30, op := Op.buildSlice 47 0 #[], type := 47, pos := "law.go:69", after := #[{ on := 2, ground := Ground.guard }], guard := some (2, false) }) rfl (fun K hK => ?_) AllReadyH.nil
          rw [if_pos (by rfl)]
          refine wp_slice0K rfl (fun gz954 vz953 hz955 => ?_)
          refine hK.out _ _ (range_of (B5s.out.grown ((hg0.trans hz950.out).trans hz955.out) (by simp))) (fun hHeld => ?_)
          clear hK K
          dsimp only [Act.put]
          refine wpAnyH_ready (rs := [6]) (by kernel_rfl) (by simp) ?_
          refine AllReadyH.cons (o := { dst := some 32, op := Op.call { callee := Callee.builtin Builtin.append, args := #[Operand.tmp 30, Operand.tmp 31], argTypes := #[47, 47] }, type := 47, pos := "law.go:69", after := #[{ on := 4, ground := Ground.data }, { on := 5, ground := Ground.data }, { on := 2, ground := Ground.chain }, { on := 2, ground := Ground.guard }], guard := some (2, false) }) rfl (fun K hK => ?_) AllReadyH.nil
          rw [if_pos (by rfl)]
          refine op_appK (.tmp 30) (.tmp 31) rfl (v := .slice (some ⟨gz954, 0, none⟩) 0 0) (c2 := c) (k := m) rfl rfl (KRow.mk0 vz953.heap.size vz953 _) HK.out (L5.out.grown ((hg0.trans hz950.out).trans hz955.out)) HM.out (Nat.zero_add m) (by omega) (Nat.le_refl _) (fun Az957 cz958 vz956 rz959 lz960 => ?_)
          refine hK.out _ _ (range_of (B5s.out.grown (((hg0.trans hz950.out).trans hz955.out).trans (below_grown lz960.out)) (by simp))) (fun hHeld => ?_)
          clear hK K
          dsimp only [Act.put]
          refine wpAnyH_ready (rs := [9]) (by kernel_rfl) (by simp) ?_
          refine AllReadyH.cons (o := { dst := some 35, op := Op.call { callee := Callee.builtin Builtin.append, args := #[Operand.tmp 32, Operand.tmp 34], argTypes := #[47, 47] }, type := 47, pos := "law.go:69", after := #[{ on := 6, ground := Ground.data }, { on := 8, ground := Ground.data }, { on := 6, ground := Ground.chain }, { on := 2, ground := Ground.guard }], guard := some (2, false) }) rfl (fun K hK => ?_) AllReadyH.nil
          rw [if_pos (by rfl)]
          refine op_appK (.tmp 32) (.tmp 34) rfl (v := .slice Az957 m cz958) (c2 := 1) (k := m + 1) rfl rfl rz959.out (KAll.one HX.out) ((kz951.out.grown hz955.out).grown (below_grown lz960.out)) rfl rfl (by omega) lz960.out.size (fun Az962 cz963 vz961 rz964 lz965 => ?_)
          refine hK.out _ _ (range_of (B5s.out.grown (grown_app (((hg0.trans hz950.out).trans hz955.out).trans (below_grown lz960.out)) (((hg0.trans hz950.out).trans hz955.out)).size lz965.out) (by simp))) (fun hHeld => ?_)
          clear hK K
          dsimp only [Act.put]
          refine wpAnyH_ready (rs := [10]) (by kernel_rfl) (by simp) ?_
          refine AllReadyH.cons (o := { dst := some 36, op := Op.call { callee := Callee.value (Operand.func 18), args := #[Operand.tmp 29, Operand.tmp 35], argTypes := #[47, 47] }, type := 4, pos := "law.go:69", after := #[{ on := 3, ground := Ground.data }, { on := 9, ground := Ground.data }, { on := 9, ground := Ground.chain }, { on := 2, ground := Ground.guard }], guard := some (2, false) }) rfl (fun K hK => ?_) AllReadyH.nil
          rw [if_pos (by rfl)]
          go_simp
          obtain ⟨Ax, cx, ex, _, _, hkx⟩ := rz964.out.kps
          obtain ⟨rfl, rfl⟩ : Az962 = Ax ∧ cz963 = cx := by cases ex; exact ⟨rfl, rfl⟩
          with_reducible refine (same_any (c := c9) (c2 := cz963) (R9.out.grown (grown_app (((hg0.trans hz950.out).trans hz955.out).trans (below_grown lz960.out)) (((hg0.trans hz950.out).trans hz955.out)).size lz965.out)) hkx (HK.out.append (KAll.one HX.out)) HLE.out (by omega)).mono ?_
          rintro _ vz966 ⟨rfl, hz967⟩
          refine hK.out _ _ (range_of (B5s.out.grown ((grown_app (((hg0.trans hz950.out).trans hz955.out).trans (below_grown lz960.out)) (((hg0.trans hz950.out).trans hz955.out)).size lz965.out).trans hz967) (by simp))) (fun hHeld => ?_)
          clear hK K
          try simp only [Act.put, List.setIfInBounds_toArray, List.set_cons_zero, List.set_cons_succ]
          refine' wpAnyH_take (i := 11) (oi := { dst := some 37, op := Op.unOp UnOp.not 4 (Operand.tmp 36), type := 4, pos := "law.go:69", after := #[{ on := 10, ground := Ground.data }, { on := 2, ground := Ground.guard }], guard := some (2, false) }) (v := .bool false) rfl (by kernel_rfl) (by kernel_rfl) (by kernel_rfl) (fun _ _ _ h => h) (Or.inl ⟨by rfl, fun w' hSw => by go_simp⟩) (by assumption) ?qz968
          try simp only [Act.put, List.setIfInBounds_toArray, List.set_cons_zero, List.set_cons_succ]
          refine' wpAnyH_take (i := 12) (oi := { dst := some 38, op := Op.pick (Operand.tmp 28) (Operand.const (Value.bool true)) (Operand.tmp 37), type := 4, pos := "law.go:69", after := #[{ on := 2, ground := Ground.data }, { on := 11, ground := Ground.data }], guard := none }) (v := .bool false) rfl (by kernel_rfl) (by kernel_rfl) (by kernel_rfl) (fun _ _ _ h => h) (Or.inl ⟨by rfl, fun w' hSw => by go_simp⟩) (by assumption) ?qz969
          try simp only [Act.put, List.setIfInBounds_toArray, List.set_cons_zero, List.set_cons_succ]
          refine wpAnyH_done (by kernel_rfl) ?_ _
          have GE := Lib.hid ((grown_app (((hg0.trans hz950.out).trans hz955.out).trans (below_grown lz960.out)) (((hg0.trans hz950.out).trans hz955.out)).size lz965.out).trans hz967)
          have GS := Lib.hid (G5.out.trans GE.out)
          by_cases hp2 : 0 ≤ plc L r q
          · obtain ⟨i, hi, hpi⟩ := plc_at hp2
            have d5 : ¬ (i : Int) < 0 := by omega
            have him : i < m := by have := HM.out; omega
            obtain ⟨kt, hkt⟩ : ∃ t, t = (L[i]'hi).2.2 := ⟨_, rfl⟩
            have hktl : kt.length = 32 := by rw [hkt]; exact (HK.out.at i hi).2.2
            obtain ⟨l1, hl1⟩ : ∃ t, (L.eraseIdx i).length = t := ⟨_, rfl⟩
            have hl1b : l1 ≤ 100 := by rw [← hl1, List.length_eraseIdx_of_lt hi]; have := HM.out; omega
            have hKE : KAll (L.eraseIdx i) := fun y hy => HK.out y (List.mem_of_mem_eraseIdx hy)
            obtain ⟨b, o, hA, _, hrg⟩ := HL.out i hi
            have hrgk : w.rangeAt b (o + 65 * i + 33) (u8s kt) := by rw [hkt]; exact range_key (HK.out.at i hi) hrg
            have MT : Hid (∀ ws, w2.grownBy ws none → Calls Tryd.prog 19 #[.slice A m c, .agg (u8s r).toArray, .int .u16 (q : Int)] ws fun e w' => ∃ A' c', e = .returned (.tuple #[.slice A' l1 c', .agg (u8s kt).toArray, .bool true]) ∧ Kps w' (fun b => ws.heap.size ≤ b ∧ b < w'.heap.size) A' (L.eraseIdx i) ∧ ws.grownBy w' none) := by
              intro ws hgs
              have h := take_any (c := c) (m := q) (HL.out.grown (G2.out.trans hgs)) HK.out HM.out (by omega) HC.out HR.out
              rw [takeL_at hp2 hpi, takeK_at hp2 hpi hi, decide_eq_true hp2] at h
              exact h.mono fun e w' ⟨A', c', he, _, _, h3, h4⟩ => ⟨A', c', by rw [he, hl1, hkt], h3, h4⟩
            have HPI := Lib.hid hpi; have KT := Lib.hid hkt; have KTL := Lib.hid hktl; have HL1 := Lib.hid hl1; have HKE := Lib.hid hKE; have HI := Lib.hid hi; have RG0 := Lib.hid hrgk
            clear hpi hkt hktl hl1 hKE hrgk hrg hp2
            subst hA
            have B6s := Lib.hid (B6a.out.grown GS.out (by simp))
            have Ls := Lib.hid (HL.out.grown (G2.out.trans GS.out))
            have M19 := Lib.hid (MT.out _ GS.out)
            have RG : Hid (vz966.rangeAt b (o + 65 * i + 33) (u8s kt)) := range_keep RG0.out fun h => (G2.out.trans GS.out).block b h (by simp)
            go_wp2_with (first | (refine wpList_loadG agA rfl (.tmp 6) rfl g6 rfl B6s.out (by rw [u8s_length, HR.out]) ?_) | (go_at_call 19; refine M19.out.mono ?_; rintro _ wt ⟨A11, c11, rfl, h3, h4⟩; have K11 := Lib.hid h3; have GT := Lib.hid h4; clear h3 h4) | (refine wpList_allocG zeY rfl rfl ?_) | fail)
            intro g12 wa e12 k12 q12
            go_wp2_with (first | (refine wpList_storeG agY rfl _ _ rfl g12 (vs := u8s kt) rfl rfl k12.out (by rw [u8s_length, z32_length]) (by rw [u8s_length, KTL.out]) (u8s_one _) ?_) | fail)
            intro wb k12b q12b z12
            have NT : Hid (wt.heap.size ≤ g12) := Nat.le_of_eq e12.out.symm
            have K11b := Lib.hid ((K11.out.grown q12.out).keep (w' := wb) fun b hb _ => q12b.out.block b (Nat.lt_of_lt_of_le hb.2 q12.out.size) (fun e => by have e' := Option.some.inj e; have := NT.out; omega))
            have Gb : Hid (vz966.grownBy wb none) := World.grownBy.andThen (GT.out.trans q12.out) q12b.out (by rintro _ ⟨⟩; exact .inl (Nat.le_trans GT.out.size NT.out))
            have B6b := Lib.hid (B6s.out.grown Gb.out (by simp))
            have Lb := Lib.hid (Ls.out.grown Gb.out)
            have RGb : Hid (wb.rangeAt b (o + 65 * i + 33) (u8s kt)) := range_keep RG.out fun h => Gb.out.block b h (by simp)
            have MP : Hid (Calls Tryd.prog 17 #[.slice (some ⟨b, o, none⟩) m c, .agg (u8s r).toArray, .int .u16 (q : Int)] wb fun e w' => e = .returned (.int .i64 (i : Int)) ∧ wb.grownBy w' none) := by
              have h := at_any (c := c) (n := q) Lb.out HK.out HM.out (by omega) HR.out
              rw [HPI.out] at h
              exact h
            have B12 := Lib.hid k12b.out
            clear e12 k12 q12 k12b q12b z12 MT M19
            go_wp2_with (first | (refine wpList_loadG agA rfl (.tmp 6) rfl g6 rfl B6b.out (by rw [u8s_length, HR.out]) ?_) | (go_at_call 17; refine MP.out.mono ?_; rintro _ wc ⟨rfl, h4⟩; have GC := Lib.hid h4; clear h4) | fail)
            have B12c := Lib.hid (B12.out.grown GC.out (by simp))
            have RGc : Hid (wc.rangeAt b (o + 65 * i + 33) (u8s kt)) := range_keep RGb.out fun h => GC.out.block b h (by simp)
            have Lc := Lib.hid (Lb.out.grown GC.out)
            have K11c := Lib.hid (K11b.out.grown GC.out)
            refine wp_region_held_drew (S := fun W => W.rangeAt g12 0 (u8s kt) ∧ W.rangeAt b (o + 65 * i + 33) (u8s kt)) (by kernel_rfl) ⟨range_of B12c.out, RGc.out⟩ (fun hHeld => ?_)
            obtain ⟨v0, hv0⟩ : ∃ v, v = wc.drew := ⟨_, rfl⟩
            have hg0 : wc.grownBy v0 none := by rw [hv0]; exact grown_drew wc
            rw [← hv0] at hHeld ⊢
            clear hv0
            refine' wpAnyH_take (i := 0) (oi := { dst := some 91, op := Op.move (Operand.tmp 13), type := 4, pos := "law.go:78", after := #[], guard := none }) (v := .bool true) rfl (by kernel_rfl) (by kernel_rfl) (by kernel_rfl) (fun _ _ _ h => h) (Or.inl ⟨by rfl, fun w' hSw => by go_simp⟩) (by assumption) ?qz501
            try simp only [Act.put, List.setIfInBounds_toArray, List.set_cons_zero, List.set_cons_succ]
            refine' wpAnyH_take (i := 1) (oi := { dst := some 92, op := Op.move (Operand.tmp 91), type := 4, pos := "law.go:78", after := #[{ on := 0, ground := Ground.data }], guard := none }) (v := .bool true) rfl (by kernel_rfl) (by kernel_rfl) (by kernel_rfl) (fun _ _ _ h => h) (Or.inl ⟨by rfl, fun w' hSw => by go_simp⟩) (by assumption) ?qz502
            try simp only [Act.put, List.setIfInBounds_toArray, List.set_cons_zero, List.set_cons_succ]
            refine' wpAnyH_take (i := 2) (oi := { dst := some 93, op := Op.load 24 (Operand.tmp 12), type := 24, pos := "law.go:78", after := #[{ on := 1, ground := Ground.guard }], guard := some (1, true) }) (v := .agg (u8s kt).toArray) rfl (by kernel_rfl) (by kernel_rfl) (by kernel_rfl) (fun _ _ _ h => h) (yieldsIf_loadR agY (by rfl) (.tmp 12) rfl g12 0 rfl (by rw [u8s_length, KTL.out]) (fun _ h => h.1)) (by assumption) ?qz503
            try simp only [Act.put, List.setIfInBounds_toArray, List.set_cons_zero, List.set_cons_succ]
            refine' wpAnyH_take (i := 3) (oi := { dst := some 94, op := Op.move (Operand.tmp 0), type := 47, pos := "law.go:78", after := #[{ on := 1, ground := Ground.guard }], guard := some (1, true) }) (v := .slice (some ⟨b, o, none⟩) m c) rfl (by kernel_rfl) (by kernel_rfl) (by kernel_rfl) (fun _ _ _ h => h) (Or.inl ⟨by rfl, fun w' hSw => by go_simp⟩) (by assumption) ?qz504
            try simp only [Act.put, List.setIfInBounds_toArray, List.set_cons_zero, List.set_cons_succ]
            refine' wpAnyH_take (i := 4) (oi := { dst := some 95, op := Op.move (Operand.tmp 14), type := 3, pos := "law.go:78", after := #[{ on := 1, ground := Ground.guard }], guard := some (1, true) }) (v := .int .i64 (i : Int)) rfl (by kernel_rfl) (by kernel_rfl) (by kernel_rfl) (fun _ _ _ h => h) (Or.inl ⟨by rfl, fun w' hSw => by go_simp⟩) (by assumption) ?qz505
            try simp only [Act.put, List.setIfInBounds_toArray, List.set_cons_zero, List.set_cons_succ]
            refine' wpAnyH_take (i := 5) (oi := { dst := some 96, op := Op.indexAddr 47 (Operand.tmp 94) (Operand.tmp 95), type := 0, pos := "law.go:78", after := #[{ on := 3, ground := Ground.data }, { on := 4, ground := Ground.data }, { on := 1, ground := Ground.guard }], guard := some (1, true) }) (v := .pointer (some ⟨b, o + 65 * i, none⟩)) rfl (by kernel_rfl) (by kernel_rfl) (by kernel_rfl) (fun _ _ _ h => h) (yieldsIf_indexK (by rfl) (.tmp 94) (.tmp 95) rfl b o m c i rfl rfl him) (by assumption) ?qz506
            try simp only [Act.put, List.setIfInBounds_toArray, List.set_cons_zero, List.set_cons_succ]
            refine' wpAnyH_take (i := 6) (oi := { dst := some 97, op := Op.fieldAddr 49 (Operand.tmp 96) 2, type := 0, pos := "law.go:78", after := #[{ on := 5, ground := Ground.data }, { on := 1, ground := Ground.guard }], guard := some (1, true) }) (v := .pointer (some ⟨b, o + 65 * i + 33, none⟩)) rfl (by kernel_rfl) (by kernel_rfl) (by kernel_rfl) (fun _ _ _ h => h) (Or.inl ⟨by rfl, fun w' hSw => by go_simp⟩) (by assumption) ?qz507
            try simp only [Act.put, List.setIfInBounds_toArray, List.set_cons_zero, List.set_cons_succ]
            refine' wpAnyH_take (i := 7) (oi := { dst := some 98, op := Op.load 24 (Operand.tmp 97), type := 24, pos := "law.go:78", after := #[{ on := 6, ground := Ground.data }, { on := 1, ground := Ground.guard }], guard := some (1, true) }) (v := .agg (u8s kt).toArray) rfl (by kernel_rfl) (by kernel_rfl) (by kernel_rfl) (fun _ _ _ h => h) (yieldsIf_loadR agY (by rfl) (.tmp 97) rfl b (o + 65 * i + 33) rfl (by rw [u8s_length, KTL.out]) (fun _ h => h.2)) (by assumption) ?qz508
            try simp only [Act.put, List.setIfInBounds_toArray, List.set_cons_zero, List.set_cons_succ]
            refine' wpAnyH_take (i := 8) (oi := { dst := some 99, op := Op.binOp BinOp.eql 24 (Operand.tmp 93) (Operand.tmp 98) 24, type := 4, pos := "law.go:78", after := #[{ on := 2, ground := Ground.data }, { on := 7, ground := Ground.data }, { on := 1, ground := Ground.guard }], guard := some (1, true) }) (v := .bool true) rfl (by kernel_rfl) (by kernel_rfl) (by kernel_rfl) (fun _ _ _ h => h) (yieldsIf_eqs (eqsY KTL.out) (by rfl) (.tmp 93) (.tmp 98) rfl rfl rfl) (by assumption) ?qz509
            try simp only [Act.put, List.setIfInBounds_toArray, List.set_cons_zero, List.set_cons_succ]
            refine' wpAnyH_take (i := 9) (oi := { dst := some 100, op := Op.pick (Operand.tmp 92) (Operand.tmp 99) (Operand.const (Value.bool false)), type := 4, pos := "law.go:78", after := #[{ on := 1, ground := Ground.data }, { on := 8, ground := Ground.data }], guard := none }) (v := .bool true) rfl (by kernel_rfl) (by kernel_rfl) (by kernel_rfl) (fun _ _ _ h => h) (Or.inl ⟨by rfl, fun w' hSw => by go_simp⟩) (by assumption) ?qz510
            try simp only [Act.put, List.setIfInBounds_toArray, List.set_cons_zero, List.set_cons_succ]
            refine' wpAnyH_take (i := 10) (oi := { dst := some 101, op := Op.move (Operand.tmp 100), type := 4, pos := "law.go:78", after := #[{ on := 9, ground := Ground.data }, { on := 1, ground := Ground.chain }], guard := none }) (v := .bool true) rfl (by kernel_rfl) (by kernel_rfl) (by kernel_rfl) (fun _ _ _ h => h) (Or.inl ⟨by rfl, fun w' hSw => by go_simp⟩) (by assumption) ?qz511
            try simp only [Act.put, List.setIfInBounds_toArray, List.set_cons_zero, List.set_cons_succ]
            refine' wpAnyH_take (i := 11) (oi := { dst := some 102, op := Op.move (Operand.tmp 11), type := 47, pos := "law.go:78", after := #[{ on := 10, ground := Ground.guard }], guard := some (10, true) }) (v := .slice A11 l1 c11) rfl (by kernel_rfl) (by kernel_rfl) (by kernel_rfl) (fun _ _ _ h => h) (Or.inl ⟨by rfl, fun w' hSw => by go_simp⟩) (by assumption) ?qz512
            try simp only [Act.put, List.setIfInBounds_toArray, List.set_cons_zero, List.set_cons_succ]
            refine' wpAnyH_take (i := 12) (oi := { dst := some 103, op := Op.move (Operand.tmp 0), type := 47, pos := "law.go:78", after := #[{ on := 10, ground := Ground.guard }], guard := some (10, true) }) (v := .slice (some ⟨b, o, none⟩) m c) rfl (by kernel_rfl) (by kernel_rfl) (by kernel_rfl) (fun _ _ _ h => h) (Or.inl ⟨by rfl, fun w' hSw => by go_simp⟩) (by assumption) ?qz513
            try simp only [Act.put, List.setIfInBounds_toArray, List.set_cons_zero, List.set_cons_succ]
            refine' wpAnyH_take (i := 13) (oi := { dst := some 104, op := Op.move (Operand.tmp 14), type := 3, pos := "law.go:78", after := #[{ on := 10, ground := Ground.guard }], guard := some (10, true) }) (v := .int .i64 (i : Int)) rfl (by kernel_rfl) (by kernel_rfl) (by kernel_rfl) (fun _ _ _ h => h) (Or.inl ⟨by rfl, fun w' hSw => by go_simp⟩) (by assumption) ?qz514
            try simp only [Act.put, List.setIfInBounds_toArray, List.set_cons_zero, List.set_cons_succ]
            refine wpAnyH_ready (rs := [14]) (by kernel_rfl) (by simp) ?_
            refine AllReadyH.cons (o := { dst := some 105, op := Op.call { callee := Callee.value (Operand.func 20), args := #[Operand.tmp 103, Operand.tmp 104], argTypes := #[47, 3] }, type := 47, pos := "law.go:78", after := #[{ on := 12, ground := Ground.data }, { on := 13, ground := Ground.data }, { on := 10, ground := Ground.chain }, { on := 10, ground := Ground.guard }], guard := some (10, true) }) rfl (fun K hK => ?_) AllReadyH.nil
            rw [if_pos (by rfl)]
            go_simp
            have hcall : Calls Tryd.prog 20 #[.slice (some ⟨b, o, none⟩) m c, .int .i64 (i : Int)] v0 fun e w' => ∃ A' c', e = .returned (.slice A' l1 c') ∧ Kps w' (fun b => v0.heap.size ≤ b ∧ b < w'.heap.size) A' (L.eraseIdx i) ∧ v0.grownBy w' none := (without_any (c := c) (k := i) (Lc.out.grown hg0) HK.out HM.out (by omega) (by omega)).mono fun e w' ⟨A', c', he, _, _, h3, h4⟩ => ⟨A', c', by rw [he, HL1.out], h3, h4⟩
            with_reducible refine hcall.mono ?_
            rintro _ x1 ⟨A20, c20, rfl, hk20, hg1⟩
            refine hK.out _ _ ⟨range_of (B12c.out.grown (hg0.trans hg1) (by simp)), range_keep RGc.out fun h => ((hg0.trans hg1)).block b h (by simp)⟩ (fun hHeld => ?_)
            clear hK K
            try simp only [Act.put, List.setIfInBounds_toArray, List.set_cons_zero, List.set_cons_succ]
            refine wpAnyH_ready (rs := [15]) (by kernel_rfl) (by simp) ?_
            refine AllReadyH.cons (o := { dst := some 106, op := Op.call { callee := Callee.value (Operand.func 18), args := #[Operand.tmp 102, Operand.tmp 105], argTypes := #[47, 47] }, type := 4, pos := "law.go:78", after := #[{ on := 11, ground := Ground.data }, { on := 14, ground := Ground.data }, { on := 14, ground := Ground.chain }, { on := 10, ground := Ground.guard }], guard := some (10, true) }) rfl (fun K hK => ?_) AllReadyH.nil
            rw [if_pos (by rfl)]
            go_simp
            with_reducible refine (same_any (c := c11) (c2 := c20) (K11c.out.grown (hg0.trans hg1)) hk20 HKE.out HL1.out (by omega)).mono ?_
            rintro _ x2 ⟨rfl, hg2⟩
            refine hK.out _ _ ⟨range_of (B12c.out.grown ((hg0.trans hg1).trans hg2) (by simp)), range_keep RGc.out fun h => (((hg0.trans hg1).trans hg2)).block b h (by simp)⟩ (fun hHeld => ?_)
            clear hK K
            try simp only [Act.put, List.setIfInBounds_toArray, List.set_cons_zero, List.set_cons_succ]
            refine' wpAnyH_take (i := 16) (oi := { dst := some 107, op := Op.pick (Operand.tmp 101) (Operand.tmp 106) (Operand.const (Value.bool false)), type := 4, pos := "law.go:78", after := #[{ on := 10, ground := Ground.data }, { on := 15, ground := Ground.data }], guard := none }) (v := .bool true) rfl (by kernel_rfl) (by kernel_rfl) (by kernel_rfl) (fun _ _ _ h => h) (Or.inl ⟨by rfl, fun w' hSw => by go_simp⟩) (by assumption) ?qz515
            try simp only [Act.put, List.setIfInBounds_toArray, List.set_cons_zero, List.set_cons_succ]
            refine' wpAnyH_take (i := 17) (oi := { dst := some 8, op := Op.assign (Operand.tmp 107), type := 4, pos := "law.go:78", after := #[{ on := 16, ground := Ground.data }, { on := 15, ground := Ground.chain }, { on := 0, ground := Ground.phase }, { on := 1, ground := Ground.phase }, { on := 2, ground := Ground.phase }, { on := 3, ground := Ground.phase }, { on := 4, ground := Ground.phase }, { on := 5, ground := Ground.phase }, { on := 6, ground := Ground.phase }, { on := 7, ground := Ground.phase }, { on := 8, ground := Ground.phase }, { on := 9, ground := Ground.phase }, { on := 10, ground := Ground.phase }, { on := 11, ground := Ground.phase }, { on := 12, ground := Ground.phase }, { on := 13, ground := Ground.phase }, { on := 14, ground := Ground.phase }, { on := 15, ground := Ground.phase }, { on := 16, ground := Ground.phase }], guard := none }) (v := .bool true) rfl (by kernel_rfl) (by kernel_rfl) (by kernel_rfl) (fun _ _ _ h => h) (Or.inl ⟨by rfl, fun w' hSw => by go_simp⟩) (by assumption) ?qz516
            try simp only [Act.put, List.setIfInBounds_toArray, List.set_cons_zero, List.set_cons_succ]
            refine wpAnyH_done (by kernel_rfl) ?_ _
            have GE := Lib.hid ((hg0.trans hg1).trans hg2)
            go_wp2
            go_ret
            exact ⟨rfl, ((((G2.out.trans GS.out).trans Gb.out).trans GC.out).trans GE.out)⟩
          · have hpm := plc_lt L r q
            have hpi : plc L r q = -1 := by omega
            have MT : Hid (∀ ws, w2.grownBy ws none → Calls Tryd.prog 19 #[.slice A m c, .agg (u8s r).toArray, .int .u16 (q : Int)] ws fun e w' => ∃ A' c', e = .returned (.tuple #[.slice A' m c', .agg (u8s z32).toArray, .bool false]) ∧ Kps w' (fun b => ws.heap.size ≤ b ∧ b < w'.heap.size) A' L ∧ ws.grownBy w' none) := by
              intro ws hgs
              have h := take_any (c := c) (m := q) (HL.out.grown (G2.out.trans hgs)) HK.out HM.out (by omega) HC.out HR.out
              rw [show takeL L r q = L from if_neg hp2, show takeK L r q = z32 from if_neg hp2, decide_eq_false hp2] at h
              exact h.mono fun e w' ⟨A', c', he, _, _, h3, h4⟩ => ⟨A', c', by rw [he, HM.out], h3, h4⟩
            have HPI := Lib.hid hpi
            clear hpm hpi hp2
            have B6s := Lib.hid (B6a.out.grown GS.out (by simp))
            have Ls := Lib.hid (HL.out.grown (G2.out.trans GS.out))
            have M19 := Lib.hid (MT.out _ GS.out)
            go_wp2_with (first | (refine wpList_loadG agA rfl (.tmp 6) rfl g6 rfl B6s.out (by rw [u8s_length, HR.out]) ?_) | (go_at_call 19; refine M19.out.mono ?_; rintro _ wt ⟨A11, c11, rfl, h3, h4⟩; have K11 := Lib.hid h3; have GT := Lib.hid h4; clear h3 h4) | (refine wpList_allocG zeY rfl rfl ?_) | fail)
            intro g12 wa e12 k12 q12
            go_wp2_with (first | (refine wpList_storeG agY rfl _ _ rfl g12 (vs := u8s z32) rfl rfl k12.out (by rw [u8s_length, z32_length]) (by rw [u8s_length, z32_length]) (u8s_one _) ?_) | fail)
            intro wb k12b q12b z12
            have NT : Hid (wt.heap.size ≤ g12) := Nat.le_of_eq e12.out.symm
            have K11b := Lib.hid ((K11.out.grown q12.out).keep (w' := wb) fun b hb _ => q12b.out.block b (Nat.lt_of_lt_of_le hb.2 q12.out.size) (fun e => by have e' := Option.some.inj e; have := NT.out; omega))
            have Gb : Hid (vz966.grownBy wb none) := World.grownBy.andThen (GT.out.trans q12.out) q12b.out (by rintro _ ⟨⟩; exact .inl (Nat.le_trans GT.out.size NT.out))
            have B6b := Lib.hid (B6s.out.grown Gb.out (by simp))
            have Lb := Lib.hid (Ls.out.grown Gb.out)
            have MP : Hid (Calls Tryd.prog 17 #[.slice A m c, .agg (u8s r).toArray, .int .u16 (q : Int)] wb fun e w' => e = .returned (.int .i64 (-1)) ∧ wb.grownBy w' none) := by
              have h := at_any (c := c) (n := q) Lb.out HK.out HM.out (by omega) HR.out
              rw [HPI.out] at h
              exact h
            have B12 := Lib.hid k12b.out
            clear e12 k12 q12 k12b q12b z12 MT M19
            go_wp2_with (first | (refine wpList_loadG agA rfl (.tmp 6) rfl g6 rfl B6b.out (by rw [u8s_length, HR.out]) ?_) | (go_at_call 17; refine MP.out.mono ?_; rintro _ wc ⟨rfl, h4⟩; have GC := Lib.hid h4; clear h4; have B12c := Lib.hid (B12.out.grown GC.out (by simp)); have MS := Lib.hid (same_any (c := c11) (c2 := c) (K11b.out.grown GC.out) (Lb.out.grown GC.out) HK.out HM.out (by omega))) | (refine wpList_loadGw agY (by rfl) (.tmp 12) rfl g12 rfl B12c.out (by rw [u8s_length, z32_length]) ?_) | (refine wpList_zeroGw zeY (by rfl) rfl ?_) | (refine wpList_eqs (eqsY z32_length) (by rfl) (.tmp 82) (.tmp 83) rfl rfl rfl ?_) | (go_at_call 18; refine MS.out.mono ?_; rintro _ we ⟨rfl, h4⟩; have GE := Lib.hid h4; clear h4) | fail)
            go_ret
            exact ⟨rfl, ((((G2.out.trans GS.out).trans Gb.out).trans GC.out).trans GE.out)⟩
end Go.Proofs.YtdnkeaokgkiloaaDoor
