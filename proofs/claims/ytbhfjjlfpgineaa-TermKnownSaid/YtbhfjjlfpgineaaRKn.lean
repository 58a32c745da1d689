/- The reference's Known tells just what the rules say. Conditions: at most 65535 terms. -/
import Derived.Test.YtbhfjjlfpgineaaRKA
import Derived.Deep.CutBlock
namespace Go.Proofs.Ytbhfjjlfpgineaa
open Go.RowKit

/-- Both lists lie in blocks of the call's own. -/
structure RK (w0 w : World) (tg kg : Nat) (td kn : List Bool) : Prop where
  below : Below w0.heap.size w0 w
  tdB : Bol w tg td
  knB : Bol w kg kn
  tgN : w0.heap.size ≤ tg
  kgN : w0.heap.size ≤ kg
  ne : tg ≠ kg
/-- But for these two, what was there is as it was. -/
structure RX (tg kg : Nat) (w w' : World) : Prop where
  size : w.heap.size ≤ w'.heap.size
  block : ∀ q, q < w.heap.size → q ≠ tg → q ≠ kg → w'.heap[q]? = w.heap[q]?
section
variable {w0 w w' w2 : World} {tg kg n : Nat} {td kn : List Bool}
theorem RX.refl : RX tg kg w w := ⟨Nat.le_refl _, fun _ _ _ _ => rfl⟩
theorem RX.trans (h : RX tg kg w w') (k : RX tg kg w' w2) : RX tg kg w w2 := ⟨Nat.le_trans h.size k.size, fun q h1 h2 h3 => (k.block q (Nat.lt_of_lt_of_le h1 h.size) h2 h3).trans (h.block q h1 h2 h3)⟩
theorem RX.of (h : Below w.heap.size w w') : RX tg kg w w' := ⟨h.size, fun q h1 _ _ => h.block q h1⟩
theorem RX.cell (h : RX tg kg w w') {g o : Nat} {v : Value} (hc : w.cell? ⟨g, o, none⟩ = some v) (h1 : g ≠ tg) (h2 : g ≠ kg) : w'.cell? ⟨g, o, none⟩ = some v :=
  (World.cell?_of_block (h.block g (World.block_lt_of_cell? w _ hc) h1 h2)).trans hc
theorem RK.up (h : RK w0 w tg kg td kn) (hb : Below w.heap.size w w') : RK w0 w' tg kg td kn := ⟨h.below.trans (hb.mono h.below.size), h.tdB.up hb, h.knB.up hb, h.tgN, h.kgN, h.ne⟩
theorem bol_set {xs : List Bool} : (xs.map Value.bool).set n (.bool true) = (xs.set n true).map Value.bool := by rw [List.map_set]
theorem RK.setT (h : RK w0 w tg kg td kn) (h1 : Hid (w'.heap[tg]? = some (.cells ((td.map Value.bool).set n (.bool true)).toArray 4 (0, 0)))) (h2 : Hid (Wr tg w w')) : RK w0 w' tg kg (td.set n true) kn ∧ RX tg kg w w' := by
  have hw := h2.out
  refine ⟨⟨?_, ?_, (hw.block kg (fun e => h.ne e.symm)).trans h.knB, h.tgN, h.kgN, h.ne⟩, ⟨Nat.le_of_eq hw.size.symm, fun q _ h1 _ => hw.block q h1⟩⟩
  · exact h.below.trans ⟨hw.os, hw.tape, hw.output, Nat.le_of_eq hw.size.symm, fun k hk => hw.block k (by have := h.tgN; omega)⟩
  · unfold Bol
    rw [← bol_set]
    exact h1.out
theorem RK.setK (h : RK w0 w tg kg td kn) (h1 : Hid (w'.heap[kg]? = some (.cells ((kn.map Value.bool).set n (.bool true)).toArray 4 (0, 0)))) (h2 : Hid (Wr kg w w')) : RK w0 w' tg kg td (kn.set n true) ∧ RX tg kg w w' := by
  have hw := h2.out
  refine ⟨⟨?_, (hw.block tg h.ne).trans h.tdB, ?_, h.tgN, h.kgN, h.ne⟩, ⟨Nat.le_of_eq hw.size.symm, fun q _ _ h1 => hw.block q h1⟩⟩
  · exact h.below.trans ⟨hw.os, hw.tape, hw.output, Nat.le_of_eq hw.size.symm, fun k hk => hw.block k (by have := h.kgN; omega)⟩
  · unfold Bol
    rw [← bol_set]
    exact h1.out
theorem two_allocs (w : World) (x y : Obj) : Below w.heap.size w ((w.alloc x).alloc y) ∧ ((w.alloc x).alloc y).heap[w.heap.size]? = some x ∧ ((w.alloc x).alloc y).heap[w.heap.size + 1]? = some y := by
  have h2 := heap_alloc_new (w.alloc x) y
  rw [alloc_size] at h2
  refine ⟨((Below.refl _ _).alloc (Nat.le_refl _) x).alloc (by rw [alloc_size]; omega) y, ?_, h2⟩
  exact (Below.heap_alloc (w.alloc x) y _ (by rw [alloc_size]; omega)).trans (heap_alloc_new w x)
theorem rk_new {N : Nat} (w : World) : RK w ((w.alloc (.cells (Array.replicate N (Value.bool false)) 4)).alloc (.cells (Array.replicate N (Value.bool false)) 4)) w.heap.size (w.heap.size + 1) (List.replicate N false) (List.replicate N false) := by
  have e : ((List.replicate N false).map Value.bool).toArray = Array.replicate N (Value.bool false) := by simp
  obtain ⟨q1, q2, q3⟩ := two_allocs w (.cells (Array.replicate N (Value.bool false)) 4) (.cells (Array.replicate N (Value.bool false)) 4)
  refine ⟨q1, ?_, ?_, Nat.le_refl _, Nat.le_succ _, by omega⟩
  · unfold Bol; rw [e]; exact q2
  · unfold Bol; rw [e]; exact q3
end
theorem run_mkN {N : Nat} (hN : N ≤ 65535) (W : World) : (Instr.makeSlice 55 (.int .i64 ((N : Int) + 1)) (.int .i64 ((N : Int) + 1))).run Try.prog W = .ok (.slice (some ⟨W.heap.size, 0, none⟩) (N + 1) (N + 1)) (W.alloc (.cells (List.replicate (N + 1) (Value.bool false)).toArray 4)) := run_mk55 (N := N + 1) (by omega) W
/-- What the reference's Known tells. -/
def RKn (w : World) (T : List Trm) (seen : List (List UInt8)) (e : Ending) (w' : World) : Prop :=
  ∃ kg kn c, e = .returned (.slice (some ⟨kg, 0, none⟩) (T.length + 1) c) ∧ T.length + 1 ≤ c ∧ Bol w' kg kn ∧ kn.length = T.length + 1 ∧ (∀ n, at_ kn n = true ↔ Kno T seen false n) ∧ w.heap.size ≤ kg ∧ Below w.heap.size w w'
theorem lst_addr {w : World} {ok : Nat → Prop} {A : Option Addr} {ps : List (List UInt8)} (h : Lst w ok A ps) (h0 : 0 < ps.length) : ∃ ab ao, A = some ⟨ab, ao, none⟩ := by
  obtain ⟨ad, _, _, rfl, _, hc, _⟩ := h 0 h0
  obtain ⟨ab, ao, sp⟩ := ad
  refine ⟨ab, ao, ?_⟩
  have : sp = none := by simpa [Addr.add] using World.cell?_spot hc
  rw [this]
theorem rkn_end {w w' : World} {T : List Trm} {seen : List (List UInt8)} {N c0 tg kg : Nat} {td kn : List Bool} (hN : T.length = N) (hd : DI T seen c0 td kn false T.length) (hr : RK w w' tg kg td kn) : RKn w T seen (.returned (.slice (some ⟨kg, 0, none⟩) (N + 1) (N + 1))) w' := by
  subst hN
  exact ⟨kg, kn, _, rfl, Nat.le_refl _, hr.knB, hd.kl, hd.final, hr.kgN, hr.below⟩

set_option maxRecDepth 100000 in
set_option maxHeartbeats 8000000 in
theorem rknown_any {w : World} {ok ok' : Nat → Prop} {rb sn c : Nat} {T : List Trm} {A : Option Addr} {seen : List (List UInt8)} (h : RTbl w ok rb T) (hok : ∀ b, ok b → b < w.heap.size) (hgt : ∀ x ∈ T, Good x) (hl : Lst w ok' A seen) (hok' : ∀ b, ok' b → b < w.heap.size) (hsn : seen.length = sn) (hs1 : sn ≤ 1000) (hs2 : ∀ s ∈ seen, s.length ≤ 5128) :
    Calls Try.prog 19 #[.pointer (some ⟨rb, 0, none⟩), .slice A sn c] w (RKn w T seen) := by
  have hmax := h.max
  have hrb := h.lt
  obtain ⟨A1, c1, k1, hc1, hcm, hel⟩ := h.head
  obtain ⟨N, hN⟩ : ∃ N, T.length = N := ⟨_, rfl⟩
  rw [hN] at k1 hmax hc1
  have HK1 := Lib.hid k1
  have HEL := Lib.hid hel
  have HN := Lib.hid hN
  have HRB := Lib.hid hrb
  have HOK := Lib.hid hok
  have HOK' := Lib.hid hok'
  have HGT := Lib.hid hgt
  have HL := Lib.hid hl
  have HSN := Lib.hid hsn
  have HS2 := Lib.hid hs2
  have hmk := fun W => run_mkN hmax W
  unfold maxLen at hcm
  clear h hN hel hrb hok hok' hgt hl hsn hs2
  go_enter Try.func19, Try.ntmps19
  go_upto_block 0 with fail
  have hrk := rk_new (N := N + 1) w
  obtain ⟨wS, hS⟩ : ∃ wS, (w.alloc (.cells (Array.replicate (N + 1) (Value.bool false)) 4)).alloc (.cells (Array.replicate (N + 1) (Value.bool false)) 4) = wS := ⟨_, rfl⟩
  rw [hS] at hrk ⊢
  obtain ⟨tg, htg⟩ : ∃ tg, w.heap.size = tg := ⟨_, rfl⟩
  obtain ⟨kg, hkg⟩ : ∃ kg, w.heap.size + 1 = kg := ⟨_, rfl⟩
  have hrk2 : RK w wS tg kg (List.replicate (N + 1) false) (List.replicate (N + 1) false) := by rw [← hkg, ← htg]; exact hrk
  rw [hkg, htg]
  have HRK := Lib.hid hrk2
  obtain ⟨F0, hF0⟩ : ∃ F, List.replicate (N + 1) false = F := ⟨_, rfl⟩
  rw [hF0] at HRK
  have HF0 := Lib.hid hF0
  have HFL : Hid (F0.length = N + 1) := by rw [← hF0]; show (List.replicate (N + 1) false).length = N + 1; simp
  have NB : Hid (∀ s ∈ seen, ∀ n ∈ nms s (N + 1), n < N + 1) := fun s _ n hn => (nms_bd hn).2
  clear hrk hS htg hkg hrk2 hF0 hmk k1
  -- what was seen is told
  go_cut [8, 9, 10] from 32 to 55 (fun _ _ _ wx => RK w wx tg kg (setAll F0 (seen.flatMap fun s => nms s (N + 1))) F0)
  case first =>
    go_wp2_with fail
    go_loopg [8, 9, 10] sn (fun G p _ _ wr => ∃ i : Nat, p = .int .i64 i ∧ i ≤ sn ∧ sn - i ≤ G ∧ Hid (RK w wr tg kg (setAll F0 ((seen.take i).flatMap fun s => nms s (N + 1))) F0))
    case atStart => exact ⟨0, rfl, by omega, by omega, HRK.out⟩
    case round =>
      obtain ⟨i, rfl, hin, hgk, hrk⟩ := hrel
      have HGK := Lib.hid hgk
      clear hgk
      rcases Nat.lt_or_ge i sn with hlt | hge
      · have his : i < seen.length := by rw [HSN.out]; exact hlt
        have hLx := HL.out.keep fun b hb => hrk.out.below.block b (HOK'.out b hb)
        obtain ⟨ad, A', c', rfl, _, hcell, hl1, hl2, hbyt⟩ := hLx i his
        obtain ⟨xs, hxs⟩ : ∃ xs, seen[i] = xs := ⟨_, rfl⟩
        obtain ⟨xl, hxl⟩ : ∃ xl, xs.length = xl := ⟨_, rfl⟩
        rw [hxs] at hcell hl1 hbyt
        have hxm : xs.length ≤ 5128 := HS2.out xs (by rw [← hxs]; exact List.getElem_mem _)
        rw [hxl] at hcell hl1 hxm
        have hXS : Hid ((seen.take (i + 1)).flatMap (fun s => nms s (N + 1)) = (seen.take i).flatMap (fun s => nms s (N + 1)) ++ nms xs (N + 1)) := by
          show (seen.take (i + 1)).flatMap _ = _
          rw [List.take_succ_eq_append_getElem his, List.flatMap_append, hxs]
          simp
        have HRI := Lib.hid (rin_any (c := c') (N := N) hxl hbyt (fun b hb => Nat.lt_of_lt_of_le (HOK'.out b hb) hrk.out.below.size) hl1 (by omega) (by omega))
        obtain ⟨td, htd⟩ : ∃ td, setAll F0 ((seen.take i).flatMap fun s => nms s (N + 1)) = td := ⟨_, rfl⟩
        rw [htd] at hrk
        have HTD := Lib.hid htd
        have HXL : Hid (xs.length = xl) := hxl
        have HTL : Hid (td.length = N + 1) := by rw [← htd]; show (setAll F0 _).length = N + 1; rw [setAll_length]; exact HFL.out
        clear hLx hxs hxl hbyt htd his
        go_wp2_with fail
        go_at_call 16
        refine HRI.out.mono ?_
        intro e w1 h1
        obtain ⟨Al, n1, cl, rfl, hln, q1, q2, hcl, hb1⟩ := inE_n h1
        have HR1 := Lib.hid (hrk.out.up hb1)
        have HB1 := Lib.hid hb1
        have HWS := Lib.hid hrk.out
        have hnm : n1 ≤ 100000000 := by have := nms_length (N + 1) _ xs (Nat.le_refl _); have e1 := hln.out; have e2 := HXL.out; omega
        clear h1 hb1 HRI hcell hrk
        go_wp2_with fail
        go_loopg [10] n1 (fun G p wx => ∃ k : Nat, p = .int .i64 k ∧ k ≤ n1 ∧ n1 - k ≤ G ∧ Hid (RK w wx tg kg (setAll td ((nms xs (N + 1)).take k)) F0) ∧ Hid (RX tg kg w1 wx))
        case atStart => exact ⟨0, rfl, by omega, by omega, HR1.out, RX.refl⟩
        case round =>
          obtain ⟨k, rfl, hkn, hgk2, hrk2, hrx⟩ := hrel
          have HGK2 := Lib.hid hgk2
          clear hgk2
          rcases Nat.lt_or_ge k n1 with hlt2 | hge2
          · have hil : k < (nms xs (N + 1)).length := by rw [hln.out]; exact hlt2
            obtain ⟨g1, rfl, hg1, hci⟩ := hcl.out k hil
            obtain ⟨m, hm⟩ : ∃ m, (nms xs (N + 1))[k] = m := ⟨_, rfl⟩
            have hmb := nms_bd (b := xs) (below := N + 1) (n := m) (by rw [← hm]; exact List.getElem_mem _)
            rw [hm] at hci
            have hcx := hrx.out.cell hci (by have := HWS.out.tdB.lt; omega) (by have := HWS.out.knB.lt; omega)
            have hst : Hid (setAll td ((nms xs (N + 1)).take (k + 1)) = (setAll td ((nms xs (N + 1)).take k)).set m true) := by
              show setAll td _ = _
              rw [List.take_succ_eq_append_getElem hil, setAll_snoc, hm]
            have hsl : m < ((setAll td ((nms xs (N + 1)).take k)).map Value.bool).length := by rw [List.length_map, setAll_length, HTL.out]; omega
            have HSL := Lib.hid hsl
            have z1 : (0 : Int) ≤ (m : Int) := by omega
            have z2 : (m : Int) < (N : Int) + 1 := by omega
            clear hil hm hmb hci hsl
            go_wp2_with (first | (refine wpList_store_cell rfl 4 (.tmp 55) (.const (.bool true)) rfl size4 tg m (.bool true) rfl rfl rfl _ 4 hrk2.out.tdB HSL.out ?_) | fail)
            intro wy hy1 hy2
            have hset := hrk2.out.setT hy1 hy2
            rw [← hst.out] at hset
            have HSET := Lib.hid hset
            have HRX := Lib.hid (hrx.out.trans hset.2)
            clear hset hrk2 hrx hy1 hy2 hcx hst HSL
            go_wp2_with fail
            go_roundg (n1 - (k + 1))
            case measure => have := HGK2.out; omega
            case rel => exact ⟨k + 1, by go_num, by omega, Nat.le_refl _, HSET.out.1, HRX.out⟩
          · obtain rfl : k = n1 := by omega
            have d1 : ¬ ((k : Int) < (k : Int)) := by omega
            have HEND : Hid (RK w wr tg kg (setAll F0 ((seen.take (i + 1)).flatMap fun s => nms s (N + 1))) F0) := by
              rw [hXS.out, setAll_app, HTD.out]
              have := hrk2.out
              rw [List.take_of_length_le (by rw [hln.out]; exact Nat.le_refl _)] at this
              exact this
            clear hrk2 hrx
            go_wp2_with fail
            go_roundg (sn - (i + 1))
            case measure => have := HGK.out; omega
            case rel => exact ⟨i + 1, by go_num, by omega, Nat.le_refl _, HEND.out⟩
      · obtain rfl : i = sn := by omega
        have d0 : ¬ ((i : Int) < (i : Int)) := by omega
        have hrk3 := hrk.out
        rw [List.take_of_length_le (by rw [HSN.out]; exact Nat.le_refl _)] at hrk3
        have HR3 := Lib.hid hrk3
        clear hrk hrk3
        go_wp2_with fail
        go_meet
        case rel => exact HR3.out
  case rest =>
    obtain ⟨wT, hwT⟩ : ∃ wT, wT = wc := ⟨_, rfl⟩
    subst hwT
    obtain ⟨TD, hTD⟩ : ∃ TD, setAll F0 (seen.flatMap fun s => nms s (N + 1)) = TD := ⟨_, rfl⟩
    rw [hTD] at hcut
    have HRT := Lib.hid hcut
    have hdi : DI T seen (cnt TD + cnt F0 + 1) TD F0 true T.length := by
      have e1 := HN.out
      have hb : ∀ n ∈ (seen.flatMap fun s => nms s (N + 1)), n < F0.length := fun n hn => by
        obtain ⟨s, hs, hn'⟩ := List.mem_flatMap.1 hn
        rw [HFL.out]
        exact NB.out s hs n hn'
      have hz : ∀ m, at_ F0 m = false := fun m => by
        rw [← HF0.out]
        unfold at_
        rw [List.getD_eq_getElem?_getD, List.getElem?_replicate]
        split <;> rfl
      refine ⟨?_, by rw [e1]; exact HFL.out, fun m hm => ?_, fun m hm => ?_, fun s hs n hn => ?_, by omega, fun _ => by omega, fun e => by cases e⟩
      · rw [← hTD, setAll_length, e1]; exact HFL.out
      · rw [← hTD, setAll_at F0 m _ hb, hz m] at hm
        rcases hm with hm | hm
        · cases hm
        · obtain ⟨s, hs, hn'⟩ := List.mem_flatMap.1 hm
          exact .seen hs (by rw [e1]; exact hn')
      · rw [hz m] at hm; cases hm
      · rw [← hTD, setAll_at F0 n _ hb]
        exact .inr (List.mem_flatMap.2 ⟨s, hs, by rw [← e1]; exact hn⟩)
    have HDI := Lib.hid hdi
    clear hcut hTD hdi HRK
    go_wp2_with fail
    go_loopg [11] (cnt TD + cnt F0 + 1) (fun G m wr => ∃ (mr : Bool) (td kn : List Bool) (c0 : Nat), m = .bool mr ∧ Hid (DI T seen c0 td kn mr T.length) ∧ Hid (RK w wr tg kg td kn) ∧ Hid (mr = true → cnt td + cnt kn + 1 ≤ G))
    case atStart => exact ⟨true, TD, F0, _, rfl, HDI.out, HRT.out, fun _ => Nat.le_refl _⟩
    case round =>
      clear HDI HRT
      obtain ⟨mr, td, kn, c0, rfl, hdi, hrk, hgk⟩ := hrel
      cases mr with
      | false =>
        go_wp2_with fail
        go_ret
        exact rkn_end HN.out hdi.out hrk.out
      | true =>
        have HGK : Hid (cnt td + cnt kn + 1 ≤ gk) := hgk.out rfl
        have HDA := Lib.hid hdi.out.again
        obtain ⟨C0, hC0⟩ : ∃ C0, cnt td + cnt kn = C0 := ⟨_, rfl⟩
        rw [hC0] at HDA HGK
        clear hC0 hgk
        go_wp2_with fail
        go_loopg [11, 12] N (fun G m p wx => ∃ (j : Nat) (mr2 : Bool) (td2 kn2 : List Bool), m = .bool mr2 ∧ p = .int .i64 ((j : Int) + 1) ∧ j ≤ N ∧ N - j ≤ G ∧ Hid (DI T seen C0 td2 kn2 mr2 j) ∧ Hid (RK w wx tg kg td2 kn2))
        case atStart => exact ⟨0, false, td, kn, rfl, rfl, by omega, by omega, HDA.out, hrk.out⟩
        case round =>
          clear hdi hrk HDA
          obtain ⟨j, mr, td, kn, rfl, rfl, hjN, hgk2, hdi, hrk⟩ := hrel
          have HGK2 := Lib.hid hgk2
          clear hgk2
          rcases Nat.lt_or_ge j N with hlt | hge
          · have d0 : (j : Int) + 1 ≤ (N : Int) := by omega
            have hjT : j < T.length := by rw [HN.out]; exact hlt
            obtain ⟨x, hx⟩ : ∃ x, T[j] = x := ⟨_, rfl⟩
            have htm : tm T (j + 1) = x := by unfold tm; rw [Nat.add_sub_cancel, List.getD_eq_getElem?_getD, List.getElem?_eq_getElem hjT, ← hx]; rfl
            obtain ⟨gT, A7, c7, rfl, k7, k8, hl7⟩ := HEL.out j hjT
            rw [hx] at k7 k8 hl7
            have hgx := HGT.out x (by rw [← hx]; exact List.getElem_mem _)
            obtain ⟨xk, ps⟩ := x
            simp only at k7 k8 hl7 hgx
            obtain ⟨xl, hxl⟩ : ∃ xl, ps.length = xl := ⟨_, rfl⟩
            rw [hxl] at k8
            have hkd : kd T (j + 1) = xk := by unfold kd; rw [htm]
            have hpn : pn T (j + 1) = xl := by unfold pn; rw [htm]; exact hxl
            have hpt : ∀ i (h : i < ps.length), pt T (j + 1) i = ps[i] := fun i h => by unfold pt; rw [htm, List.getD_eq_getElem?_getD, List.getElem?_eq_getElem h]; rfl
            have hx64 : xl ≤ 64 := by rw [← hxl]; exact hgx.2.2.1
            have hxk8 : xk ≤ 8 := hgx.2.1
            have hx4k : ∀ p ∈ ps, p.length ≤ 4096 := hgx.2.2.2
            have c0r : wr.cell? ⟨rb, 0, none⟩ = some (.slice (some ⟨gT, 0, none⟩) N c1) := (hrk.out.below.cell (p := ⟨rb, 0, none⟩) HRB.out).trans HK1.out
            have c7r : wr.cell? ⟨gT, j * 2, none⟩ = some (.int .i64 (xk : Int)) := (hrk.out.below.cell (p := ⟨gT, j * 2, none⟩) (World.block_lt_of_cell? w _ k7)).trans k7
            have c8r : wr.cell? ⟨gT, j * 2 + 1, none⟩ = some (.slice A7 xl c7) := (hrk.out.below.cell (p := ⟨gT, j * 2 + 1, none⟩) (World.block_lt_of_cell? w _ k8)).trans k8
            have HTM := Lib.hid htm
            have HXL := Lib.hid hxl
            have HKD := Lib.hid hkd
            have HPN := Lib.hid hpn
            have HPT := Lib.hid hpt
            have H4K := Lib.hid hx4k
            have HLP := Lib.hid hl7
            have hrka := hrk.out.up (below_alc wr (.cells #[.int .i64 (xk : Int), .slice A7 xl c7] 37))
            have hbx := heap_alloc_new wr (.cells #[.int .i64 (xk : Int), .slice A7 xl c7] 37)
            have hxsz := alloc_size wr (.cells #[.int .i64 (xk : Int), .slice A7 xl c7] 37)
            obtain ⟨w1, hw1⟩ : ∃ w1, wr.alloc (.cells #[.int .i64 (xk : Int), .slice A7 xl c7] 37) = w1 := ⟨_, rfl⟩
            rw [hw1] at hrka hbx hxsz
            have HR1 := Lib.hid hrka
            have HT0 := Lib.hid hrk.out.tdB.lt
            have HK0 := Lib.hid hrk.out.knB.lt
            have HDI0 := Lib.hid hdi.out
            have hj1 : (j : Int) + 1 - 1 = (j : Int) := by omega
            have z1 : (0 : Int) ≤ (j : Int) := by omega
            have z2 : (j : Int) < (N : Int) := by omega
            clear hx htm k7 k8 hl7 hgx hxl hkd hpn hpt hx4k hrka hjT hdi hrk
            go_upto_region 19 with fail
            clear c0r c7r c8r
            obtain ⟨gx, hgx⟩ : ∃ gx, wr.heap.size = gx := ⟨_, rfl⟩
            rw [hgx] at hbx HT0 HK0 hxsz ⊢
            clear hw1 hgx
            have HX0 := Lib.hid hbx
            have KX : Hid (∀ W, RX tg kg w1 W → W.cell? ⟨gx, 0, none⟩ = some (.int .i64 (xk : Int)) ∧ W.cell? ⟨gx, 1, none⟩ = some (.slice A7 xl c7)) := fun W hW => by
              have h := (hW.block gx (by rw [hxsz]; exact Nat.lt_succ_self _) (by have := HT0.out; omega) (by have := HK0.out; omega)).trans HX0.out
              exact ⟨by rw [cell_of_block h]; rfl, by rw [cell_of_block h]; rfl⟩
            have ct := HR1.out.tdB.cell (n := j + 1) (by rw [HDI0.out.tl, HN.out]; omega)
            obtain ⟨b0, hb0⟩ : ∃ b0, at_ td (j + 1) = b0 := ⟨_, rfl⟩
            rw [hb0] at ct
            obtain ⟨cx0, cx1⟩ := KX.out w1 RX.refl
            have HB0 := Lib.hid hb0
            have t1 : ((j : Int) + 1).toNat = j + 1 := by omega
            clear hb0 hbx
            go_upto_if 76 with fail
            have HIS : Hid (isK T td kn (j + 1) = (b0 || (decide (1 < xk) && ((ps.all fun p => (nms p (j + 1)).all (at_ kn)) || (decide (xk = 3) && ps.any fun p => (nms p (j + 1)).all (at_ kn)))))) := by
              show isK T td kn (j + 1) = _
              unfold isK
              rw [HB0.out, HKD.out, HTM.out]
            go_cut [14, 15, 16, 17, 18] from 76 to 112 (fun s _ _ _ _ wx => s = .bool (isK T td kn (j + 1)) ∧ Below w1.heap.size w1 wx)
            case first =>
              by_cases h1k : 1 < xk
              · have d1 : (1 : Int) < (xk : Int) := by omega
                have D1 := Lib.hid (decide_eq_true h1k)
                rw [decide_eq_true d1]
                go_wp2_with fail
                go_loopg [15, 16, 17] xl (fun G ev so p wy => ∃ (k : Nat) (be bs : Bool), ev = .bool be ∧ so = .bool bs ∧ p = .int .i64 k ∧ k ≤ xl ∧ xl - k ≤ G ∧ Hid ((ps.take k).all (fun p => (nms p (j + 1)).all (at_ kn)) = be) ∧ Hid ((ps.take k).any (fun p => (nms p (j + 1)).all (at_ kn)) = bs) ∧ Hid (Below w1.heap.size w1 wy))
                case atStart => exact ⟨0, true, false, rfl, rfl, rfl, by omega, by omega, rfl, rfl, Below.refl _ _⟩
                case round =>
                  obtain ⟨k, be, bs, rfl, rfl, rfl, hkx, hgk3, hbe, hbs, hby⟩ := hrel
                  have HGK3 := Lib.hid hgk3
                  clear hgk3 ct cx0
                  obtain ⟨cy0, cy1⟩ := KX.out wr (RX.of hby.out)
                  rcases Nat.lt_or_ge k xl with hlt3 | hge3
                  · have hkp : k < ps.length := by rw [HXL.out]; exact hlt3
                    have hLy := HLP.out.keep fun b hb => (hby.out.block b (Nat.lt_of_lt_of_le (HOK.out b hb) HR1.out.below.size)).trans (HR1.out.below.block b (HOK.out b hb))
                    obtain ⟨ad, A', c', rfl, _, hcell, hp1, hp2, hbyt⟩ := hLy k hkp
                    obtain ⟨xs, hxs⟩ : ∃ xs, ps[k] = xs := ⟨_, rfl⟩
                    obtain ⟨pl, hpl⟩ : ∃ pl, xs.length = pl := ⟨_, rfl⟩
                    have hp4 : xs.length ≤ 4096 := H4K.out xs (by rw [← hxs]; exact List.getElem_mem _)
                    rw [hxs] at hcell hp1 hbyt
                    rw [hpl] at hcell hp1 hp4
                    have hall := rall_any (ck := N + 1) (N := N) (m := j) (c := c') (HR1.out.knB.up hby.out) (by rw [HDI0.out.kl, HN.out]) hmax (by omega) hpl hbyt (fun b hb => Nat.lt_of_lt_of_le (HOK.out b hb) (Nat.le_trans HR1.out.below.size hby.out.size)) hp1 (by omega)
                    obtain ⟨ba, hba⟩ : ∃ ba, (nms xs (j + 1)).all (at_ kn) = ba := ⟨_, rfl⟩
                    rw [hba] at hall
                    have HALL := Lib.hid hall
                    have hbe2 : Hid ((ps.take (k + 1)).all (fun p => (nms p (j + 1)).all (at_ kn)) = (be && ba)) := by
                      show _ = _
                      rw [List.take_succ_eq_append_getElem hkp, List.all_append, hbe.out, hxs]
                      simp [hba]
                    have hbs2 : Hid ((ps.take (k + 1)).any (fun p => (nms p (j + 1)).all (at_ kn)) = (bs || ba)) := by
                      show _ = _
                      rw [List.take_succ_eq_append_getElem hkp, List.any_append, hbs.out, hxs]
                      simp [hba]
                    clear hLy hkp hxs hpl hbyt hba hall hbe hbs
                    go_wp2_with fail
                    go_at_call 36
                    refine HALL.out.mono ?_
                    rintro _ wz ⟨rfl, hbz⟩
                    have HBZ := Lib.hid (hby.out.trans (hbz.mono hby.out.size))
                    clear hbz HALL hby hcell cy0 cy1
                    cases be <;> cases bs
                    all_goals
                      go_wp2_with fail
                      go_roundg (xl - (k + 1))
                      case measure => have := HGK3.out; omega
                      case rel => exact ⟨k + 1, _, _, rfl, rfl, by go_num, by omega, Nat.le_refl _, hbe2.out, hbs2.out, HBZ.out⟩
                  · obtain rfl : k = xl := by omega
                    have d3 : ¬ ((k : Int) < (k : Int)) := by omega
                    have hb1 := hbe.out
                    have hb2 := hbs.out
                    rw [List.take_of_length_le (by rw [HXL.out]; exact Nat.le_refl _)] at hb1 hb2
                    have HIS2 : Hid (isK T td kn (j + 1) = (b0 || (be || (decide (xk = 3) && bs)))) := by
                      show _ = _
                      rw [HIS.out, hb1, hb2, D1.out, Bool.true_and]
                    have HBY := Lib.hid hby.out
                    clear hb1 hb2 hbe hbs hby
                    cases b0 with
                    | true =>
                      have HE : Hid (isK T td kn (j + 1) = true) := by
                        show _ = _
                        rw [HIS2.out, Bool.true_or]
                      go_wp2_with fail
                      go_meet
                      case rel => exact ⟨by rw [HE.out], HBY.out⟩
                    | false =>
                      cases be with
                      | true =>
                        have HE : Hid (isK T td kn (j + 1) = true) := by
                          show _ = _
                          rw [HIS2.out, Bool.true_or, Bool.or_true]
                        go_wp2_with fail
                        go_meet
                        case rel => exact ⟨by rw [HE.out], HBY.out⟩
                      | false =>
                        by_cases h3k : xk = 3
                        · subst h3k
                          have HE : Hid (isK T td kn (j + 1) = bs) := by
                            show _ = _
                            rw [HIS2.out]
                            simp
                          cases bs
                          all_goals
                            go_wp2_with fail
                            go_meet
                            case rel => exact ⟨by rw [HE.out], HBY.out⟩
                        · have d9 : ((xk : Int) == 3) = false := by rw [beq_eq_false_iff_ne]; omega
                          have HE : Hid (isK T td kn (j + 1) = false) := by
                            show _ = _
                            rw [HIS2.out, decide_eq_false h3k]
                            simp
                          go_wp2_with fail
                          go_meet
                          case rel => exact ⟨by rw [HE.out], HBY.out⟩
              · have d1 : ¬ ((1 : Int) < (xk : Int)) := by omega
                have HIS2 : Hid (isK T td kn (j + 1) = b0) := by
                  show _ = _
                  rw [HIS.out, decide_eq_false h1k]
                  simp
                go_wp2_with fail
                go_meet
                case rel => exact ⟨by rw [HIS2.out], Below.refl _ _⟩
            case rest =>
              obtain ⟨rfl, hb2⟩ := hcut
              obtain ⟨w2, hw2⟩ : ∃ w2, w2 = wc := ⟨_, rfl⟩
              subst hw2
              have HR2 := Lib.hid (HR1.out.up hb2)
              have HX2 : Hid (RX tg kg w1 w2) := RX.of hb2
              have ck := HR2.out.knB.cell (n := j + 1) (by rw [HDI0.out.kl, HN.out]; omega)
              obtain ⟨bk, hbk⟩ : ∃ bk, at_ kn (j + 1) = bk := ⟨_, rfl⟩
              rw [hbk] at ck
              obtain ⟨IS, hIS⟩ : ∃ IS, isK T td kn (j + 1) = IS := ⟨_, rfl⟩
              rw [hIS]
              have HISS := Lib.hid hIS
              have HBK := Lib.hid hbk
              have z3 : (j : Int) + 1 < (N : Int) + 1 := by omega
              clear hb2 hIS hbk HIS ct cx0
              go_upto_region 29 with fail
              go_cut [120] from 113 to 119 (fun s wx => s = .bool (IS && !bk) ∧ wx = w2)
              case first =>
                cases IS <;> cases bk
                all_goals
                  go_wp2_with fail
                  go_meet
                  case rel => exact ⟨rfl, rfl⟩
              case rest =>
                obtain ⟨rfl, rfl⟩ := hcut
                obtain ⟨bq, hbq⟩ : ∃ bq, (IS && !bk) = bq := ⟨_, rfl⟩
                rw [hbq]
                have HBQ := Lib.hid hbq
                clear hbq ck
                go_upto_if 120 with fail
                go_cut [11] from 121 to 123 (fun m wx => ∃ (mr1 : Bool) (kn1 : List Bool), m = .bool mr1 ∧ DI T seen C0 td kn1 mr1 j ∧ RK w wx tg kg td kn1 ∧ RX tg kg wc wx ∧ (mr1 = false → kn1 = kn ∧ (IS = true → at_ kn (j + 1) = true)))
                case first =>
                  cases bq with
                  | false =>
                    go_wp2_with fail
                    go_meet
                    case rel => exact ⟨mr, kn, rfl, HDI0.out, HR2.out, RX.refl, fun _ => ⟨rfl, fun hi => by
                      have h := HBQ.out
                      rw [hi, HBK.out.symm] at h
                      cases hq : at_ kn (j + 1) with
                      | true => rfl
                      | false => rw [hq] at h; cases h⟩⟩
                  | true =>
                    have hIT : IS = true ∧ bk = false := by
                      have h := HBQ.out
                      cases IS <;> cases bk <;> first | exact ⟨rfl, rfl⟩ | cases h
                    have hno : Kno T seen false (j + 1) := isK_kno HDI0.out (by omega) (by rw [HN.out]; omega) (by rw [HISS.out]; exact hIT.1)
                    have HD3 := Lib.hid (HDI0.out.known (n := j + 1) (by rw [HN.out]; omega) hno (by rw [HBK.out]; exact hIT.2))
                    have HSL : Hid (j + 1 < (kn.map Value.bool).length) := by
                      show _ < _
                      rw [List.length_map, HDI0.out.kl, HN.out]
                      omega
                    clear hIT hno
                    go_wp2_with (first | (refine wpList_store_cell rfl 4 (.tmp 123) (.const (.bool true)) rfl size4 kg (j + 1) (.bool true) rfl rfl rfl _ 4 HR2.out.knB HSL.out ?_) | fail)
                    intro wy hy1 hy2
                    have HSET := Lib.hid (HR2.out.setK hy1 hy2)
                    clear hy1 hy2
                    go_wp2_with fail
                    go_meet
                    case rel => exact ⟨true, _, rfl, HD3.out, HSET.out.1, HSET.out.2, fun e => by cases e⟩
                case rest =>
                  obtain ⟨mr1, kn1, rfl, hd3, hr3, hx3, hm3⟩ := hcut
                  obtain ⟨w3, hw3⟩ : ∃ w3, w3 = wc := ⟨_, rfl⟩
                  subst hw3
                  have HD3 := Lib.hid hd3
                  have HR3 := Lib.hid hr3
                  have HX3 := Lib.hid (HX2.out.trans hx3)
                  have HM3 := Lib.hid hm3
                  obtain ⟨cz0, cz1⟩ := KX.out w3 HX3.out
                  have ct := HR3.out.tdB.cell (n := j + 1) (by rw [HD3.out.tl, HN.out]; omega)
                  rw [HB0.out] at ct
                  have HLW : Hid (∀ W, Below w.heap.size w W → Lst W ok A7 ps) := fun W hW => HLP.out.keep fun b hb => hW.block b (HOK.out b hb)
                  clear hd3 hr3 hx3 hm3
                  go_upto_region 32 with fail
                  go_cut [154] from 124 to 153 (fun s wx => s = .bool (opK T td kn1 (j + 1)) ∧ Below w3.heap.size w3 wx)
                  case first =>
                    by_cases h8 : xk = 8
                    · subst h8
                      cases b0 with
                      | false =>
                        have HE : Hid (opK T td kn1 (j + 1) = false) := by
                          show _ = _
                          unfold opK
                          rw [HB0.out]
                          simp
                        go_wp2_with fail
                        go_meet
                        case rel => exact ⟨by rw [HE.out], Below.refl _ _⟩
                      | true =>
                        rcases Nat.eq_zero_or_pos xl with h0 | h0
                        · subst h0
                          have HE : Hid (opK T td kn1 (j + 1) = false) := by
                            show _ = _
                            unfold opK
                            rw [HPN.out]
                            simp
                          go_wp2_with fail
                          go_meet
                          case rel => exact ⟨by rw [HE.out], Below.refl _ _⟩
                        · have hkp : 0 < ps.length := by rw [HXL.out]; exact h0
                          obtain ⟨ad, A', c', rfl, _, hcell, hp1, hp2, hbyt⟩ := HLW.out w3 HR3.out.below 0 hkp
                          obtain ⟨xs, hxs⟩ : ∃ xs, ps[0] = xs := ⟨_, rfl⟩
                          obtain ⟨pl, hpl⟩ : ∃ pl, xs.length = pl := ⟨_, rfl⟩
                          have hp4 : xs.length ≤ 4096 := H4K.out xs (by rw [← hxs]; exact List.getElem_mem _)
                          have hpt0 : pt T (j + 1) 0 = xs := (HPT.out 0 hkp).trans hxs
                          rw [hxs] at hcell hp1 hbyt
                          rw [hpl] at hcell hp1 hp4
                          have hall := rall_any (ck := N + 1) (N := N) (m := j) (c := c') HR3.out.knB (by rw [HD3.out.kl, HN.out]) hmax (by omega) hpl hbyt (fun b hb => Nat.lt_of_lt_of_le (HOK.out b hb) HR3.out.below.size) hp1 (by omega)
                          obtain ⟨ba, hba⟩ : ∃ ba, (nms xs (j + 1)).all (at_ kn1) = ba := ⟨_, rfl⟩
                          rw [hba] at hall
                          have HALL := Lib.hid hall
                          have HE : Hid (opK T td kn1 (j + 1) = (ba && decide (1 < xl))) := by
                            show _ = _
                            unfold opK
                            rw [HKD.out, HB0.out, hpt0, hba, HPN.out]
                            simp
                          have hce : w3.cell? ad = some (.slice A' pl c') := by simpa [Addr.add] using hcell
                          have y0 : ((xl : Int) == 0) = false := by rw [beq_eq_false_iff_ne]; omega
                          have y1 : (0 : Int) < (xl : Int) := by omega
                          clear hkp hxs hpl hp4 hpt0 hbyt hba hall
                          go_wp2_with fail
                          go_at_call 36
                          refine HALL.out.mono ?_
                          rintro _ wz ⟨rfl, hbz⟩
                          obtain ⟨cw0, cw1⟩ := KX.out wz (HX3.out.trans (RX.of hbz))
                          have HBZ := Lib.hid hbz
                          clear hbz HALL hcell hce
                          cases ba with
                          | false =>
                            go_wp2_with fail
                            go_meet
                            case rel => exact ⟨by rw [HE.out]; rfl, HBZ.out⟩
                          | true =>
                            by_cases h1x : 1 < xl
                            · have y2 : (1 : Int) < (xl : Int) := by omega
                              have HE2 : Hid (opK T td kn1 (j + 1) = true) := by show _ = _; rw [HE.out, decide_eq_true h1x]; rfl
                              go_wp2_with fail
                              go_meet
                              case rel => exact ⟨by rw [HE2.out], HBZ.out⟩
                            · have y2 : ¬ ((1 : Int) < (xl : Int)) := by omega
                              have HE2 : Hid (opK T td kn1 (j + 1) = false) := by show _ = _; rw [HE.out, decide_eq_false h1x]; rfl
                              go_wp2_with fail
                              go_meet
                              case rel => exact ⟨by rw [HE2.out, decide_eq_false (show ¬ ((1 : Int) < (xl : Int)) by omega)], HBZ.out⟩
                    · have d8 : ((xk : Int) == 8) = false := by rw [beq_eq_false_iff_ne]; omega
                      have HE : Hid (opK T td kn1 (j + 1) = false) := by
                        show _ = _
                        unfold opK
                        rw [HKD.out, decide_eq_false h8]
                        simp
                      go_wp2_with fail
                      go_meet
                      case rel => exact ⟨by rw [HE.out], Below.refl _ _⟩
                  case rest =>
                    obtain ⟨rfl, hb4⟩ := hcut
                    obtain ⟨w4, hw4⟩ : ∃ w4, w4 = wc := ⟨_, rfl⟩
                    subst hw4
                    have HR4 := Lib.hid (HR3.out.up hb4)
                    have HX4 := Lib.hid (HX3.out.trans (RX.of hb4))
                    obtain ⟨cu0, cu1⟩ := KX.out w4 HX4.out
                    obtain ⟨bo, hbo⟩ : ∃ bo, opK T td kn1 (j + 1) = bo := ⟨_, rfl⟩
                    rw [hbo]
                    have HBO := Lib.hid hbo
                    have q9 : (j : Int) + 1 + 1 ≤ 100000 := by omega
                    clear hb4 hbo cz0 cz1 ct
                    cases bo with
                    | false =>
                      have HDE := Lib.hid (HD3.out.next fun e => clo_of (fun hi => by
                        obtain ⟨e1, e2⟩ := HM3.out e
                        subst e1
                        exact e2 (HISS.out.symm.trans hi)) (fun ho => by rw [HBO.out] at ho; cases ho))
                      go_wp2_with fail
                      go_roundg (N - (j + 1))
                      case measure => have := HGK2.out; omega
                      case rel => exact ⟨j + 1, mr1, td, kn1, rfl, by go_num, by omega, Nat.le_refl _, HDE.out, HR4.out⟩
                    | true =>
                      have hbo2 := HBO.out
                      unfold opK at hbo2
                      simp only [Bool.and_eq_true, decide_eq_true_eq, HPN.out] at hbo2
                      have h1x : 1 < xl := hbo2.2
                      have hkp : 1 < ps.length := by rw [HXL.out]; exact h1x
                      obtain ⟨pb, po, rfl⟩ := lst_addr (HLW.out w4 HR4.out.below) (by omega)
                      obtain ⟨ad, A', c', ead, _, hcell, hp1, hp2, hbyt⟩ := HLW.out w4 HR4.out.below 1 hkp
                      obtain rfl : ad = ⟨pb, po, none⟩ := (Option.some.inj ead).symm
                      rw [Addr.add_lit] at hcell
                      clear ead
                      obtain ⟨xs, hxs⟩ : ∃ xs, ps[1] = xs := ⟨_, rfl⟩
                      obtain ⟨pl, hpl⟩ : ∃ pl, xs.length = pl := ⟨_, rfl⟩
                      have hp4 : xs.length ≤ 4096 := H4K.out xs (by rw [← hxs]; exact List.getElem_mem _)
                      have hpt1 : pt T (j + 1) 1 = xs := (HPT.out 1 hkp).trans hxs
                      rw [hxs] at hcell hp1 hbyt
                      rw [hpl] at hcell hp1 hp4
                      have HRI := Lib.hid (rin_any (c := c') (N := j) hpl hbyt (fun b hb => Nat.lt_of_lt_of_le (HOK.out b hb) HR4.out.below.size) hp1 (by omega) (by omega))
                      have HP1 := Lib.hid hpt1
                      have HPL := Lib.hid hpl
                      have y1 : (1 : Int) < (xl : Int) := by omega
                      clear hbo2 hkp hxs hpl hpt1 hbyt
                      go_wp2_with fail
                      go_at_call 16
                      refine HRI.out.mono ?_
                      intro e w5 h5
                      obtain ⟨Al, n1, cl, rfl, hln, q1, q2, hcl, hb5⟩ := inE_n h5
                      have HR5 := Lib.hid (HR4.out.up hb5)
                      have HTK4 := Lib.hid (And.intro HR4.out.tdB.lt HR4.out.knB.lt)
                      have hnm : n1 ≤ 100000000 := by have := nms_length (j + 1) _ xs (Nat.le_refl _); have e1 := hln.out; have e2 := HPL.out; omega
                      clear h5 hb5 HRI hcell cu0 cu1
                      go_wp2_with fail
                      go_loopg [11, 20] n1 (fun G m p wy => ∃ (q : Nat) (mr2 : Bool) (td2 : List Bool), m = .bool mr2 ∧ p = .int .i64 q ∧ q ≤ n1 ∧ n1 - q ≤ G ∧ Hid (DI T seen C0 td2 kn1 mr2 j) ∧ Hid (RK w wy tg kg td2 kn1) ∧ Hid (RX tg kg w5 wy) ∧ Hid (mr2 = false → mr1 = false ∧ td2 = td ∧ ∀ q' (h : q' < (nms xs (j + 1)).length), q' < q → at_ td (nms xs (j + 1))[q'] = true))
                      case atStart => exact ⟨0, mr1, td, rfl, rfl, by omega, by omega, HD3.out, HR5.out, RX.refl, fun e => ⟨e, rfl, fun q' h h2 => absurd h2 (by omega)⟩⟩
                      case round =>
                        obtain ⟨q, mr2, td2, rfl, rfl, hqn, hgk4, hd6, hr6, hx6, hm6⟩ := hrel
                        have HGK4 := Lib.hid hgk4
                        clear hgk4
                        rcases Nat.lt_or_ge q n1 with hlt4 | hge4
                        · have hil : q < (nms xs (j + 1)).length := by rw [hln.out]; exact hlt4
                          obtain ⟨g1, rfl, hg1, hci⟩ := hcl.out q hil
                          obtain ⟨m, hm⟩ : ∃ m, (nms xs (j + 1))[q] = m := ⟨_, rfl⟩
                          have hmb := nms_bd (b := xs) (below := j + 1) (n := m) (by rw [← hm]; exact List.getElem_mem _)
                          rw [hm] at hci
                          have hcx := hx6.out.cell hci (by have := HTK4.out.1; omega) (by have := HTK4.out.2; omega)
                          have htc := hr6.out.tdB.cell (n := m) (by rw [hd6.out.tl, HN.out]; omega)
                          obtain ⟨bm, hbm⟩ : ∃ bm, at_ td2 m = bm := ⟨_, rfl⟩
                          rw [hbm] at htc
                          have HBM := Lib.hid hbm
                          have HIL := Lib.hid hil
                          have HMM : Hid (∀ h : q < (nms xs (j + 1)).length, (nms xs (j + 1))[q]'h = m) := fun _ => hm
                          have hkm : Kno T seen true m := opK_kno HD3.out HBO.out (by rw [HP1.out, ← hm]; exact List.getElem_mem _)
                          have HKM := Lib.hid hkm
                          have y3 : (0 : Int) ≤ (m : Int) := by omega
                          have y4 : (m : Int) < (N : Int) + 1 := by omega
                          have y5 : (q : Int) + 1 ≤ 100000001 := by omega
                          have hmT : m ≤ T.length := by rw [HN.out]; omega
                          have HMT := Lib.hid hmT
                          clear hil hm hmb hci hbm hkm hmT
                          cases bm with
                          | true =>
                            have HM7 : Hid (mr2 = false → mr1 = false ∧ td2 = td ∧ ∀ q' (h : q' < (nms xs (j + 1)).length), q' < q + 1 → at_ td (nms xs (j + 1))[q'] = true) := fun e => by
                              obtain ⟨e1, e2, e3⟩ := hm6.out e
                              refine ⟨e1, e2, fun q' h h2 => ?_⟩
                              by_cases eq : q' = q
                              · subst eq
                                rw [HMM.out h, ← e2]
                                exact HBM.out
                              · exact e3 q' h (by omega)
                            have HD7 := Lib.hid hd6.out
                            have HR7 := Lib.hid hr6.out
                            have HX7 := Lib.hid hx6.out
                            clear hd6 hr6 hx6 hm6
                            go_wp2_with fail
                            go_roundg (n1 - (q + 1))
                            case measure => have := HGK4.out; omega
                            case rel => exact ⟨q + 1, mr2, td2, rfl, by go_num, by omega, Nat.le_refl _, HD7.out, HR7.out, HX7.out, HM7.out⟩
                          | false =>
                            have HD7 := Lib.hid (hd6.out.tell HMT.out HKM.out HBM.out)
                            have HSL : Hid (m < (td2.map Value.bool).length) := by
                              show _ < _
                              rw [List.length_map, hd6.out.tl]
                              have := HMT.out
                              omega
                            go_wp2_with (first | (refine wpList_store_cell rfl 4 (.tmp 181) (.const (.bool true)) rfl size4 tg m (.bool true) rfl rfl rfl _ 4 hr6.out.tdB HSL.out ?_) | fail)
                            intro wy hy1 hy2
                            have HSET := Lib.hid (hr6.out.setT hy1 hy2)
                            have HX7 := Lib.hid (hx6.out.trans HSET.out.2)
                            clear hy1 hy2 hd6 hr6 hx6 hm6 hcx htc
                            go_wp2_with fail
                            go_roundg (n1 - (q + 1))
                            case measure => have := HGK4.out; omega
                            case rel => exact ⟨q + 1, true, _, rfl, by go_num, by omega, Nat.le_refl _, HD7.out, HSET.out.1, HX7.out, fun e => by cases e⟩
                        · obtain rfl : q = n1 := by omega
                          have d5 : ¬ ((q : Int) < (q : Int)) := by omega
                          have HDE := Lib.hid (hd6.out.next fun e => by
                            obtain ⟨e1, e2, e3⟩ := hm6.out e
                            obtain ⟨f1, f2⟩ := HM3.out e1
                            subst f1 e2
                            refine clo_of (fun hi => f2 (HISS.out.symm.trans hi)) (fun _ k hk => ?_)
                            rw [HP1.out] at hk
                            obtain ⟨i, hi, rfl⟩ := List.getElem_of_mem hk
                            exact e3 i hi (by rw [hln.out] at hi; exact hi))
                          have HR7 := Lib.hid hr6.out
                          clear hd6 hr6 hx6 hm6
                          go_wp2_with fail
                          go_roundg (N - (j + 1))
                          case measure => have := HGK2.out; omega
                          case rel => exact ⟨j + 1, mr2, td2, kn1, rfl, by go_num, by omega, Nat.le_refl _, HDE.out, HR7.out⟩
          · obtain rfl : N = j := by omega
            have d0 : ¬ ((N : Int) + 1 ≤ (N : Int)) := by omega
            have HD2 : Hid (DI T seen C0 td kn mr T.length) := by rw [HN.out]; exact hdi.out
            have HR2 := Lib.hid hrk.out
            have HCM := Lib.hid (fun e => hdi.out.cm e)
            clear hdi hrk
            go_wp2_with fail
            go_roundg C0
            case measure => exact HGK.out
            case rel => exact ⟨mr, td, kn, C0, rfl, HD2.out, HR2.out, fun e => HCM.out e⟩
end Go.Proofs.Ytbhfjjlfpgineaa
