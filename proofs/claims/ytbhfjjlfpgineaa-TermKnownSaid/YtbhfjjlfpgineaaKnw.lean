/- Known tells what is known: just what the document's rules say. Conditions: at most 65535 terms; MaxLen holds some number; what was seen is no longer than lists of bytes may be. -/
import Derived.Test.YtbhfjjlfpgineaaBeg
import Derived.Test.YtbhfjjlfpgineaaRead
namespace Go.Proofs.Ytbhfjjlfpgineaa
open Go.RowKit

theorem Tbl.tr {T : List Trm} {w w' : World} {g g' : Gh} {bx : Nat → Prop} {R : Role → Prop} {tb : Nat} (h : Tbl w (Still w g) tb T) (e : Tr R w w' g g' bx) (hR : ¬ R .still) : Tbl w' (Still w' g') tb T :=
  (h.keep fun b hb _ => e.block b hb.1 (by rw [hb.2]; exact hR)).imp fun b _ hb => e.still hR hb
theorem Tbl.tok {T : List Trm} {w : World} {ok : Nat → Prop} {tb : Nat} (h : Tbl w ok tb T) : Tok T := ⟨h.good, h.max⟩
/-- A search begins. -/
def Beg (w : World) (T : List Trm) (N : Nat) (s : Value) (wx : World) : Prop :=
  ∃ C : Cs, s = ptr C.sb ∧ C.N = N ∧ C.x = 0 ∧ C.base = w.heap.size ∧ Mem C T wx (g0 C.sb C.nb C.wb) (bxF T 1) (sch0 C.N) ∧ Below w.heap.size w wx
theorem bxF_none (T : List Trm) (n : Nat) : ¬ bxF T 1 n := fun h => by have := h.1; have := h.2.1; omega
theorem alloc4 (w : World) (o1 o2 o3 o4 : Obj) :
    ((((w.alloc o1).alloc o2).alloc o3).alloc o4).drew.heap[w.heap.size]? = some o1 ∧ ((((w.alloc o1).alloc o2).alloc o3).alloc o4).drew.heap[w.heap.size + 1]? = some o2 ∧ ((((w.alloc o1).alloc o2).alloc o3).alloc o4).drew.heap[w.heap.size + 1 + 1]? = some o3 ∧
      ((((w.alloc o1).alloc o2).alloc o3).alloc o4).drew.heap[w.heap.size + 1 + 1 + 1]? = some o4 ∧ Below w.heap.size w ((((w.alloc o1).alloc o2).alloc o3).alloc o4).drew := by
  have h1 := heap_alloc_new w o1
  have h2 := heap_alloc_new (w.alloc o1) o2
  have h3 := heap_alloc_new ((w.alloc o1).alloc o2) o3
  have h4 := heap_alloc_new (((w.alloc o1).alloc o2).alloc o3) o4
  simp only [alloc_size] at h2 h3 h4
  refine ⟨?_, ?_, ?_, h4, ((((Below.refl _ _).alloc (Nat.le_refl _) _).alloc (by simp) _).alloc (by simp; omega) _).alloc (by simp; omega) _ |>.drew⟩
  · exact (Below.heap_alloc _ o4 _ (by simp only [alloc_size]; omega)).trans ((Below.heap_alloc _ o3 _ (by simp only [alloc_size]; omega)).trans ((Below.heap_alloc _ o2 _ (by simp only [alloc_size]; omega)).trans h1))
  · exact (Below.heap_alloc _ o4 _ (by simp only [alloc_size]; omega)).trans ((Below.heap_alloc _ o3 _ (by simp only [alloc_size]; omega)).trans h2)
  · exact (Below.heap_alloc _ o4 _ (by simp only [alloc_size]; omega)).trans h3
theorem beg_mk {w wx : World} {T : List Trm} {N sb kb nb wb : Nat} (hn : wx.heap[nb]? = some (.cells (Array.replicate N (Value.bool false)) 4 (0, 0))) (hw : wx.heap[wb]? = some (.cells (Array.replicate N (Value.slice none 0 0)) 105 (0, 0)))
    (hk : wx.heap[kb]? = some (.cells #[.slice (some ⟨nb, 0, none⟩) N N] 83 (0, 0))) (hs : wx.heap[sb]? = some (.cells #[ptr kb, .slice none 0 0, .slice (some ⟨wb, 0, none⟩) N N] 86 (0, 0))) (hb : Below w.heap.size w wx)
    (b1 : w.heap.size ≤ nb) (b2 : w.heap.size ≤ wb) (b3 : w.heap.size ≤ sb) (d1 : nb ≠ wb) (d2 : nb ≠ kb) (d3 : nb ≠ sb) (d4 : wb ≠ kb) (d5 : wb ≠ sb) (d6 : kb ≠ sb) : Beg w T N (ptr sb) wx :=
  ⟨⟨sb, kb, nb, wb, N, w.heap.size, 0⟩, rfl, rfl, rfl, rfl, Mem.start (C := ⟨sb, kb, nb, wb, N, w.heap.size, 0⟩) (bxF_none T) rfl (by rw [List.toArray_replicate]; exact hn) (by rw [List.toArray_replicate]; exact hw) hk hs b1 b2 b3 hb.size d1 d2 d3 d4 d5 d6, hb⟩

theorem read_tm {w : World} {ok : Nat → Prop} {tb n : Nat} {T : List Trm} (h : Tbl w ok tb T) (h1 : 1 ≤ n) (hn : n ≤ T.length) : Calls Try.prog 27 #[ptr tb, .int .i64 (n : Int)] w (TermE w (tm T n)) := by
  have hj : n - 1 < T.length := by omega
  have hr := read_any h hj
  rw [show (((n - 1 : Nat) : Int) + 1) = (n : Int) by omega] at hr
  have e : T[n - 1] = tm T n := by
    unfold tm
    rw [List.getD_eq_getElem?_getD, List.getElem?_eq_getElem hj]
    rfl
  rw [e] at hr
  exact hr
theorem ex_below {C : Cs} {T : List Trm} {w w' : World} {g g' : Gh} {bx bx' : Nat → Prop} {σ : Sch} (h : Mem C T w g bx σ) (e : Ex w w' g g' bx') : Below C.base w w' :=
  ⟨e.os, e.tape, e.output, e.size, fun b hb => e.block b (Nat.lt_of_lt_of_le hb h.base) fun hs => by
    have := h.old b hs
    omega⟩
/-- In the middle of a search. -/
structure SMid (C : Cs) (T : List Trm) (seen sw : List (List UInt8)) (n : Nat) (w wr : World) (g : Gh) (τ : Sch) : Prop where
  mem : Mem C T wr g (bxF T n) τ
  ex : Ex w wr (g0 C.sb C.nb C.wb) g (bxF T 1)
  inv : Inv T seen sw n n 0 [] τ
  tot : tot τ ≤ 65 * n
theorem SMid.see {C : Cs} {T : List Trm} {seen : List (List UInt8)} {n i : Nat} {w wr w2 : World} {g g2 : Gh} {τ : Sch} (h : SMid C T seen (seen.take i) n w wr g τ) (hi : i < seen.length) (hm : Mem C T w2 g2 (bxF T n) ((nms seen[i] (T.length + 1)).foldl addS τ)) (he : Ex wr w2 g g2 (bxF T n)) :
    SMid C T seen (seen.take (i + 1)) n w w2 g2 ((nms seen[i] (T.length + 1)).foldl addS τ) := by
  refine ⟨hm, h.ex.trans (he.less fun i hi => absurd hi (bxF_none T i)), ?_, by rw [tot_adds]; exact h.tot⟩
  have := h.inv.see (s := seen[i]) (List.getElem_mem hi)
  rw [List.take_add_one, List.getElem?_eq_getElem hi]
  exact this

/-- What Known tells. -/
def KnwE (w : World) (T : List Trm) (seen : List (List UInt8)) (e : Ending) (w' : World) : Prop :=
  ∃ (kb nb : Nat) (K : Nat → Bool), e = .returned (ptr kb) ∧ Knm w' kb nb (T.length + 1) K ∧ (∀ n, K n = true ↔ Kno T seen false n) ∧ Below w.heap.size w w'
section
variable {w w' : World} {T : List Trm} {seen : List (List UInt8)}
set_option maxRecDepth 100000 in
set_option maxHeartbeats 4000000 in
theorem known_any {ok : Nat → Prop} {tb ns c : Nat} {A : Option Addr} (h : Tbl w ok tb T) (hok : ∀ b, ok b → b < w.heap.size) (hns : seen.length = ns) (hl : Lst w ok A seen) (hM : Mx w) (h1 : ns ≤ 100000000) (h2 : ∀ s ∈ seen, s.length < 4294967281) :
    Calls Try.prog 18 #[ptr tb, .slice A ns c] w (KnwE w T seen) := by
  have hmax := h.max
  obtain ⟨N, hN⟩ : ∃ N, T.length + 1 = N := ⟨_, rfl⟩
  have HB : Hid (∀ W, Below w.heap.size w W → Calls Try.prog 26 #[ptr tb] W (Num W N)) := fun W hW => by
    rw [← hN]
    exact beyond_any (h.below hW)
  have hNN : N ≤ 70000 := by omega
  have hmk1 := fun W => run_mk55 hNN W
  have hmk2 := fun W => run_mk84 hNN W
  have HT := Lib.hid h
  have HL := Lib.hid hl
  have HMX := Lib.hid hM
  have HOK := Lib.hid hok
  have HS := Lib.hid h2
  have HNN := Lib.hid hN
  have hN1 : 1 ≤ N := by omega
  clear h hl hM hok h2 hN
  go_enter Try.func18, Try.ntmps18
  go_wp2_with fail
  go_cut [5] from 11 to 20 (fun s wx => Beg w T N s wx)
  case first =>
    go_region_held3 (fun _ => True) (exact trivial) (first
      | (go_at_call 26; refine (HB.out _ (by first | exact (Below.refl _ _).drew | exact (Below.refl _ _).drew.alloc (Nat.le_refl _) _ | exact ((Below.refl _ _).drew.alloc (Nat.le_refl _) _).alloc (by simp) _ | exact (((Below.refl _ _).drew.alloc (Nat.le_refl _) _).alloc (by simp) _).alloc (by simp; omega) _ | exact ((((Below.refl _ _).drew.alloc (Nat.le_refl _) _).alloc (by simp) _).alloc (by simp; omega) _).alloc (by simp; omega) _)).mono ?_; rintro e w2 ⟨rfl, rfl⟩)
      | fail)
    all_goals go_wp2_with (fail)
    all_goals go_meet
    all_goals first
      | (obtain ⟨e1, e2, e3, e4, e5⟩ := alloc4 w (.cells (Array.replicate N (Value.bool false)) 4) (.cells #[.slice (some ⟨w.heap.size, 0, none⟩) N N] 83) (.cells (Array.replicate N (Value.slice none 0 0)) 105) (.cells #[ptr (w.heap.size + 1), .slice none 0 0, .slice (some ⟨w.heap.size + 1 + 1, 0, none⟩) N N] 86); exact beg_mk e1 e3 e2 e4 e5 (by omega) (by omega) (by omega) (by omega) (by omega) (by omega) (by omega) (by omega) (by omega))
      | (obtain ⟨e1, e2, e3, e4, e5⟩ := alloc4 w (.cells (Array.replicate N (Value.bool false)) 4) (.cells (Array.replicate N (Value.slice none 0 0)) 105) (.cells #[.slice (some ⟨w.heap.size, 0, none⟩) N N] 83) (.cells #[ptr (w.heap.size + 1 + 1), .slice none 0 0, .slice (some ⟨w.heap.size + 1, 0, none⟩) N N] 86); exact beg_mk e1 e2 e3 e4 e5 (by omega) (by omega) (by omega) (by omega) (by omega) (by omega) (by omega) (by omega) (by omega))
      | (obtain ⟨e1, e2, e3, e4, e5⟩ := alloc4 w (.cells (Array.replicate N (Value.slice none 0 0)) 105) (.cells (Array.replicate N (Value.bool false)) 4) (.cells #[.slice (some ⟨w.heap.size + 1, 0, none⟩) N N] 83) (.cells #[ptr (w.heap.size + 1 + 1), .slice none 0 0, .slice (some ⟨w.heap.size, 0, none⟩) N N] 86); exact beg_mk e2 e1 e3 e4 e5 (by omega) (by omega) (by omega) (by omega) (by omega) (by omega) (by omega) (by omega) (by omega))
  case rest =>
    obtain ⟨C, rfl, hCN, hCx, hCb, hC, hBw⟩ := hcut
    have hpos : 0 < C.base := by rw [hCb]; exact HMX.out.pos
    have hold : ∀ b, b < w.heap.size → (g0 C.sb C.nb C.wb).role b = .still := fun b hb => by
      by_cases e : (g0 C.sb C.nb C.wb).role b = .still
      · exact e
      · have := hC.old b e; omega
    have hT : Tbl wc (Still wc (g0 C.sb C.nb C.wb)) tb T := (HT.out.below hBw).imp fun b hb hok => ⟨hb, hold b (HOK.out b hok)⟩
    have hL : Lst wc (Still wc (g0 C.sb C.nb C.wb)) A seen := (HL.out.keep fun b hb => hBw.block b (HOK.out b hb)).imp fun b hb => ⟨Nat.lt_of_lt_of_le (HOK.out b hb) hBw.size, hold b (HOK.out b hb)⟩
    have htok := hT.tok
    have hCT : C.N = T.length + 1 := by rw [hCN, HNN.out]
    have hM1 : Mx wc := HMX.out.below hBw
    have hst : Inv T seen [] 1 1 0 [] (sch0 C.N) := by
      rw [hCN, ← HNN.out]
      exact Inv.start
    have m0 : Hid (SMid C T seen (seen.take 0) 1 wc wc (g0 C.sb C.nb C.wb) (sch0 C.N)) := ⟨hC, Tr.refl _ _ _ _, hst, by
      have : tot (sch0 C.N) = 0 := by
        unfold tot cw sch0
        simp
      omega⟩
    have HT1 := Lib.hid hT
    have HL1 := Lib.hid hL
    have HM1 := Lib.hid hM1
    have HBW : Hid (∀ wr g, Ex wc wr (g0 C.sb C.nb C.wb) g (bxF T 1) → Below w.heap.size w wr) := fun wr g he => by
      have := ex_below hC he
      rw [hCb] at this
      exact hBw.trans this
    have HE : Hid (∀ wr g τ n sw, SMid C T seen sw n wc wr g τ → Env C T wr) := fun wr g τ n sw hm => ⟨htok, hpos, by omega, hC.mx hpos hm.ex hM1⟩
    clear hT hL hM1 hst hBw hold hC hmk1 hmk2 HT HL HMX HOK
    go_wp2_with fail
    go_loopg [23] ns (fun G p wr => ∃ (i : Nat) (g1 : Gh) (τ : Sch), p = .int .i64 i ∧ i ≤ ns ∧ ns - i ≤ G ∧ Hid (SMid C T seen (seen.take i) 1 wc wr g1 τ))
    case atStart => exact ⟨0, _, _, rfl, by omega, by omega, m0.out⟩
    case round =>
      obtain ⟨i, g1, τ, rfl, hin, hgk, hmid⟩ := hrel
      have HGK := Lib.hid hgk
      rcases Nat.lt_or_ge i ns with hlt | hge
      · have hi2 : i < seen.length := by omega
        have hLr := HL1.out.tr hmid.out.ex not_ns
        obtain ⟨ab, ao, A', c', rfl, x1, x2, x3, x4⟩ := hLr.at_ hi2
        obtain ⟨pl, hpl⟩ : ∃ pl, seen[i].length = pl := ⟨_, rfl⟩
        have hpb := HS.out _ (List.getElem_mem hi2)
        have hcall := HB.out wr (HBW.out _ _ hmid.out.ex)
        have henv := HE.out _ _ _ _ _ hmid.out
        have HC := Lib.hid (learn_any (below := N) (n := pl) (c := c') hmid.out.mem hpos hpl x4 (by omega) x3 (by omega) (by omega) (by omega) henv.mx)
        have HB1 := Lib.hid hcall
        rw [hpl] at x1
        have q1 : (0 : Int) ≤ (i : Int) := by omega
        have q2 : (i : Int) < (ns : Int) := by omega
        have q7 : (i : Int) + 1 ≤ 100000000 := by omega
        have HI2 := Lib.hid hi2
        have HM2 := hmid
        clear x2 x3 x4 hLr hpl hpb hcall henv hmid
        go_wp2_with fail
        go_at_call 26
        refine HB1.out.mono ?_
        rintro e w2 ⟨rfl, rfl⟩
        go_wp2_with fail
        go_at_call 32
        refine HC.out.mono ?_
        rintro e w4 ⟨rfl, g4, hm4, he4⟩
        have H4 : Hid (SMid C T seen (seen.take (i + 1)) 1 wc w4 g4 ((nms (seen[i]'HI2.out) N).foldl addS τ)) := by
          rw [← HNN.out] at hm4 ⊢
          exact HM2.out.see HI2.out hm4 he4
        clear hm4 he4 HC
        go_wp2_with fail
        go_roundg (ns - (i + 1))
        case measure => have := HGK.out; omega
        case rel => exact ⟨i + 1, g4, _, rfl, by omega, Nat.le_refl _, H4.out⟩
      · obtain rfl : ns = i := by omega
        have d0 : ¬ ((ns : Int) < (ns : Int)) := by omega
        have m1 : Hid (SMid C T seen seen 1 wc wr g1 τ) := by
          have := hmid.out
          rw [← hns, List.take_length] at this
          exact this
        clear hmid
        go_wp2_with fail
        go_loopg [8] N (fun G p wr => ∃ (n : Nat) (g1 : Gh) (τ : Sch), p = .int .i64 n ∧ 1 ≤ n ∧ n ≤ N ∧ N - n ≤ G ∧ Hid (SMid C T seen seen n wc wr g1 τ))
        case atStart => exact ⟨1, _, _, rfl, by omega, by omega, by omega, m1.out⟩
        case round =>
          obtain ⟨n, g2, τ2, rfl, hn1, hnN, hgk, hmid⟩ := hrel
          have HGK := Lib.hid hgk
          have HB2 := Lib.hid (HB.out wr (HBW.out _ _ hmid.out.ex))
          rcases Nat.lt_or_ge n N with hlt | hge
          · have hnT : n ≤ T.length := by have := HNN.out; omega
            have hTr := HT1.out.tr hmid.out.ex not_ns
            have HR := Lib.hid (read_tm hTr hn1 hnT)
            have q2 : (n : Int) < (N : Int) := by omega
            have q7 : (n : Int) + 1 ≤ 100000000 := by omega
            clear hTr
            go_wp2_with fail
            go_at_call 26
            refine HB2.out.mono ?_
            rintro e w2 ⟨rfl, rfl⟩
            go_wp2_with fail
            go_at_call 27
            refine HR.out.mono ?_
            rintro e w3 ⟨A3, c3, rfl, hl3, hb3⟩
            have t3 : Tr NotStill wr w3 g2 g2 (bxF T n) := Tr.of_below hb3
            have m3 := hmid.out.mem.below hb3
            have E2 := HE.out _ _ _ _ _ hmid.out
            have E3 := E2.tr hmid.out.mem t3
            have L3 : Lst w3 (Still w3 g2) A3 (tm T n).2 := hl3.imp fun b hb => ⟨hb.2, hmid.out.mem.fresh b hb.1⟩
            have p64 : pn T n ≤ 64 := (tm_fit htok n).1
            have htot := hmid.out.tot
            have HC := Lib.hid (build_any (c := c3) (M := 65 * n) E3 m3 hmid.out.inv hCT htot (by omega) hn1 hnT L3)
            have E3' := Lib.hid E3
            have L3' := Lib.hid L3
            have M3 := Lib.hid m3
            have T3 := Lib.hid t3
            rw [show (tm T n).1 = kd T n from rfl, show (tm T n).2.length = pn T n from rfl]
            obtain ⟨k, hk⟩ : ∃ k, kd T n = k := ⟨_, rfl⟩
            obtain ⟨m, hm⟩ : ∃ m, pn T n = m := ⟨_, rfl⟩
            rw [hk, hm] at HC ⊢
            have hm64 : m ≤ 64 := by omega
            have HK := Lib.hid hk
            have HMM := Lib.hid hm
            clear hl3 hb3 t3 m3 E2 E3 L3 htot hk hm
            go_wp2_with fail
            go_at_call 33
            refine HC.out.mono ?_
            rintro e w4 ⟨rfl, g4, τ4, m4, e4, i4, t4⟩
            have L4 := L3'.out.tr e4 not_ns
            have E4 := E3'.out.tr M3.out e4
            have HC4 := open_any (c := c3) (M := 65 * n + m) E4 m4 i4 hCT t4 (by omega) hn1 hnT L4
            rw [HK.out, HMM.out] at HC4
            have HC4' := Lib.hid HC4
            have X4 : Hid (Ex wc w4 (g0 C.sb C.nb C.wb) g4 (bxF T 1)) := (hmid.out.ex.trans (T3.out.less fun i hi => absurd hi (bxF_none T i))).trans (e4.less fun i hi => absurd hi (bxF_none T i))
            clear HC4 E4 L4 HC m4 e4 i4 t4
            go_wp2_with fail
            go_at_call 34
            refine HC4'.out.mono ?_
            rintro e w5 ⟨rfl, g5, τ5, m5, e5, i5, t5⟩
            have H5 : Hid (SMid C T seen seen (n + 1) wc w5 g5 τ5) := ⟨m5, X4.out.trans (e5.less fun i hi => absurd hi (bxF_none T i)), i5, by omega⟩
            clear m5 e5 i5 t5 HC4'
            go_wp2_with fail
            go_roundg (N - (n + 1))
            case measure => have := HGK.out; omega
            case rel => exact ⟨n + 1, g5, _, rfl, by omega, by omega, Nat.le_refl _, H5.out⟩
          · obtain rfl : N = n := by omega
            have d1 : ¬ ((N : Int) < (N : Int)) := by omega
            have E2 := HE.out _ _ _ _ _ hmid.out
            have HC := Lib.hid (spread_any (M := 65 * N) E2 hmid.out.mem hCx hmid.out.inv hCT hmid.out.tot (by omega))
            go_wp2_with fail
            go_at_call 26
            refine HB2.out.mono ?_
            rintro e w2 ⟨rfl, rfl⟩
            go_wp2_with fail
            go_at_call 35
            refine HC.out.mono ?_
            rintro e w3 ⟨rfl, g3, τ3, m3, e3, i3, n3⟩
            have k0 : w3.cell? ⟨C.sb, 0, none⟩ = some (ptr C.kb) := by obtain ⟨v, h1, _⟩ := m3.sbB; rw [cell_of_block h1]; rfl
            have hfin := i3
            rw [← HNN.out] at hfin
            have KF := Lib.hid (fun n => hfin.final hmax n3 n)
            have M3 := Lib.hid m3
            have X3 := Lib.hid (hmid.out.ex.trans (e3.less fun i hi => absurd hi (bxF_none T i)))
            have HBX : Hid (Below w.heap.size w w3) := HBW.out w3 g3 X3.out
            clear m3 e3 i3 n3 hfin
            go_wp2_with fail
            go_ret
            exact ⟨C.kb, C.nb, kn τ3, rfl, by rw [HNN.out, ← hCN]; exact M3.out.knm, KF.out, HBX.out⟩
end
end Go.Proofs.Ytbhfjjlfpgineaa
