/- missing tells the first name that isn't known; Has whether there is none; learn takes all names as known. Conditions: fewer than 4294967281 bytes; MaxLen holds some number. -/
import Derived.Test.YtbhfjjlfpgineaaAdd
namespace Go.Proofs.Ytbhfjjlfpgineaa
open Go.RowKit

/-- What is known, in memory: its struct kb, its names nb. -/
def Knm (w : World) (kb nb N : Nat) (K : Nat → Bool) : Prop := w.cell? ⟨kb, 0, none⟩ = some (.slice (some ⟨nb, 0, none⟩) N N) ∧ kb < w.heap.size ∧ nb < w.heap.size ∧ ∀ n, n < N → w.cell? ⟨nb, n, none⟩ = some (.bool (K n))
theorem Knm.below {w w' : World} {kb nb N : Nat} {K : Nat → Bool} (h : Knm w kb nb N K) (hb : Below w.heap.size w w') : Knm w' kb nb N K :=
  ⟨(hb.cell (p := ⟨kb, 0, none⟩) h.2.1).trans h.1, Nat.lt_of_lt_of_le h.2.1 hb.size, Nat.lt_of_lt_of_le h.2.2.1 hb.size, fun n hn => (hb.cell (p := ⟨nb, n, none⟩) h.2.2.1).trans (h.2.2.2 n hn)⟩
theorem Mem.knm {C : Cs} {T : List Trm} {w : World} {g : Gh} {bx : Nat → Prop} {σ : Sch} (h : Mem C T w g bx σ) : Knm w C.kb C.nb C.N (kn σ) :=
  ⟨h.kbC.2, h.kbC.1.1, lt_of_block h.nbB, fun _ hn => kn_cell h hn⟩

theorem nextE_n {w w' : World} {ok : Nat → Prop} {p : Nat × List UInt8} {e : Ending} (h : NextE w ok p e w') : ∃ A n c, e = .returned (.tuple #[.int .i64 p.1, .slice A n c]) ∧ Hid (p.2.length = n) ∧ n ≤ c ∧ c ≤ maxLen ∧ Byt w' ok A p.2 ∧ Below w.heap.size w w' := by
  obtain ⟨A, c, h1, h2, h3, h4, h5⟩ := h
  exact ⟨A, _, c, h1, rfl, h2, h3, h4, h5⟩

set_option maxRecDepth 100000 in
set_option maxHeartbeats 1000000 in
theorem missing_any {w : World} {ok : Nat → Prop} {A : Option Addr} {b : List UInt8} {n c below kb nb N : Nat} {K : Nat → Bool} (hk : Knm w kb nb N K) (hn : b.length = n) (hx : Byt w ok A b) (hok : ∀ g, ok g → g < w.heap.size) (hc : n ≤ c) (hm : c ≤ maxLen) (hl : n < 4294967281) (hb : below ≤ N) (hN : N ≤ 70000) (hM : Mx w) :
    Calls Try.prog 37 #[ptr kb, .slice A n c, .int .i64 below] w (NextE w ok (ms K b below)) := by
  go_enter Try.func37, Try.ntmps37
  go_wp2_with fail
  go_at_call 30
  refine (next_any hn hx hok hc hm hl (by omega) hM).mono ?_
  intro e w1 h1
  obtain ⟨A1, n1, c1, rfl, h11, h12, h13, h14, h15⟩ := nextE_n h1
  clear h1
  have hl1 : n1 < 4294967281 := by
    rcases nx_spec b below with ⟨_, _, h3⟩ | h3
    · have := h11.out; omega
    · have := h11.out
      rw [h3] at this
      simp at this
      omega
  obtain ⟨k1, hk1⟩ : ∃ k1, (nx b below).1 = k1 := ⟨_, rfl⟩
  rw [hk1]
  have HK1 := Lib.hid hk1
  clear hk1 hx hc hn hm hl
  go_wp2_with fail
  go_loopw [8, 9] (fun v r wr => ∃ (k : Nat) (A : Option Addr) (n c : Nat) (cur : List UInt8), v = .int .i64 k ∧ r = .slice A n c ∧ Hid ((nx cur below).1 = k) ∧ Hid ((nx cur below).2.length = n) ∧ n ≤ c ∧ c ≤ maxLen ∧ n < 4294967281 ∧ Hid (ms K cur below = ms K b below) ∧ Byt wr ok A (nx cur below).2 ∧ Below w.heap.size w wr) (fun v r _ => lenV r + min 1 (intOf v).toNat)
  case atStart => exact ⟨k1, A1, n1, c1, b, rfl, rfl, HK1.out, h11.out, h12, h13, hl1, rfl, h14, h15⟩
  case round =>
    clear h11 h12 h13 h14 h15 hl1 HK1
    obtain ⟨k, A, n, c, cur, rfl, rfl, hk', hn, hc, hm, hl, hms, hx, hbl⟩ := hrel
    by_cases h0 : 0 < k
    · have hlt : k < N := by
        rcases nx_spec cur below with ⟨_, h2, _⟩ | h3
        · have := hk'.out; omega
        · have := hk'.out
          rw [h3] at this
          simp at this
          omega
      have hkm := hk.below hbl
      have c0 := hkm.1
      have c1' := hkm.2.2.2 k hlt
      have q1 : (0 : Int) ≤ (k : Int) := by omega
      have q2 : (k : Int) < (N : Int) := by omega
      have d0 : decide (0 < k) = true := by simpa using h0
      have hpos : 0 < (nx cur below).1 := by rw [hk'.out]; exact h0
      cases hkk : K k with
      | true =>
        rw [hkk] at c1'
        have HE : Hid (ms K (nx cur below).2 below = ms K b below) := by
          show ms K (nx cur below).2 below = _
          rw [← hms.out, ms_known K cur below hpos (by rw [hk'.out]; exact hkk)]
        have hM' := hM.below hbl
        have HC := Lib.hid (next_any (below := below) hn.out hx (fun g hg => Nat.lt_of_lt_of_le (hok g hg) hbl.size) hc hm hl (by omega) hM')
        clear hkk hkm hpos
        go_wp2_with fail
        go_at_call 30
        refine HC.out.mono ?_
        intro e w2 h2
        obtain ⟨A2, n2, c2, rfl, h21, h22, h23, h24, h25⟩ := nextE_n h2
        clear h2
        obtain ⟨k2, hk2⟩ : ∃ k2, (nx (nx cur below).2 below).1 = k2 := ⟨_, rfl⟩
        rw [hk2]
        have HK2 := Lib.hid hk2
        clear hk2
        have hb2 : Below w.heap.size w w2 := hbl.trans (h25.mono hbl.size)
        have hlt2 : n2 + min 1 k2 < n + 1 ∧ n2 < 4294967281 := by
          rcases nx_spec (nx cur below).2 below with ⟨h1, _, h3⟩ | h3
          · have := h21.out; have := hn.out; omega
          · have e1 := h21.out
            have e2 := HK2.out
            rw [h3] at e1 e2
            simp at e1 e2
            omega
        go_wp2
        go_roundw
        case rel => exact ⟨k2, A2, n2, c2, (nx cur below).2, rfl, rfl, HK2.out, h21.out, h22, h23, hlt2.2, HE.out, h24, hb2⟩
        case measure => simp [intOf, lenV]; omega
      | false =>
        rw [hkk] at c1'
        have HE : Hid (ms K b below = nx cur below) := by
          show ms K b below = _
          rw [← hms.out, ms_not K cur below hpos (by rw [hk'.out]; exact hkk)]
        clear hkk hkm hpos
        go_wp2
        go_ret2
        exact nextE_mk (by rw [HE.out, ← hk'.out]) hn.out hc hm hx hbl
    · obtain rfl : k = 0 := by omega
      have HE : Hid (ms K b below = nx cur below) := by
        show ms K b below = _
        rw [← hms.out, ms_none K cur below hk'.out, nx_none cur below hk'.out]
      go_wp2
      go_ret2
      exact nextE_mk (by rw [HE.out, ← hk'.out]) hn.out hc hm hx hbl
set_option maxRecDepth 100000 in
set_option maxHeartbeats 1000000 in
/-- Has tells whether all names in these bytes are known. -/
theorem has_any {w : World} {ok : Nat → Prop} {A : Option Addr} {b : List UInt8} {n c kb nb N : Nat} {K : Nat → Bool} (hk : Knm w kb nb N K) (hn : b.length = n) (hx : Byt w ok A b) (hok : ∀ g, ok g → g < w.heap.size) (hc : n ≤ c) (hm : c ≤ maxLen) (hl : n < 4294967281) (hN : N ≤ 70000) (hM : Mx w) :
    Calls Try.prog 20 #[ptr kb, .slice A n c] w fun e w' => e = .returned (.bool (decide ((ms K b N).1 = 0))) ∧ Below w.heap.size w w' := by
  have c0 := hk.1
  have HC := Lib.hid (missing_any (below := N) hk hn hx hok hc hm hl (Nat.le_refl _) hN hM)
  clear hx
  go_enter Try.func20, Try.ntmps20
  go_wp2_with fail
  go_at_call 37
  refine HC.out.mono ?_
  intro e w2 h2
  obtain ⟨A2, n2, c2, rfl, h21, h22, h23, h24, h25⟩ := nextE_n h2
  clear h2
  obtain ⟨k2, hk2⟩ : ∃ k2, (ms K b N).1 = k2 := ⟨_, rfl⟩
  rw [hk2]
  have HK2 := Lib.hid hk2
  clear hk2
  go_wp2
  go_ret
  exact ⟨bool_end (by rw [HK2.out, Bool.eq_iff_iff]; simp), h25⟩

theorem Still.up {w w' : World} {g : Gh} {A : Option Addr} {xs : List UInt8} (h : Byt w' (Still w g) A xs) (hb : Below w.heap.size w w') : Byt w' (Still w' g) A xs := h.imp fun _ hb' => ⟨Nat.lt_of_lt_of_le hb'.1 hb.size, hb'.2⟩
theorem Mem.mx {C : Cs} {T : List Trm} {w w' : World} {g g' : Gh} {bx : Nat → Prop} {σ : Sch} (h : Mem C T w g bx σ) (hC : 0 < C.base) (e : Ex w w' g g' bx) (hM : Mx w) : Mx w' := by
  have hp := hM.pos
  obtain ⟨m, hm⟩ := hM
  refine ⟨m, (World.cell?_of_block (e.block 0 hp fun hs => ?_)).trans hm⟩
  have := h.old 0 hs
  omega
theorem not_ns : ¬ NotStill .still := fun h => h rfl

set_option maxRecDepth 100000 in
set_option maxHeartbeats 1000000 in
theorem learn_any {C : Cs} {T : List Trm} {w : World} {g : Gh} {bx : Nat → Prop} {σ : Sch} {A : Option Addr} {b : List UInt8} {n c below : Nat} (h : Mem C T w g bx σ) (hC : 0 < C.base) (hn : b.length = n) (hx : Byt w (Still w g) A b) (hc : n ≤ c) (hm : c ≤ maxLen) (hl : n < 4294967281) (hb : below ≤ C.N) (hN : C.N ≤ 70000) (hM : Mx w) :
    Calls Try.prog 32 #[ptr C.sb, .slice A n c, .int .i64 below] w (Ends C T w g bx ((nms b below).foldl addS σ)) := by
  have H0 := Lib.hid h
  go_enter Try.func32, Try.ntmps32
  go_wp2_with fail
  go_at_call 30
  refine (next_any hn hx (fun g hg => hg.1) hc hm hl (by omega) hM).mono ?_
  intro e w1 h1
  obtain ⟨A1, n1, c1, rfl, h11, h12, h13, h14, h15⟩ := nextE_n h1
  clear h1
  have hl1 : n1 < 4294967281 := by
    rcases nx_spec b below with ⟨_, _, h3⟩ | h3
    · have := h11.out; omega
    · have := h11.out
      rw [h3] at this
      simp at this
      omega
  obtain ⟨k1, hk1⟩ : ∃ k1, (nx b below).1 = k1 := ⟨_, rfl⟩
  rw [hk1]
  have HK1 := Lib.hid hk1
  have h16 := Still.up h14 h15
  have hmem1 := h.below h15
  have hex1 : Ex w w1 g g bx := Tr.of_below h15
  clear hk1 hx hc hn hm hl h14 h h15
  go_wp2_with fail
  go_loopw [6, 7] (fun v r wr => ∃ (k : Nat) (A : Option Addr) (n c : Nat) (cur : List UInt8) (done : List Nat) (g' : Gh), v = .int .i64 k ∧ r = .slice A n c ∧ Hid ((nx cur below).1 = k) ∧ Hid ((nx cur below).2.length = n) ∧ n ≤ c ∧ c ≤ maxLen ∧ n < 4294967281 ∧ Hid (nms b below = done ++ nms cur below) ∧ Hid (Byt wr (Still wr g') A (nx cur below).2) ∧ Hid (Mem C T wr g' bx (done.foldl addS σ)) ∧ Hid (Ex w wr g g' bx)) (fun v r _ => lenV r + min 1 (intOf v).toNat)
  case atStart => exact ⟨k1, A1, n1, c1, b, [], g, rfl, rfl, HK1.out, h11.out, h12, h13, hl1, rfl, h16, hmem1, hex1⟩
  case round =>
    clear h11 h12 h13 hl1 HK1 h16 hmem1 hex1
    obtain ⟨k, A, n, c, cur, done, g1, rfl, rfl, hk', hn, hc, hm, hl, hnm, hx, hmem, hex⟩ := hrel
    by_cases h0 : 0 < k
    · have hlt : k < C.N := by
        rcases nx_spec cur below with ⟨_, h2, _⟩ | h3
        · have := hk'.out; omega
        · have := hk'.out
          rw [h3] at this
          simp at this
          omega
      have d0 : decide (0 < k) = true := by simpa using h0
      have hpos : 0 < (nx cur below).1 := by rw [hk'.out]; exact h0
      have HNM : Hid (nms b below = (done ++ [k]) ++ nms (nx cur below).2 below) := by
        show nms b below = _
        rw [hnm.out, nms_more cur below hpos, hk'.out]
        simp
      have HC := Lib.hid (add_any hmem.out hlt hN)
      clear hpos
      go_wp2_with fail
      go_at_call 45
      refine HC.out.mono ?_
      rintro e w2 ⟨rfl, g2, hmem2, hex2⟩
      have hx2 := hx.out.tr hex2 not_ns
      have hex2' : Ex w w2 g g2 bx := hex.out.trans hex2
      have hM2 : Mx w2 := H0.out.mx hC hex2' hM
      have HC2 := Lib.hid (next_any (below := below) hn.out hx2 (fun g hg => hg.1) hc hm hl (by omega) hM2)
      have HM2 := Lib.hid hmem2
      have HE2 := Lib.hid hex2'
      clear hx2 hM2 hex2 hmem2 hex2' HC
      go_wp2_with fail
      go_at_call 30
      refine HC2.out.mono ?_
      intro e w3 h3
      obtain ⟨A3, n3, c3, rfl, h31, h32, h33, h34, h35⟩ := nextE_n h3
      clear h3
      obtain ⟨k3, hk3⟩ : ∃ k3, (nx (nx cur below).2 below).1 = k3 := ⟨_, rfl⟩
      rw [hk3]
      have HK3 := Lib.hid hk3
      clear hk3
      have hlt3 : n3 + min 1 k3 < n + 1 ∧ n3 < 4294967281 := by
        rcases nx_spec (nx cur below).2 below with ⟨h1, _, h3⟩ | h3
        · have := h31.out; have := hn.out; omega
        · have e1 := h31.out
          have e2 := HK3.out
          rw [h3] at e1 e2
          simp at e1 e2
          omega
      have HM3 : Hid (Mem C T w3 g2 bx ((done ++ [k]).foldl addS σ)) := by
        rw [List.foldl_append]
        exact HM2.out.below h35
      have HE3 : Hid (Ex w w3 g g2 bx) := HE2.out.trans (Tr.of_below h35)
      have HX3 : Hid (Byt w3 (Still w3 g2) A3 (nx (nx cur below).2 below).2) := Still.up h34 h35
      clear h34
      go_wp2
      go_roundw
      case rel => exact ⟨k3, A3, n3, c3, (nx cur below).2, done ++ [k], g2, rfl, rfl, HK3.out, h31.out, h32, h33, hlt3.2, HNM.out, HX3, HM3, HE3⟩
      case measure => simp [intOf, lenV]; omega
    · obtain rfl : k = 0 := by omega
      have HE : Hid (nms b below = done) := by
        show nms b below = _
        rw [hnm.out, nms_none cur below hk'.out]; simp
      go_wp2
      go_end0
      refine ⟨rfl, g1, ?_, hex.out⟩
      rw [HE.out]
      exact hmem.out
end Go.Proofs.Ytbhfjjlfpgineaa
