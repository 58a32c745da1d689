/- bytes.Index finds the next mark; next tells the next name. Conditions: fewer than 4294967281 bytes; internal/bytealg.MaxLen holds some number; the limit is at most 100000. -/
import Derived.Test.YtbhfjjlfpgineaaNum
import Derived.Lib.SlBytesConst
namespace Go.Proofs.Ytbhfjjlfpgineaa
open Go.RowKit

/-- internal/bytealg.MaxLen holds some number. -/
def Mx (w : World) : Prop := ∃ m : Int, w.cell? ⟨0, 0, none⟩ = some (.int .i64 m)
theorem Mx.pos {w : World} (h : Mx w) : 0 < w.heap.size := by
  obtain ⟨m, hm⟩ := h
  exact World.block_lt_of_cell? w _ hm
theorem Mx.below {w w' : World} (h : Mx w) (hb : Below w.heap.size w w') : Mx w' := by
  have hp := h.pos
  obtain ⟨m, hm⟩ := h
  exact ⟨m, (hb.cell (p := ⟨0, 0, none⟩) hp).trans hm⟩
theorem Mx.drewN {w : World} (h : Mx w) (n : Nat) : Mx (w.drewN n) := h

def nums (xs : List UInt8) : List Int := xs.map fun x => (x.toNat : Int)
theorem nums_length (xs : List UInt8) : (nums xs).length = xs.length := by simp [nums]
theorem bytesOf_nums (xs : List UInt8) : Lib.bytesOf (nums xs) = xs := by
  unfold Lib.bytesOf nums
  rw [List.map_map]
  conv => rhs; rw [← List.map_id xs]
  congr 1
  funext x
  simp
theorem nums_bd (xs : List UInt8) : ∀ x ∈ nums xs, 0 ≤ x ∧ x < 256 := by
  intro x hx
  obtain ⟨y, _, rfl⟩ := List.mem_map.1 hx
  have := y.toNat_lt
  omega
theorem nums_cells {w : World} {ok : Nat → Prop} {ad : Addr} {xs : List UInt8} (h : Byt w ok (some ad) xs) : ∀ i, i < xs.length → w.cell? (ad.add i) = some (.int .u8 ((nums xs).getD i 0)) := by
  intro i hi
  obtain ⟨ad', e, _, hc⟩ := h i hi
  cases e
  rw [hc]
  simp [nums, hi]
theorem index_any {w : World} {ok ok' : Nat → Prop} {A : Option Addr} {xs : List UInt8} {n c g d : Nat} (hx : Byt w ok A xs) (hn : xs.length = n) (hc : n ≤ c) (hl : n < 4294967281) (hg : Byt w ok' (some ⟨g, 0, none⟩) mark) (hM : Mx w) :
    Calls Try.prog 43 #[.slice A n c, .slice (some ⟨g, 0, none⟩) 4 d] w fun e w' => e = .returned (.int .i64 (Lib.index xs mark)) ∧ ∃ q, w' = w.drewN q := by
  subst hn
  rcases A with _ | ad
  · have : xs = [] := by
      rcases xs with _ | ⟨x, xs⟩
      · rfl
      · obtain ⟨_, e, _⟩ := hx 0 (by simp)
        cases e
    subst this
    exact (Try.bytes_Index_longer none (some ⟨g, 0, none⟩) 0 c 4 d w (by omega) (by omega) (by omega)).mono fun e w' h => ⟨h.1, 0, h.2⟩
  · obtain ⟨m, hm⟩ := hM
    have h := Try.bytes_Index_at ad ⟨g, 0, none⟩ xs.length c 4 d (nums xs) (nums mark) m w (nums_length xs) rfl (nums_bd xs) (nums_bd mark) (nums_cells hx) (nums_cells hg) hc hl (by omega) hm
    rw [bytesOf_nums, bytesOf_nums] at h
    exact h

/-- What next tells. -/
def NextE (w : World) (ok : Nat → Prop) (p : Nat × List UInt8) (e : Ending) (w' : World) : Prop :=
  ∃ A c, e = .returned (.tuple #[.int .i64 p.1, .slice A p.2.length c]) ∧ p.2.length ≤ c ∧ c ≤ maxLen ∧ Byt w' ok A p.2 ∧ Below w.heap.size w w'
theorem nextE_mk {w w' : World} {ok : Nat → Prop} {p : Nat × List UInt8} {A : Option Addr} {k n c : Nat} {cur : List UInt8} (h1 : p = (k, cur)) (hl : cur.length = n) (hc : n ≤ c) (hm : c ≤ maxLen) (hx : Byt w' ok A cur) (hb : Below w.heap.size w w') :
    NextE w ok p (.returned (.tuple #[.int .i64 k, .slice A n c])) w' := by
  subst h1 hl
  exact ⟨A, c, rfl, hc, hm, hx, hb⟩
def lenV : Value → Nat | .slice _ n _ => n | _ => 0

theorem cell_of_block {w : World} {g : Nat} {cs : Array Value} {t : TypeId} {fr : Nat × Nat} (h : w.heap[g]? = some (.cells cs t fr)) (j : Nat) : w.cell? ⟨g, j, none⟩ = cs[j]? := by simp [World.cell?, h]
theorem mark_new (w : World) (ok : Nat → Prop) (h : ok w.heap.size) : Byt (w.alloc (.cells #[.int .u8 116, .int .u8 101, .int .u8 114, .int .u8 109] 5 (4, 5))) ok (some ⟨w.heap.size, 0, none⟩) mark := by
  intro j hj
  refine ⟨_, rfl, h, ?_⟩
  have : j = 0 ∨ j = 1 ∨ j = 2 ∨ j = 3 := by simp [mark] at hj; omega
  have e := heap_alloc_new w (.cells #[.int .u8 116, .int .u8 101, .int .u8 114, .int .u8 109] 5 (4, 5))
  rw [Addr.add_lit, Nat.zero_add, cell_of_block e]
  rcases this with rfl | rfl | rfl | rfl <;> rfl

set_option maxRecDepth 100000 in
set_option maxHeartbeats 1000000 in
theorem next_any {w : World} {ok : Nat → Prop} {A : Option Addr} {b : List UInt8} {n c below : Nat} (hn : b.length = n) (hx : Byt w ok A b) (hok : ∀ g, ok g → g < w.heap.size) (hc : n ≤ c) (hm : c ≤ maxLen) (hl : n < 4294967281) (hb : below ≤ 100000) (hM : Mx w) :
    Calls Try.prog 30 #[.slice A n c, .int .i64 below] w (NextE w ok (nx b below)) := by
  unfold maxLen at hm
  have HN := Lib.hid hn
  clear hn
  go_enter Try.func30, Try.ntmps30
  go_wp2
  go_loopw [0] (fun v wr => ∃ (A : Option Addr) (cur : List UInt8) (n c : Nat), v = .slice A n c ∧ Hid (cur.length = n) ∧ n ≤ c ∧ c ≤ 9223372036854775807 ∧ n < 4294967281 ∧ Hid (nx cur below = nx b below) ∧ Byt wr ok A cur ∧ Below w.heap.size w wr) (fun v _ => lenV v)
  case atStart => exact ⟨A, b, n, c, rfl, HN.out, hc, hm, hl, rfl, hx, Below.refl _ _⟩
  case round =>
    clear hx hc hm hl HN
    obtain ⟨A, cur, n, c, rfl, hn, hc, hm, hl, hnx, hx, hbl⟩ := hrel
    have hM' : Mx wr := hM.below hbl
    have hx1 : Byt (wr.alloc (.cells #[.int .u8 116, .int .u8 101, .int .u8 114, .int .u8 109] 5 (4, 5))) ok A cur := hx.below ((Below.refl wr.heap.size wr).alloc (Nat.le_refl _) _) fun g hg => Nat.lt_of_lt_of_le (hok g hg) hbl.size
    have hb1 : Below w.heap.size w (wr.alloc (.cells #[.int .u8 116, .int .u8 101, .int .u8 114, .int .u8 109] 5 (4, 5))) := hbl.alloc hbl.size _
    have hM1 : Mx (wr.alloc (.cells #[.int .u8 116, .int .u8 101, .int .u8 114, .int .u8 109] 5 (4, 5))) := hM.below hb1
    have HC := Lib.hid (index_any (c := c) (d := 4) hx1 hn.out hc hl (mark_new wr (fun _ => True) trivial) hM1)
    have kc := Lib.run_convert_bytes_const (P := Try.prog) wr 41 5 #[.int .u8 116, .int .u8 101, .int .u8 114, .int .u8 109] 4 4 Try.underlying41 Try.underlying5
    simp at kc
    clear hM1 hM'
    obtain ⟨z, hz⟩ : ∃ z, Lib.index cur mark = z := ⟨_, rfl⟩
    rw [hz] at HC
    have HZ := Lib.hid hz
    clear hz
    go_wp2_with fail
    go_at_call 43
    refine HC.out.mono ?_
    intro e w2 h2
    obtain rfl := h2.1
    have hb2 : Below w.heap.size w w2 := by
      obtain ⟨-, q, rfl⟩ := h2
      exact below_drewN hb1 q
    have hx2 : Byt w2 ok A cur := by
      obtain ⟨-, q, rfl⟩ := h2
      exact hx1
    clear hx1 HC kc h2 hb1
    by_cases hneg : z < 0
    · have d1 : decide (z < 0) = true := by simpa using hneg
      have HE : Hid (nx b below = (0, [])) := by rw [← hnx.out]; exact nx_lost cur below (by rw [HZ.out]; exact hneg)
      clear hneg
      go_wp2
      go_ret2
      exact nextE_mk HE.out rfl (Nat.le_refl _) (Nat.zero_le _) Byt.nil hb2
    · obtain ⟨i, rfl⟩ : ∃ i : Nat, z = i := ⟨z.toNat, by omega⟩
      have d1 : decide ((i : Int) < 0) = false := by simp
      obtain ⟨f1, f2, f3, f4⟩ := nx_found cur below i HZ.out
      have hle : i ≤ n := by have := hn.out; omega
      have hlc : (cur.drop i).length = n - i := by rw [List.length_drop, hn.out]
      have h4 : i + 4 ≤ n := by omega
      obtain ⟨ab, ao, rfl, hoka, -, -⟩ := at_two hx2 (by have := hn.out; omega)
      have hx3 : Byt w2 ok (some ⟨ab, ao + i, none⟩) (cur.drop i) := by
        have h := hx2.drop (k := i) (c := c) (by have := hn.out; omega) (by have := hn.out; omega)
        rw [if_neg (by omega)] at h
        simp only [Option.map, Addr.add_lit] at h
        exact h
      have g1 : (i : Int) ≤ (n : Int) := by omega
      have g2 : (0 : Int) ≤ (i : Int) := by omega
      have g3 : (i : Int) ≤ (c : Int) := by omega
      have g4 : ¬ c = i := by omega
      have F2 : Hid (mark.isPrefixOf (cur.drop i) = true) := f3
      have F3 : Hid (nx (cur.drop i) below = nx b below) := by rw [← hnx.out]; exact f4.symm
      have HL := Lib.hid hlc
      clear f1 f2 f3 f4 hlc hx2 hx
      obtain ⟨ys, hys⟩ : ∃ ys, cur.drop i = ys := ⟨_, rfl⟩
      rw [hys] at hx3 F2 F3 HL
      obtain ⟨m, hmn⟩ : ∃ m, n - i = m := ⟨_, rfl⟩
      obtain ⟨c', hcc⟩ : ∃ c', c - i = c' := ⟨_, rfl⟩
      rw [hmn] at HL
      obtain ⟨k, hk⟩ : ∃ k, num ys below = k := ⟨_, rfl⟩
      have HK : Hid (Calls Try.prog 25 #[.slice (some ⟨ab, ao + i, none⟩) m c', .int .i64 below] w2 (Num w2 k)) := by
        have h := number_any (c := c') (below := below) hx3 (by rw [HL.out]; omega) (by unfold maxLen; omega) hb
        rw [HL.out, hk] at h
        exact h
      have EK := Lib.hid hk
      have hmc : m ≤ c' := by omega
      have hcm : c' ≤ 9223372036854775807 := by omega
      have hml : m < 4294967281 := by omega
      have hm4 : 4 ≤ m := by omega
      have hlt : m ≤ n := by omega
      have HMN := Lib.hid hmn
      have HCC := Lib.hid hcc
      clear hk hys
      go_wp2_with fail
      clear hmn hcc
      go_at_call 25
      refine HK.out.mono ?_
      rintro e w3 ⟨rfl, rfl⟩
      by_cases h0 : 0 < k
      · have hh := nx_hit ys below (by rw [EK.out]; exact h0)
        have hn32 := num_len ys below (by rw [EK.out]; exact h0)
        rw [HL.out] at hn32
        have HE : Hid (nx b below = (k, ys.drop 32)) := by
          show nx b below = _
          rw [← F3.out, hh, EK.out]
        have hx4 : Byt w2 ok (if c' = 32 then some ⟨ab, ao + i, none⟩ else some ⟨ab, ao + i + 32, none⟩) (ys.drop 32) := by
          have h := hx3.drop (k := 32) (c := c') (by rw [HL.out]; omega) (by rw [HL.out]; omega)
          simp only [Option.map, Addr.add_lit] at h
          exact h
        have hlen : Hid ((ys.drop 32).length = m - 32) := by
          show (ys.drop 32).length = m - 32
          rw [List.length_drop, HL.out]
        have d5 : decide (0 < k) = true := by simpa using h0
        clear hh HK
        go_wp2
        go_quiet (fail)
        by_cases hc32 : c' = 32
        · subst hc32
          rw [if_pos rfl] at hx4
          go_wp2
          go_ret2
          exact nextE_mk HE.out hlen.out (by omega) (by unfold maxLen; omega) hx4 (below_drewN hb2 nq)
        · rw [if_neg hc32] at hx4
          go_wp2
          go_ret2
          exact nextE_mk HE.out hlen.out (by omega) (by unfold maxLen; omega) hx4 (below_drewN hb2 nq)
      · obtain rfl : k = 0 := by omega
        have hov := nx_over ys below F2.out EK.out
        have HE : Hid (nx (ys.drop 4) below = nx b below) := by
          show nx (ys.drop 4) below = _
          rw [← F3.out, hov]
        have hx4 : Byt w2 ok (if c' = 4 then some ⟨ab, ao + i, none⟩ else some ⟨ab, ao + i + 4, none⟩) (ys.drop 4) := by
          have h := hx3.drop (k := 4) (c := c') (by rw [HL.out]; omega) (by rw [HL.out]; omega)
          simp only [Option.map, Addr.add_lit] at h
          exact h
        have hlen : Hid ((ys.drop 4).length = m - 4) := by
          show (ys.drop 4).length = m - 4
          rw [List.length_drop, HL.out]
        clear hov HK h0
        go_wp2
        go_roundw
        case rel => exact ⟨_, ys.drop 4, m - 4, c' - 4, rfl, hlen.out, by omega, by omega, by omega, HE.out, hx4, hb2⟩
        case measure => simp [lenV]; omega
end Go.Proofs.Ytbhfjjlfpgineaa
