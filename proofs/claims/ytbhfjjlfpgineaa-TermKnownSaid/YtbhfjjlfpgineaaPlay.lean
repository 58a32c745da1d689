/- Play makes the same terms on both tables. Conditions: none. -/
import Derived.Test.YtbhfjjlfpgineaaRMak
import Derived.Test.YtbhfjjlfpgineaaCut
import Derived.Test.YtbhfjjlfpgineaaNum
import Derived.Test.YtbhfjjlfpgineaaOf
import Derived.Deep.MidRow
import Derived.Deep.Cut
import Derived.Deep.CutRange
import Derived.Deep.DeepCutAuto
import Derived.BigQuiet
import Derived.Deep.RegionHeld3
import Derived.Deep.AppendLies
import Derived.Deep.LoopGhost
namespace Go.Proofs.Ytbhfjjlfpgineaa
open Go.RowKit

abbrev Prt := List Int × List UInt8
abbrev Opn := Int × List Prt
/-- Parts that lie in a slice. -/
def Prts (w : World) (ok : Nat → Prop) (A : Option Addr) (ps : List Prt) : Prop := ∀ j (h : j < ps.length), ∃ ad An cn Ab cb, A = some ad ∧ ok ad.block ∧ w.cell? (ad.add (j * 2)) = some (.slice An ps[j].1.length cn) ∧ w.cell? (ad.add (j * 2 + 1)) = some (.slice Ab ps[j].2.length cb) ∧
  ps[j].2.length ≤ cb ∧ cb ≤ maxLen ∧ Ints w ok An ps[j].1 ∧ Byt w ok Ab ps[j].2
/-- Terms to be made that lie in a slice. -/
def Opns (w : World) (ok : Nat → Prop) (A : Option Addr) (l : List Opn) : Prop := ∀ i (h : i < l.length), ∃ ad Ap cp, A = some ad ∧ ok ad.block ∧ w.cell? (ad.add (i * 2)) = some (.int .i64 l[i].1) ∧ w.cell? (ad.add (i * 2 + 1)) = some (.slice Ap l[i].2.length cp) ∧ l[i].2.length ≤ maxLen ∧ Prts w ok Ap l[i].2
theorem cell_keep {w w' : World} {ad : Addr} {k : Nat} (h : w'.heap[ad.block]? = w.heap[ad.block]?) : w'.cell? (ad.add k) = w.cell? (ad.add k) := World.cell?_of_block (by rw [block_of_plus]; exact h)
theorem Prts.keep {w w' : World} {ok : Nat → Prop} {A : Option Addr} {ps : List Prt} (h : Prts w ok A ps) (hk : ∀ b, ok b → w'.heap[b]? = w.heap[b]?) : Prts w' ok A ps := fun j hj => by
  obtain ⟨ad, An, cn, Ab, cb, h1, h2, h3, h4, h5, h6, h7, h8⟩ := h j hj
  exact ⟨ad, An, cn, Ab, cb, h1, h2, (cell_keep (hk _ h2)).trans h3, (cell_keep (hk _ h2)).trans h4, h5, h6, h7.keep hk, h8.keep hk⟩
theorem Opns.keep {w w' : World} {ok : Nat → Prop} {A : Option Addr} {l : List Opn} (h : Opns w ok A l) (hk : ∀ b, ok b → w'.heap[b]? = w.heap[b]?) : Opns w' ok A l := fun j hj => by
  obtain ⟨ad, Ap, cp, h1, h2, h3, h4, h5, h6⟩ := h j hj
  exact ⟨ad, Ap, cp, h1, h2, (cell_keep (hk _ h2)).trans h3, (cell_keep (hk _ h2)).trans h4, h5, h6.keep hk⟩
theorem Prts.at_ {w : World} {ok : Nat → Prop} {A : Option Addr} {ps : List Prt} (h : Prts w ok A ps) {j : Nat} (hj : j < ps.length) : ∃ gb go An cn Ab cb, A = some ⟨gb, go, none⟩ ∧ ok gb ∧ w.cell? ⟨gb, go + j * 2, none⟩ = some (.slice An ps[j].1.length cn) ∧ w.cell? ⟨gb, go + j * 2 + 1, none⟩ = some (.slice Ab ps[j].2.length cb) ∧
    ps[j].2.length ≤ cb ∧ cb ≤ maxLen ∧ Ints w ok An ps[j].1 ∧ Byt w ok Ab ps[j].2 := by
  obtain ⟨ad, An, cn, Ab, cb, rfl, h2, h3, h4, h5, h6, h7, h8⟩ := h j hj
  obtain ⟨gb, go, sp⟩ := ad
  have hsp : sp = none := by
    obtain ⟨ad, _, _, _, _, e, _, h0, _⟩ := h 0 (by omega)
    cases e
    simpa [Addr.add] using World.cell?_spot h0
  subst hsp
  rw [Addr.add_lit] at h3 h4
  exact ⟨gb, go, An, cn, Ab, cb, rfl, h2, h3, h4, h5, h6, h7, h8⟩
theorem Opns.at_ {w : World} {ok : Nat → Prop} {A : Option Addr} {l : List Opn} (h : Opns w ok A l) {i : Nat} (hi : i < l.length) : ∃ gb go Ap cp, A = some ⟨gb, go, none⟩ ∧ ok gb ∧ w.cell? ⟨gb, go + i * 2, none⟩ = some (.int .i64 l[i].1) ∧ w.cell? ⟨gb, go + i * 2 + 1, none⟩ = some (.slice Ap l[i].2.length cp) ∧ l[i].2.length ≤ maxLen ∧ Prts w ok Ap l[i].2 := by
  obtain ⟨ad, Ap, cp, rfl, h2, h3, h4, h5, h6⟩ := h i hi
  obtain ⟨gb, go, sp⟩ := ad
  have hsp : sp = none := by
    obtain ⟨ad, _, _, e, _, h0, _⟩ := h 0 (by omega)
    cases e
    simpa [Addr.add] using World.cell?_spot h0
  subst hsp
  rw [Addr.add_lit] at h3 h4
  exact ⟨gb, go, Ap, cp, rfl, h2, h3, h4, h5, h6⟩
def most (i k : Nat) : Nat := if 2 < k ∨ 20 < i then 20 else 5000
def partK (made i : Nat) (ps : List Prt) (k : Nat) : List UInt8 := cutB (ps.getD k ([], [])).1 (ps.getD k ([], [])).2 made (most i k)
def partsK (made i : Nat) (ps : List Prt) : List (List UInt8) := (List.range (min 66 ps.length)).map (partK made i ps)
theorem partsK_length (made i : Nat) (ps : List Prt) : (partsK made i ps).length = min 66 ps.length := by simp [partsK]
theorem partsK_get {made i : Nat} {ps : List Prt} {k : Nat} (h : k < (partsK made i ps).length) (hk : k < ps.length) : (partsK made i ps)[k] = cutB ps[k].1 ps[k].2 made (most i k) := by
  have e : (partsK made i ps)[k]? = some (cutB ps[k].1 ps[k].2 made (most i k)) := by
    have h' := h
    rw [partsK_length] at h'
    unfold partsK partK
    rw [List.getElem?_map, List.getElem?_range h']
    simp [hk]
  rw [List.getElem?_eq_getElem h] at e
  exact Option.some.inj e
def opAt (l : List Opn) (i : Nat) : Opn := l.getD i (0, [])
/-- The table behind the first i of these. -/
def playT (l : List Opn) : Nat → List Trm
  | 0 => []
  | i + 1 => (mk (playT l i) (opAt l i).1 (partsK (playT l i).length i (opAt l i).2)).2
/-- Both tables hold these terms. -/
def Both (B : Nat) (w : World) (tb rb : Nat) (T : List Trm) : Prop :=
  ∃ ok1 ok2 : Nat → Prop, Tbl w ok1 tb T ∧ RTbl w ok2 rb T ∧ (∀ b, ok1 b → B ≤ b ∧ b < w.heap.size) ∧ (∀ b, ok2 b → B ≤ b ∧ b < w.heap.size) ∧ (∀ b, ok1 b → ok2 b → False)
theorem Cop.lst {w0 wr : World} {ps : List (List UInt8)} {v : Value} {pl : Nat} (h : Cop w0 wr ps v pl) (hpl : ps.length = pl) : ∃ A c, v = .slice A pl c ∧ Lst wr (fun b => w0.heap.size ≤ b ∧ b < wr.heap.size) A ps := by
  obtain ⟨ss, o1, o2⟩ := h
  rcases o1.2 with ⟨e, h0⟩ | ⟨gb, cap, cur, e, _⟩
  · refine ⟨none, 0, by rw [e, h0], fun j hj => by omega⟩
  · subst e
    refine ⟨_, cap, rfl, fun j hj => ?_⟩
    obtain ⟨A', c', q1, q2, q3, q4⟩ := o2 j hj (by omega)
    have hgb := o1.lt gb rfl
    refine ⟨⟨gb, 0, none⟩, A', c', rfl, hgb, ?_, q2, q3, q4.imp fun b hb => ⟨hb.1, hb.2.1⟩⟩
    rw [Addr.add_lit, Nat.zero_add]
    exact ownsRow_cell1 o1 q1

theorem newB_n {w w' : World} {xs : List UInt8} {e : Ending} (h : NewB w xs e w') : ∃ A n c, e = .returned (.slice A n c) ∧ Hid (xs.length = n) ∧ n ≤ c ∧ c ≤ maxLen ∧ Byt w' (fun b => w.heap.size ≤ b ∧ b < w'.heap.size) A xs ∧ Below w.heap.size w w' := by
  obtain ⟨A, c, h1, h2, h3, h4, h5⟩ := h
  exact ⟨A, _, c, h1, rfl, h2, h3, h4, h5⟩
theorem one_slc (A : Option Addr) (n c : Nat) : ∀ u ∈ [Value.slice A n c], u.oneCell' = true := fun u hu => by
  obtain rfl : u = .slice A n c := by simpa using hu
  rfl
theorem le_alc {w : World} {n : Nat} (h : n ≤ w.heap.size) (o : Obj) : n ≤ (w.alloc o).heap.size := by rw [alloc_size]; omega
theorem arr_range {w : World} {T : TypeId} {g : Nat} {xs : List UInt8} (h : Arr w T g xs) : w.rangeAt g 0 (u8s xs) := fun j v hv => by
  obtain ⟨hj, rfl⟩ := u8s_get xs j v hv
  obtain ⟨ad, e, _, hc⟩ := h.byt (ok := fun _ => True) trivial j hj
  cases e
  rw [Addr.add_lit] at hc
  exact hc
/-- One more term on both tables. -/
theorem both_step {B tb rb : Nat} {w1 wr w2 w4 w5 w7 : World} {ok1 ok2 : Nat → Prop} {T : List Trm} (h1 : ∀ b, ok1 b → B ≤ b ∧ b < w1.heap.size) (h2 : ∀ b, ok2 b → B ≤ b ∧ b < w1.heap.size) (h3 : ∀ b, ok1 b → ok2 b → False) (hzx : w1.heap.size ≤ wr.heap.size) (hBw : B ≤ w1.heap.size)
    (u2 : Tbl w2 (More ok1 wr w2) tb T) (m2 : Md ok1 wr w2) (b24 : Below w2.heap.size w2 w4) (u5 : RTbl w5 (More ok2 w4 w5) rb T) (m5 : Md ok2 w4 w5) (b57 : Below w5.heap.size w5 w7) :
    Both B w7 tb rb T ∧ Tbl w7 (More ok1 wr w2) tb T ∧ RTbl w7 (More ok2 w4 w5) rb T ∧ Below B wr w7 ∧ ∀ b, w1.heap.size ≤ b → b < w4.heap.size → w5.heap[b]? = w4.heap[b]? := by
  have z2 := m2.size
  have z4 := b24.size
  have z5 := m5.size
  have z7 := b57.size
  have hst : ∀ b, w1.heap.size ≤ b → b < w4.heap.size → w5.heap[b]? = w4.heap[b]? := fun b hb hb2 => m5.block b hb2 fun h => by have := (h2 b h).2; omega
  have t7 : Tbl w7 (More ok1 wr w2) tb T := u2.keep fun b hb hlt => by
    have e5 : w5.heap[b]? = w4.heap[b]? := m5.block b (by omega) fun h => by
      rcases hb with hb | hb
      · exact h3 b hb h
      · have := (h2 b h).2; omega
    exact ((b57.block b (by omega)).trans e5).trans (b24.block b hlt)
  have r7 := u5.below b57
  have c1 : Below B wr w2 := m2.below (by omega) fun b _ h => (h1 b h).1
  have c2 : Below B w4 w5 := m5.below (by omega) fun b _ h => (h2 b h).1
  refine ⟨⟨_, fun b => More ok2 w4 w5 b ∧ b < w5.heap.size, t7, (u5.imp fun b hb h => (⟨h, hb⟩ : More ok2 w4 w5 b ∧ b < w5.heap.size)).below b57, fun b hb => ?_, fun b hb => ?_, fun b hb hb2 => ?_⟩, t7, r7, (c1.trans (b24.mono (by omega))).trans (c2.trans (b57.mono (by omega))), hst⟩
  · rcases hb with hb | hb
    · have := h1 b hb; omega
    · omega
  · rcases hb.1 with hb | hb
    · have := h2 b hb; omega
    · omega
  · rcases hb with hb | hb
    · rcases hb2.1 with hc | hc
      · exact h3 b hb hc
      · have := (h1 b hb).2; omega
    · rcases hb2.1 with hc | hc
      · have := (h2 b hc).2; omega
      · omega
section
variable {ops : Array Oper} {Cw : World → Prop} {Q : Act → Prop} {rest : List Oper} {a : Act} {o : Oper}
theorem quiet_load32 (hw : Region.wanted o (yielded ops a.tmps) = true) (x : Operand) (T : TypeId) (ho : o.op = .load T x) (g : Nat) (hx : a.eval x = .pointer (some ⟨g, 0, none⟩)) (ks : List UInt8)
    (hl : ∀ W, Cw W → (Instr.loadAt T (.pointer (some ⟨g, 0, none⟩))).run Try.prog W = .ok (.agg (u8s ks).toArray) W) (h : wpQuiet Try.prog ops Cw Q rest (a.put o.dst (.agg (u8s ks).toArray))) : wpQuiet Try.prog ops Cw Q (o :: rest) a :=
  BigFrame.wpQuiet_want hw fun K hK => ⟨.agg (u8s ks).toArray, fun W hW => by
    have := hl W hW
    unfold Oper.quietAt execOp
    simp only [ho, hx, Sem.run_bind, this, Result.andThen_ok, Sem.run_pure]
    exact ⟨rfl, rfl⟩, hK _ h⟩
theorem guard49 : Try.prog.eqGuardType Try.prog.depth 49 = false := by kernel_rfl
theorem quiet_neq32 (hw : Region.wanted o (yielded ops a.tmps) = true) (x y : Operand) (ho : o.op = .binOp .neq 49 x y 49) (ks : List UInt8) (hx : a.eval x = .agg (u8s ks).toArray) (hy : a.eval y = .agg (u8s ks).toArray)
    (hl : ∀ W : World, (binOp .neq 49 (.agg (u8s ks).toArray) (.agg (u8s ks).toArray)).run Try.prog W = .ok (.bool false) W) (h : wpQuiet Try.prog ops Cw Q rest (a.put o.dst (.bool false))) : wpQuiet Try.prog ops Cw Q (o :: rest) a :=
  BigFrame.wpQuiet_want hw fun K hK => ⟨.bool false, fun W _ => by
    have := hl W
    unfold Oper.quietAt execOp
    simp only [ho, hx, hy, run_eqGuard_agg _ _ _ _ _ _ _ guard49, Sem.run_bind, this, Result.andThen_ok, Sem.run_pure]
    exact ⟨rfl, rfl⟩, hK _ h⟩
end
theorem Both.drewN {B tb rb : Nat} {w : World} {T : List Trm} (h : Both B w tb rb T) (n : Nat) : Both B (w.drewN n) tb rb T := by
  obtain ⟨ok1, ok2, t1, t2, t3⟩ := h
  exact ⟨ok1, ok2, t1.drewN n, t2, t3⟩
/-- What Play tells. -/
def PlayE (B : Nat) (w : World) (tb rb : Nat) (T : List Trm) (e : Ending) (w' : World) : Prop := e = .returned (.bool true) ∧ Both B w' tb rb T ∧ Below B w w'

set_option maxRecDepth 100000 in
set_option maxHeartbeats 4000000 in
theorem play_any {w : World} {ok : Nat → Prop} {tb rb ln c B : Nat} {A : Option Addr} {l : List Opn} (h : Both B w tb rb []) (hB : B ≤ w.heap.size) (hx : Opns w ok A l) (hok : ∀ b, ok b → b < B) (hln : l.length = ln) (hm : ln ≤ maxLen) :
    Calls Try.prog 10 #[.pointer (some ⟨tb, 0, none⟩), .pointer (some ⟨rb, 0, none⟩), .slice A ln c] w (PlayE B w tb rb (playT l (min 80 ln))) := by
  have HB := Lib.hid h
  have HX := Lib.hid hx
  have HOK := Lib.hid hok
  have HLN := Lib.hid hln
  unfold maxLen at hm
  obtain ⟨i41, hi41, hx0, hx1, hx2⟩ := info_parts info41
  have HI41 := Lib.hid hi41
  have HX0 := Lib.hid hx0
  have HX1 := Lib.hid hx1
  have HX2 := Lib.hid hx2
  clear hi41 hx0 hx1 hx2 h hx hok hln
  go_enter Try.func10, Try.ntmps10
  go_wp2_with fail
  go_loopg [7] 80 (fun G p wr => ∃ (i : Nat), p = .int .i64 i ∧ i ≤ ln ∧ i ≤ 80 ∧ 80 - i ≤ G ∧ Hid (Below B w wr) ∧ Hid (Both B wr tb rb (playT l i)))
  case atStart => exact ⟨0, rfl, by omega, by omega, by omega, Below.refl _ _ |>.mono hB, HB.out⟩
  case round =>
    obtain ⟨i, rfl, hin, hi80, hgk, hb, hbo⟩ := hrel
    have HGK := Lib.hid hgk
    clear hgk
    by_cases hlt : i < ln ∧ i < 80
    · obtain ⟨h1, h2⟩ := hlt
      obtain ⟨gb, go, Ap, cp, rfl, hog, x1, x2, x3, x4⟩ := HX.out.at_ (i := i) (by rw [HLN.out]; exact h1)
      obtain ⟨op, hop⟩ : ∃ op, l[i]'(by rw [HLN.out]; exact h1) = op := ⟨_, rfl⟩
      rw [hop] at x1 x2 x3 x4
      obtain ⟨kd, ps⟩ := op
      simp only at x1 x2 x3 x4
      have hoa : Hid (opAt l i = (kd, ps)) := by
        show opAt l i = (kd, ps)
        unfold opAt
        rw [List.getD_eq_getElem?_getD, List.getElem?_eq_getElem (by rw [HLN.out]; exact h1), hop]
        rfl
      obtain ⟨pn, hpn⟩ : ∃ pn, ps.length = pn := ⟨_, rfl⟩
      rw [hpn] at x2 x3
      obtain ⟨T, hT⟩ : ∃ T, playT l i = T := ⟨_, rfl⟩
      rw [hT] at hbo
      obtain ⟨ok1, ok2, t1, t2, t3, t4, t5⟩ := hbo.out
      have hgt := t1.good
      have hmax := t1.max
      obtain ⟨n, hn⟩ : ∃ n, T.length = n := ⟨_, rfl⟩
      rw [hn] at hmax
      obtain ⟨Ah, ch, y1, _, _, _⟩ := t2.head
      rw [hn] at y1
      obtain ⟨w1, hw1⟩ : ∃ w1, w1 = wr := ⟨_, rfl⟩
      subst hw1
      have hgB : gb < B := HOK.out gb hog
      have hrB : B ≤ rb ∧ rb < w1.heap.size := ⟨by obtain ⟨v, ss, _, h2, _⟩ := t2; exact (t4 rb h2).1, t2.lt⟩
      have z1 : w1.cell? ⟨gb, go + i * 2, none⟩ = some (.int .i64 kd) := (hb.out.cell (p := ⟨gb, go + i * 2, none⟩) hgB).trans x1
      have z2 : w1.cell? ⟨gb, go + i * 2 + 1, none⟩ = some (.slice Ap pn cp) := (hb.out.cell (p := ⟨gb, go + i * 2 + 1, none⟩) hgB).trans x2
      have Z := Lib.hid (And.intro z1 (And.intro z2 y1))
      have X4 := Lib.hid x4
      have HPN := Lib.hid hpn
      have HN := Lib.hid hn
      have HT := Lib.hid hT
      have HGT := Lib.hid hgt
      unfold maxLen at x3
      clear x4 hop hpn hT hgt hn t1 t2 t3 t4 t5 x1 x2
      have d80 : (i : Int) < 80 := by omega
      have d81 : (i : Int) < (ln : Int) := by omega
      go_wp2_with fail
      go_loopg [8, 9] 66 (fun G v p wx => ∃ (k : Nat), p = .int .i64 k ∧ k ≤ 66 ∧ k ≤ pn ∧ 66 - k ≤ G ∧ Hid (Below w1.heap.size w1 wx) ∧ Hid (Cop w1 wx (partsK n i ps) v k))
      case atStart => exact ⟨0, rfl, by omega, by omega, by omega, Below.refl _ _, Cop.nil _ _ _⟩
      case round =>
        obtain ⟨k, rfl, hk66, hkp, hgk2, hbx, hcop⟩ := hrel
        have HGK2 := Lib.hid hgk2
        have hbB : Below B w wr := hb.out.trans (hbx.out.mono (Nat.le_trans hB hb.out.size))
        have hBw : B ≤ w1.heap.size := Nat.le_trans hB hb.out.size
        have v1 : wr.cell? ⟨gb, go + i * 2, none⟩ = some (.int .i64 kd) := (hbx.out.cell (p := ⟨gb, go + i * 2, none⟩) (Nat.lt_of_lt_of_le hgB hBw)).trans Z.out.1
        have v2 : wr.cell? ⟨gb, go + i * 2 + 1, none⟩ = some (.slice Ap pn cp) := (hbx.out.cell (p := ⟨gb, go + i * 2 + 1, none⟩) (Nat.lt_of_lt_of_le hgB hBw)).trans Z.out.2.1
        have v3 : wr.cell? ⟨rb, 0, none⟩ = some (.slice Ah n ch) := (hbx.out.cell (p := ⟨rb, 0, none⟩) hrB.2).trans Z.out.2.2
        by_cases hlt2 : k < pn ∧ k < 66
        · obtain ⟨g1, g2⟩ := hlt2
          have hkl : k < ps.length := by rw [HPN.out]; exact g1
          obtain ⟨pb, po, An, cn, Ab, cb, rfl, hop, p1, p2, p3, p4, p5, p6⟩ := X4.out.at_ (j := k) hkl
          have hpB : pb < B := HOK.out pb hop
          have r1 : wr.cell? ⟨pb, po + k * 2, none⟩ = some (.slice An (ps[k]'hkl).1.length cn) := (hbB.cell (p := ⟨pb, po + k * 2, none⟩) hpB).trans p1
          have r2 : wr.cell? ⟨pb, po + k * 2 + 1, none⟩ = some (.slice Ab (ps[k]'hkl).2.length cb) := (hbB.cell (p := ⟨pb, po + k * 2 + 1, none⟩) hpB).trans p2
          obtain ⟨pt, hpt⟩ : ∃ pt, ps[k]'hkl = pt := ⟨_, rfl⟩
          rw [hpt] at r1 r2 p3 p5 p6
          obtain ⟨ns, bs⟩ := pt
          simp only at r1 r2 p3 p5 p6
          obtain ⟨nl, hnl⟩ : ∃ nl, ns.length = nl := ⟨_, rfl⟩
          obtain ⟨bl, hbl⟩ : ∃ bl, bs.length = bl := ⟨_, rfl⟩
          rw [hnl] at r1
          rw [hbl] at r2 p3
          rw [hpt] at p1 p2
          simp only at p1 p2
          rw [hnl] at p1
          rw [hbl] at p2
          have P1 := Lib.hid p1
          have P2 := Lib.hid p2
          have HCUT : Hid (∀ M W, M ≤ 5000 → Below B w W → Calls Try.prog 23 #[.agg #[.slice An nl cn, .slice Ab bl cb], .int .i64 n, .int .i64 (M : Nat)] W (NewB W (cutB ns bs n M))) := fun M W hM hW =>
            cut_any (p5.keep fun b hb => hW.block b (HOK.out b hb)) (p6.keep fun b hb => hW.block b (HOK.out b hb)) (fun b hb => by have := HOK.out b hb; have := hW.size; omega) hnl hbl p3 p4 (by omega) hM
          have HPT := Lib.hid hpt
          have q1 : (0 : Int) ≤ (k : Int) := by omega
          have q2 : (k : Int) < (pn : Int) := by omega
          have q3 : (0 : Int) ≤ (i : Int) := by omega
          have q4 : (i : Int) < (ln : Int) := by omega
          have q5 : (k : Int) < 66 := by omega
          have q6 : k ≤ 66 := by omega
          clear p1 p2 p5 p6 hgk2 hpt hnl hbl
          have HBB := Lib.hid hbB
          clear hbB
          obtain ⟨ss, o1, o2⟩ := hcop.out
          have O1 := Lib.hid o1
          have O2 := Lib.hid o2
          have hzx := hbx.out.size
          have hq0 : Below w1.heap.size w1 wr.drew := ⟨hbx.out.os, hbx.out.tape, hbx.out.output, hbx.out.size, hbx.out.block⟩
          have KP : Hid (∀ W, Below w1.heap.size w1 W → W.cell? ⟨gb, go + i * 2 + 1, none⟩ = some (.slice (some ⟨pb, po, none⟩) pn cp) ∧ W.cell? ⟨rb, 0, none⟩ = some (.slice Ah n ch) ∧ W.cell? ⟨pb, po + k * 2, none⟩ = some (.slice An nl cn) ∧ W.cell? ⟨pb, po + k * 2 + 1, none⟩ = some (.slice Ab bl cb)) := fun W hW =>
            ⟨(hW.cell (p := ⟨gb, go + i * 2 + 1, none⟩) (Nat.lt_of_lt_of_le hgB hBw)).trans Z.out.2.1, (hW.cell (p := ⟨rb, 0, none⟩) hrB.2).trans Z.out.2.2, (hW.cell (p := ⟨pb, po + k * 2, none⟩) (Nat.lt_of_lt_of_le hpB hBw)).trans ((hb.out.cell (p := ⟨pb, po + k * 2, none⟩) hpB).trans P1.out), (hW.cell (p := ⟨pb, po + k * 2 + 1, none⟩) (Nat.lt_of_lt_of_le hpB hBw)).trans ((hb.out.cell (p := ⟨pb, po + k * 2 + 1, none⟩) hpB).trans P2.out)⟩
          have F3 : Hid (k + 1 ≤ maxLen) := by show k + 1 ≤ maxLen; unfold maxLen; omega
          have F4 : Hid ((k + 1) * 24 ≤ 140737488355328) := by show (k + 1) * 24 ≤ _; omega
          clear o1 o2
          by_cases c1 : 2 < k
          · have c1' : (2 : Int) < (k : Int) := by omega
            have hMo : most i k = 20 := by unfold most; rw [if_pos (.inl c1)]
            have HC := Lib.hid (HCUT.out 20 wr.drew (by decide) ⟨HBB.out.os, HBB.out.tape, HBB.out.output, HBB.out.size, HBB.out.block⟩)
            have HMO := Lib.hid hMo
            clear hMo
            go_wp2_with fail
            go_region_held3 (fun W => W.cell? ⟨gb, go + i * 2 + 1, none⟩ = some (.slice (some ⟨pb, po, none⟩) pn cp) ∧ W.cell? ⟨rb, 0, none⟩ = some (.slice Ah n ch) ∧ W.cell? ⟨pb, po + k * 2, none⟩ = some (.slice An nl cn) ∧ W.cell? ⟨pb, po + k * 2 + 1, none⟩ = some (.slice Ab bl cb)) (first | exact KP.out _ hq5 | exact KP.out _ (hq4.alloc hz14 _) | exact KP.out _ hq4 | exact KP.out _ hq0) (first
              | (go_at_call 23; refine HC.out.mono ?_; intro e w4 h4; obtain ⟨A3, xl, c3, rfl, hxl, y2, y3, y4, hb4⟩ := newB_n h4; have hb24 : Below wr.heap.size wr w4 := (Below.refl _ _).drew.trans (hb4.mono (Nat.le_refl _)); have hq4 : Below w1.heap.size w1 w4 := hbx.out.trans (hb24.mono hzx); have hz14 : w1.heap.size ≤ w4.heap.size := hq4.size; have o3 := own_below O1.out hb24; have F1 : Hid (∀ j u, [Value.slice A3 xl c3][j]? = some u → (w4.alloc (.cells #[.slice A3 xl c3] 41)).cell? ((⟨w4.heap.size, 0, none⟩ : Addr).add j) = some u) := World.news_of_block (heap_alloc_new w4 _); have F2 : Hid (∀ u ∈ [Value.slice A3 xl c3], u.oneCell' = true) := one_slc _ _ _; have F5 : Hid ((w4.alloc (.cells #[.slice A3 xl c3] 41)).ownsRow w1.heap.size 41 1 u8 k ss) := o3.alloc _; have F6 : Hid (w1.heap.size ≤ (w4.alloc (.cells #[.slice A3 xl c3] 41)).heap.size) := le_alc hz14 _; have HB24 := Lib.hid hb24; have HY4 := Lib.hid y4; have HY2 := Lib.hid y2; have HY3 := Lib.hid y3; clear hb24 y4 y2 y3 hb4 o3 h4)
              | ((refine step_append_lies _ (by rfl) _ _ _ (by rfl) w1.heap.size 41 i41 (.slice none 0 0) 1 24 Try.underlying31 HI41.out HX0.out HX1.out HX2.out rfl Nat.one_pos u8 k ss (by rfl) F5.out ⟨w4.heap.size, 0, none⟩ 1 1 [.slice A3 xl c3] (by rfl) rfl F1.out F2.out Nat.one_pos F3.out F4.out F6.out (w4.heap.size + 1) (by simp) ?_); intro g5 cap5 w5 hown5 hgrow5 hat5 hlt5; have hq5 : Below w1.heap.size w1 w5 := (hq4.alloc hz14 _).grown hgrow5 F6.out (fun g hg => (O1.out.lt g hg).1); have HO5 := Lib.hid hown5; have HG5 := Lib.hid hgrow5; have HA5 := Lib.hid hat5; clear hown5 hgrow5 hat5 hlt5)
              | fail)
            have hb5 := Lib.hid hq5
            have hc5 : Hid (Cop w1 w5 (partsK n i ps) (.slice (some ⟨g5, 0, none⟩) (k + 1) cap5) (k + 1)) := by
              have hkm : k < (partsK n i ps).length := by rw [partsK_length, HPN.out]; omega
              have hget : (partsK n i ps)[k] = cutB ns bs n 20 := by rw [partsK_get hkm hkl, HPT.out, HMO.out]
              have hlen : (partsK n i ps)[k].length = xl := by rw [hget]; exact hxl.out
              exact hcop.out.step (w5 := w5) (A3 := A3) (c3 := c3) (o := .cells #[.slice A3 xl c3] 41) hzx hkm HB24.out (by rw [hget]; exact HY4.out) (by rw [hlen]; exact HY2.out) HY3.out ⟨O1.out, O2.out⟩ (by rw [hlen]; exact HO5.out) HG5.out (by rcases HA5.out with e | e; exact .inl e.symm; exact .inr (by rw [e]; rfl))
            clear hq5 hq4 F1 F2 F5 F6 HO5 HG5 HA5 HY4 HY2 HY3 HB24 O1 O2 hcop hbx hq0 KP v1 v2 v3 r1 r2
            go_wp2_with fail
            go_roundg (66 - (k + 1))
            case measure => have := HGK2.out; omega
            case rel => exact ⟨k + 1, by go_num, by omega, by omega, Nat.le_refl _, hb5.out, hc5.out⟩
          · have c1' : ¬ ((2 : Int) < (k : Int)) := by omega
            by_cases c2 : 20 < i
            · have c2' : (20 : Int) < (i : Int) := by omega
              have hMo : most i k = 20 := by unfold most; rw [if_pos (.inr c2)]
              have HC := Lib.hid (HCUT.out 20 wr.drew (by decide) ⟨HBB.out.os, HBB.out.tape, HBB.out.output, HBB.out.size, HBB.out.block⟩)
              have HMO := Lib.hid hMo
              clear hMo
              go_wp2_with fail
              go_region_held3 (fun W => W.cell? ⟨gb, go + i * 2 + 1, none⟩ = some (.slice (some ⟨pb, po, none⟩) pn cp) ∧ W.cell? ⟨rb, 0, none⟩ = some (.slice Ah n ch) ∧ W.cell? ⟨pb, po + k * 2, none⟩ = some (.slice An nl cn) ∧ W.cell? ⟨pb, po + k * 2 + 1, none⟩ = some (.slice Ab bl cb)) (first | exact KP.out _ hq5 | exact KP.out _ (hq4.alloc hz14 _) | exact KP.out _ hq4 | exact KP.out _ hq0) (first
                | (go_at_call 23; refine HC.out.mono ?_; intro e w4 h4; obtain ⟨A3, xl, c3, rfl, hxl, y2, y3, y4, hb4⟩ := newB_n h4; have hb24 : Below wr.heap.size wr w4 := (Below.refl _ _).drew.trans (hb4.mono (Nat.le_refl _)); have hq4 : Below w1.heap.size w1 w4 := hbx.out.trans (hb24.mono hzx); have hz14 : w1.heap.size ≤ w4.heap.size := hq4.size; have o3 := own_below O1.out hb24; have F1 : Hid (∀ j u, [Value.slice A3 xl c3][j]? = some u → (w4.alloc (.cells #[.slice A3 xl c3] 41)).cell? ((⟨w4.heap.size, 0, none⟩ : Addr).add j) = some u) := World.news_of_block (heap_alloc_new w4 _); have F2 : Hid (∀ u ∈ [Value.slice A3 xl c3], u.oneCell' = true) := one_slc _ _ _; have F5 : Hid ((w4.alloc (.cells #[.slice A3 xl c3] 41)).ownsRow w1.heap.size 41 1 u8 k ss) := o3.alloc _; have F6 : Hid (w1.heap.size ≤ (w4.alloc (.cells #[.slice A3 xl c3] 41)).heap.size) := le_alc hz14 _; have HB24 := Lib.hid hb24; have HY4 := Lib.hid y4; have HY2 := Lib.hid y2; have HY3 := Lib.hid y3; clear hb24 y4 y2 y3 hb4 o3 h4)
                | ((refine step_append_lies _ (by rfl) _ _ _ (by rfl) w1.heap.size 41 i41 (.slice none 0 0) 1 24 Try.underlying31 HI41.out HX0.out HX1.out HX2.out rfl Nat.one_pos u8 k ss (by rfl) F5.out ⟨w4.heap.size, 0, none⟩ 1 1 [.slice A3 xl c3] (by rfl) rfl F1.out F2.out Nat.one_pos F3.out F4.out F6.out (w4.heap.size + 1) (by simp) ?_); intro g5 cap5 w5 hown5 hgrow5 hat5 hlt5; have hq5 : Below w1.heap.size w1 w5 := (hq4.alloc hz14 _).grown hgrow5 F6.out (fun g hg => (O1.out.lt g hg).1); have HO5 := Lib.hid hown5; have HG5 := Lib.hid hgrow5; have HA5 := Lib.hid hat5; clear hown5 hgrow5 hat5 hlt5)
                | fail)
              have hb5 := Lib.hid hq5
              have hc5 : Hid (Cop w1 w5 (partsK n i ps) (.slice (some ⟨g5, 0, none⟩) (k + 1) cap5) (k + 1)) := by
                have hkm : k < (partsK n i ps).length := by rw [partsK_length, HPN.out]; omega
                have hget : (partsK n i ps)[k] = cutB ns bs n 20 := by rw [partsK_get hkm hkl, HPT.out, HMO.out]
                have hlen : (partsK n i ps)[k].length = xl := by rw [hget]; exact hxl.out
                exact hcop.out.step (w5 := w5) (A3 := A3) (c3 := c3) (o := .cells #[.slice A3 xl c3] 41) hzx hkm HB24.out (by rw [hget]; exact HY4.out) (by rw [hlen]; exact HY2.out) HY3.out ⟨O1.out, O2.out⟩ (by rw [hlen]; exact HO5.out) HG5.out (by rcases HA5.out with e | e; exact .inl e.symm; exact .inr (by rw [e]; rfl))
              clear hq5 hq4 F1 F2 F5 F6 HO5 HG5 HA5 HY4 HY2 HY3 HB24 O1 O2 hcop hbx hq0 KP v1 v2 v3 r1 r2
              go_wp2_with fail
              go_roundg (66 - (k + 1))
              case measure => have := HGK2.out; omega
              case rel => exact ⟨k + 1, by go_num, by omega, by omega, Nat.le_refl _, hb5.out, hc5.out⟩
            · have c2' : ¬ ((20 : Int) < (i : Int)) := by omega
              have hMo : most i k = 5000 := by unfold most; rw [if_neg (fun h => h.elim c1 c2)]
              have HC := Lib.hid (HCUT.out 5000 wr.drew (by decide) ⟨HBB.out.os, HBB.out.tape, HBB.out.output, HBB.out.size, HBB.out.block⟩)
              have HMO := Lib.hid hMo
              clear hMo
              go_wp2_with fail
              go_region_held3 (fun W => W.cell? ⟨gb, go + i * 2 + 1, none⟩ = some (.slice (some ⟨pb, po, none⟩) pn cp) ∧ W.cell? ⟨rb, 0, none⟩ = some (.slice Ah n ch) ∧ W.cell? ⟨pb, po + k * 2, none⟩ = some (.slice An nl cn) ∧ W.cell? ⟨pb, po + k * 2 + 1, none⟩ = some (.slice Ab bl cb)) (first | exact KP.out _ hq5 | exact KP.out _ (hq4.alloc hz14 _) | exact KP.out _ hq4 | exact KP.out _ hq0) (first
                | (go_at_call 23; refine HC.out.mono ?_; intro e w4 h4; obtain ⟨A3, xl, c3, rfl, hxl, y2, y3, y4, hb4⟩ := newB_n h4; have hb24 : Below wr.heap.size wr w4 := (Below.refl _ _).drew.trans (hb4.mono (Nat.le_refl _)); have hq4 : Below w1.heap.size w1 w4 := hbx.out.trans (hb24.mono hzx); have hz14 : w1.heap.size ≤ w4.heap.size := hq4.size; have o3 := own_below O1.out hb24; have F1 : Hid (∀ j u, [Value.slice A3 xl c3][j]? = some u → (w4.alloc (.cells #[.slice A3 xl c3] 41)).cell? ((⟨w4.heap.size, 0, none⟩ : Addr).add j) = some u) := World.news_of_block (heap_alloc_new w4 _); have F2 : Hid (∀ u ∈ [Value.slice A3 xl c3], u.oneCell' = true) := one_slc _ _ _; have F5 : Hid ((w4.alloc (.cells #[.slice A3 xl c3] 41)).ownsRow w1.heap.size 41 1 u8 k ss) := o3.alloc _; have F6 : Hid (w1.heap.size ≤ (w4.alloc (.cells #[.slice A3 xl c3] 41)).heap.size) := le_alc hz14 _; have HB24 := Lib.hid hb24; have HY4 := Lib.hid y4; have HY2 := Lib.hid y2; have HY3 := Lib.hid y3; clear hb24 y4 y2 y3 hb4 o3 h4)
                | ((refine step_append_lies _ (by rfl) _ _ _ (by rfl) w1.heap.size 41 i41 (.slice none 0 0) 1 24 Try.underlying31 HI41.out HX0.out HX1.out HX2.out rfl Nat.one_pos u8 k ss (by rfl) F5.out ⟨w4.heap.size, 0, none⟩ 1 1 [.slice A3 xl c3] (by rfl) rfl F1.out F2.out Nat.one_pos F3.out F4.out F6.out (w4.heap.size + 1) (by simp) ?_); intro g5 cap5 w5 hown5 hgrow5 hat5 hlt5; have hq5 : Below w1.heap.size w1 w5 := (hq4.alloc hz14 _).grown hgrow5 F6.out (fun g hg => (O1.out.lt g hg).1); have HO5 := Lib.hid hown5; have HG5 := Lib.hid hgrow5; have HA5 := Lib.hid hat5; clear hown5 hgrow5 hat5 hlt5)
                | fail)
              have hb5 := Lib.hid hq5
              have hc5 : Hid (Cop w1 w5 (partsK n i ps) (.slice (some ⟨g5, 0, none⟩) (k + 1) cap5) (k + 1)) := by
                have hkm : k < (partsK n i ps).length := by rw [partsK_length, HPN.out]; omega
                have hget : (partsK n i ps)[k] = cutB ns bs n 5000 := by rw [partsK_get hkm hkl, HPT.out, HMO.out]
                have hlen : (partsK n i ps)[k].length = xl := by rw [hget]; exact hxl.out
                exact hcop.out.step (w5 := w5) (A3 := A3) (c3 := c3) (o := .cells #[.slice A3 xl c3] 41) hzx hkm HB24.out (by rw [hget]; exact HY4.out) (by rw [hlen]; exact HY2.out) HY3.out ⟨O1.out, O2.out⟩ (by rw [hlen]; exact HO5.out) HG5.out (by rcases HA5.out with e | e; exact .inl e.symm; exact .inr (by rw [e]; rfl))
              clear hq5 hq4 F1 F2 F5 F6 HO5 HG5 HA5 HY4 HY2 HY3 HB24 O1 O2 hcop hbx hq0 KP v1 v2 v3 r1 r2
              go_wp2_with fail
              go_roundg (66 - (k + 1))
              case measure => have := HGK2.out; omega
              case rel => exact ⟨k + 1, by go_num, by omega, by omega, Nat.le_refl _, hb5.out, hc5.out⟩
        · have hpl := partsK_length n i ps
          rw [HPN.out] at hpl
          rcases Nat.lt_or_ge k pn with hk1 | hk1
          · obtain rfl : k = 66 := by omega
            have hpk : (partsK n i ps).length = 66 := by omega
            obtain ⟨A5, c5, rfl, hL5⟩ := hcop.out.lst hpk
            have HL5 := Lib.hid hL5
            obtain ⟨ok1, ok2, t1, t2, t3, t4, t5⟩ := hbo.out
            have hzx := hbx.out.size
            have hpm : (partsK n i ps).length ≤ maxLen := by rw [hpk]; unfold maxLen; omega
            have HC := make_any (kind := kd) (c := c5) (t1.below hbx.out) hL5 (fun b hb => hb.2) hpm
            rw [hpk] at HC
            obtain ⟨p, hp⟩ : ∃ p, mk T kd (partsK n i ps) = p := ⟨_, rfl⟩
            rw [hp] at HC
            have HC' := Lib.hid HC
            have HP := Lib.hid hp
            have T2 := Lib.hid t2
            have OK := Lib.hid (And.intro t3 (And.intro t4 t5))
            have HPK := Lib.hid hpk
            clear HC hp t1 t2 t3 t4 t5 hL5 hpm hgk2 hcop hpk
            go_wp2_with fail
            go_at_call 21
            refine HC'.out.mono ?_
            rintro e w2 ⟨rfl, u2, m2⟩
            have U2 := Lib.hid u2
            have M2 := Lib.hid m2
            obtain ⟨bv, hbv⟩ : ∃ bv, decide (0 < p.1) = bv := ⟨_, rfl⟩
            obtain ⟨ks, hks⟩ : ∃ ks, nm0 p.1 = ks := ⟨_, rfl⟩
            have hkl : Hid (ks.length = 32) := by rw [← hks]; exact nm0_length _
            rw [hbv, hks]
            have HBV := Lib.hid (And.intro hbv hks)
            clear u2 m2 hbv hks HC'
            go_wp2_with (first | (refine wpList_alloc32 i49 rfl rfl ?_) | fail)
            intro w3 ha3 hb3 hz3
            go_wp2_with (first | (refine wpList_store32 i49 rfl _ _ rfl w2.heap.size z32 ks rfl rfl ha3 z32_length hkl.out w2.heap.size (Nat.le_refl _) ?_) | fail)
            intro w4 ha4 hb4 _ hz4
            have B24 : Below w2.heap.size w2 w4 := hb3.trans hb4
            have K4 := Lib.hid ha4
            have hokB : ∀ b, b < wr.heap.size → ok1 b → B ≤ b := fun b _ hb => (OK.out.1 b hb).1
            have b2 : Below B wr w2 := M2.out.below (Nat.le_trans hBw hzx) hokB
            have b4 : Below B w1 w4 := (hbx.out.mono hBw).trans (b2.trans (B24.mono (Nat.le_trans (Nat.le_trans hBw hzx) M2.out.size)))
            have k4 : w4.cell? ⟨gb, go + i * 2, none⟩ = some (.int .i64 kd) := (b4.cell (p := ⟨gb, go + i * 2, none⟩) hgB).trans Z.out.1
            have hsame : ∀ b, b < wr.heap.size → ¬ ok1 b → w4.heap[b]? = wr.heap[b]? := fun b hb hn => (B24.block b (Nat.lt_of_lt_of_le hb M2.out.size)).trans (M2.out.block b hb hn)
            have L4 : Lst w4 (fun b => w1.heap.size ≤ b ∧ b < w4.heap.size) A5 (partsK n i ps) := (HL5.out.keep fun b hb => hsame b hb.2 fun h => by have := (OK.out.1 b h).2; omega).imp fun b hb => ⟨hb.1, Nat.lt_of_lt_of_le (Nat.lt_of_lt_of_le hb.2 M2.out.size) B24.size⟩
            have R4 : RTbl w4 (fun b => ok2 b) rb T := (T2.out.below hbx.out).keep (Nat.le_trans M2.out.size B24.size) fun b hb hlt => hsame b hlt fun h => OK.out.2.2 b h hb
            have HC5 := rmake_any (kind := kd) (c := c5) R4 HGT.out L4 (fun b hb => hb.2) (by rw [HPK.out]; unfold maxLen; omega)
            rw [HPK.out, HP.out] at HC5
            have HC5' := Lib.hid HC5
            have B4 := Lib.hid b4
            have HB24 := Lib.hid B24
            clear HC5 L4 R4 ha3 hb3 hz3 ha4 hb4 hz4 hsame hokB b2 b4 B24 v1 v2 v3
            go_wp2_with fail
            go_at_call 24
            refine HC5'.out.mono ?_
            rintro e w5 ⟨rfl, u5, m5⟩
            have U5 := Lib.hid u5
            have M5 := Lib.hid m5
            rw [HBV.out.1, HBV.out.2]
            clear u5 m5 HC5'
            go_wp2_with (first | (refine wpList_alloc32 i34 rfl rfl ?_) | fail)
            intro w6 ha6 hb6 hz6
            go_wp2_with (first | (refine wpList_store32 i34 rfl _ _ rfl w5.heap.size z32 ks rfl rfl ha6 z32_length hkl.out w5.heap.size (Nat.le_refl _) ?_) | fail)
            intro w7 ha7 hb7 _ hz7
            have K7 := Lib.hid ha7
            obtain ⟨hBo, hTb, hRb, hb7', hst⟩ := both_step OK.out.1 OK.out.2.1 OK.out.2.2 hzx hBw U2.out M2.out HB24.out U5.out M5.out (hb6.trans hb7)
            have b57 : Below w5.heap.size w5 w7 := hb6.trans hb7
            have hz25 : w2.heap.size < w4.heap.size := Arr.lt K4.out
            have K2 : Hid (Arr w7 49 w2.heap.size ks) := ((b57.block _ (Nat.lt_of_lt_of_le hz25 M5.out.size)).trans (hst _ (Nat.le_trans hzx M2.out.size) hz25)).trans K4.out
            obtain ⟨A7, c7, k7, _, _, _⟩ := hRb.head
            obtain ⟨N2, hN2⟩ : ∃ N2, p.2.length = N2 := ⟨_, rfl⟩
            rw [hN2] at k7
            have HQ : Hid (∀ m, Calls Try.prog 22 #[.pointer (some ⟨tb, 0, none⟩)] (w7.drewN m) fun e w'' => e = .returned (.int .i64 N2) ∧ ∃ m, w'' = w7.drewN m) := quiet_num fun W hW => by
              obtain ⟨m, rfl⟩ := hW
              rw [← hN2]
              exact len_any (hTb.drewN m)
            have KR1 : Hid (∀ W : World, W.heap = w7.heap → W.rangeAt w2.heap.size 0 (u8s ks)) := fun W hW => arr_range ((congrArg (fun h : Array Obj => h[w2.heap.size]?) hW).trans K2.out)
            have KR2 : Hid (∀ W : World, W.heap = w7.heap → W.rangeAt w5.heap.size 0 (u8s ks)) := fun W hW => arr_range ((congrArg (fun h : Array Obj => h[w5.heap.size]?) hW).trans K7.out)
            have hu49 := Try.underlying49
            have hu34 := Try.underlying34
            have hi49 : (Try.prog.info? 49).map (·.size) = some (u8s ks).length := by rw [u8s_length, hkl.out]; exact size49
            have hi34 : (Try.prog.info? 34).map (·.size) = some (u8s ks).length := by rw [u8s_length, hkl.out]; exact size34
            have hks : (u8s ks).length = 32 := by rw [u8s_length, hkl.out]
            have hl1 : ∀ m, (Instr.loadAt 49 (.pointer (some ⟨w2.heap.size, 0, none⟩))).run Try.prog (w7.drewN m) = .ok (.agg (u8s ks).toArray) (w7.drewN m) := fun m => run_loadAt_mid _ _ _ _ _ _ (KR1.out _ rfl) hu49 rfl hi49
            have hl2 : ∀ m, (Instr.loadAt 34 (.pointer (some ⟨w5.heap.size, 0, none⟩))).run Try.prog (w7.drewN m) = .ok (.agg (u8s ks).toArray) (w7.drewN m) := fun m => run_loadAt_mid _ _ _ _ _ _ (KR2.out _ rfl) hu34 rfl hi34
            have hneq : ∀ W : World, (binOp .neq 49 (.agg (u8s ks).toArray) (.agg (u8s ks).toArray)).run Try.prog W = .ok (.bool false) W := fun W => by
              rw [run_neq_arr 49 32 Try.underlying49 ks ks hkl.out hkl.out W]
              simp
            have HB7 : Hid (Below B w w7) := (hb.out.trans (hbx.out.mono hBw)).trans hb7'
            have HBO : Hid (Both B w7 tb rb (playT l (i + 1))) := by
              show Both B w7 tb rb (mk (playT l i) (opAt l i).1 (partsK (playT l i).length i (opAt l i).2)).2
              rw [HT.out, hoa.out, HN.out]
              show Both B w7 tb rb (mk T kd (partsK n i ps)).2
              rw [HP.out]
              exact hBo
            have dn : ((N2 : Int) != (N2 : Int)) = false := by simp
            clear hBo hTb hRb hb7' hst b57 hz25 K2 K7 ha7 hb6 hb7 ha6 hz6 hz7 hN2 hu49 hu34 hi49 hi34 hks
            cases bv with
            | true =>
              go_wp2_with fail
              refine wp_region_quiet_lit (by kernel_rfl) (by kernel_rfl) ?_
              repeat (go_big_quiet_step (fail))
              refine quiet_load32 (by rfl) (.tmp 11) 49 rfl w2.heap.size rfl ks (fun W hW => by obtain ⟨m, rfl⟩ := hW; exact hl1 m) ?_
              simp only [Act.put, List.setIfInBounds_toArray, List.set_cons_zero, List.set_cons_succ]
              refine quiet_load32 (by rfl) (.tmp 13) 34 rfl w5.heap.size rfl ks (fun W hW => by obtain ⟨m, rfl⟩ := hW; exact hl2 m) ?_
              simp only [Act.put, List.setIfInBounds_toArray, List.set_cons_zero, List.set_cons_succ]
              refine quiet_neq32 (by rfl) (.tmp 89) (.tmp 90) rfl ks rfl rfl hneq ?_
              simp only [Act.put, List.setIfInBounds_toArray, List.set_cons_zero, List.set_cons_succ]
              repeat (go_big_quiet_step ((go_at_call 22; exact HQ.out _)))
              refine wpQuiet_nil ?_
              rintro _ ⟨nq, rfl⟩
              have HB7' : Hid (Below B w (w7.drewN nq)) := ⟨HB7.out.os, HB7.out.tape, HB7.out.output, HB7.out.size, HB7.out.block⟩
              have HBO' : Hid (Both B (w7.drewN nq) tb rb (playT l (i + 1))) := HBO.out.drewN nq
              clear k7 hl1 hl2 hneq dn
              have q90 : (i : Int) + 1 ≤ 80 := by omega
              go_wp2_with fail
              go_roundg (80 - (i + 1))
              case measure => have := HGK.out; omega
              case rel => exact ⟨i + 1, by go_num, by omega, by omega, Nat.le_refl _, HB7'.out, HBO'.out⟩
            | false =>
              go_wp2_with fail
              refine wp_region_quiet_lit (by kernel_rfl) (by kernel_rfl) ?_
              repeat (go_big_quiet_step (fail))
              refine quiet_load32 (by rfl) (.tmp 11) 49 rfl w2.heap.size rfl ks (fun W hW => by obtain ⟨m, rfl⟩ := hW; exact hl1 m) ?_
              simp only [Act.put, List.setIfInBounds_toArray, List.set_cons_zero, List.set_cons_succ]
              refine quiet_load32 (by rfl) (.tmp 13) 34 rfl w5.heap.size rfl ks (fun W hW => by obtain ⟨m, rfl⟩ := hW; exact hl2 m) ?_
              simp only [Act.put, List.setIfInBounds_toArray, List.set_cons_zero, List.set_cons_succ]
              refine quiet_neq32 (by rfl) (.tmp 89) (.tmp 90) rfl ks rfl rfl hneq ?_
              simp only [Act.put, List.setIfInBounds_toArray, List.set_cons_zero, List.set_cons_succ]
              repeat (go_big_quiet_step ((go_at_call 22; exact HQ.out _)))
              refine wpQuiet_nil ?_
              rintro _ ⟨nq, rfl⟩
              have HB7' : Hid (Below B w (w7.drewN nq)) := ⟨HB7.out.os, HB7.out.tape, HB7.out.output, HB7.out.size, HB7.out.block⟩
              have HBO' : Hid (Both B (w7.drewN nq) tb rb (playT l (i + 1))) := HBO.out.drewN nq
              clear k7 hl1 hl2 hneq dn
              have q90 : (i : Int) + 1 ≤ 80 := by omega
              go_wp2_with fail
              go_roundg (80 - (i + 1))
              case measure => have := HGK.out; omega
              case rel => exact ⟨i + 1, by go_num, by omega, by omega, Nat.le_refl _, HB7'.out, HBO'.out⟩
          · obtain rfl : pn = k := by omega
            have hpk : (partsK n i ps).length = pn := by omega
            have d7 : ¬ ((pn : Int) < (pn : Int)) := by omega
            obtain ⟨A5, c5, rfl, hL5⟩ := hcop.out.lst hpk
            have HL5 := Lib.hid hL5
            obtain ⟨ok1, ok2, t1, t2, t3, t4, t5⟩ := hbo.out
            have hzx := hbx.out.size
            have hpm : (partsK n i ps).length ≤ maxLen := by rw [hpk]; unfold maxLen; omega
            have HC := make_any (kind := kd) (c := c5) (t1.below hbx.out) hL5 (fun b hb => hb.2) hpm
            rw [hpk] at HC
            obtain ⟨p, hp⟩ : ∃ p, mk T kd (partsK n i ps) = p := ⟨_, rfl⟩
            rw [hp] at HC
            have HC' := Lib.hid HC
            have HP := Lib.hid hp
            have T2 := Lib.hid t2
            have OK := Lib.hid (And.intro t3 (And.intro t4 t5))
            have HPK := Lib.hid hpk
            clear HC hp t1 t2 t3 t4 t5 hL5 hpm hgk2 hcop hpk
            go_wp2_with fail
            go_at_call 21
            refine HC'.out.mono ?_
            rintro e w2 ⟨rfl, u2, m2⟩
            have U2 := Lib.hid u2
            have M2 := Lib.hid m2
            obtain ⟨bv, hbv⟩ : ∃ bv, decide (0 < p.1) = bv := ⟨_, rfl⟩
            obtain ⟨ks, hks⟩ : ∃ ks, nm0 p.1 = ks := ⟨_, rfl⟩
            have hkl : Hid (ks.length = 32) := by rw [← hks]; exact nm0_length _
            rw [hbv, hks]
            have HBV := Lib.hid (And.intro hbv hks)
            clear u2 m2 hbv hks HC'
            go_wp2_with (first | (refine wpList_alloc32 i49 rfl rfl ?_) | fail)
            intro w3 ha3 hb3 hz3
            go_wp2_with (first | (refine wpList_store32 i49 rfl _ _ rfl w2.heap.size z32 ks rfl rfl ha3 z32_length hkl.out w2.heap.size (Nat.le_refl _) ?_) | fail)
            intro w4 ha4 hb4 _ hz4
            have B24 : Below w2.heap.size w2 w4 := hb3.trans hb4
            have K4 := Lib.hid ha4
            have hokB : ∀ b, b < wr.heap.size → ok1 b → B ≤ b := fun b _ hb => (OK.out.1 b hb).1
            have b2 : Below B wr w2 := M2.out.below (Nat.le_trans hBw hzx) hokB
            have b4 : Below B w1 w4 := (hbx.out.mono hBw).trans (b2.trans (B24.mono (Nat.le_trans (Nat.le_trans hBw hzx) M2.out.size)))
            have k4 : w4.cell? ⟨gb, go + i * 2, none⟩ = some (.int .i64 kd) := (b4.cell (p := ⟨gb, go + i * 2, none⟩) hgB).trans Z.out.1
            have hsame : ∀ b, b < wr.heap.size → ¬ ok1 b → w4.heap[b]? = wr.heap[b]? := fun b hb hn => (B24.block b (Nat.lt_of_lt_of_le hb M2.out.size)).trans (M2.out.block b hb hn)
            have L4 : Lst w4 (fun b => w1.heap.size ≤ b ∧ b < w4.heap.size) A5 (partsK n i ps) := (HL5.out.keep fun b hb => hsame b hb.2 fun h => by have := (OK.out.1 b h).2; omega).imp fun b hb => ⟨hb.1, Nat.lt_of_lt_of_le (Nat.lt_of_lt_of_le hb.2 M2.out.size) B24.size⟩
            have R4 : RTbl w4 (fun b => ok2 b) rb T := (T2.out.below hbx.out).keep (Nat.le_trans M2.out.size B24.size) fun b hb hlt => hsame b hlt fun h => OK.out.2.2 b h hb
            have HC5 := rmake_any (kind := kd) (c := c5) R4 HGT.out L4 (fun b hb => hb.2) (by rw [HPK.out]; unfold maxLen; omega)
            rw [HPK.out, HP.out] at HC5
            have HC5' := Lib.hid HC5
            have B4 := Lib.hid b4
            have HB24 := Lib.hid B24
            clear HC5 L4 R4 ha3 hb3 hz3 ha4 hb4 hz4 hsame hokB b2 b4 B24 v1 v2 v3
            go_wp2_with fail
            go_at_call 24
            refine HC5'.out.mono ?_
            rintro e w5 ⟨rfl, u5, m5⟩
            have U5 := Lib.hid u5
            have M5 := Lib.hid m5
            rw [HBV.out.1, HBV.out.2]
            clear u5 m5 HC5'
            go_wp2_with (first | (refine wpList_alloc32 i34 rfl rfl ?_) | fail)
            intro w6 ha6 hb6 hz6
            go_wp2_with (first | (refine wpList_store32 i34 rfl _ _ rfl w5.heap.size z32 ks rfl rfl ha6 z32_length hkl.out w5.heap.size (Nat.le_refl _) ?_) | fail)
            intro w7 ha7 hb7 _ hz7
            have K7 := Lib.hid ha7
            obtain ⟨hBo, hTb, hRb, hb7', hst⟩ := both_step OK.out.1 OK.out.2.1 OK.out.2.2 hzx hBw U2.out M2.out HB24.out U5.out M5.out (hb6.trans hb7)
            have b57 : Below w5.heap.size w5 w7 := hb6.trans hb7
            have hz25 : w2.heap.size < w4.heap.size := Arr.lt K4.out
            have K2 : Hid (Arr w7 49 w2.heap.size ks) := ((b57.block _ (Nat.lt_of_lt_of_le hz25 M5.out.size)).trans (hst _ (Nat.le_trans hzx M2.out.size) hz25)).trans K4.out
            obtain ⟨A7, c7, k7, _, _, _⟩ := hRb.head
            obtain ⟨N2, hN2⟩ : ∃ N2, p.2.length = N2 := ⟨_, rfl⟩
            rw [hN2] at k7
            have HQ : Hid (∀ m, Calls Try.prog 22 #[.pointer (some ⟨tb, 0, none⟩)] (w7.drewN m) fun e w'' => e = .returned (.int .i64 N2) ∧ ∃ m, w'' = w7.drewN m) := quiet_num fun W hW => by
              obtain ⟨m, rfl⟩ := hW
              rw [← hN2]
              exact len_any (hTb.drewN m)
            have KR1 : Hid (∀ W : World, W.heap = w7.heap → W.rangeAt w2.heap.size 0 (u8s ks)) := fun W hW => arr_range ((congrArg (fun h : Array Obj => h[w2.heap.size]?) hW).trans K2.out)
            have KR2 : Hid (∀ W : World, W.heap = w7.heap → W.rangeAt w5.heap.size 0 (u8s ks)) := fun W hW => arr_range ((congrArg (fun h : Array Obj => h[w5.heap.size]?) hW).trans K7.out)
            have hu49 := Try.underlying49
            have hu34 := Try.underlying34
            have hi49 : (Try.prog.info? 49).map (·.size) = some (u8s ks).length := by rw [u8s_length, hkl.out]; exact size49
            have hi34 : (Try.prog.info? 34).map (·.size) = some (u8s ks).length := by rw [u8s_length, hkl.out]; exact size34
            have hks : (u8s ks).length = 32 := by rw [u8s_length, hkl.out]
            have hl1 : ∀ m, (Instr.loadAt 49 (.pointer (some ⟨w2.heap.size, 0, none⟩))).run Try.prog (w7.drewN m) = .ok (.agg (u8s ks).toArray) (w7.drewN m) := fun m => run_loadAt_mid _ _ _ _ _ _ (KR1.out _ rfl) hu49 rfl hi49
            have hl2 : ∀ m, (Instr.loadAt 34 (.pointer (some ⟨w5.heap.size, 0, none⟩))).run Try.prog (w7.drewN m) = .ok (.agg (u8s ks).toArray) (w7.drewN m) := fun m => run_loadAt_mid _ _ _ _ _ _ (KR2.out _ rfl) hu34 rfl hi34
            have hneq : ∀ W : World, (binOp .neq 49 (.agg (u8s ks).toArray) (.agg (u8s ks).toArray)).run Try.prog W = .ok (.bool false) W := fun W => by
              rw [run_neq_arr 49 32 Try.underlying49 ks ks hkl.out hkl.out W]
              simp
            have HB7 : Hid (Below B w w7) := (hb.out.trans (hbx.out.mono hBw)).trans hb7'
            have HBO : Hid (Both B w7 tb rb (playT l (i + 1))) := by
              show Both B w7 tb rb (mk (playT l i) (opAt l i).1 (partsK (playT l i).length i (opAt l i).2)).2
              rw [HT.out, hoa.out, HN.out]
              show Both B w7 tb rb (mk T kd (partsK n i ps)).2
              rw [HP.out]
              exact hBo
            have dn : ((N2 : Int) != (N2 : Int)) = false := by simp
            clear hBo hTb hRb hb7' hst b57 hz25 K2 K7 ha7 hb6 hb7 ha6 hz6 hz7 hN2 hu49 hu34 hi49 hi34 hks
            cases bv with
            | true =>
              go_wp2_with fail
              refine wp_region_quiet_lit (by kernel_rfl) (by kernel_rfl) ?_
              repeat (go_big_quiet_step (fail))
              refine quiet_load32 (by rfl) (.tmp 11) 49 rfl w2.heap.size rfl ks (fun W hW => by obtain ⟨m, rfl⟩ := hW; exact hl1 m) ?_
              simp only [Act.put, List.setIfInBounds_toArray, List.set_cons_zero, List.set_cons_succ]
              refine quiet_load32 (by rfl) (.tmp 13) 34 rfl w5.heap.size rfl ks (fun W hW => by obtain ⟨m, rfl⟩ := hW; exact hl2 m) ?_
              simp only [Act.put, List.setIfInBounds_toArray, List.set_cons_zero, List.set_cons_succ]
              refine quiet_neq32 (by rfl) (.tmp 89) (.tmp 90) rfl ks rfl rfl hneq ?_
              simp only [Act.put, List.setIfInBounds_toArray, List.set_cons_zero, List.set_cons_succ]
              repeat (go_big_quiet_step ((go_at_call 22; exact HQ.out _)))
              refine wpQuiet_nil ?_
              rintro _ ⟨nq, rfl⟩
              have HB7' : Hid (Below B w (w7.drewN nq)) := ⟨HB7.out.os, HB7.out.tape, HB7.out.output, HB7.out.size, HB7.out.block⟩
              have HBO' : Hid (Both B (w7.drewN nq) tb rb (playT l (i + 1))) := HBO.out.drewN nq
              clear k7 hl1 hl2 hneq dn
              have q90 : (i : Int) + 1 ≤ 80 := by omega
              go_wp2_with fail
              go_roundg (80 - (i + 1))
              case measure => have := HGK.out; omega
              case rel => exact ⟨i + 1, by go_num, by omega, by omega, Nat.le_refl _, HB7'.out, HBO'.out⟩
            | false =>
              go_wp2_with fail
              refine wp_region_quiet_lit (by kernel_rfl) (by kernel_rfl) ?_
              repeat (go_big_quiet_step (fail))
              refine quiet_load32 (by rfl) (.tmp 11) 49 rfl w2.heap.size rfl ks (fun W hW => by obtain ⟨m, rfl⟩ := hW; exact hl1 m) ?_
              simp only [Act.put, List.setIfInBounds_toArray, List.set_cons_zero, List.set_cons_succ]
              refine quiet_load32 (by rfl) (.tmp 13) 34 rfl w5.heap.size rfl ks (fun W hW => by obtain ⟨m, rfl⟩ := hW; exact hl2 m) ?_
              simp only [Act.put, List.setIfInBounds_toArray, List.set_cons_zero, List.set_cons_succ]
              refine quiet_neq32 (by rfl) (.tmp 89) (.tmp 90) rfl ks rfl rfl hneq ?_
              simp only [Act.put, List.setIfInBounds_toArray, List.set_cons_zero, List.set_cons_succ]
              repeat (go_big_quiet_step ((go_at_call 22; exact HQ.out _)))
              refine wpQuiet_nil ?_
              rintro _ ⟨nq, rfl⟩
              have HB7' : Hid (Below B w (w7.drewN nq)) := ⟨HB7.out.os, HB7.out.tape, HB7.out.output, HB7.out.size, HB7.out.block⟩
              have HBO' : Hid (Both B (w7.drewN nq) tb rb (playT l (i + 1))) := HBO.out.drewN nq
              clear k7 hl1 hl2 hneq dn
              have q90 : (i : Int) + 1 ≤ 80 := by omega
              go_wp2_with fail
              go_roundg (80 - (i + 1))
              case measure => have := HGK.out; omega
              case rel => exact ⟨i + 1, by go_num, by omega, by omega, Nat.le_refl _, HB7'.out, HBO'.out⟩
    · rcases Nat.lt_or_ge i ln with hi1 | hi1
      · obtain rfl : i = 80 := by omega
        have hmin : Hid (min 80 ln = 80) := by show min 80 ln = 80; omega
        have d1 : ((80 : Nat) : Int) < (ln : Int) := by omega
        go_wp2_with fail
        go_ret
        exact ⟨rfl, by first | exact hbo.out | (rw [hmin.out]; exact hbo.out), hb.out⟩
      · obtain rfl : ln = i := by omega
        have hmin : Hid (min 80 ln = ln) := by show min 80 ln = ln; omega
        have d1 : ¬ ((ln : Int) < (ln : Int)) := by omega
        go_wp2_with fail
        go_ret
        exact ⟨rfl, by first | exact hbo.out | (rw [hmin.out]; exact hbo.out), hb.out⟩
end Go.Proofs.Ytbhfjjlfpgineaa
