/- The laws' arguments: how steps and changes lie in memory. Conditions: none. -/
import Derived.Test.YtonpcenjipigpaaG5
namespace Go.Proofs.Ytonpcenjipigpaa
open Go.RowKit Go.ChangeShapes Go.WideShapes Go.ChangeAt
theorem Try.cells42 : Try.prog.cellsOf 42 = 3 := by kernel_rfl
theorem Try.cells33 : Try.prog.cellsOf 33 = 4 := by kernel_rfl
theorem Try.cells40 : Try.prog.cellsOf 40 = 1 := by kernel_rfl
theorem Try.cells23 : Try.prog.cellsOf 23 = 1 := by kernel_rfl
theorem Try.cells9 : Try.prog.cellsOf 9 = 1 := by kernel_rfl
theorem Try.cells4 : Try.prog.cellsOf 4 = 1 := by kernel_rfl
theorem Try.cells3 : Try.prog.cellsOf 3 = 1 := by kernel_rfl
theorem read22 : Try.prog.readableRec 22 = true := by kernel_rfl
theorem row22 : 22 < Try.prog.types.size := of_decide_eq_true (by kernel_rfl)
theorem read23 : Try.prog.readableRec 23 = true := by kernel_rfl
theorem row23 : 23 < Try.prog.types.size := of_decide_eq_true (by kernel_rfl)
theorem list_of {α : Type} {Q : Nat → α → Prop} : ∀ n, (∀ i, i < n → ∃ a, Q i a) → ∃ l : List α, l.length = n ∧ ∀ i (h : i < l.length), Q i l[i]
  | 0, _ => ⟨[], rfl, fun i h => by simp at h⟩
  | n + 1, h => by
    obtain ⟨l, hl, hq⟩ := list_of n fun i hi => h i (by omega)
    obtain ⟨a, ha⟩ := h n (by omega)
    refine ⟨l ++ [a], by simp [hl], fun i hi => ?_⟩
    by_cases hn : i < l.length
    · rw [List.getElem_append_left hn]
      exact hq i hn
    · have hin : i = n := by simp at hi; omega
      subst hin
      simp [hl, ha]
/-- A step of a script. -/
structure StpR where
  ch : List Chg
  fuse : Int
  crash : Bool
  keep : Int
/-- Its four cells. -/
def stpC (x : StpR) (v : Value) : List Value := [v, .int .i64 x.fuse, .bool x.crash, .int .i64 x.keep]
/-- In an int's range. -/
def In64 (z : Int) : Prop := -9223372036854775808 ≤ z ∧ z ≤ 9223372036854775807
/-- Steps lie at A. -/
def Stps (w : World) (ok : Nat → Prop) (A : Option Addr) (l : List StpR) : Prop :=
  ∀ j (h : j < l.length), ∃ b o A' c', A = some ⟨b, o, none⟩ ∧ ok b ∧ w.rangeAt b (o + j * 4) (stpC l[j] (.slice A' l[j].ch.length c')) ∧ l[j].ch.length ≤ maxLen ∧ In64 l[j].fuse ∧ In64 l[j].keep ∧ Chs w ok A' l[j].ch
theorem Stps.keep {w w' : World} {ok : Nat → Prop} {A : Option Addr} {l : List StpR} (h : Stps w ok A l) (hk : ∀ b, ok b → w'.heap[b]? = w.heap[b]?) : Stps w' ok A l := fun j hj => by
  obtain ⟨b, o, A', c', e, h1, h2, h3, h4, h5, h6⟩ := h j hj
  exact ⟨b, o, A', c', e, h1, rangeAt_keep h2 (hk b h1), h3, h4, h5, h6.keep hk⟩
section
variable {H : Type} {enc : TypeId × Value → H} {W : World} {fuel : Nat} {cs : List Value} {x : DataW H × List MemPlace}
set_option maxRecDepth 100000 in
theorem trod_byt (h : DataW.trod enc Try.prog W 0 (fun _ => true) true fuel 40 cs = some x) : ∃ A xs c, cs = [.slice A (xs : List UInt8).length c] ∧ xs.length ≤ c ∧ c ≤ maxLen ∧ Byt W (fun b => b < W.heap.size) A xs := by
  rcases open_ints Try.underlying40 Try.underlying5 Try.cells5 h with ⟨rfl, hx⟩ | ⟨a, len, cap, zs, rfl, _, hl, hm, hz, hx, hcell, hwz⟩
  · exact ⟨none, [], 0, rfl, Nat.le_refl _, Nat.zero_le _, Byt.nil⟩
  · simp only [if_true] at hz
    refine ⟨some a, (zs.take len).map byteOf, cap, by simp; omega, by simp; omega, hm, fun j hj => ?_⟩
    have hj' : j < len ∧ j < zs.length := by simp at hj; omega
    have hc := hcell j hj'.2
    have e : zs.getD j 0 = zs[j] := by simp [List.getD, hj'.2]
    rw [e] at hc
    refine ⟨a, rfl, ?_, ?_⟩
    · have := World.block_lt_of_cell? W _ hc
      rwa [block_of_plus] at this
    · rw [hc]
      have := byteOf_nat (hwz zs[j] (List.getElem_mem _))
      simp [this]
set_option maxRecDepth 100000 in
theorem trod_chg (h : DataW.trod enc Try.prog W 0 (fun _ => true) true fuel 42 cs = some x) : ∃ (c : Chg) (A : Option Addr) (c' : Nat), cs = ccells c (.slice A c.val.length c') ∧ c.val.length ≤ c' ∧ c' ≤ maxLen ∧ c.name.length ≤ maxLen ∧ Byt W (fun b => b < W.heap.size) A c.val := by
  obtain ⟨xs, n, _, rfl, hl, hxl, hf⟩ := DataW.trod_struct Try.underlying42 h
  rw [Try.cells42] at hl
  obtain ⟨a, b, c, rfl⟩ : ∃ a b c, cs = [a, b, c] := by
    match cs, hl with
    | [a, b, c], _ => exact ⟨a, b, c, rfl⟩
  obtain ⟨x0, x1, x2, rfl⟩ : ∃ a b c, xs = [a, b, c] := by
    match xs, hxl with
    | [a, b, c], _ => exact ⟨a, b, c, rfl⟩
  have f0 := hf 0 { name := "Name", type := 9, offset := 0, embedded := false, tag := "", pkgPath := "", byteOffset := 0 } rfl
  have f1 := hf 1 { name := "Value", type := 40, offset := 1, embedded := false, tag := "", pkgPath := "", byteOffset := 16 } rfl
  have f2 := hf 2 { name := "Gone", type := 4, offset := 2, embedded := false, tag := "", pkgPath := "", byteOffset := 40 } rfl
  dsimp only at f0 f1 f2
  rw [Try.cells9] at f0
  rw [Try.cells40] at f1
  rw [Try.cells4] at f2
  simp only [List.drop, List.take] at f0 f1 f2
  obtain ⟨s, e0, -, h0⟩ := DataW.trod_string Try.underlying9 f0
  obtain ⟨A, ys, c', e1, h1, h2, h3⟩ := trod_byt f1
  obtain ⟨g, e2, -⟩ := DataW.trod_bool Try.underlying4 f2
  simp only [List.cons.injEq, and_true] at e0 e1 e2
  subst e0 e1 e2
  have hs : (⟨s.data.toList.toArray⟩ : ByteArray) = s := by rw [Array.toArray_toList]
  have hn : s.data.toList.length ≤ maxLen := by rw [Array.length_toList]; exact h0
  exact ⟨⟨s.data.toList, ys, g⟩, A, c', by unfold ccells strV; rw [hs], h1, h2, hn, h3⟩
set_option maxRecDepth 100000 in
theorem trod_chs (h : DataW.trod enc Try.prog W 0 (fun _ => true) true fuel 23 cs = some x) : ∃ A l c, cs = [.slice A (l : List Chg).length c] ∧ l.length ≤ maxLen ∧ Chs W (fun b => b < W.heap.size) A l := by
  rcases Go.Deep.open_slice Try.underlying23 h with ⟨rfl, _⟩ | ⟨a, len, cap, m, n, D, Pl, rfl, _, hl, hm, hmm, _, hx⟩
  · exact ⟨none, [], 0, rfl, Nat.zero_le _, Chs.nil⟩
  · simp only [if_true] at hmm
    obtain ⟨l, hpl, hp⟩ := list_of (α := Chg) (Q := fun i c => ∃ A' c', (∀ q v, (ccells c (.slice A' c.val.length c'))[q]? = some v → W.cell? ((a.add (i * 3)).add q) = some v) ∧ c.val.length ≤ c' ∧ c' ≤ maxLen ∧ c.name.length ≤ maxLen ∧ Byt W (fun b => b < W.heap.size) A' c.val) len fun i hi => by
      obtain ⟨cs', h1, h2⟩ := hx i (by omega)
      rw [Try.cells42] at h1
      obtain ⟨c, A', c', rfl, k1, k2, k3, k4⟩ := trod_chg h2
      obtain ⟨_, hlen, hc⟩ := World.cells?_some h1
      refine ⟨c, A', c', fun q v hv => ?_, k1, k2, k3, k4⟩
      have hq : q < 3 := (List.getElem?_eq_some_iff.1 hv).1
      rw [hc q hq]
      exact hv
    refine ⟨some a, l, cap, by rw [hpl], by omega, fun j hj => ?_⟩
    obtain ⟨A0, c0, h00, -⟩ := hp 0 (by omega)
    have h00 := h00 0 _ rfl
    obtain ⟨A', c', h0, k1, k2, k3, k4⟩ := hp j hj
    have hb := h0 0 _ rfl
    obtain ⟨b, o, sp⟩ := a
    have hsp : sp = none := by
      have := World.cell?_spot h00
      simpa [Addr.add] using this
    subst hsp
    refine ⟨b, o, A', c', rfl, ?_, fun q v hv => ?_, k1, k2, k3, k4⟩
    · have := World.block_lt_of_cell? W _ hb
      simpa [Addr.add_mid] using this
    · have := h0 q v hv
      rwa [Addr.add_mid, Addr.add_mid] at this
set_option maxRecDepth 100000 in
theorem wf64 {z : Int} (h : (Lit.int .i64 z).wf = true) : In64 z := by
  simp [Lit.wf, IntKind.min, IntKind.max, IntKind.bits, IntKind.signed] at h
  unfold In64
  omega
set_option maxRecDepth 100000 in
theorem trod_stp (h : DataW.trod enc Try.prog W 0 (fun _ => true) true fuel 33 cs = some x) : ∃ (s : StpR) (A : Option Addr) (c' : Nat), cs = stpC s (.slice A s.ch.length c') ∧ s.ch.length ≤ maxLen ∧ In64 s.fuse ∧ In64 s.keep ∧ Chs W (fun b => b < W.heap.size) A s.ch := by
  obtain ⟨xs, n, _, rfl, hl, hxl, hf⟩ := DataW.trod_struct Try.underlying33 h
  rw [Try.cells33] at hl
  obtain ⟨a, b, c, d, rfl⟩ : ∃ a b c d, cs = [a, b, c, d] := by
    match cs, hl with
    | [a, b, c, d], _ => exact ⟨a, b, c, d, rfl⟩
  obtain ⟨x0, x1, x2, x3, rfl⟩ : ∃ a b c d, xs = [a, b, c, d] := by
    match xs, hxl with
    | [a, b, c, d], _ => exact ⟨a, b, c, d, rfl⟩
  have f0 := hf 0 { name := "Changes", type := 23, offset := 0, embedded := false, tag := "", pkgPath := "", byteOffset := 0 } rfl
  have f1 := hf 1 { name := "Fuse", type := 3, offset := 1, embedded := false, tag := "", pkgPath := "", byteOffset := 24 } rfl
  have f2 := hf 2 { name := "Crash", type := 4, offset := 2, embedded := false, tag := "", pkgPath := "", byteOffset := 32 } rfl
  have f3 := hf 3 { name := "Keep", type := 3, offset := 3, embedded := false, tag := "", pkgPath := "", byteOffset := 40 } rfl
  dsimp only at f0 f1 f2 f3
  rw [Try.cells23] at f0
  rw [Try.cells3] at f1 f3
  rw [Try.cells4] at f2
  simp only [List.drop, List.take] at f0 f1 f2 f3
  obtain ⟨A, l, c', e0, h1, h2⟩ := trod_chs f0
  obtain ⟨z1, e1, -, w1⟩ := DataW.trod_int Try.underlying3 f1
  obtain ⟨g, e2, -⟩ := DataW.trod_bool Try.underlying4 f2
  obtain ⟨z3, e3, -, w3⟩ := DataW.trod_int Try.underlying3 f3
  simp only [List.cons.injEq, and_true] at e0 e1 e2 e3
  subst e0 e1 e2 e3
  exact ⟨⟨l, z1, g, z3⟩, A, c', rfl, h1, wf64 w1, wf64 w3, h2⟩
set_option maxRecDepth 100000 in
theorem open_stps {base : Nat} {v : Value} {d : DataW H} {p : List MemPlace} (hval : Value.okWide Try.prog W .any base 22 v) (h : DataW.Trod enc Try.prog W 0 (fun _ => true) true 22 v d p) :
    ∃ A l c, v = .slice A (l : List StpR).length c ∧ l.length ≤ maxLen ∧ Stps W (fun b => b < W.heap.size) A l := by
  obtain ⟨a1, len, cap, rfl⟩ := okWide_slice Try.underlying22 hval
  obtain ⟨fuel, hf⟩ := h
  rcases Go.Deep.open_slice Try.underlying22 hf with ⟨hcs, _⟩ | ⟨a, len', cap', m, n, D, Pl, hcs, _, hl, hm, hmm, _, hx⟩
  · simp [Value.cells] at hcs
    obtain ⟨rfl, rfl, rfl⟩ := hcs
    exact ⟨none, [], 0, rfl, Nat.zero_le _, fun j hj => by simp at hj⟩
  · simp [Value.cells] at hcs
    obtain ⟨rfl, rfl, rfl⟩ := hcs
    simp only [if_true] at hmm
    obtain ⟨l, hpl, hp⟩ := list_of (α := StpR) (Q := fun i s => ∃ A' c', (∀ q v, (stpC s (.slice A' s.ch.length c'))[q]? = some v → W.cell? ((a.add (i * 4)).add q) = some v) ∧ s.ch.length ≤ maxLen ∧ In64 s.fuse ∧ In64 s.keep ∧ Chs W (fun b => b < W.heap.size) A' s.ch) len fun i hi => by
      obtain ⟨cs', h1, h2⟩ := hx i (by omega)
      rw [Try.cells33] at h1
      obtain ⟨c, A', c', rfl, k1, k2, k3, k4⟩ := trod_stp h2
      obtain ⟨_, hlen, hc⟩ := World.cells?_some h1
      refine ⟨c, A', c', fun q v hv => ?_, k1, k2, k3, k4⟩
      have hq : q < 4 := (List.getElem?_eq_some_iff.1 hv).1
      rw [hc q hq]
      exact hv
    refine ⟨some a, l, cap, by rw [hpl], by omega, fun j hj => ?_⟩
    obtain ⟨A0, c0, h00, -⟩ := hp 0 (by omega)
    have h00 := h00 0 _ rfl
    obtain ⟨A', c', h0, k1, k2, k3, k4⟩ := hp j hj
    have hb := h0 0 _ rfl
    obtain ⟨b, o, sp⟩ := a
    have hsp : sp = none := by
      have := World.cell?_spot h00
      simpa [Addr.add] using this
    subst hsp
    refine ⟨b, o, A', c', rfl, ?_, fun q v hv => ?_, k1, k2, k3, k4⟩
    · have := World.block_lt_of_cell? W _ hb
      simpa [Addr.add_mid] using this
    · have := h0 q v hv
      rwa [Addr.add_mid, Addr.add_mid] at this
set_option maxRecDepth 100000 in
theorem open_chs {base : Nat} {v : Value} {d : DataW H} {p : List MemPlace} (hval : Value.okWide Try.prog W .any base 23 v) (h : DataW.Trod enc Try.prog W 0 (fun _ => true) true 23 v d p) :
    ∃ A l c, v = .slice A (l : List Chg).length c ∧ l.length ≤ maxLen ∧ Chs W (fun b => b < W.heap.size) A l := by
  obtain ⟨a1, len, cap, rfl⟩ := okWide_slice Try.underlying23 hval
  obtain ⟨fuel, hf⟩ := h
  obtain ⟨A, l, c, e, h1, h2⟩ := trod_chs hf
  simp [Value.cells] at e
  obtain ⟨rfl, rfl, rfl⟩ := e
  exact ⟨_, l, _, rfl, h1, h2⟩
end
end Go.Proofs.Ytonpcenjipigpaa
