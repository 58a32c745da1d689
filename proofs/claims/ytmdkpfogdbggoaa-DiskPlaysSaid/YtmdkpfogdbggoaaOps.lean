/- The laws' slices of operations: how they lie in memory. Conditions: none. -/
import Derived.Test.YtmdkpfogdbggoaaEow
namespace Go.Proofs.Ytmdkpfogdbggoaa
open Go.RowKit Go.ChangeShapes Go.WideShapes Go.ChangeAt

/-- An operation. -/
structure OpR where
  kd : UInt8
  at_ : Int
  f : UInt8
  sz : UInt8
  lo : -9223372036854775808 ≤ at_
  hi : at_ ≤ 9223372036854775807
/-- Its four cells. -/
def opC (x : OpR) : List Value := [.int .u8 (x.kd.toNat : Int), .int .i64 x.at_, .int .u8 (x.f.toNat : Int), .int .u8 (x.sz.toNat : Int)]
/-- Operations lie at A. -/
def Ops (w : World) (ok : Nat → Prop) (A : Option Addr) (l : List OpR) : Prop := ∀ j (h : j < l.length), ∃ b o, A = some ⟨b, o, none⟩ ∧ ok b ∧ w.rangeAt b (o + 4 * j) (opC l[j])
theorem Ops.keep {w w' : World} {ok : Nat → Prop} {A : Option Addr} {l : List OpR} (h : Ops w ok A l) (hk : ∀ b, ok b → w'.heap[b]? = w.heap[b]?) : Ops w' ok A l := fun j hj => by
  obtain ⟨b, o, e, h1, h2⟩ := h j hj
  exact ⟨b, o, e, h1, fun q v hv => (World.cell?_of_block (hk b h1)).trans (h2 q v hv)⟩
theorem Try.cells30 : Try.prog.cellsOf 30 = 4 := by kernel_rfl
theorem laid_out : laidOutB Try.prog = true := by kernel_rfl
theorem read22 : Try.prog.readableRec 22 = true := by kernel_rfl
theorem row22 : 22 < Try.prog.types.size := of_decide_eq_true (by kernel_rfl)
theorem list_of {α : Type} {Q : Nat → α → Prop} : ∀ n, (∀ i, i < n → ∃ a, Q i a) → ∃ l : List α, l.length = n ∧ ∀ i (h : i < l.length), Q i l[i]
  | 0, _ => ⟨[], rfl, fun i h => by simp at h⟩
  | n + 1, h => by
    obtain ⟨l, hl, hq⟩ := list_of n fun i hi => h i (by omega)
    obtain ⟨a, ha⟩ := h n (by omega)
    refine ⟨l ++ [a], by simp [hl], fun i hi => ?_⟩
    by_cases hn : i < l.length
    · rw [List.getElem_append_left hn]
      exact hq i hn
    · have hin : i = n := by simp at hi; omega
      subst hin
      simp [hl, ha]
section
variable {H : Type} {enc : TypeId × Value → H} {W : World}
theorem trod_op {fuel : Nat} {cs : List Value} {x : DataW H × List MemPlace} (h : DataW.trod enc Try.prog W 0 (fun _ => true) true fuel 30 cs = some x) : ∃ o : OpR, cs = opC o := by
  obtain ⟨xs, n, _, rfl, hl, hxl, hf⟩ := DataW.trod_struct Try.underlying30 h
  rw [Try.cells30] at hl
  obtain ⟨a, b, c, d, rfl⟩ : ∃ a b c d, cs = [a, b, c, d] := by
    match cs, hl with
    | [a, b, c, d], _ => exact ⟨a, b, c, d, rfl⟩
  obtain ⟨x0, x1, x2, x3, rfl⟩ : ∃ a b c d, xs = [a, b, c, d] := by
    match xs, hxl with
    | [a, b, c, d], _ => exact ⟨a, b, c, d, rfl⟩
  have c3 : Try.prog.cellsOf 3 = 1 := by kernel_rfl
  have c5 : Try.prog.cellsOf 5 = 1 := by kernel_rfl
  have f0 := hf 0 { name := "Kind", type := 5, offset := 0, embedded := false, tag := "", pkgPath := "", byteOffset := 0 } rfl
  have f1 := hf 1 { name := "At", type := 3, offset := 1, embedded := false, tag := "", pkgPath := "", byteOffset := 8 } rfl
  have f2 := hf 2 { name := "Fill", type := 5, offset := 2, embedded := false, tag := "", pkgPath := "", byteOffset := 16 } rfl
  have f3 := hf 3 { name := "Size", type := 5, offset := 3, embedded := false, tag := "", pkgPath := "", byteOffset := 17 } rfl
  dsimp only at f0 f1 f2 f3
  rw [c5] at f0 f2 f3
  rw [c3] at f1
  simp only [List.drop, List.take] at f0 f1 f2 f3
  obtain ⟨z0, e0, h0⟩ := DataW.trod_int Try.underlying5 f0
  obtain ⟨z1, e1, h1⟩ := DataW.trod_int Try.underlying3 f1
  obtain ⟨z2, e2, h2⟩ := DataW.trod_int Try.underlying5 f2
  obtain ⟨z3, e3, h3⟩ := DataW.trod_int Try.underlying5 f3
  simp only [List.cons.injEq, and_true] at e0 e1 e2 e3
  subst e0 e1 e2 e3
  have w1 := h1.2
  simp [Lit.wf, IntKind.min, IntKind.max, IntKind.bits, IntKind.signed] at w1
  refine ⟨⟨UInt8.ofNat z0.toNat, z1, UInt8.ofNat z2.toNat, UInt8.ofNat z3.toNat, by omega, by omega⟩, ?_⟩
  simp only [opC, u8_of h0.2, u8_of h2.2, u8_of h3.2]
set_option maxRecDepth 100000 in
theorem open_ops {base : Nat} {v : Value} {d : DataW H} {p : List MemPlace} (hval : Value.okWide Try.prog W .any base 22 v) (h : DataW.Trod enc Try.prog W 0 (fun _ => true) true 22 v d p) :
    ∃ A l c, v = .slice A (l : List OpR).length c ∧ l.length ≤ maxLen ∧ Ops W (fun b => b < W.heap.size) A l := by
  obtain ⟨a1, len, cap, rfl⟩ := okWide_slice Try.underlying22 hval
  obtain ⟨fuel, hf⟩ := h
  rcases Go.Deep.open_slice Try.underlying22 hf with ⟨hcs, _⟩ | ⟨a, len', cap', m, n, D, Pl, hcs, _, hl, hm, hmm, _, hx⟩
  · simp [Value.cells] at hcs
    obtain ⟨rfl, rfl, rfl⟩ := hcs
    exact ⟨none, [], 0, rfl, Nat.zero_le _, fun j hj => by simp at hj⟩
  · simp [Value.cells] at hcs
    obtain ⟨rfl, rfl, rfl⟩ := hcs
    simp only [if_true] at hmm
    obtain ⟨l, hpl, hp⟩ := list_of (α := OpR) (Q := fun i x => ∀ q v, (opC x)[q]? = some v → W.cell? ((a.add (i * 4)).add q) = some v) len fun i hi => by
      obtain ⟨cs', h1, h2⟩ := hx i (by omega)
      rw [Try.cells30] at h1
      obtain ⟨o, rfl⟩ := trod_op h2
      obtain ⟨_, hlen, hc⟩ := World.cells?_some h1
      refine ⟨o, fun q v hv => ?_⟩
      have hq : q < 4 := (List.getElem?_eq_some_iff.1 hv).1
      rw [hc q hq]
      exact hv
    refine ⟨some a, l, cap, by rw [hpl], by omega, fun j hj => ?_⟩
    have h0 := hp j hj 0 _ rfl
    have h00 := hp 0 (by omega) 0 _ rfl
    obtain ⟨b, o, sp⟩ := a
    have hsp : sp = none := by
      have := World.cell?_spot h00
      simpa [Addr.add] using this
    subst hsp
    refine ⟨b, o, rfl, ?_, fun q v hv => ?_⟩
    · have := World.block_lt_of_cell? W _ h0
      simpa [Addr.add_mid] using this
    · have := hp j hj q v hv
      rwa [Addr.add_mid, Addr.add_mid, Nat.mul_comm j 4] at this
end
end Go.Proofs.Ytmdkpfogdbggoaa
