/- The laws' arguments: how steps and changes lie in memory. Conditions: none. -/
import Derived.Test.YtonpcenjipigpaaGreatZ35
import Derived.Deep.Slices
import Derived.Deep.Fields
import Derived.ChangeSame
import Derived.Carry
import Derived.ProofKit
import Derived.OpenShut
import Derived.SizedLaws
import Derived.ChangeMaps5
import Derived.Test.YtonpcenjipigpaaGreatZ44
import Derived.Test.YtonpcenjipigpaaGreatZ34
namespace Go.Proofs.YtonpcenjipigpaaGreat
open Go.RowKit Go.ChangeShapes Go.WideShapes Go.ChangeAt
theorem own_knob : ownKnob Tryz.prog.godebug = none := by kernel_rfl
theorem laidB : laidOutB Tryz.prog = true := by kernel_rfl
theorem read40 : Tryz.prog.readableRec 40 = true := by kernel_rfl
theorem read9 : Tryz.prog.readableRec 9 = true := by kernel_rfl
theorem row9 : 9 < Tryz.prog.types.size := of_decide_eq_true (by kernel_rfl)
theorem row40 : 40 < Tryz.prog.types.size := of_decide_eq_true (by kernel_rfl)
theorem Tryz.cells5 : Tryz.prog.cellsOf 5 = 1 := by kernel_rfl
def byteOf (z : Int) : UInt8 := UInt8.ofNat z.toNat
theorem byteOf_nat {z : Int} (h : (Lit.int .u8 z).wf = true) : ((byteOf z).toNat : Int) = z := by
  simp [Lit.wf, IntKind.min, IntKind.max, IntKind.bits, IntKind.signed] at h
  unfold byteOf
  rw [u8_ofNat]
  omega
section
variable {H : Type} {enc : TypeId × Value → H} {W : World} {base : Nat}
set_option maxRecDepth 100000 in
theorem open_byt {v : Value} {d : DataW H} {p : List MemPlace} (hval : Value.okWide Tryz.prog W .any base 40 v) (h : DataW.Trod enc Tryz.prog W 0 (fun _ => true) true 40 v d p) :
    ∃ A xs c, v = .slice A (xs : List UInt8).length c ∧ xs.length ≤ c ∧ c ≤ maxLen ∧ Byt W (fun b => b < W.heap.size) A xs ∧ (xs = [] ∨ ∃ el sp, d = .slice el sp ∧ xs.length ≤ el.length) := by
  obtain ⟨a1, len, cap, rfl⟩ := okWide_slice Tryz.underlying40 hval
  obtain ⟨fuel, hf⟩ := h
  rcases open_ints Tryz.underlying40 Tryz.underlying5 Tryz.cells5 hf with ⟨hcs, hx⟩ | ⟨a, len', cap', zs, hcs, _, hl, hm, hz, hx, hcell, hwz⟩
  · simp [Value.cells] at hcs
    obtain ⟨rfl, rfl, rfl⟩ := hcs
    exact ⟨none, [], 0, rfl, Nat.le_refl _, Nat.zero_le _, Byt.nil, .inl rfl⟩
  · simp [Value.cells] at hcs
    obtain ⟨rfl, rfl, rfl⟩ := hcs
    simp only [if_true] at hz
    have hd : d = .slice (lits .u8 (zs.take len)) (lits .u8 (zs.drop len)) := congrArg Prod.fst hx
    refine ⟨some a, (zs.take len).map byteOf, cap, by simp; omega, by simp; omega, hm, fun j hj => ?_, .inr ⟨_, _, hd, by simp [lits]⟩⟩
    have hj' : j < len ∧ j < zs.length := by simp at hj; omega
    have hc := hcell j hj'.2
    have e : zs.getD j 0 = zs[j] := by simp [List.getD, hj'.2]
    rw [e] at hc
    refine ⟨a, rfl, ?_, ?_⟩
    · have := World.block_lt_of_cell? W _ hc
      rwa [block_of_plus] at this
    · rw [hc]
      have := byteOf_nat (hwz zs[j] (List.getElem_mem _))
      simp [this]
end
theorem Tryz.cells56 : Tryz.prog.cellsOf 56 = 3 := by kernel_rfl
theorem Tryz.cells38 : Tryz.prog.cellsOf 38 = 4 := by kernel_rfl
theorem Tryz.cells40 : Tryz.prog.cellsOf 40 = 1 := by kernel_rfl
theorem Tryz.cells36 : Tryz.prog.cellsOf 36 = 1 := by kernel_rfl
theorem Tryz.cells9 : Tryz.prog.cellsOf 9 = 1 := by kernel_rfl
theorem Tryz.cells4 : Tryz.prog.cellsOf 4 = 1 := by kernel_rfl
theorem Tryz.cells3 : Tryz.prog.cellsOf 3 = 1 := by kernel_rfl
theorem read22 : Tryz.prog.readableRec 22 = true := by kernel_rfl
theorem row22 : 22 < Tryz.prog.types.size := of_decide_eq_true (by kernel_rfl)
theorem read36 : Tryz.prog.readableRec 36 = true := by kernel_rfl
theorem row36 : 36 < Tryz.prog.types.size := of_decide_eq_true (by kernel_rfl)
theorem list_of {α : Type} {Q : Nat → α → Prop} : ∀ n, (∀ i, i < n → ∃ a, Q i a) → ∃ l : List α, l.length = n ∧ ∀ i (h : i < l.length), Q i l[i]
  | 0, _ => ⟨[], rfl, fun i h => by simp at h⟩
  | n + 1, h => by
    obtain ⟨l, hl, hq⟩ := list_of n fun i hi => h i (by omega)
    obtain ⟨a, ha⟩ := h n (by omega)
    refine ⟨l ++ [a], by simp [hl], fun i hi => ?_⟩
    by_cases hn : i < l.length
    · rw [List.getElem_append_left hn]
      exact hq i hn
    · have hin : i = n := by simp at hi; omega
      subst hin
      simp [hl, ha]
/-- A step of a script. -/
structure StpR where
  ch : List Chg
  fuse : Int
  crash : Bool
  keep : Int
/-- Its four cells. -/
def stpC (x : StpR) (v : Value) : List Value := [v, .int .i64 x.fuse, .bool x.crash, .int .i64 x.keep]
/-- In an int's range. -/
def In64 (z : Int) : Prop := -9223372036854775808 ≤ z ∧ z ≤ 9223372036854775807
/-- Steps lie at A. -/
def Stps (w : World) (ok : Nat → Prop) (A : Option Addr) (l : List StpR) : Prop :=
  ∀ j (h : j < l.length), ∃ b o A' c', A = some ⟨b, o, none⟩ ∧ ok b ∧ w.rangeAt b (o + j * 4) (stpC l[j] (.slice A' l[j].ch.length c')) ∧ l[j].ch.length ≤ maxLen ∧ In64 l[j].fuse ∧ In64 l[j].keep ∧ Chs w ok A' l[j].ch
theorem Stps.keep {w w' : World} {ok : Nat → Prop} {A : Option Addr} {l : List StpR} (h : Stps w ok A l) (hk : ∀ b, ok b → w'.heap[b]? = w.heap[b]?) : Stps w' ok A l := fun j hj => by
  obtain ⟨b, o, A', c', e, h1, h2, h3, h4, h5, h6⟩ := h j hj
  exact ⟨b, o, A', c', e, h1, rangeAt_keep h2 (hk b h1), h3, h4, h5, h6.keep hk⟩
section
variable {H : Type} {enc : TypeId × Value → H} {W : World} {fuel : Nat} {cs : List Value} {x : DataW H × List MemPlace}
set_option maxRecDepth 100000 in
theorem trod_byt (h : DataW.trod enc Tryz.prog W 0 (fun _ => true) true fuel 40 cs = some x) : ∃ A xs c, cs = [.slice A (xs : List UInt8).length c] ∧ xs.length ≤ c ∧ c ≤ maxLen ∧ Byt W (fun b => b < W.heap.size) A xs := by
  rcases open_ints Tryz.underlying40 Tryz.underlying5 Tryz.cells5 h with ⟨rfl, hx⟩ | ⟨a, len, cap, zs, rfl, _, hl, hm, hz, hx, hcell, hwz⟩
  · exact ⟨none, [], 0, rfl, Nat.le_refl _, Nat.zero_le _, Byt.nil⟩
  · simp only [if_true] at hz
    refine ⟨some a, (zs.take len).map byteOf, cap, by simp; omega, by simp; omega, hm, fun j hj => ?_⟩
    have hj' : j < len ∧ j < zs.length := by simp at hj; omega
    have hc := hcell j hj'.2
    have e : zs.getD j 0 = zs[j] := by simp [List.getD, hj'.2]
    rw [e] at hc
    refine ⟨a, rfl, ?_, ?_⟩
    · have := World.block_lt_of_cell? W _ hc
      rwa [block_of_plus] at this
    · rw [hc]
      have := byteOf_nat (hwz zs[j] (List.getElem_mem _))
      simp [this]
set_option maxRecDepth 100000 in
theorem trod_chg (h : DataW.trod enc Tryz.prog W 0 (fun _ => true) true fuel 56 cs = some x) : ∃ (c : Chg) (A : Option Addr) (c' : Nat), cs = ccells c (.slice A c.val.length c') ∧ c.val.length ≤ c' ∧ c' ≤ maxLen ∧ c.name.length ≤ maxLen ∧ Byt W (fun b => b < W.heap.size) A c.val := by
  obtain ⟨xs, n, _, rfl, hl, hxl, hf⟩ := DataW.trod_struct Tryz.underlying56 h
  rw [Tryz.cells56] at hl
  obtain ⟨a, b, c, rfl⟩ : ∃ a b c, cs = [a, b, c] := by
    match cs, hl with
    | [a, b, c], _ => exact ⟨a, b, c, rfl⟩
  obtain ⟨x0, x1, x2, rfl⟩ : ∃ a b c, xs = [a, b, c] := by
    match xs, hxl with
    | [a, b, c], _ => exact ⟨a, b, c, rfl⟩
  have f0 := hf 0 { name := "Name", type := 9, offset := 0, embedded := false, tag := "", pkgPath := "", byteOffset := 0 } rfl
  have f1 := hf 1 { name := "Value", type := 40, offset := 1, embedded := false, tag := "", pkgPath := "", byteOffset := 16 } rfl
  have f2 := hf 2 { name := "Gone", type := 4, offset := 2, embedded := false, tag := "", pkgPath := "", byteOffset := 40 } rfl
  dsimp only at f0 f1 f2
  rw [Tryz.cells9] at f0
  rw [Tryz.cells40] at f1
  rw [Tryz.cells4] at f2
  simp only [List.drop, List.take] at f0 f1 f2
  obtain ⟨s, e0, -, h0⟩ := DataW.trod_string Tryz.underlying9 f0
  obtain ⟨A, ys, c', e1, h1, h2, h3⟩ := trod_byt f1
  obtain ⟨g, e2, -⟩ := DataW.trod_bool Tryz.underlying4 f2
  simp only [List.cons.injEq, and_true] at e0 e1 e2
  subst e0 e1 e2
  have hs : (⟨s.data.toList.toArray⟩ : ByteArray) = s := by rw [Array.toArray_toList]
  have hn : s.data.toList.length ≤ maxLen := by rw [Array.length_toList]; exact h0
  exact ⟨⟨s.data.toList, ys, g⟩, A, c', by unfold ccells strV; rw [hs], h1, h2, hn, h3⟩
set_option maxRecDepth 100000 in
theorem trod_chs (h : DataW.trod enc Tryz.prog W 0 (fun _ => true) true fuel 36 cs = some x) : ∃ A l c, cs = [.slice A (l : List Chg).length c] ∧ l.length ≤ maxLen ∧ Chs W (fun b => b < W.heap.size) A l := by
  rcases Go.Deep.open_slice Tryz.underlying36 h with ⟨rfl, _⟩ | ⟨a, len, cap, m, n, D, Pl, rfl, _, hl, hm, hmm, _, hx⟩
  · exact ⟨none, [], 0, rfl, Nat.zero_le _, Chs.nil⟩
  · simp only [if_true] at hmm
    obtain ⟨l, hpl, hp⟩ := list_of (α := Chg) (Q := fun i c => ∃ A' c', (∀ q v, (ccells c (.slice A' c.val.length c'))[q]? = some v → W.cell? ((a.add (i * 3)).add q) = some v) ∧ c.val.length ≤ c' ∧ c' ≤ maxLen ∧ c.name.length ≤ maxLen ∧ Byt W (fun b => b < W.heap.size) A' c.val) len fun i hi => by
      obtain ⟨cs', h1, h2⟩ := hx i (by omega)
      rw [Tryz.cells56] at h1
      obtain ⟨c, A', c', rfl, k1, k2, k3, k4⟩ := trod_chg h2
      obtain ⟨_, hlen, hc⟩ := World.cells?_some h1
      refine ⟨c, A', c', fun q v hv => ?_, k1, k2, k3, k4⟩
      have hq : q < 3 := (List.getElem?_eq_some_iff.1 hv).1
      rw [hc q hq]
      exact hv
    refine ⟨some a, l, cap, by rw [hpl], by omega, fun j hj => ?_⟩
    obtain ⟨A0, c0, h00, -⟩ := hp 0 (by omega)
    have h00 := h00 0 _ rfl
    obtain ⟨A', c', h0, k1, k2, k3, k4⟩ := hp j hj
    have hb := h0 0 _ rfl
    obtain ⟨b, o, sp⟩ := a
    have hsp : sp = none := by
      have := World.cell?_spot h00
      simpa [Addr.add] using this
    subst hsp
    refine ⟨b, o, A', c', rfl, ?_, fun q v hv => ?_, k1, k2, k3, k4⟩
    · have := World.block_lt_of_cell? W _ hb
      simpa [Addr.add_mid] using this
    · have := h0 q v hv
      rwa [Addr.add_mid, Addr.add_mid] at this
set_option maxRecDepth 100000 in
theorem wf64 {z : Int} (h : (Lit.int .i64 z).wf = true) : In64 z := by
  simp [Lit.wf, IntKind.min, IntKind.max, IntKind.bits, IntKind.signed] at h
  unfold In64
  omega
set_option maxRecDepth 100000 in
theorem trod_stp (h : DataW.trod enc Tryz.prog W 0 (fun _ => true) true fuel 38 cs = some x) : ∃ (s : StpR) (A : Option Addr) (c' : Nat), cs = stpC s (.slice A s.ch.length c') ∧ s.ch.length ≤ maxLen ∧ In64 s.fuse ∧ In64 s.keep ∧ Chs W (fun b => b < W.heap.size) A s.ch := by
  obtain ⟨xs, n, _, rfl, hl, hxl, hf⟩ := DataW.trod_struct Tryz.underlying38 h
  rw [Tryz.cells38] at hl
  obtain ⟨a, b, c, d, rfl⟩ : ∃ a b c d, cs = [a, b, c, d] := by
    match cs, hl with
    | [a, b, c, d], _ => exact ⟨a, b, c, d, rfl⟩
  obtain ⟨x0, x1, x2, x3, rfl⟩ : ∃ a b c d, xs = [a, b, c, d] := by
    match xs, hxl with
    | [a, b, c, d], _ => exact ⟨a, b, c, d, rfl⟩
  have f0 := hf 0 { name := "Changes", type := 36, offset := 0, embedded := false, tag := "", pkgPath := "", byteOffset := 0 } rfl
  have f1 := hf 1 { name := "Fuse", type := 3, offset := 1, embedded := false, tag := "", pkgPath := "", byteOffset := 24 } rfl
  have f2 := hf 2 { name := "Crash", type := 4, offset := 2, embedded := false, tag := "", pkgPath := "", byteOffset := 32 } rfl
  have f3 := hf 3 { name := "Keep", type := 3, offset := 3, embedded := false, tag := "", pkgPath := "", byteOffset := 40 } rfl
  dsimp only at f0 f1 f2 f3
  rw [Tryz.cells36] at f0
  rw [Tryz.cells3] at f1 f3
  rw [Tryz.cells4] at f2
  simp only [List.drop, List.take] at f0 f1 f2 f3
  obtain ⟨A, l, c', e0, h1, h2⟩ := trod_chs f0
  obtain ⟨z1, e1, -, w1⟩ := DataW.trod_int Tryz.underlying3 f1
  obtain ⟨g, e2, -⟩ := DataW.trod_bool Tryz.underlying4 f2
  obtain ⟨z3, e3, -, w3⟩ := DataW.trod_int Tryz.underlying3 f3
  simp only [List.cons.injEq, and_true] at e0 e1 e2 e3
  subst e0 e1 e2 e3
  exact ⟨⟨l, z1, g, z3⟩, A, c', rfl, h1, wf64 w1, wf64 w3, h2⟩
set_option maxRecDepth 100000 in
theorem open_stps {base : Nat} {v : Value} {d : DataW H} {p : List MemPlace} (hval : Value.okWide Tryz.prog W .any base 22 v) (h : DataW.Trod enc Tryz.prog W 0 (fun _ => true) true 22 v d p) :
    ∃ A l c, v = .slice A (l : List StpR).length c ∧ l.length ≤ maxLen ∧ Stps W (fun b => b < W.heap.size) A l := by
  obtain ⟨a1, len, cap, rfl⟩ := okWide_slice Tryz.underlying22 hval
  obtain ⟨fuel, hf⟩ := h
  rcases Go.Deep.open_slice Tryz.underlying22 hf with ⟨hcs, _⟩ | ⟨a, len', cap', m, n, D, Pl, hcs, _, hl, hm, hmm, _, hx⟩
  · simp [Value.cells] at hcs
    obtain ⟨rfl, rfl, rfl⟩ := hcs
    exact ⟨none, [], 0, rfl, Nat.zero_le _, fun j hj => by simp at hj⟩
  · simp [Value.cells] at hcs
    obtain ⟨rfl, rfl, rfl⟩ := hcs
    simp only [if_true] at hmm
    obtain ⟨l, hpl, hp⟩ := list_of (α := StpR) (Q := fun i s => ∃ A' c', (∀ q v, (stpC s (.slice A' s.ch.length c'))[q]? = some v → W.cell? ((a.add (i * 4)).add q) = some v) ∧ s.ch.length ≤ maxLen ∧ In64 s.fuse ∧ In64 s.keep ∧ Chs W (fun b => b < W.heap.size) A' s.ch) len fun i hi => by
      obtain ⟨cs', h1, h2⟩ := hx i (by omega)
      rw [Tryz.cells38] at h1
      obtain ⟨c, A', c', rfl, k1, k2, k3, k4⟩ := trod_stp h2
      obtain ⟨_, hlen, hc⟩ := World.cells?_some h1
      refine ⟨c, A', c', fun q v hv => ?_, k1, k2, k3, k4⟩
      have hq : q < 4 := (List.getElem?_eq_some_iff.1 hv).1
      rw [hc q hq]
      exact hv
    refine ⟨some a, l, cap, by rw [hpl], by omega, fun j hj => ?_⟩
    obtain ⟨A0, c0, h00, -⟩ := hp 0 (by omega)
    have h00 := h00 0 _ rfl
    obtain ⟨A', c', h0, k1, k2, k3, k4⟩ := hp j hj
    have hb := h0 0 _ rfl
    obtain ⟨b, o, sp⟩ := a
    have hsp : sp = none := by
      have := World.cell?_spot h00
      simpa [Addr.add] using this
    subst hsp
    refine ⟨b, o, A', c', rfl, ?_, fun q v hv => ?_, k1, k2, k3, k4⟩
    · have := World.block_lt_of_cell? W _ hb
      simpa [Addr.add_mid] using this
    · have := h0 q v hv
      rwa [Addr.add_mid, Addr.add_mid] at this
set_option maxRecDepth 100000 in
theorem open_chs {base : Nat} {v : Value} {d : DataW H} {p : List MemPlace} (hval : Value.okWide Tryz.prog W .any base 36 v) (h : DataW.Trod enc Tryz.prog W 0 (fun _ => true) true 36 v d p) :
    ∃ A l c, v = .slice A (l : List Chg).length c ∧ l.length ≤ maxLen ∧ Chs W (fun b => b < W.heap.size) A l := by
  obtain ⟨a1, len, cap, rfl⟩ := okWide_slice Tryz.underlying36 hval
  obtain ⟨fuel, hf⟩ := h
  obtain ⟨A, l, c, e, h1, h2⟩ := trod_chs hf
  simp [Value.cells] at e
  obtain ⟨rfl, rfl, rfl⟩ := e
  exact ⟨_, l, _, rfl, h1, h2⟩
end
end Go.Proofs.YtonpcenjipigpaaGreat
/- What the laws over both stores ask: how a store goes on through fuses, commits and crashes; both stores beside each other. Conditions: none. -/
namespace Go.Proofs.YtonpcenjipigpaaGreat
open Go.RowKit
theorem lays_wait (s : St) (hf a : Nat) (b : List UInt8) (e c n : Nat) : (s.lays hf a b e c n).2.1.L.length ≤ s.L.length + nblk b.length + 1 := by
  have h1 := (St.laid_n (cuts b (nblk b.length)) s (hf * (s.n / 2) + a)).2
  rw [cuts_length] at h1
  have h2 := (St.laid_n [hdrB e c n] (s.laid (hf * (s.n / 2) + a) (cuts b (nblk b.length))).2 (hf * (s.n / 2))).2
  rw [← sealed_laid] at h2
  simp only [List.length_cons, List.length_nil] at h2
  unfold St.lays
  split
  · show _ ≤ _
    dsimp only
    omega
  · split
    · dsimp only
      omega
    · dsimp only
      omega
theorem commit_wait (s : St) (t : Ste) (l : List Chg) (hn : s.n ≤ 4096) : (s.commitT t l).2.1.L.length ≤ s.L.length + 3000 := by
  have hk : (s.keepT t l (doAll t.L l)).2.1.L.length ≤ s.L.length + 3000 := by
    unfold St.keepT
    split
    · rename_i h
      exact Nat.le_trans (lays_wait _ _ _ _ _ _ _) (by omega)
    · split
      · dsimp only; omega
      · split
        · rename_i h
          exact Nat.le_trans (lays_wait _ _ _ _ _ _ _) (by omega)
        · dsimp only; omega
  unfold St.commitT
  split
  · dsimp only; omega
  · split
    · dsimp only; omega
    · split
      · dsimp only; omega
      · split
        · dsimp only; omega
        · split
          · dsimp only; omega
          · generalize s.keepT t l (doAll t.L l) = K at hk
            obtain ⟨e, s', o⟩ := K
            cases o with
            | none => exact hk
            | some x => exact hk
theorem Stps.at {w : World} {ok : Nat → Prop} {A : Option Addr} {l : List StpR} (h : Stps w ok A l) {k : Nat} (hk : k < l.length) : ∃ b o A' c', A = some ⟨b, o, none⟩ ∧ ok b ∧ w.cell? ⟨b, o + k * 4, none⟩ = some (.slice A' l[k].ch.length c') ∧ w.cell? ⟨b, o + k * 4 + 1, none⟩ = some (.int .i64 l[k].fuse) ∧ w.cell? ⟨b, o + k * 4 + 2, none⟩ = some (.bool l[k].crash) ∧ w.cell? ⟨b, o + k * 4 + 3, none⟩ = some (.int .i64 l[k].keep) ∧ l[k].ch.length ≤ maxLen ∧ In64 l[k].fuse ∧ In64 l[k].keep ∧ Chs w ok A' l[k].ch := by
  obtain ⟨b, o, A', c', e, h1, h2, h3, h4, h5, h6⟩ := h k hk
  exact ⟨b, o, A', c', e, h1, h2 0 _ rfl, h2 1 _ rfl, h2 2 _ rfl, h2 3 _ rfl, h3, h4, h5, h6⟩
/-- A store through anything: it lives, all of it synced; or it has died, and whatever a crash keeps can be opened. -/
structure Pst (n : Nat) (s : St) (t : Ste) : Prop where
  nn : s.n = n
  len : s.L.length ≤ 4000
  ok : t.ok (n / 2)
  gd : Gd t.L
  st : (Hld n s.K t ∧ s.L = [] ∧ s.dead = false) ∨ (s.dead = true ∧ ∀ k, ∃ u, Hld n (redo s.K (s.L.take k)) u)
theorem commit_dead {s : St} (hd : s.dead = true) (t : Ste) (l : List Chg) : ∃ e, s.commitT t l = (e, s, t) := by
  unfold St.commitT
  split
  · exact ⟨_, rfl⟩
  · split
    · exact ⟨_, rfl⟩
    · split
      · exact ⟨_, rfl⟩
      · exact ⟨_, rfl⟩
theorem Pst.commit {n : Nat} {s s2 : St} {t t2 : Ste} (h : Pst n s t) (hn : n ≤ 4096) (l : List Chg) {e : Nat} (hr : s.commitT t l = (e, s2, t2)) : Pst n s2 t2 := by
  rcases h.st with ⟨h1, h2, h3⟩ | ⟨h1, h2⟩
  · have hw := commit_wait s t l (by rw [h.nn]; exact hn)
    rw [hr, h2] at hw
    dsimp only [List.length_nil] at hw
    have hnn := h.nn
    rcases commit_out (s := s) (by rw [hnn]; exact h1) h2 h3 l with ⟨s', t', g1, g2, -⟩ | ⟨e', g1, -⟩ | ⟨s', g1, g2⟩
    · rw [hr] at g1
      obtain ⟨-, rfl, rfl⟩ : e = 0 ∧ s2 = s' ∧ t2 = t' := by simpa using g1
      have hh := g2.held
      rw [hnn] at hh
      exact ⟨by rw [g2.n, hnn], by omega, hh.ok, hh.gd, .inl ⟨hh, g2.wait, g2.live⟩⟩
    · rw [hr] at g1
      obtain ⟨-, rfl, rfl⟩ : e = e' ∧ s2 = s ∧ t2 = t := by simpa using g1
      exact h
    · rw [hr] at g1
      obtain ⟨-, rfl, rfl⟩ : e = 150 ∧ s2 = s' ∧ t2 = t := by simpa using g1
      refine ⟨by rw [g2.n, hnn], by omega, h.ok, h.gd, .inr ⟨g2.dead, fun k => ?_⟩⟩
      obtain ⟨u, hu, -⟩ := g2.opens k
      rw [hnn] at hu
      exact ⟨u, hu⟩
  · obtain ⟨e', g1⟩ := commit_dead h1 t l
    rw [hr] at g1
    obtain ⟨-, rfl, rfl⟩ : e = e' ∧ s2 = s ∧ t2 = t := by simpa using g1
    exact h
theorem Pst.fuse {n : Nat} {s : St} {t : Ste} (h : Pst n s t) (x : Int) : Pst n (s.fuse x) t := ⟨h.nn, h.len, h.ok, h.gd, h.st⟩
theorem Pst.crash {n : Nat} {s : St} {t : Ste} (h : Pst n s t) (k : Int) : ∃ u, (s.crash k).openT = (0, s.crash k, some u) ∧ Pst n (s.crash k) u := by
  obtain ⟨u, hu⟩ : ∃ u, Hld n (redo s.K (s.L.take k.toNat)) u := by
    rcases h.st with ⟨h1, h2, h3⟩ | ⟨h1, h2⟩
    · exact ⟨t, by rw [h2, List.take_nil]; exact h1⟩
    · exact h2 _
  have hn := h.nn
  exact ⟨u, Hld.opens (s := s.crash k) (by show Hld s.n (redo s.K (s.L.take k.toNat)) u; rw [hn]; exact hu) rfl rfl, h.nn, Nat.zero_le _, hu.ok, hu.gd, .inl ⟨hu, rfl, rfl⟩⟩
theorem Pst.start {n : Nat} (h4 : 4 ≤ n) (h4096 : n ≤ 4096) : ∃ s1 t1, (St.mk0 n).openT = (0, s1, some t1) ∧ Pst n s1 t1 ∧ s1.f = -1 := by
  obtain ⟨s1, h1, h2, h3, h4, h5, h6⟩ := start_out h4 h4096
  exact ⟨s1, _, h1, ⟨h6, by rw [h3]; simp, h2.ok, h2.gd, .inl ⟨h2, h3, h4⟩⟩, h5⟩
/-- Both stores, each on its disk, beside each other: the code's is made since w0, the reference's too but for the blocks of its list. -/
structure Tw (w0 w : World) (f fs : Nat → Prop) (sp dp : Nat) (s : St) (t : Ste) (rf rfs : Nat → Prop) (rsp rdp : Nat) (s' : St) (t' : Ste) (br : Bool) : Prop where
  cv : Lv w0 w f fs sp dp s t
  rd : RDsk w rf rdp s'
  rs : RStm w rfs rsp rdp t' br
  rdis : ∀ k, rfs k → ¬ rf k
  rsf : ¬ rf rsp
  rfn : ∀ k, rf k → w0.heap.size ≤ k
  rspn : w0.heap.size ≤ rsp
  ap : ∀ k, (rf k ∨ rfs k ∨ k = rsp) → ¬ f k ∧ ¬ fs k
section
variable {w0 w w' : World} {f fs f' fs' rf rfs rf' rfs' : Nat → Prop} {sp sp' dp rsp rsp' rdp : Nat} {s s1 s' s2' : St} {t t1 t' t2' : Ste} {br br' : Bool}
theorem Tw.oth (h : Tw w0 w f fs sp dp s t rf rfs rsp rdp s' t' br) : Oth w f fs (fun k => rf k ∨ rfs k ∨ k = rsp) := fun b hb => by
  refine ⟨?_, (h.ap b hb).1, (h.ap b hb).2⟩
  rcases hb with hb | hb | rfl
  · exact h.rd.lt b hb
  · exact h.rs.lt b hb
  · exact h.rs.sp_lt
/-- The code's side has gone on. -/
theorem Tw.code (h : Tw w0 w f fs sp dp s t rf rfs rsp rdp s' t' br) (hv : Lv w0 w' f' fs' sp' dp s1 t1) (ht : Tn w w' f fs f' fs') : Tw w0 w' f' fs' sp' dp s1 t1 rf rfs rsp rdp s' t' br := by
  have ho := ht.oth h.oth
  have hat := ht.at h.oth
  exact ⟨hv, h.rd.keep ht.md.size fun k hk => hat k (.inl hk), h.rs.keep ht.md.size (hat rsp (.inr (.inr rfl))) fun k hk => hat k (.inr (.inl hk)), h.rdis, h.rsf, h.rfn, h.rspn, fun k hk => ⟨(ho k hk).2.1, (ho k hk).2.2⟩⟩
theorem Tw.grown (h : Tw w0 w f fs sp dp s t rf rfs rsp rdp s' t' br) (hg : w.grownBy w' none) : Tw w0 w' f fs sp dp s t rf rfs rsp rdp s' t' br :=
  h.code (h.cv.grown hg) (Tn.of_grown hg)
/-- The reference's side has gone on. -/
theorem Tw.ref (h : Tw w0 w f fs sp dp s t rf rfs rsp rdp s' t' br) (hd : RDsk w' rf' rdp s2') (hs : RStm w' rfs' rsp' rdp t2' br') (hdis : ∀ k, rfs' k → ¬ rf' k) (hsf : ¬ rf' rsp') (hm : Md (fun k => rf k ∨ k = rsp) w w') (hrf : ∀ k, rf' k → rf k ∨ (w.heap.size ≤ k ∧ k < w'.heap.size)) (hrfs : ∀ k, rfs' k → rfs k ∨ k < w0.heap.size ∨ (w.heap.size ≤ k ∧ k < w'.heap.size)) (hsp : rsp' = rsp ∨ w.heap.size ≤ rsp') : Tw w0 w' f fs sp dp s t rf' rfs' rsp' rdp s2' t2' br' := by
  have hfr : ∀ k, f k → ¬ (rf k ∨ k = rsp) := fun k hk h1 => (h.ap k (h1.imp id .inr)).1 hk
  have hfsr : ∀ k, fs k → ¬ (rf k ∨ k = rsp) := fun k hk h1 => (h.ap k (h1.imp id .inr)).2 hk
  have hnew : ∀ k, w.heap.size ≤ k → ¬ f k ∧ ¬ fs k := fun k hk => ⟨fun h1 => by have := h.cv.d.lt k h1; omega, fun h1 => by have := h.cv.st.lt k h1; omega⟩
  have hgs := h.cv.g.size
  have hspn : w0.heap.size ≤ rsp' := by
    rcases hsp with rfl | h1
    · exact h.rspn
    · omega
  refine ⟨⟨h.cv.d.md hm hfr, h.cv.st.md hm hfsr, h.cv.dis, h.cv.fn, h.cv.fsn, hm.grown h.cv.g fun k hk => ?_⟩, hd, hs, hdis, hsf, fun k hk => ?_, hspn, fun k hk => ?_⟩
  · rcases hk with hk | rfl
    · exact h.rfn k hk
    · exact h.rspn
  · rcases hrf k hk with h1 | h1
    · exact h.rfn k h1
    · omega
  · rcases hk with hk | hk | rfl
    · rcases hrf k hk with h1 | h1
      · exact h.ap k (.inl h1)
      · exact hnew k h1.1
    · rcases hrfs k hk with h1 | h1 | h1
      · exact h.ap k (.inr (.inl h1))
      · exact ⟨fun h2 => by have := h.cv.fn k h2; omega, fun h2 => by have := h.cv.fsn k h2; omega⟩
      · exact hnew k h1.1
    · rcases hsp with rfl | h1
      · exact h.ap k (.inr (.inr rfl))
      · exact hnew k h1
end
end Go.Proofs.YtonpcenjipigpaaGreat
