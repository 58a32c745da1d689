/- The laws' arguments, as they lie in memory; the program's tables. Conditions: none. -/
import Derived.Test.YtdnkeaokgkiloaaDoorT2
import Derived.Test.YtdnkeaokgkiloaaDoorTie
import Derived.Test.YtdnkeaokgkiloaaDoorCards
import Derived.Deep.Matrix
import Derived.Carry
import Derived.ProofKit
import Derived.LaidMore
import Derived.OpenShut
import Derived.Stop.Joined
import Derived.Lib.LaidTab
import Derived.Stop.LaidErr
import Derived.Deep.Slices
namespace Go.Proofs.YtdnkeaokgkiloaaDoor
open Go.RowKit Go.ChangeShapes Go.WideShapes Go.ChangeAt T
set_option maxRecDepth 100000 in
theorem cellsOf5 : Tryd.prog.cellsOf 5 = 1 := by kernel_rfl
theorem cellsOf38 : Tryd.prog.cellsOf 38 = 1 := by kernel_rfl
theorem cellsOf22 : Tryd.prog.cellsOf 22 = 32 := by kernel_rfl
theorem cellsOf24 : Tryd.prog.cellsOf 24 = 32 := by kernel_rfl
theorem cellsOf40 : Tryd.prog.cellsOf 40 = 33 := by kernel_rfl
theorem cellsOf49 : Tryd.prog.cellsOf 49 = 65 := by kernel_rfl
theorem und5 : Tryd.prog.underlying 5 = some (.int .u8) := by kernel_rfl
theorem und4 : Tryd.prog.underlying 4 = some .bool := by kernel_rfl
theorem und38 : Tryd.prog.underlying 38 = some (.int .u16) := by kernel_rfl
theorem own_knob : ownKnob Tryd.prog.godebug = none := by kernel_rfl
def byteOf (z : Int) : UInt8 := UInt8.ofNat z.toNat
theorem byteOf_nat {z : Int} (h : (Lit.int .u8 z).wf = true) : ((byteOf z).toNat : Int) = z := by
  simp [Lit.wf, IntKind.min, IntKind.max, IntKind.bits, IntKind.signed] at h
  unfold byteOf
  rw [UInt8.toNat_ofNat']
  omega
def vnum : Value → Int
  | .int _ z => z
  | _ => 0
section
variable {H : Type} {enc : TypeId × Value → H} {W : World} {base : Nat} {v : Value} {d : DataW H} {p : List MemPlace}
theorem trod_key {t : TypeId} (ht : Tryd.prog.underlying t = some (.array 32 5)) (hc : Tryd.prog.cellsOf t = 32) {fuel : Nat} {cs : List Value} {x : DataW H × List MemPlace} (h : DataW.trod enc Tryd.prog W 0 (fun _ => true) true fuel t cs = some x) :
    ∃ ks : List UInt8, cs = u8s ks ∧ ks.length = 32 := by
  obtain ⟨xs, m, _, _, hl, _, hel⟩ := DataW.trod_array ht h
  rw [hc] at hl
  have hat : ∀ i, i < 32 → ∃ z, cs[i]? = some (.int .u8 z) ∧ (Lit.int .u8 z).wf = true := fun i hi => by
    have h1 := hel i hi
    rw [cellsOf5, Nat.mul_one, List.getElem?_eq_getElem (by omega)] at h1
    obtain ⟨z, e, _, hw⟩ := DataW.trod_int und5 h1
    refine ⟨z, ?_, hw⟩
    have e2 : ((cs.drop i).take 1)[0]? = some (.int .u8 z) := by rw [e]; rfl
    rw [List.getElem?_take, if_pos (by omega), List.getElem?_drop, Nat.add_zero] at e2
    exact e2
  refine ⟨cs.map fun v => byteOf (vnum v), ?_, by simpa using hl⟩
  unfold u8s
  apply List.ext_getElem?
  intro j
  by_cases hj : j < 32
  · obtain ⟨z, e, hw⟩ := hat j hj
    rw [List.map_map, List.getElem?_map, e]
    simp [vnum, byteOf_nat hw]
  · rw [List.getElem?_eq_none (by omega), List.getElem?_eq_none (by simp; omega)]
theorem trod_num {fuel : Nat} {cs : List Value} {x : DataW H × List MemPlace} (h : DataW.trod enc Tryd.prog W 0 (fun _ => true) true fuel 38 cs = some x) : ∃ n : Nat, cs = [.int .u16 (n : Int)] ∧ n < 65536 := by
  obtain ⟨z, e, _, hw⟩ := DataW.trod_int und38 h
  simp [Lit.wf, IntKind.min, IntKind.max, IntKind.bits, IntKind.signed] at hw
  exact ⟨z.toNat, by rw [e, Int.toNat_of_nonneg (by omega)], by omega⟩
theorem trod_row {fuel : Nat} {cs : List Value} {x : DataW H × List MemPlace} (h : DataW.trod enc Tryd.prog W 0 (fun _ => true) true fuel 40 cs = some x) : ∃ k n, cs = rv k n ∧ k.length = 32 ∧ n < 65536 := by
  obtain ⟨xs, n, _, rfl, hl, hxl, hf⟩ := DataW.trod_struct Tryd.underlying40 h
  rw [cellsOf40] at hl
  obtain ⟨x0, x1, rfl⟩ : ∃ a b, xs = [a, b] := by
    match xs, hxl with
    | [a, b], _ => exact ⟨a, b, rfl⟩
  have f0 := hf 0 { name := "Key", type := 24, offset := 0, embedded := false, tag := "", pkgPath := "", byteOffset := 0 } rfl
  have f1 := hf 1 { name := "N", type := 38, offset := 32, embedded := false, tag := "", pkgPath := "", byteOffset := 32 } rfl
  dsimp only at f0 f1
  rw [cellsOf24] at f0
  rw [cellsOf38] at f1
  obtain ⟨k, e0, hk⟩ := trod_key Tryd.underlying24 cellsOf24 f0
  obtain ⟨n, e1, hn⟩ := trod_num f1
  refine ⟨k, n, ?_, hk, hn⟩
  unfold rv
  have h1 : (cs.drop 32).take 1 = cs.drop 32 := List.take_of_length_le (by rw [List.length_drop]; omega)
  rw [← e0, ← e1, h1, List.drop_zero, List.take_append_drop]
theorem trod_kept {fuel : Nat} {cs : List Value} {x : DataW H × List MemPlace} (h : DataW.trod enc Tryd.prog W 0 (fun _ => true) true fuel 49 cs = some x) : ∃ y : Kep, cs = kv y ∧ KOk y := by
  obtain ⟨xs, n, _, rfl, hl, hxl, hf⟩ := DataW.trod_struct Tryd.underlying49 h
  rw [cellsOf49] at hl
  obtain ⟨x0, x1, x2, rfl⟩ : ∃ a b c, xs = [a, b, c] := by
    match xs, hxl with
    | [a, b, c], _ => exact ⟨a, b, c, rfl⟩
  have f0 := hf 0 { name := "Ratchet", type := 24, offset := 0, embedded := false, tag := "", pkgPath := "", byteOffset := 0 } rfl
  have f1 := hf 1 { name := "N", type := 38, offset := 32, embedded := false, tag := "", pkgPath := "", byteOffset := 32 } rfl
  have f2 := hf 2 { name := "Key", type := 24, offset := 33, embedded := false, tag := "", pkgPath := "", byteOffset := 34 } rfl
  dsimp only at f0 f1 f2
  rw [cellsOf24] at f0 f2
  rw [cellsOf38] at f1
  obtain ⟨r, e0, hr⟩ := trod_key Tryd.underlying24 cellsOf24 f0
  obtain ⟨n, e1, hn⟩ := trod_num f1
  obtain ⟨k, e2, hk⟩ := trod_key Tryd.underlying24 cellsOf24 f2
  refine ⟨(r, n, k), ?_, hr, hn, hk⟩
  unfold kv
  dsimp only
  rw [List.take_of_length_le (by rw [List.length_drop]; omega)] at e2
  have e3 : cs.drop 32 = Value.int .u16 (n : Int) :: u8s k := by
    have hh : cs.drop 32 = (cs.drop 32).take 1 ++ (cs.drop 32).drop 1 := (List.take_append_drop 1 _).symm
    rw [hh, e1, List.drop_drop, e2]
    rfl
  rw [← e0, ← e3, List.drop_zero, List.take_append_drop]
set_option maxRecDepth 100000 in
theorem open_key (hval : Value.okWide Tryd.prog W .any base 22 v) (h : DataW.Trod enc Tryd.prog W 0 (fun _ => true) true 22 v d p) : ∃ ks : List UInt8, v = .agg (u8s ks).toArray ∧ ks.length = 32 := by
  unfold Value.okWide at hval
  rw [Tryd.underlying22] at hval
  obtain ⟨cs, rfl, _, _⟩ := hval
  obtain ⟨fuel, hf⟩ := h
  obtain ⟨l⟩ := cs
  obtain ⟨ks, e, hk⟩ := trod_key Tryd.underlying22 cellsOf22 hf
  simp only [Value.cells] at e
  exact ⟨ks, by rw [← e], hk⟩
set_option maxRecDepth 100000 in
theorem open_row (hval : Value.okWide Tryd.prog W .any base 40 v) (h : DataW.Trod enc Tryd.prog W 0 (fun _ => true) true 40 v d p) : ∃ k n, v = .agg (rv k n).toArray ∧ k.length = 32 ∧ n < 65536 := by
  unfold Value.okWide at hval
  rw [Tryd.underlying40] at hval
  obtain ⟨cs, rfl, _, _⟩ := hval
  obtain ⟨fuel, hf⟩ := h
  obtain ⟨l⟩ := cs
  obtain ⟨k, n, e, hk, hn⟩ := trod_row hf
  simp only [Value.cells] at e
  exact ⟨k, n, by rw [← e], hk, hn⟩
set_option maxRecDepth 100000 in
theorem open_kept (hval : Value.okWide Tryd.prog W .any base 49 v) (h : DataW.Trod enc Tryd.prog W 0 (fun _ => true) true 49 v d p) : ∃ y : Kep, v = .agg (kv y).toArray ∧ KOk y := by
  unfold Value.okWide at hval
  rw [Tryd.underlying49] at hval
  obtain ⟨cs, rfl, _, _⟩ := hval
  obtain ⟨fuel, hf⟩ := h
  obtain ⟨l⟩ := cs
  obtain ⟨y, e, hy⟩ := trod_kept hf
  simp only [Value.cells] at e
  exact ⟨y, by rw [← e], hy⟩
set_option maxRecDepth 100000 in
theorem open_u8 (hval : Value.okWide Tryd.prog W .any base 5 v) (h : DataW.Trod enc Tryd.prog W 0 (fun _ => true) true 5 v d p) : ∃ x : Nat, v = .int .u8 (x : Int) ∧ x < 256 := by
  obtain ⟨z, rfl⟩ := okWide_int und5 hval
  obtain ⟨fuel, hf⟩ := h
  obtain ⟨z', e, _, hw⟩ := DataW.trod_int und5 hf
  simp [Value.cells] at e
  subst e
  simp [Lit.wf, IntKind.min, IntKind.max, IntKind.bits, IntKind.signed] at hw
  exact ⟨z.toNat, by rw [Int.toNat_of_nonneg (by omega)], by omega⟩
set_option maxRecDepth 100000 in
theorem open_u16 (hval : Value.okWide Tryd.prog W .any base 38 v) (h : DataW.Trod enc Tryd.prog W 0 (fun _ => true) true 38 v d p) : ∃ x : Nat, v = .int .u16 (x : Int) ∧ x < 65536 := by
  obtain ⟨z, rfl⟩ := okWide_int und38 hval
  obtain ⟨fuel, hf⟩ := h
  obtain ⟨n, e, hn⟩ := trod_num hf
  simp [Value.cells] at e
  exact ⟨n, by rw [e], hn⟩
set_option maxRecDepth 100000 in
theorem open_keps (hval : Value.okWide Tryd.prog W .any base 47 v) (h : DataW.Trod enc Tryd.prog W 0 (fun _ => true) true 47 v d p) :
    ∃ A L c, v = .slice A (L : List Kep).length c ∧ L.length ≤ c ∧ c ≤ maxLen ∧ KAll L ∧ Kps W (fun b => b < W.heap.size) A L := by
  obtain ⟨a1, len, cap, rfl⟩ := okWide_slice Tryd.underlying47 hval
  obtain ⟨fuel, hf⟩ := h
  rcases Go.Deep.open_slice Tryd.underlying47 hf with ⟨hcs, _⟩ | ⟨a, len', cap', m, n, D, Pl, hcs, _, hl, hm, hmm, _, hx⟩
  · simp [Value.cells] at hcs
    obtain ⟨rfl, rfl, rfl⟩ := hcs
    exact ⟨none, [], 0, rfl, Nat.le_refl _, Nat.zero_le _, KAll.nil, Kps.nil⟩
  · simp [Value.cells] at hcs
    obtain ⟨rfl, rfl, rfl⟩ := hcs
    simp only [if_true] at hmm
    obtain ⟨l, hpl, hp⟩ := list_at (α := Kep) (Q := fun i x => KOk x ∧ ∀ q v, (kv x)[q]? = some v → W.cell? ((a.add (i * 65)).add q) = some v) len fun i hi => by
      obtain ⟨cs', h1, h2⟩ := hx i (by omega)
      rw [cellsOf49] at h1
      obtain ⟨y, rfl, hy⟩ := trod_kept h2
      obtain ⟨_, hlen, hc⟩ := World.cells?_some h1
      refine ⟨y, hy, fun q v hv => ?_⟩
      have hq : q < 65 := by rw [← kv_length hy]; exact (List.getElem?_eq_some_iff.1 hv).1
      rw [hc q hq]
      exact hv
    refine ⟨some a, l, cap, by rw [hpl], by omega, by omega, fun x hx => ?_, fun j hj => ?_⟩
    · obtain ⟨j, hj, rfl⟩ := List.getElem_of_mem hx
      exact (hp j hj).1
    · have hkj := kv_length (hp j hj).1
      have h0 := (hp j hj).2 0 _ (List.getElem?_eq_getElem (by omega))
      have hk0 := kv_length (hp 0 (by omega)).1
      have h00 := (hp 0 (by omega)).2 0 _ (List.getElem?_eq_getElem (by omega))
      obtain ⟨b, o, sp⟩ := a
      have hsp : sp = none := by
        have := World.cell?_spot h00
        simpa [Addr.add] using this
      subst hsp
      refine ⟨b, o, rfl, ?_, fun q v hv => ?_⟩
      · have := World.block_lt_of_cell? W _ h0
        simpa [Addr.add_mid] using this
      · have := (hp j hj).2 q v hv
        rwa [Addr.add_mid, Addr.add_mid, Nat.mul_comm j 65] at this
end
set_option maxRecDepth 100000 in
theorem laid_out : laidOutB Tryd.prog = true := by kernel_rfl
theorem read4 : Tryd.prog.readableRec 4 = true := by kernel_rfl
theorem read5 : Tryd.prog.readableRec 5 = true := by kernel_rfl
theorem read22 : Tryd.prog.readableRec 22 = true := by kernel_rfl
theorem read38 : Tryd.prog.readableRec 38 = true := by kernel_rfl
theorem read40 : Tryd.prog.readableRec 40 = true := by kernel_rfl
theorem read47 : Tryd.prog.readableRec 47 = true := by kernel_rfl
theorem read49 : Tryd.prog.readableRec 49 = true := by kernel_rfl
theorem row4 : 4 < Tryd.prog.types.size := of_decide_eq_true (by kernel_rfl)
theorem row5 : 5 < Tryd.prog.types.size := of_decide_eq_true (by kernel_rfl)
theorem row22 : 22 < Tryd.prog.types.size := of_decide_eq_true (by kernel_rfl)
theorem row38 : 38 < Tryd.prog.types.size := of_decide_eq_true (by kernel_rfl)
theorem row40 : 40 < Tryd.prog.types.size := of_decide_eq_true (by kernel_rfl)
theorem row47 : 47 < Tryd.prog.types.size := of_decide_eq_true (by kernel_rfl)
theorem row49 : 49 < Tryd.prog.types.size := of_decide_eq_true (by kernel_rfl)
/-- The listed variables. -/
def laid2 : List (String × DataW Unit) := [("missive/sha.squares", Rows.laid_missive_sha_squares), ("missive/sha.cubes", Rows.laid_missive_sha_cubes)]
theorem glob0 : Tryd.prog.globalNamed "missive/sha.squares" = some 0 := by kernel_rfl
theorem glob1 : Tryd.prog.globalNamed "missive/sha.cubes" = some 1 := by kernel_rfl
theorem type0 : (Tryd.prog.globals[0]?).map (·.type) = some 127 := by kernel_rfl
theorem type1 : (Tryd.prog.globals[1]?).map (·.type) = some 137 := by kernel_rfl
theorem und124 : Tryd.prog.underlying 127 = some (.array 8 111) := by kernel_rfl
theorem und147 : Tryd.prog.underlying 137 = some (.array 80 111) := by kernel_rfl
theorem und88 : Tryd.prog.underlying 111 = some (.int .u64) := by kernel_rfl
theorem cellsOf88 : Tryd.prog.cellsOf 111 = 1 := by kernel_rfl
theorem cellsOf124 : Tryd.prog.cellsOf 127 = 8 := by kernel_rfl
theorem cellsOf147 : Tryd.prog.cellsOf 137 = 80 := by kernel_rfl
theorem sq_data : (Rows.laid_missive_sha_squares : DataW Unit) = Lib.tabData .u64 (S.sqN.map fun n : Nat => (n : Int)) := by rfl
theorem cu_data : (Rows.laid_missive_sha_cubes : DataW Unit) = Lib.tabData .u64 (S.cuN.map fun n : Nat => (n : Int)) := by rfl
theorem tab_of_laid {W : World} (h : laidMetH Tryd.prog laid2 W) : S.Tab W := by
  rw [MakeChecks.laidMetH_plain _ _ _ (by kernel_rfl)] at h
  unfold laid2 at h
  rw [sq_data, cu_data] at h
  have h1 := Lib.tabIs_of_head glob0 type0 und124 und88 cellsOf88 cellsOf124 h
  have h2 := Lib.tabIs_of_head glob1 type1 und147 und88 cellsOf88 cellsOf147 h.tail
  refine ⟨fun i hi => ?_, fun i hi => ?_⟩
  · have hs : S.sqN.length = 8 := rfl
    rw [h1.cell glob0 i (by simp [hs]; exact hi)]
    simp [List.getD_eq_getElem?_getD, hs, hi]
  · have hs : S.cuN.length = 80 := rfl
    rw [h2.cell glob1 i (by simp [hs]; exact hi)]
    simp [List.getD_eq_getElem?_getD, hs, hi]
set_option maxRecDepth 100000 in
theorem door_met (os : Os) (args : Array Value) : laidMetH Tryd.prog laid2 ((World.doorLaid Tryd.prog 400 os).forCall (fun _ _ => 0) ⟨#[], args, []⟩).memory :=
  laidMetH_of_parts3 (fuel := 81) (laidMet_of_run' 8 (by kernel_rfl) (by kernel_rfl)) (by kernel_rfl) (by kernel_rfl)
end Go.Proofs.YtdnkeaokgkiloaaDoor
