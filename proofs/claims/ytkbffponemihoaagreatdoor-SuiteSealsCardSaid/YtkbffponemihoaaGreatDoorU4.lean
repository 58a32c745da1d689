/- What a key is spread to. Conditions: the tables of the hash lie where the program lays them. -/
import Derived.Test.YtkbffponemihoaaGreatDoorU3
import Derived.Deep.RegionHeld3
namespace Go.Proofs.YtkbffponemihoaaGreatDoor
open Go.RowKit T
/-- The eighty bytes that a key is spread to. -/
def wide (ks : List UInt8) : List UInt8 := S.hkdf [] ks sealT 80
theorem wide_length (ks : List UInt8) : (wide ks).length = 80 := S.hkdf_length _ _ _ _
def own (ks : List UInt8) : List UInt8 := (wide ks).take 32
def marker (ks : List UInt8) : List UInt8 := ((wide ks).drop 32).take 32
def begin16 (ks : List UInt8) : List UInt8 := ((wide ks).drop 64).take 16
theorem own_length (ks : List UInt8) : (own ks).length = 32 := by rw [own, List.length_take, wide_length]; rfl
theorem marker_length (ks : List UInt8) : (marker ks).length = 32 := by rw [marker, List.length_take, List.length_drop, wide_length]; rfl
theorem begin16_length (ks : List UInt8) : (begin16 ks).length = 16 := by rw [begin16, List.length_take, List.length_drop, wide_length]; rfl
theorem hkdf_g {w : World} {c2 c3 n3 : Nat} {ok : Nat → Prop} {A2 A3 : Option Addr} {ks info : List UInt8} (hf : Byt w ok A2 ks) (hx : Byt w ok A3 info) (hok : ∀ b, ok b → b < w.heap.size) (hl : ks.length = 32) (hn3 : info.length = n3) (hc2 : 32 ≤ c2) (hc3 : n3 ≤ c3) (hm2 : c2 ≤ maxLen) (hm3 : c3 ≤ maxLen) (h3 : n3 ≤ 1000) (hT : S.Tab w) :
    Calls Tryz.prog 45 #[.slice none 0 0, .slice A2 32 c2, .slice A3 n3 c3, .int .i64 80] w fun e w' => ∃ gb, e = .returned (.tuple #[.slice (some ⟨gb, 0, none⟩) 80 80, .bool true]) ∧ C.Blk w' gb 5 (u8s (S.hkdf [] ks info 80)) ∧ w.heap.size ≤ gb ∧ w.grownBy w' none :=
  S.hkdf_yes (n := 80) (S.Byt.nil : S.Byt w ok none []) hf hx hok rfl hl hn3 (Nat.le_refl _) hc2 hc3 (Nat.zero_le _) hm2 hm3 (by omega) (by omega) (by omega) (by omega) hT
theorem part_cells {W : World} {g : Nat} {xs : List UInt8} (h : C.Blk W g 5 (u8s xs)) (o n : Nat) : ∀ j v, (u8s ((xs.drop o).take n))[j]? = some v → W.cell? ((⟨g, o, none⟩ : Addr).add j) = some v := fun j v hv => by
  obtain ⟨hj, rfl⟩ := u8s_get _ j v hv
  have hj2 : o + j < xs.length := by
    rw [List.length_take, List.length_drop] at hj
    omega
  rw [Addr.add_lit]
  refine h.get (o + j) _ ?_
  unfold u8s
  rw [List.getElem?_map, List.getElem?_eq_getElem hj2]
  simp
theorem yieldsIf_toptr {ops : Array Oper} {S : World → Prop} {o : Oper} {a : Act} {t : TypeId} {m : Nat} (hT : Ar t m) (hw : Region.wanted o (yielded ops a.tmps) = true) (x : Operand) (ho : o.op = .sliceToArrayPointer t x) (B : Addr) (n c : Nat) (hx : a.eval x = .slice (some B) n c) (hn : m ≤ n) :
    YieldsIf Tryz.prog ops S o (.pointer (some B)) a :=
  .inl ⟨hw, fun w _ => by
    have hrun := run_arrayAt (P := Tryz.prog) (w := w) t 5 m (some B) n c hT.und hn
    unfold execOp
    simp only [ho, hx, hrun, Sem.run_bind, Sem.run_pure, Result.andThen_ok]⟩
set_option maxRecDepth 100000 in
set_option maxHeartbeats 4000000 in
theorem spread_any {w : World} (hT : S.Tab w) (ks : List UInt8) (hl : ks.length = 32) : Calls Tryz.prog 28 #[.agg (u8s ks).toArray] w fun e w' => e = .returned (.tuple #[.agg (u8s (own ks)).toArray, .agg (u8s (marker ks)).toArray, .agg (u8s (begin16 ks)).toArray]) ∧ w.grownBy w' none := by
  have HT := Lib.hid hT
  have HL := Lib.hid hl
  clear hT hl
  go_enter Tryz.func28, Tryz.ntmps28
  go_wp2_with (refine wpList_box32 i49 rfl _ rfl ks rfl HL.out ?_)
  intro w1 k1 b1 z1
  obtain ⟨gk, hgk⟩ : ∃ g, g = w.heap.size := ⟨_, rfl⟩
  rw [← hgk] at k1 z1 ⊢
  have Z1 := Lib.hid z1
  have W1 := Lib.hid hgk
  clear z1 hgk
  have K1 : Hid (Arr w1 40 gk ks) := k1
  have G1 := Lib.hid (below_grown b1)
  clear k1 b1
  go_wp2_with (refine wpList_alloc_ar ar25 rfl rfl ?_)
  intro w2 k2 g2 z2
  obtain ⟨ga, hga⟩ : ∃ g, g = w1.heap.size := ⟨_, rfl⟩
  rw [← hga] at k2 z2 ⊢
  have Z2 := Lib.hid z2
  have W2 := Lib.hid hga
  have K2 := Lib.hid k2
  have G2 := Lib.hid g2
  clear z2 hga k2 g2
  go_wp2_with (refine wpList_alloc_ar ar25 rfl rfl ?_)
  intro w3 k3 g3 z3
  obtain ⟨gb, hgb⟩ : ∃ g, g = w2.heap.size := ⟨_, rfl⟩
  rw [← hgb] at k3 z3 ⊢
  have Z3 := Lib.hid z3
  have W3 := Lib.hid hgb
  have K3 := Lib.hid k3
  have G3 := Lib.hid g3
  clear z3 hgb k3 g3
  go_wp2_with (refine wpList_alloc_ar ar78 rfl rfl ?_)
  intro w4 k4 g4 z4
  obtain ⟨gc, hgc⟩ : ∃ g, g = w3.heap.size := ⟨_, rfl⟩
  rw [← hgc] at k4 z4 ⊢
  have Z4 := Lib.hid z4
  have W4 := Lib.hid hgc
  have K4 := Lib.hid k4
  have G4 := Lib.hid g4
  clear z4 hgc k4 g4
  have HN : Hid (w.heap.size ≤ gk ∧ gk < ga ∧ ga < gb ∧ gb < gc ∧ gc < w4.heap.size) := by
    have := Z1.out; have := Z2.out; have := Z3.out; have := Z4.out; have := W1.out; have := W2.out; have := W3.out; have := W4.out
    show w.heap.size ≤ gk ∧ gk < ga ∧ ga < gb ∧ gb < gc ∧ gc < w4.heap.size
    omega
  have X1 := Lib.hid (Arr.grown (Arr.grown (Arr.grown K1.out G2.out (by simp)) G3.out (by simp)) G4.out (by simp))
  have XA := Lib.hid (Arr.grown (Arr.grown K2.out G3.out (by simp)) G4.out (by simp))
  have XB := Lib.hid (Arr.grown K3.out G4.out (by simp))
  have XC := K4
  have XG := Lib.hid (World.grownBy.trans G1.out (World.grownBy.trans G2.out (World.grownBy.trans G3.out G4.out)))
  clear K1 K2 K3 K4 G1 G2 G3 G4 Z1 Z2 Z3 Z4 W1 W2 W3 W4
  go_wp2_with (refine wpList_four 115 101 97 108 rfl rfl rfl _ rfl rfl ?_)
  intro w5 hx5 hg5 hz5
  have X5 : Hid (Byt w5 (fun b => b < w5.heap.size) (some ⟨w4.heap.size, 0, none⟩) sealT) := hx5.imp fun b hb => by rw [hb]; exact hz5
  obtain ⟨gt, hgt⟩ : ∃ g, g = w4.heap.size := ⟨_, rfl⟩
  rw [← hgt] at X5 ⊢
  have Y1 := Lib.hid (Arr.grown X1.out hg5 (by simp))
  have YA := Lib.hid (Arr.grown XA.out hg5 (by simp))
  have YB := Lib.hid (Arr.grown XB.out hg5 (by simp))
  have YC := Lib.hid (Arr.grown XC.out hg5 (by simp))
  have YG := Lib.hid (World.grownBy.trans XG.out hg5)
  have YT : Hid (S.Tab w5) := HT.out.grown YG.out (by simp) (by simp)
  have YZ : Hid (gc < w5.heap.size) := by
    have := HN.out
    show gc < w5.heap.size
    omega
  clear X1 XA XB XC XG hx5 hg5 hz5 hgt
  have hc := hkdf_g (c2 := 32) (c3 := 4) (n3 := 4) (ok := fun b => b < w5.heap.size) (Arr.byt Y1.out (Arr.lt Y1.out)) X5.out (fun _ h => h) HL.out rfl (Nat.le_refl _) (Nat.le_refl _) (by unfold maxLen; omega) (by unfold maxLen; omega) (by show 4 ≤ 1000; omega) YT.out
  go_wp2_with fail
  go_at_call 45
  refine hc.mono ?_
  rintro _ w6 ⟨gw, rfl, hw6, hge, hg6⟩
  have X6 : Hid (C.Blk w6 gw 5 (u8s (wide ks))) := Lib.hid hw6
  have YA6 := Lib.hid (Arr.grown YA.out hg6 (by simp))
  have YB6 := Lib.hid (Arr.grown YB.out hg6 (by simp))
  have YC6 := Lib.hid (Arr.grown YC.out hg6 (by simp))
  have YG6 := Lib.hid (World.grownBy.trans YG.out hg6)
  have YN6 : Hid (gc < gw) := by have := YZ.out; exact Nat.lt_of_lt_of_le this hge
  clear hc hw6 hge hg6 X5 Y1 YA YB YC YG YT YZ
  go_wp2_with fail
  obtain ⟨n1, n2, n3, n4, n5⟩ := HN.out
  have n6 := YN6.out
  have hA : Arr w6.drew 22 ga (zz 32) := YA6.out
  have hB : Arr w6.drew 22 gb (zz 32) := YB6.out
  have hC : Arr w6.drew 48 gc (zz 16) := YC6.out
  have hG : w.grownBy w6.drew none := ⟨YG6.out.os, YG6.out.tape, YG6.out.output, YG6.out.size, YG6.out.block⟩
  refine wp_region_held_drew (S := fun W => C.Blk W gw 5 (u8s (wide ks))) (by kernel_rfl) X6.out (fun hHeld => ?_)
  refine' wpAnyH_take (i := 0) (oi := { dst := some 14, op := Op.move (Operand.tmp 5), type := 23, pos := "real.go:50", after := #[], guard := none }) (v := .slice (some ⟨gw, 0, none⟩) 80 80) rfl (by kernel_rfl) (by kernel_rfl) (by kernel_rfl) (fun _ _ _ h => h) (Or.inl ⟨by rfl, fun w' hSw => by go_simp⟩) (by assumption) ?qz1
  try simp only [Act.put, List.setIfInBounds_toArray, List.set_cons_zero, List.set_cons_succ]
  refine' wpAnyH_take (i := 1) (oi := { dst := some 15, op := Op.slice 23 (Operand.tmp 14) none (some (Operand.const (Value.int IntKind.i64 32))) none, type := 23, pos := "real.go:50", after := #[{ on := 0, ground := Ground.data }], guard := none }) (v := .slice (some ⟨gw, 0, none⟩) 32 80) rfl (by kernel_rfl) (by kernel_rfl) (by kernel_rfl) (fun _ _ _ h => h) (Or.inl ⟨by rfl, fun w' hSw => by go_simp⟩) (by assumption) ?qz2
  try simp only [Act.put, List.setIfInBounds_toArray, List.set_cons_zero, List.set_cons_succ]
  refine' wpAnyH_take (i := 2) (oi := { dst := some 16, op := Op.sliceToArrayPointer 22 (Operand.tmp 15), type := 0, pos := "real.go:50", after := #[{ on := 1, ground := Ground.data }], guard := none }) (v := .pointer (some ⟨gw, 0, none⟩)) rfl (by kernel_rfl) (by kernel_rfl) (by kernel_rfl) (fun _ _ _ h => h) (yieldsIf_toptr ar25 (by rfl) _ rfl _ _ _ rfl (by omega)) (by assumption) ?qz3
  try simp only [Act.put, List.setIfInBounds_toArray, List.set_cons_zero, List.set_cons_succ]
  refine' wpAnyH_take (i := 3) (oi := { dst := some 17, op := Op.load 22 (Operand.tmp 16), type := 22, pos := "real.go:50", after := #[{ on := 2, ground := Ground.data }], guard := none }) (v := .agg (u8s (own ks)).toArray) rfl (by kernel_rfl) (by kernel_rfl) (by kernel_rfl) (fun _ _ _ h => h) (yieldsIf_load_ar ar25 (by rfl) _ rfl ⟨gw, 0, none⟩ rfl (own ks) (own_length ks) (fun W hW => part_cells hW 0 32)) (by assumption) ?qz4
  try simp only [Act.put, List.setIfInBounds_toArray, List.set_cons_zero, List.set_cons_succ]
  refine' wpAnyH_take (i := 4) (oi := { dst := some 18, op := Op.move (Operand.tmp 5), type := 23, pos := "real.go:50", after := #[], guard := none }) (v := .slice (some ⟨gw, 0, none⟩) 80 80) rfl (by kernel_rfl) (by kernel_rfl) (by kernel_rfl) (fun _ _ _ h => h) (Or.inl ⟨by rfl, fun w' hSw => by go_simp⟩) (by assumption) ?qz5
  try simp only [Act.put, List.setIfInBounds_toArray, List.set_cons_zero, List.set_cons_succ]
  refine' wpAnyH_take (i := 5) (oi := { dst := some 19, op := Op.slice 23 (Operand.tmp 18) (some (Operand.const (Value.int IntKind.i64 32))) (some (Operand.const (Value.int IntKind.i64 64))) none, type := 23, pos := "real.go:50", after := #[{ on := 4, ground := Ground.data }], guard := none }) (v := .slice (some ⟨gw, 32, none⟩) 32 48) rfl (by kernel_rfl) (by kernel_rfl) (by kernel_rfl) (fun _ _ _ h => h) (Or.inl ⟨by rfl, fun w' hSw => by go_simp⟩) (by assumption) ?qz6
  try simp only [Act.put, List.setIfInBounds_toArray, List.set_cons_zero, List.set_cons_succ]
  refine' wpAnyH_take (i := 6) (oi := { dst := some 20, op := Op.sliceToArrayPointer 22 (Operand.tmp 19), type := 0, pos := "real.go:50", after := #[{ on := 5, ground := Ground.data }, { on := 12, ground := Ground.gcOnly Departure.lateStores }], guard := none }) (v := .pointer (some ⟨gw, 32, none⟩)) rfl (by kernel_rfl) (by kernel_rfl) (by kernel_rfl) (fun _ _ _ h => h) (yieldsIf_toptr ar25 (by rfl) _ rfl _ _ _ rfl (by omega)) (by assumption) ?qz7
  try simp only [Act.put, List.setIfInBounds_toArray, List.set_cons_zero, List.set_cons_succ]
  refine' wpAnyH_take (i := 7) (oi := { dst := some 21, op := Op.load 22 (Operand.tmp 20), type := 22, pos := "real.go:50", after := #[{ on := 6, ground := Ground.data }, { on := 12, ground := Ground.gcOnly Departure.lateStores }], guard := none }) (v := .agg (u8s (marker ks)).toArray) rfl (by kernel_rfl) (by kernel_rfl) (by kernel_rfl) (fun _ _ _ h => h) (yieldsIf_load_ar ar25 (by rfl) _ rfl ⟨gw, 32, none⟩ rfl (marker ks) (marker_length ks) (fun W hW => part_cells hW 32 32)) (by assumption) ?qz8
  try simp only [Act.put, List.setIfInBounds_toArray, List.set_cons_zero, List.set_cons_succ]
  refine' wpAnyH_take (i := 8) (oi := { dst := some 22, op := Op.move (Operand.tmp 5), type := 23, pos := "real.go:50", after := #[], guard := none }) (v := .slice (some ⟨gw, 0, none⟩) 80 80) rfl (by kernel_rfl) (by kernel_rfl) (by kernel_rfl) (fun _ _ _ h => h) (Or.inl ⟨by rfl, fun w' hSw => by go_simp⟩) (by assumption) ?qz9
  try simp only [Act.put, List.setIfInBounds_toArray, List.set_cons_zero, List.set_cons_succ]
  refine' wpAnyH_take (i := 9) (oi := { dst := some 23, op := Op.slice 23 (Operand.tmp 22) (some (Operand.const (Value.int IntKind.i64 64))) (some (Operand.const (Value.int IntKind.i64 80))) none, type := 23, pos := "real.go:50", after := #[{ on := 8, ground := Ground.data }], guard := none }) (v := .slice (some ⟨gw, 64, none⟩) 16 16) rfl (by kernel_rfl) (by kernel_rfl) (by kernel_rfl) (fun _ _ _ h => h) (Or.inl ⟨by rfl, fun w' hSw => by go_simp⟩) (by assumption) ?qz10
  try simp only [Act.put, List.setIfInBounds_toArray, List.set_cons_zero, List.set_cons_succ]
  refine' wpAnyH_take (i := 10) (oi := { dst := some 24, op := Op.sliceToArrayPointer 48 (Operand.tmp 23), type := 0, pos := "real.go:50", after := #[{ on := 9, ground := Ground.data }, { on := 13, ground := Ground.gcOnly Departure.lateStores }], guard := none }) (v := .pointer (some ⟨gw, 64, none⟩)) rfl (by kernel_rfl) (by kernel_rfl) (by kernel_rfl) (fun _ _ _ h => h) (yieldsIf_toptr ar78 (by rfl) _ rfl _ _ _ rfl (by omega)) (by assumption) ?qz11
  try simp only [Act.put, List.setIfInBounds_toArray, List.set_cons_zero, List.set_cons_succ]
  refine' wpAnyH_take (i := 11) (oi := { dst := some 25, op := Op.load 48 (Operand.tmp 24), type := 48, pos := "real.go:50", after := #[{ on := 10, ground := Ground.data }, { on := 13, ground := Ground.gcOnly Departure.lateStores }], guard := none }) (v := .agg (u8s (begin16 ks)).toArray) rfl (by kernel_rfl) (by kernel_rfl) (by kernel_rfl) (fun _ _ _ h => h) (yieldsIf_load_ar ar78 (by rfl) _ rfl ⟨gw, 64, none⟩ rfl (begin16 ks) (begin16_length ks) (fun W hW => part_cells hW 64 16)) (by assumption) ?qz12
  try simp only [Act.put, List.setIfInBounds_toArray, List.set_cons_zero, List.set_cons_succ]
  refine wpAnyH_ready (rs := [12]) (by kernel_rfl) (by simp) ?_
  refine AllReadyH.cons (o := { dst := none, op := Op.store 22 (Operand.tmp 2) (Operand.tmp 17), type := 0, pos := "real.go:50", after := #[{ on := 3, ground := Ground.data }, { on := 0, ground := Ground.phase }, { on := 1, ground := Ground.phase }, { on := 2, ground := Ground.phase }, { on := 3, ground := Ground.phase }, { on := 4, ground := Ground.textOnly Departure.lateStores }, { on := 5, ground := Ground.textOnly Departure.lateStoresUnsure }, { on := 6, ground := Ground.textOnly Departure.lateStores }, { on := 7, ground := Ground.textOnly Departure.lateStores }, { on := 8, ground := Ground.textOnly Departure.lateStores }, { on := 9, ground := Ground.textOnly Departure.lateStoresUnsure }, { on := 10, ground := Ground.textOnly Departure.lateStores }, { on := 11, ground := Ground.textOnly Departure.lateStores }], guard := none }) rfl (fun K hK => ?_) AllReadyH.nil
  rw [if_pos (by rfl)]
  refine wp_store_ar ar25 _ _ rfl ga (zz 32) (own ks) rfl rfl hA (zz_length _) (own_length ks) ?_
  intro wz13 kz14 hgz15 hzz16
  have hz17 := Arr.grown hB hgz15 (by simp; omega)
  have hz18 := Arr.grown hC hgz15 (by simp; omega)
  have hwz19 := World.grownBy.andThen hG hgz15 (by rintro _ ⟨⟩; exact .inl (by omega))
  refine hK.out _ _ (C.Blk.grown hHeld hgz15 (by simp; omega)) (fun hHeld => ?_)
  clear hK K
  dsimp only [Act.put]
  refine wpAnyH_ready (rs := [13]) (by kernel_rfl) (by simp) ?_
  refine AllReadyH.cons (o := { dst := none, op := Op.store 22 (Operand.tmp 3) (Operand.tmp 21), type := 0, pos := "real.go:50", after := #[{ on := 7, ground := Ground.data }, { on := 12, ground := Ground.chain }, { on := 0, ground := Ground.phase }, { on := 1, ground := Ground.phase }, { on := 2, ground := Ground.phase }, { on := 3, ground := Ground.phase }, { on := 4, ground := Ground.phase }, { on := 5, ground := Ground.phase }, { on := 6, ground := Ground.phase }, { on := 7, ground := Ground.phase }, { on := 8, ground := Ground.textOnly Departure.lateStores }, { on := 9, ground := Ground.textOnly Departure.lateStoresUnsure }, { on := 10, ground := Ground.textOnly Departure.lateStores }, { on := 11, ground := Ground.textOnly Departure.lateStores }, { on := 12, ground := Ground.phase }], guard := none }) rfl (fun K hK => ?_) AllReadyH.nil
  rw [if_pos (by rfl)]
  refine wp_store_ar ar25 _ _ rfl gb (zz 32) (marker ks) rfl rfl hz17 (zz_length _) (marker_length ks) ?_
  intro wz20 kz21 hgz22 hzz23
  have hz24 := Arr.grown kz14 hgz22 (by simp; omega)
  have hz25 := Arr.grown hz18 hgz22 (by simp; omega)
  have hwz26 := World.grownBy.andThen hwz19 hgz22 (by rintro _ ⟨⟩; exact .inl (by omega))
  refine hK.out _ _ (C.Blk.grown hHeld hgz22 (by simp; omega)) (fun hHeld => ?_)
  clear hK K
  dsimp only [Act.put]
  refine wpAnyH_ready (rs := [14]) (by kernel_rfl) (by simp) ?_
  refine AllReadyH.cons (o := { dst := none, op := Op.store 48 (Operand.tmp 4) (Operand.tmp 25), type := 0, pos := "real.go:50", after := #[{ on := 11, ground := Ground.data }, { on := 13, ground := Ground.chain }, { on := 0, ground := Ground.phase }, { on := 1, ground := Ground.phase }, { on := 2, ground := Ground.phase }, { on := 3, ground := Ground.phase }, { on := 4, ground := Ground.phase }, { on := 5, ground := Ground.phase }, { on := 6, ground := Ground.phase }, { on := 7, ground := Ground.phase }, { on := 8, ground := Ground.phase }, { on := 9, ground := Ground.phase }, { on := 10, ground := Ground.phase }, { on := 11, ground := Ground.phase }, { on := 12, ground := Ground.phase }, { on := 13, ground := Ground.phase }], guard := none }) rfl (fun K hK => ?_) AllReadyH.nil
  rw [if_pos (by rfl)]
  refine wp_store_ar ar78 _ _ rfl gc (zz 16) (begin16 ks) rfl rfl hz25 (zz_length _) (begin16_length ks) ?_
  intro wz27 kz28 hgz29 hzz30
  have hz31 := Arr.grown hz24 hgz29 (by simp; omega)
  have hz32 := Arr.grown kz21 hgz29 (by simp; omega)
  have hwz33 := World.grownBy.andThen hwz26 hgz29 (by rintro _ ⟨⟩; exact .inl (by omega))
  refine hK.out _ _ (C.Blk.grown hHeld hgz29 (by simp; omega)) (fun hHeld => ?_)
  clear hK K
  dsimp only [Act.put]
  refine wpAnyH_done (by kernel_rfl) ?_ _
  go_wp2_with fail
  exact bodyPost_ret (results_three rfl _ _ ga gb gc (own ks) (marker ks) (begin16 ks) rfl rfl rfl hz31 hz32 kz28 (own_length ks) (marker_length ks) (begin16_length ks)) rfl ⟨rfl, hwz33⟩
end Go.Proofs.YtkbffponemihoaaGreatDoor
