/- unlock: what is locked and stamped is opened. Conditions: the tables of the hash lie where the program lays them; no more than 5,000 bytes. -/
import Derived.Test.YtkbffponemihoaaGreatDoorU6
namespace Go.Proofs.YtkbffponemihoaaGreatDoor
open Go.RowKit T
/-- What is opened, or that nothing is. -/
def OpenE (w : World) (r : Option (List UInt8)) (e : Ending) (w' : World) : Prop :=
  w.grownBy w' none ∧ ((r = none ∧ e = .returned (.tuple #[.slice none 0 0, .bool false])) ∨
    ∃ s A c, r = some s ∧ e = .returned (.tuple #[.slice A s.length c, .bool true]) ∧ s.length ≤ c ∧ c ≤ maxLen ∧ Byt w' (fun b => b < w'.heap.size) A s)
theorem openE_none {w w' : World} {r : Option (List UInt8)} (h : r = none) (hg : w.grownBy w' none) : OpenE w r (.returned (.tuple #[.slice none 0 0, .bool false])) w' := ⟨hg, .inl ⟨h, rfl⟩⟩
theorem openE_some {w w' : World} {r : Option (List UInt8)} {s : List UInt8} {n c : Nat} {A : Option Addr} (h : r = some s) (hn : s.length = n) (hg : w.grownBy w' none) (h1 : n ≤ c) (h2 : c ≤ maxLen) (h3 : Byt w' (fun b => b < w'.heap.size) A s) : OpenE w r (.returned (.tuple #[.slice A n c, .bool true])) w' := by
  subst hn
  exact ⟨hg, .inr ⟨s, A, c, h, rfl, h1, h2, h3⟩⟩
theorem openB_short (ks b : List UInt8) (h : b.length < 32) : openB ks b = none := by
  unfold openB
  rw [if_neg (fun hc => by omega)]
set_option maxRecDepth 100000 in
set_option maxHeartbeats 4000000 in
theorem unlock_short {w : World} {A : Option Addr} {ks b : List UInt8} {n c : Nat} (hl : ks.length = 32) (hn : b.length = n) (hs : n < 32) :
    Calls Tryz.prog 25 #[.agg (u8s ks).toArray, .slice A n c] w (OpenE w (openB ks b)) := by
  have HL := Lib.hid hl
  have HF := Lib.hid (openB_short ks b (by omega))
  have d0 : ((n : Int) < 32) = True := by simp; omega
  have d1 : decide ((n : Int) < 32) = true := by simp; omega
  clear hl hn
  go_enter Tryz.func25, Tryz.ntmps25
  go_wp2_with (refine wpList_box32 i49 rfl _ rfl ks rfl HL.out ?_)
  intro w1 k1 b1 z1
  have K1 : Hid (Arr w1 40 w.heap.size ks) := k1
  have G1 := Lib.hid (below_grown b1)
  clear k1 b1 z1
  obtain ⟨gk, hgk⟩ : ∃ g, g = w.heap.size := ⟨_, rfl⟩
  rw [← hgk] at K1 ⊢
  clear hgk
  have hsz := siz_any w1 0
  rw [show sizeN 0 = 32 from rfl] at hsz
  go_wp2_with fail
  go_at_call 10
  refine hsz.mono ?_
  rintro _ w2 ⟨rfl, g2⟩
  have G2 := Lib.hid (World.grownBy.trans G1.out g2)
  clear hsz g2 G1 K1
  go_wp2
  go_ret2
  exact openE_none HF.out G2.out
theorem same_g {w : World} {ok ok' : Nat → Prop} {A B : Option Addr} {xs ys : List UInt8} {c d n m : Nat} (ha : Byt w ok A xs) (hb : Byt w ok' B ys) (hn : xs.length = n) (hm : ys.length = m) (hmax : n ≤ 9223372036854775807) :
    Calls Tryz.prog 40 #[.slice A n c, .slice B m d] w fun e w' => e = .returned (.bool (decide (xs = ys))) ∧ w = w' := S.same_any (ok := ok) (ok' := ok') (xs := xs) (ys := ys) ha hb hn hm hmax
theorem arr_cells {W : World} {t : TypeId} {g : Nat} {xs : List UInt8} (h : Arr W t g xs) : ∀ j v, (u8s xs)[j]? = some v → W.cell? ((⟨g, 0, none⟩ : Addr).add j) = some v := fun j v hv => by
  rw [Addr.add_lit, Nat.zero_add, cell_of_block h]
  simpa using hv
theorem byt_from {W : World} {ok : Nat → Prop} {ad : Addr} {xs : List UInt8} (h : Byt W ok (some ad) xs) (k c : Nat) (hk : k ≤ xs.length) (hc : xs.length ≤ c) (hne : c ≠ k) : Byt W ok (some (ad.add k)) (xs.drop k) := by
  have := h.drop hk hc
  rw [if_neg hne] at this
  exact this
theorem openB_other (ks b : List UInt8) {m : Nat} (hn : b.length = m + 16) (h : stampB ks (b.take m) ≠ b.drop m) : openB ks b = none := by
  unfold openB
  rw [if_neg (fun hc => h (by have := hc.2; rwa [hn, Nat.add_sub_cancel] at this))]
theorem openB_same (ks b : List UInt8) {m : Nat} (hn : b.length = m + 16) (h16 : 16 ≤ m) (h : stampB ks (b.take m) = b.drop m) : openB ks b = (C.unlockB (C.kn (own ks)) (v16 (begin16 ks)) (b.take m)).filter fun s => decide (s.length ≤ 1024) := by
  unfold openB
  rw [hn, Nat.add_sub_cancel, if_pos ⟨by omega, h⟩]
set_option maxRecDepth 100000 in
set_option maxHeartbeats 4000000 in
theorem unlock_long {w : World} {ok : Nat → Prop} {A : Option Addr} {ks b : List UInt8} {m c : Nat} (hT : S.Tab w) (hl : ks.length = 32) (hx : Byt w ok A b) (hok : ∀ g, ok g → g < w.heap.size) (hn : b.length = m + 16) (hc : m + 16 ≤ c) (hm : c ≤ maxLen) (hs : m ≤ 5000) (hs2 : 16 ≤ m) :
    Calls Tryz.prog 25 #[.agg (u8s ks).toArray, .slice A (m + 16) c] w (OpenE w (openB ks b)) := by
  obtain ⟨ad, rfl, -, -⟩ := hx.some_ (by omega)
  have hmc : m ≤ c := by omega
  have HT := Lib.hid hT
  have HL := Lib.hid hl
  have HX := Lib.hid hx
  have HO := Lib.hid hok
  have d0 : (((m + 16 : Nat) : Int) < 32) = False := by simp; omega
  have d1 : decide (((m + 16 : Nat) : Int) < 32) = false := by simp; omega
  have d2 : IntKind.i64.wrap (((m + 16 : Nat) : Int) - 16) = (m : Int) := by rw [IntKind.wrap_i64]; unfold maxLen at hm; omega
  obtain ⟨N, hN⟩ : ∃ N, m + 16 = N := ⟨_, rfl⟩
  rw [hN] at d0 d1 d2 hn hc ⊢
  have hmN : m ≤ N := by omega
  have HNL := Lib.hid hn
  have HNM := Lib.hid hN
  clear hT hl hx hok hn hN
  go_enter Tryz.func25, Tryz.ntmps25
  go_wp2_with (refine wpList_box32 i49 rfl _ rfl ks rfl HL.out ?_)
  intro w1 k1 b1 z1
  have K1 : Hid (Arr w1 40 w.heap.size ks) := k1
  have G1 := Lib.hid (below_grown b1)
  clear k1 b1 z1
  obtain ⟨gk, hgk⟩ : ∃ g, g = w.heap.size := ⟨_, rfl⟩
  rw [← hgk] at K1 ⊢
  clear hgk
  have hsz := siz_any w1 0
  rw [show sizeN 0 = 32 from rfl] at hsz
  go_wp2_with fail
  go_at_call 10
  refine hsz.mono ?_
  rintro _ w1b ⟨rfl, g1b⟩
  have K1b := Lib.hid (Arr.grown K1.out g1b (by simp))
  have G1b := Lib.hid (World.grownBy.trans G1.out g1b)
  clear hsz g1b G1 K1
  have T1 : Hid (S.Tab w1b) := HT.out.grown G1b.out (by simp) (by simp)
  have hsp := spread_any T1.out ks HL.out
  go_wp2_with (refine wpList_load32 i49 rfl _ rfl gk rfl ks K1b.out HL.out ?_)
  go_at_call 28
  refine hsp.mono ?_
  rintro _ w2 ⟨rfl, g2⟩
  have G2 := Lib.hid (World.grownBy.trans G1b.out g2)
  clear hsp g2 G1b K1b T1
  have T2 : Hid True := trivial
  go_wp2_with (refine wpList_alloc_ar ar25 rfl rfl ?_)
  intro w3 k3 g3 z3
  obtain ⟨ga, hga⟩ : ∃ g, g = w2.heap.size := ⟨_, rfl⟩
  rw [← hga] at k3 z3 ⊢
  have Z3 := Lib.hid z3
  have W3 := Lib.hid hga
  have K3 := Lib.hid k3
  have G3 := Lib.hid g3
  clear z3 hga k3 g3
  go_wp2_with (refine wpList_alloc_ar ar25 rfl rfl ?_)
  intro w4 k4 g4 z4
  obtain ⟨gb, hgb⟩ : ∃ g, g = w3.heap.size := ⟨_, rfl⟩
  rw [← hgb] at k4 z4 ⊢
  have Z4 := Lib.hid z4
  have W4 := Lib.hid hgb
  have K4 := Lib.hid k4
  have G4 := Lib.hid g4
  clear z4 hgb k4 g4
  go_wp2_with (refine wpList_alloc_ar ar78 rfl rfl ?_)
  intro w5 k5 g5 z5
  obtain ⟨gc, hgc⟩ : ∃ g, g = w4.heap.size := ⟨_, rfl⟩
  rw [← hgc] at k5 z5 ⊢
  have Z5 := Lib.hid z5
  have W5 := Lib.hid hgc
  have K5 := Lib.hid k5
  have G5 := Lib.hid g5
  clear z5 hgc k5 g5
  have HNN : Hid (w.heap.size ≤ ga ∧ ga < gb ∧ gb < gc ∧ gc < w5.heap.size) := by
    have := Z3.out; have := Z4.out; have := Z5.out; have := W3.out; have := W4.out; have := W5.out; have := G2.out.size
    show w.heap.size ≤ ga ∧ ga < gb ∧ gb < gc ∧ gc < w5.heap.size
    omega
  have XA := Lib.hid (Arr.grown (Arr.grown K3.out G4.out (by simp)) G5.out (by simp))
  have XB := Lib.hid (Arr.grown K4.out G5.out (by simp))
  have XC := K5
  have XG := Lib.hid (World.grownBy.trans G2.out (World.grownBy.trans G3.out (World.grownBy.trans G4.out G5.out)))
  clear K3 K4 K5 G2 G3 G4 G5 Z3 Z4 Z5 W3 W4 W5 T2
  go_wp2_with (refine wpList_store_ar ar25 rfl _ _ rfl ga (zz 32) (own ks) rfl rfl XA.out (zz_length _) (own_length ks) ?_)
  intro w6 k6 g6 z6
  obtain ⟨n1, n2, n3, n4⟩ := HNN.out
  have YA := Lib.hid k6
  have Y6B := Lib.hid (Arr.grown XB.out g6 (by simp; omega))
  have Y6C := Lib.hid (Arr.grown XC.out g6 (by simp; omega))
  have G6 := Lib.hid (World.grownBy.andThen XG.out g6 (by rintro _ ⟨⟩; exact .inl (by omega)))
  have HN6 : Hid (w.heap.size ≤ ga ∧ ga < gb ∧ gb < gc ∧ gc < w6.heap.size) := ⟨n1, n2, n3, by rw [z6]; exact n4⟩
  clear XA XB XC XG k6 g6 z6 HNN n1 n2 n3 n4
  have HNN := HN6
  clear HN6
  go_wp2_with (refine wpList_store_ar ar25 rfl _ _ rfl gb (zz 32) (marker ks) rfl rfl Y6B.out (zz_length _) (marker_length ks) ?_)
  intro w7 k7 g7 z7
  obtain ⟨n1, n2, n3, n4⟩ := HNN.out
  have YB := Lib.hid k7
  have Y7A := Lib.hid (Arr.grown YA.out g7 (by simp; omega))
  have Y7C := Lib.hid (Arr.grown Y6C.out g7 (by simp; omega))
  have G7 := Lib.hid (World.grownBy.andThen G6.out g7 (by rintro _ ⟨⟩; exact .inl (by omega)))
  have HN7 : Hid (w.heap.size ≤ ga ∧ ga < gb ∧ gb < gc ∧ gc < w7.heap.size) := ⟨n1, n2, n3, by rw [z7]; exact n4⟩
  clear Y6B YA Y6C G6 k7 g7 z7 HNN n1 n2 n3 n4
  have HNN := HN7
  clear HN7
  go_wp2_with (refine wpList_store_ar ar78 rfl _ _ rfl gc (zz 16) (begin16 ks) rfl rfl Y7C.out (zz_length _) (begin16_length ks) ?_)
  intro w8 k8 g8 z8
  obtain ⟨n1, n2, n3, n4⟩ := HNN.out
  have YC := Lib.hid k8
  have Y8A := Lib.hid (Arr.grown Y7A.out g8 (by simp; omega))
  have Y8B := Lib.hid (Arr.grown YB.out g8 (by simp; omega))
  have G8 := Lib.hid (World.grownBy.andThen G7.out g8 (by rintro _ ⟨⟩; exact .inl (by omega)))
  have HN8 : Hid (w.heap.size ≤ ga ∧ ga < gb ∧ gb < gc ∧ gc < w8.heap.size) := ⟨n1, n2, n3, by rw [z8]; exact n4⟩
  clear Y7C Y7A YB G7 k8 g8 z8 HNN n1 n2 n3 n4
  have HNN := HN8
  clear HN8
  have UA := Y8A
  have UB := Y8B
  have UC := YC
  clear Y8A Y8B YC
  have T8 : Hid (S.Tab w8) := HT.out.grown G8.out (by simp) (by simp)
  go_wp2_with fail
  obtain ⟨n1, n2, n3, n4⟩ := HNN.out
  have hA : Arr w8.drew 22 ga (own ks) := UA.out
  have hB : Arr w8.drew 22 gb (marker ks) := UB.out
  have hC : Arr w8.drew 48 gc (begin16 ks) := UC.out
  have hTB : S.Tab w8.drew := T8.out
  have hG : w.grownBy w8.drew none := ⟨G8.out.os, G8.out.tape, G8.out.output, G8.out.size, G8.out.block⟩
  have hXB : Byt w8.drew ok (some ad) b := HX.out.grown hG fun b hb => ⟨HO.out b hb, by simp⟩
  have hOB : ∀ b, ok b → b < w8.drew.heap.size := fun b hb => Nat.lt_of_lt_of_le (HO.out b hb) hG.size
  have hNL := HNL.out
  have hNB : b.length = m + 16 := HNL.out.trans HNM.out.symm
  have hNM := HNM.out
  obtain ⟨q, hq⟩ : ∃ q, decide (stampB ks (b.take m) = b.drop m) = q := ⟨_, rfl⟩
  have hst := stamp_any (c := c) (n := m) hTB (marker_length ks) (hXB.take m) hOB (by rw [List.length_take, hNL]; omega) (by omega) hm (by omega)
  clear UA UB UC T8 G8 HNN HX HO HT
  refine wp_region_held_drew (S := fun W => Arr W 22 gb (marker ks)) (by kernel_rfl) hB (fun hHeld => ?_)
  clear hB
  refine' wpAnyH_take (i := 0) (oi := { dst := some 29, op := Op.load 22 (Operand.tmp 7), type := 22, pos := "real.go:36", after := #[], guard := none }) (v := .agg (u8s (marker ks)).toArray) rfl (by kernel_rfl) (by kernel_rfl) (by kernel_rfl) (fun _ _ _ h => h) (yieldsIf_load_ar ar25 (by rfl) _ rfl ⟨gb, 0, none⟩ rfl (marker ks) (marker_length ks) (fun W hW => arr_cells hW)) (by assumption) ?qz1
  try simp only [Act.put, List.setIfInBounds_toArray, List.set_cons_zero, List.set_cons_succ]
  refine' wpAnyH_take (i := 1) (oi := { dst := some 30, op := Op.move (Operand.tmp 10), type := 23, pos := "real.go:36", after := #[], guard := none }) (v := .slice (some ad) m c) rfl (by kernel_rfl) (by kernel_rfl) (by kernel_rfl) (fun _ _ _ h => h) (Or.inl ⟨by rfl, fun _ _ => rfl⟩) (by assumption) ?qz2
  try simp only [Act.put, List.setIfInBounds_toArray, List.set_cons_zero, List.set_cons_succ]
  refine' wpAnyH_take (i := 3) (oi := { dst := some 32, op := Op.move (Operand.tmp 1), type := 23, pos := "real.go:36", after := #[], guard := none }) (v := .slice (some ad) N c) rfl (by kernel_rfl) (by kernel_rfl) (by kernel_rfl) (fun _ _ _ h => h) (Or.inl ⟨by rfl, fun _ _ => rfl⟩) (by assumption) ?qz3
  try simp only [Act.put, List.setIfInBounds_toArray, List.set_cons_zero, List.set_cons_succ]
  refine' wpAnyH_take (i := 4) (oi := { dst := some 33, op := Op.move (Operand.tmp 9), type := 3, pos := "real.go:36", after := #[], guard := none }) (v := .int .i64 m) rfl (by kernel_rfl) (by kernel_rfl) (by kernel_rfl) (fun _ _ _ h => h) (Or.inl ⟨by rfl, fun _ _ => rfl⟩) (by assumption) ?qz4
  try simp only [Act.put, List.setIfInBounds_toArray, List.set_cons_zero, List.set_cons_succ]
  refine' wpAnyH_take (i := 5) (oi := { dst := some 34, op := Op.slice 23 (Operand.tmp 32) (some (Operand.tmp 33)) none none, type := 23, pos := "real.go:36", after := #[{ on := 3, ground := Ground.data }, { on := 4, ground := Ground.data }], guard := none }) (v := .slice (some (ad.add m)) (N - m) (c - m)) rfl (by kernel_rfl) (by kernel_rfl) (by kernel_rfl) (fun _ _ _ h => h) (C.yieldsIf_from (by rfl) _ _ rfl ad N c m rfl rfl (by omega) hc rfl) (by assumption) ?qz5
  try simp only [Act.put, List.setIfInBounds_toArray, List.set_cons_zero, List.set_cons_succ]
  refine wpAnyH_ready (rs := [2]) (by kernel_rfl) (by simp) ?_
  refine AllReadyH.cons (o := { dst := some 31, op := Op.call { callee := Callee.value (Operand.func 31), args := #[Operand.tmp 29, Operand.tmp 30], argTypes := #[22, 23] }, type := 23, pos := "real.go:36", after := #[{ on := 0, ground := Ground.data }, { on := 1, ground := Ground.data }], guard := none }) rfl (fun K hK => ?_) AllReadyH.nil
  rw [if_pos (by rfl)]
  go_simp
  with_reducible refine hst.mono ?_
  rintro _ w9 ⟨gs, rfl, k9, n9, g9⟩
  refine hK.out _ _ (Arr.grown hHeld g9 (by simp)) (fun hHeld => ?_)
  clear hK K
  try simp only [Act.put, List.setIfInBounds_toArray, List.set_cons_zero, List.set_cons_succ]
  refine wpAnyH_ready (rs := [6]) (by kernel_rfl) (by simp) ?_
  refine AllReadyH.cons (o := { dst := some 35, op := Op.call { callee := Callee.value (Operand.func 40), args := #[Operand.tmp 31, Operand.tmp 34], argTypes := #[23, 23] }, type := 4, pos := "real.go:36", after := #[{ on := 2, ground := Ground.data }, { on := 5, ground := Ground.data }, { on := 2, ground := Ground.chain }], guard := none }) rfl (fun K hK => ?_) AllReadyH.nil
  rw [if_pos (by rfl)]
  go_simp
  have hy9 : Byt w9 (fun b => b < w9.heap.size) (some ⟨gs, 0, none⟩) (stampB ks (b.take m)) := (Arr.byt (ok := fun b => b < w9.heap.size) k9 (Arr.lt k9)).take 16
  have hx9 : Byt w9 ok (some (ad.add m)) (b.drop m) := byt_from (hXB.grown g9 fun b hb => ⟨hOB b hb, by simp⟩) m c (by omega) (by omega) (by omega)
  have hsm := same_g (c := 32) (d := c - m) hy9 hx9 (stampB_length _ _) (by rw [List.length_drop]) (by omega)
  rw [hq, hNL] at hsm
  with_reducible refine hsm.mono ?_
  rintro _ w10 ⟨rfl, rfl⟩
  clear hsm
  refine hK.out _ _ hHeld (fun hHeld => ?_)
  clear hK K
  try simp only [Act.put, List.setIfInBounds_toArray, List.set_cons_zero, List.set_cons_succ]
  refine wpAnyH_ready (rs := [7]) (by kernel_rfl) (by simp) ?_
  refine AllReadyH.cons (o := { dst := some 36, op := Op.unOp UnOp.not 4 (Operand.tmp 35), type := 4, pos := "real.go:36", after := #[{ on := 6, ground := Ground.data }], guard := none }) rfl (fun K hK => ?_) AllReadyH.nil
  rw [if_pos (by rfl)]
  go_simp
  refine hK.out _ _ hHeld (fun hHeld => ?_)
  clear hK K
  try simp only [Act.put, List.setIfInBounds_toArray, List.set_cons_zero, List.set_cons_succ]
  refine wpAnyH_done (by kernel_rfl) ?_ _
  have UA9 := Lib.hid (Arr.grown hA g9 (by simp))
  have UC9 := Lib.hid (Arr.grown hC g9 (by simp))
  have X9 := Lib.hid (hXB.grown g9 fun b hb => ⟨hOB b hb, by simp⟩)
  have OK9 : Hid (∀ b, ok b → b < w9.heap.size) := fun b hb => Nat.lt_of_lt_of_le (hOB b hb) g9.size
  have G9 := Lib.hid (World.grownBy.trans hG g9)
  have QQ := Lib.hid hq
  clear hst g9 k9 n9 hA hC hXB hG hHeld hq hOB hTB
  cases q
  · have hf := openB_other ks b hNB (of_decide_eq_false QQ.out)
    have HF := Lib.hid hf
    clear hf hNB hNL
    go_wp2
    go_ret2
    exact openE_none HF.out G9.out
  · have hf := openB_same ks b hNB hs2 (of_decide_eq_true QQ.out)
    have HF := Lib.hid hf
    have hun := uncbc_g (c := c) (X9.out.take m) OK9.out (by rw [List.length_take, hNL]; omega) (by omega) hm (by omega) (own_length ks) (begin16_length ks) (n := m)
    clear hf hNB hNL QQ
    go_wp2_with (first | (refine wpList_load_ar ar25 rfl _ rfl ga rfl (own ks) UA9.out (own_length ks) ?_) | (refine wpList_load_ar ar78 rfl _ rfl gc rfl (begin16 ks) UC9.out (begin16_length ks) ?_))
    go_at_call 41
    refine hun.mono ?_
    rintro _ w11 ⟨g11, h11⟩
    have G11 := Lib.hid (World.grownBy.trans G9.out g11)
    clear hun g11 UA9 UC9 X9 OK9 G9
    rcases h11 with ⟨s, A', c', hu, rfl, q1, q2, q3⟩ | ⟨A', c', hu, rfl⟩
    · obtain ⟨l, hl⟩ : ∃ l, s.length = l := ⟨_, rfl⟩
      rw [hl] at q1 ⊢
      have HLL := Lib.hid hl
      have Q3 := Lib.hid q3
      have HU := Lib.hid hu
      by_cases hbig : l ≤ 1024
      · have d3 : ((1024 : Int) < (l : Int)) = False := by simp; omega
        have d4 : decide ((1024 : Int) < (l : Int)) = false := by simp; omega
        clear q3 hu hl
        go_wp2
        go_ret2
        exact openE_some (by rw [HF.out, HU.out]; simp [HLL.out, hbig]) HLL.out G11.out q1 q2 Q3.out
      · have d3 : ((1024 : Int) < (l : Int)) = True := by simp; omega
        have d4 : decide ((1024 : Int) < (l : Int)) = true := by simp; omega
        clear q3 hu hl
        go_wp2
        go_ret2
        exact openE_none (by rw [HF.out, HU.out]; simp [HLL.out]; omega) G11.out
    · have HU := Lib.hid hu
      clear hu
      go_wp2
      go_ret2
      exact openE_none (by rw [HF.out, HU.out]; rfl) G11.out
theorem unlock_any {w : World} {ok : Nat → Prop} {A : Option Addr} {ks b : List UInt8} {n c : Nat} (hT : S.Tab w) (hl : ks.length = 32) (hx : Byt w ok A b) (hok : ∀ g, ok g → g < w.heap.size) (hn : b.length = n) (hc : n ≤ c) (hm : c ≤ maxLen) (hs : n ≤ 5000) :
    Calls Tryz.prog 25 #[.agg (u8s ks).toArray, .slice A n c] w (OpenE w (openB ks b)) := by
  by_cases h : n < 32
  · exact unlock_short hl hn h
  · obtain ⟨m, rfl⟩ : ∃ m, n = m + 16 := ⟨n - 16, by omega⟩
    exact unlock_long hT hl hx hok hn hc hm (by omega) (by omega)
end Go.Proofs.YtkbffponemihoaaGreatDoor
