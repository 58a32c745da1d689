/- What seals and opens in the real suite, in plain mathematics; the stamp. Conditions: the tables of the hash lie where the program lays them. -/
import Derived.Test.YtkbffponemihoaaGreatDoorU4
namespace Go.Proofs.YtkbffponemihoaaGreatDoor
open Go.RowKit T
/-- Sixteen bytes as a block. -/
def v16 (xs : List UInt8) : C.State := C.st xs 0
theorem v16_bl (xs : List UInt8) (h : xs.length = 16) : C.bl (v16 xs) = xs := by
  refine List.ext_getElem (by unfold C.bl; rw [List.length_map, List.length_finRange, h]) fun i h1 h2 => ?_
  show (List.map (fun i : Fin 16 => xs.getD (16 * 0 + i.val) 0) (List.finRange 16))[i]'(by simpa using (by omega : i < 16)) = xs[i]
  simp [h2]
theorem v16_bytes (xs : List UInt8) (h : xs.length = 16) : C.bytesOf (v16 xs) = u8s xs := by
  rw [C.bytesOf_bl, v16_bl xs h]
  rfl
/-- What is locked. -/
def body (ks plain : List UInt8) : List UInt8 := C.lockB (C.kn (own ks)) (v16 (begin16 ks)) plain
theorem body_length (ks plain : List UInt8) : (body ks plain).length = (plain.length / 16 + 1) * 16 := C.lockB_length _ _ _
/-- What stands behind it. -/
def stampB (ks b : List UInt8) : List UInt8 := (S.hmac (marker ks) b).take 16
theorem stampB_length (ks b : List UInt8) : (stampB ks b).length = 16 := by
  rw [stampB, List.length_take, S.hmac_length]
  rfl
/-- A text that is sealed. -/
def sealB (ks plain : List UInt8) : List UInt8 := body ks plain ++ stampB ks (body ks plain)
theorem sealB_length (ks plain : List UInt8) : (sealB ks plain).length = (plain.length / 16 + 2) * 16 := by
  rw [sealB, List.length_append, body_length, stampB_length]
  omega
/-- What is opened. -/
def openB (ks b : List UInt8) : Option (List UInt8) :=
  if 32 ≤ b.length ∧ stampB ks (b.take (b.length - 16)) = b.drop (b.length - 16) then (C.unlockB (C.kn (own ks)) (v16 (begin16 ks)) (b.take (b.length - 16))).filter fun s => decide (s.length ≤ 1024) else none
theorem open_seal (ks plain : List UInt8) (h : plain.length ≤ 1024) : openB ks (sealB ks plain) = some plain := by
  have hl := sealB_length ks plain
  have hb := body_length ks plain
  have e1 : (sealB ks plain).length - 16 = (body ks plain).length := by omega
  have e2 : (sealB ks plain).take (body ks plain).length = body ks plain := by unfold sealB; rw [List.take_left]
  have e3 : (sealB ks plain).drop (body ks plain).length = stampB ks (body ks plain) := by unfold sealB; rw [List.drop_left]
  unfold openB
  rw [e1, e2, e3, if_pos ⟨by omega, rfl⟩]
  unfold body
  rw [C.unlock_lockB]
  simp [h]
theorem seal_open (ks b plain : List UInt8) (h : openB ks b = some plain) : plain.length ≤ 1024 ∧ sealB ks plain = b := by
  unfold openB at h
  by_cases hc : 32 ≤ b.length ∧ stampB ks (b.take (b.length - 16)) = b.drop (b.length - 16)
  · rw [if_pos hc] at h
    obtain ⟨h1, h2⟩ := Option.filter_eq_some_iff.1 h
    have h3 : body ks plain = b.take (b.length - 16) := C.lock_unlockB _ _ _ _ h1
    refine ⟨by simpa using h2, ?_⟩
    rw [sealB, h3, hc.2, List.take_append_drop]
  · rw [if_neg hc] at h
    cases h
theorem lst_two {W : World} {ok : Nat → Prop} {A B : Option Addr} {xs ys : List UInt8} {n m c d : Nat} (hx : Byt W ok A xs) (hy : Byt W ok B ys) (hok : ∀ b, ok b → b < W.heap.size) (hn : xs.length = n) (hm : ys.length = m) (h1 : n ≤ c) (h2 : c ≤ maxLen) (h3 : m ≤ d) (h4 : d ≤ maxLen) :
    Lst (W.alloc (.cells #[.slice A n c, .slice B m d] 23)) (fun b => b < W.heap.size + 1) (some ⟨W.heap.size, 0, none⟩) [xs, ys] := by
  subst hn hm
  have hb : C.Blk (W.alloc (.cells #[.slice A xs.length c, .slice B ys.length d] 23)) W.heap.size 23 [.slice A xs.length c, .slice B ys.length d] := C.Blk.of_alloc W _ 23
  have hg := World.grownBy_alloc W (.cells #[.slice A xs.length c, .slice B ys.length d] 23) none
  have hx' := hx.grown hg fun b hb => ⟨hok b hb, by simp⟩
  have hy' := hy.grown hg fun b hb => ⟨hok b hb, by simp⟩
  generalize W.alloc (.cells #[.slice A xs.length c, .slice B ys.length d] 23) = V at hb hx' hy'
  intro j hj
  match j, hj with
  | 0, _ => exact ⟨_, A, c, rfl, Nat.lt_succ_self _, hb.get 0 _ rfl, h1, h2, hx'.imp fun b hb => Nat.lt_succ_of_lt (hok b hb)⟩
  | 1, _ => exact ⟨_, B, d, rfl, Nat.lt_succ_self _, hb.get 1 _ rfl, h3, h4, hy'.imp fun b hb => Nat.lt_succ_of_lt (hok b hb)⟩
set_option maxRecDepth 100000 in
set_option maxHeartbeats 1000000 in
theorem stamp_any {w : World} {ok : Nat → Prop} {A : Option Addr} {mk b : List UInt8} {n c : Nat} (hT : S.Tab w) (hl : mk.length = 32) (hx : Byt w ok A b) (hok : ∀ b, ok b → b < w.heap.size) (hn : b.length = n) (hc : n ≤ c) (hm : c ≤ maxLen) (hs : n ≤ 1000000) :
    Calls Tryz.prog 31 #[.agg (u8s mk).toArray, .slice A n c] w fun e w' => ∃ g, e = .returned (.slice (some ⟨g, 0, none⟩) 16 32) ∧ Arr w' 22 g (S.hmac mk b) ∧ w.heap.size ≤ g ∧ w.grownBy w' none := by
  have HT := Lib.hid hT
  have HL := Lib.hid hl
  have HX := Lib.hid hx
  have HO := Lib.hid hok
  clear hT hl hx hok
  go_enter Tryz.func31, Tryz.ntmps31
  go_wp2_with (refine wpList_box32 i34 rfl _ rfl mk rfl HL.out ?_)
  intro w1 k1 b1 z1
  have K1 : Hid (Arr w1 22 w.heap.size mk) := k1
  have G1 := Lib.hid (below_grown b1)
  have Z1 := Lib.hid z1
  clear k1 b1 z1
  obtain ⟨gk, hgk⟩ : ∃ g, g = w.heap.size := ⟨_, rfl⟩
  rw [← hgk] at K1 ⊢
  have W1 := Lib.hid hgk
  clear hgk
  have hc1 := S.mac_any (c1 := 32) (ok := fun b => b < w1.heap.size) (A1 := some ⟨gk, 0, none⟩) (key := mk) (Arr.byt (ok := fun b => b < w1.heap.size) K1.out (Arr.lt K1.out) : Byt w1 (fun b => b < w1.heap.size) (some ⟨gk, 0, none⟩) mk) ((HX.out.grown G1.out fun b hb => ⟨HO.out b hb, by simp⟩).imp fun b hb => Nat.lt_of_lt_of_le (HO.out b hb) G1.out.size) (fun _ h => h) HL.out hn (Nat.le_refl _) (by unfold maxLen; omega) hc hm (by omega) (by omega) (HT.out.grown G1.out (by simp) (by simp))
  go_wp2_with fail
  go_at_call 51
  refine hc1.mono ?_
  rintro _ w2 ⟨rfl, g2⟩
  clear hc1
  have G2 := Lib.hid (World.grownBy.trans G1.out g2)
  have Z2 := Lib.hid g2.size
  clear g2 G1 K1
  obtain ⟨hm1, hhm⟩ : ∃ x, x = S.hmac mk b := ⟨_, rfl⟩
  have hhl : hm1.length = 32 := by rw [hhm, S.hmac_length]
  have HM := Lib.hid hhm
  have HHL := Lib.hid hhl
  rw [← hhm]
  clear hhm hhl
  go_wp2_with (refine wpList_alloc_ar ar25 rfl rfl ?_)
  intro w3 k3 g3 z3
  obtain ⟨gc, hgc⟩ : ∃ g, g = w2.heap.size := ⟨_, rfl⟩
  rw [← hgc] at k3 z3 ⊢
  have K3 := Lib.hid k3
  have G3 := Lib.hid (World.grownBy.trans G2.out g3)
  have W3 : Hid (w.heap.size ≤ gc) := by rw [hgc]; exact G2.out.size
  clear k3 g3 z3 hgc
  go_wp2_with (refine wpList_store_ar ar25 rfl _ _ rfl gc (zz 32) hm1 rfl rfl K3.out (zz_length _) HHL.out ?_)
  intro w4 k4 g4 z4
  have K4 := Lib.hid k4
  have G4 := Lib.hid (World.grownBy.andThen G3.out g4 (by rintro _ ⟨⟩; exact .inl W3.out))
  clear k4 g4 z4
  go_wp2
  go_ret
  exact ⟨gc, rfl, by rw [← HM.out]; exact K4.out, W3.out, G4.out⟩
end Go.Proofs.YtkbffponemihoaaGreatDoor
