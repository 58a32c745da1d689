/- lock: a text is locked and stamped. Conditions: the tables of the hash lie where the program lays them; the text is of no more than 1,024 bytes. Size tells the document's sizes. Conditions: none. -/
import Derived.Test.YtkbffponemihoaaGreatDoorU5
namespace Go.Proofs.YtkbffponemihoaaGreatDoor
open Go.RowKit T
/-- How many bytes Seal makes of n. -/
def sizeN (n : Int) : Int := if n < 0 ∨ 1024 < n then 0 else n - n % 16 + 32
theorem sizeN_len (n : Nat) (h : n ≤ 1024) : sizeN n = (((n / 16 + 2) * 16 : Nat) : Int) := by
  unfold sizeN
  rw [if_neg (by omega)]
  omega
theorem siz_any (w : World) (n : Int) : Calls Tryz.prog 10 #[.int .i64 n] w fun e w' => e = .returned (.int .i64 (sizeN n)) ∧ w.grownBy w' none := by
  by_cases h0 : n < 0
  · have e : sizeN n = 0 := if_pos (.inl h0)
    rw [e]
    have d0 : decide (n < 0) = true := decide_eq_true h0
    go_enter Tryz.func10, Tryz.ntmps10
    go_wp2
    go_ret
    exact ⟨rfl, World.grownBy.refl _ _⟩
  · have d0 : decide (n < 0) = false := decide_eq_false h0
    by_cases h1 : 1024 < n
    · have e : sizeN n = 0 := if_pos (.inr h1)
      rw [e]
      have d1 : decide (1024 < n) = true := decide_eq_true h1
      go_enter Tryz.func10, Tryz.ntmps10
      go_wp2
      go_ret
      exact ⟨rfl, World.grownBy.refl _ _⟩
    · have e : sizeN n = n - n % 16 + 32 := if_neg (by omega)
      rw [e]
      have d1 : decide (1024 < n) = false := decide_eq_false h1
      have d2 : IntKind.i64.wrap (n - n % 16 + 16 + 16) = n - n % 16 + 32 := by rw [IntKind.wrap_i64]; omega
      have hs := C.size_any w n
      rw [if_neg (by omega)] at hs
      go_enter Tryz.func10, Tryz.ntmps10
      go_wp2_with (go_at_call 24; refine hs.mono ?_; rintro _ w' ⟨rfl, hg⟩)
      go_ret
      exact ⟨rfl, hg⟩
/-- A locked text in new memory. -/
def NewG (w : World) (xs : List UInt8) (e : Ending) (w' : World) : Prop :=
  ∃ A c, e = .returned (.slice A xs.length c) ∧ xs.length ≤ c ∧ c ≤ maxLen ∧ Byt w' (fun b => w.heap.size ≤ b ∧ b < w'.heap.size) A xs ∧ w.grownBy w' none
theorem cbc_g {w : World} {ok : Nat → Prop} {A : Option Addr} {text ks vs : List UInt8} {n c : Nat} (hx : Byt w ok A text) (hok : ∀ b, ok b → b < w.heap.size) (hn : text.length = n) (hc : n ≤ c) (hm : c ≤ maxLen) (hs : n ≤ 1000000) (hk : ks.length = 32) (hv : vs.length = 16) :
    Calls Tryz.prog 29 #[.agg (u8s ks).toArray, .agg (u8s vs).toArray, .slice A n c] w (NewG w (C.lockB (C.kn ks) (v16 vs) text)) := by
  obtain ⟨k, rfl⟩ := k32_of ks hk
  rw [← v16_bytes vs hv]
  exact C.cbclock_any w ok A text n c hx hok hn hc hm hs k (v16 vs)
theorem uncbc_g {w : World} {ok : Nat → Prop} {A : Option Addr} {b ks vs : List UInt8} {n c : Nat} (hx : Byt w ok A b) (hok : ∀ g, ok g → g < w.heap.size) (hn : b.length = n) (hc : n ≤ c) (hm : c ≤ maxLen) (hs : n ≤ 1000016) (hk : ks.length = 32) (hv : vs.length = 16) :
    Calls Tryz.prog 41 #[.agg (u8s ks).toArray, .agg (u8s vs).toArray, .slice A n c] w fun e w' => w.grownBy w' none ∧
      ((∃ s A' c', C.unlockB (C.kn ks) (v16 vs) b = some s ∧ e = .returned (.tuple #[.slice A' s.length c', .bool true]) ∧ s.length ≤ c' ∧ c' ≤ maxLen ∧ Byt w' (fun g => g < w'.heap.size) A' s) ∨
       (∃ A' c', C.unlockB (C.kn ks) (v16 vs) b = none ∧ e = .returned (.tuple #[.slice A' 0 c', .bool false]))) := by
  obtain ⟨k, rfl⟩ := k32_of ks hk
  rw [← v16_bytes vs hv]
  exact C.cbcunlock_any w ok A b n c hx hok hn hc hm hs k (v16 vs)
set_option maxRecDepth 100000 in
set_option maxHeartbeats 4000000 in
theorem lock_any {w : World} {ok : Nat → Prop} {A : Option Addr} {ks plain : List UInt8} {n c : Nat} (hT : S.Tab w) (hl : ks.length = 32) (hx : Byt w ok A plain) (hok : ∀ b, ok b → b < w.heap.size) (hn : plain.length = n) (hc : n ≤ c) (hm : c ≤ maxLen) (hs : n ≤ 1024) :
    Calls Tryz.prog 16 #[.agg (u8s ks).toArray, .slice A n c] w (NewG w (sealB ks plain)) := by
  have HT := Lib.hid hT
  have HL := Lib.hid hl
  have HX := Lib.hid hx
  have HO := Lib.hid hok
  have HNL := Lib.hid hn
  clear hT hl hx hok
  go_enter Tryz.func16, Tryz.ntmps16
  go_wp2_with (refine wpList_box32 i49 rfl _ rfl ks rfl HL.out ?_)
  intro w1 k1 b1 z1
  have K1 : Hid (Arr w1 40 w.heap.size ks) := k1
  have G1 := Lib.hid (below_grown b1)
  clear k1 b1 z1
  obtain ⟨gk, hgk⟩ : ∃ g, g = w.heap.size := ⟨_, rfl⟩
  rw [← hgk] at K1 ⊢
  clear hgk
  have T1 : Hid (S.Tab w1) := HT.out.grown G1.out (by simp) (by simp)
  have hsp := spread_any T1.out ks HL.out
  go_wp2_with (refine wpList_load32 i49 rfl _ rfl gk rfl ks K1.out HL.out ?_)
  go_at_call 28
  refine hsp.mono ?_
  rintro _ w2 ⟨rfl, g2⟩
  have G2 := Lib.hid (World.grownBy.trans G1.out g2)
  clear hsp g2 G1 K1 T1
  have T2 : Hid True := trivial
  go_wp2_with (refine wpList_alloc_ar ar25 rfl rfl ?_)
  intro w3 k3 g3 z3
  obtain ⟨ga, hga⟩ : ∃ g, g = w2.heap.size := ⟨_, rfl⟩
  rw [← hga] at k3 z3 ⊢
  have Z3 := Lib.hid z3
  have W3 := Lib.hid hga
  have K3 := Lib.hid k3
  have G3 := Lib.hid g3
  clear z3 hga k3 g3
  go_wp2_with (refine wpList_alloc_ar ar25 rfl rfl ?_)
  intro w4 k4 g4 z4
  obtain ⟨gb, hgb⟩ : ∃ g, g = w3.heap.size := ⟨_, rfl⟩
  rw [← hgb] at k4 z4 ⊢
  have Z4 := Lib.hid z4
  have W4 := Lib.hid hgb
  have K4 := Lib.hid k4
  have G4 := Lib.hid g4
  clear z4 hgb k4 g4
  go_wp2_with (refine wpList_alloc_ar ar78 rfl rfl ?_)
  intro w5 k5 g5 z5
  obtain ⟨gc, hgc⟩ : ∃ g, g = w4.heap.size := ⟨_, rfl⟩
  rw [← hgc] at k5 z5 ⊢
  have Z5 := Lib.hid z5
  have W5 := Lib.hid hgc
  have K5 := Lib.hid k5
  have G5 := Lib.hid g5
  clear z5 hgc k5 g5
  have HNN : Hid (w.heap.size ≤ ga ∧ ga < gb ∧ gb < gc ∧ gc < w5.heap.size) := by
    have := Z3.out; have := Z4.out; have := Z5.out; have := W3.out; have := W4.out; have := W5.out; have := G2.out.size
    show w.heap.size ≤ ga ∧ ga < gb ∧ gb < gc ∧ gc < w5.heap.size
    omega
  have XA := Lib.hid (Arr.grown (Arr.grown K3.out G4.out (by simp)) G5.out (by simp))
  have XB := Lib.hid (Arr.grown K4.out G5.out (by simp))
  have XC := K5
  have XG := Lib.hid (World.grownBy.trans G2.out (World.grownBy.trans G3.out (World.grownBy.trans G4.out G5.out)))
  clear K3 K4 K5 G2 G3 G4 G5 Z3 Z4 Z5 W3 W4 W5 T2
  go_wp2_with (refine wpList_store_ar ar25 rfl _ _ rfl ga (zz 32) (own ks) rfl rfl XA.out (zz_length _) (own_length ks) ?_)
  intro w6 k6 g6 z6
  obtain ⟨n1, n2, n3, n4⟩ := HNN.out
  have YA := Lib.hid k6
  have Y6B := Lib.hid (Arr.grown XB.out g6 (by simp; omega))
  have Y6C := Lib.hid (Arr.grown XC.out g6 (by simp; omega))
  have G6 := Lib.hid (World.grownBy.andThen XG.out g6 (by rintro _ ⟨⟩; exact .inl (by omega)))
  have HN6 : Hid (w.heap.size ≤ ga ∧ ga < gb ∧ gb < gc ∧ gc < w6.heap.size) := ⟨n1, n2, n3, by rw [z6]; exact n4⟩
  clear XA XB XC XG k6 g6 z6 HNN n1 n2 n3 n4
  have HNN := HN6
  clear HN6
  go_wp2_with (refine wpList_store_ar ar25 rfl _ _ rfl gb (zz 32) (marker ks) rfl rfl Y6B.out (zz_length _) (marker_length ks) ?_)
  intro w7 k7 g7 z7
  obtain ⟨n1, n2, n3, n4⟩ := HNN.out
  have YB := Lib.hid k7
  have Y7A := Lib.hid (Arr.grown YA.out g7 (by simp; omega))
  have Y7C := Lib.hid (Arr.grown Y6C.out g7 (by simp; omega))
  have G7 := Lib.hid (World.grownBy.andThen G6.out g7 (by rintro _ ⟨⟩; exact .inl (by omega)))
  have HN7 : Hid (w.heap.size ≤ ga ∧ ga < gb ∧ gb < gc ∧ gc < w7.heap.size) := ⟨n1, n2, n3, by rw [z7]; exact n4⟩
  clear Y6B YA Y6C G6 k7 g7 z7 HNN n1 n2 n3 n4
  have HNN := HN7
  clear HN7
  go_wp2_with (refine wpList_store_ar ar78 rfl _ _ rfl gc (zz 16) (begin16 ks) rfl rfl Y7C.out (zz_length _) (begin16_length ks) ?_)
  intro w8 k8 g8 z8
  obtain ⟨n1, n2, n3, n4⟩ := HNN.out
  have YC := Lib.hid k8
  have Y8A := Lib.hid (Arr.grown Y7A.out g8 (by simp; omega))
  have Y8B := Lib.hid (Arr.grown YB.out g8 (by simp; omega))
  have G8 := Lib.hid (World.grownBy.andThen G7.out g8 (by rintro _ ⟨⟩; exact .inl (by omega)))
  have HN8 : Hid (w.heap.size ≤ ga ∧ ga < gb ∧ gb < gc ∧ gc < w8.heap.size) := ⟨n1, n2, n3, by rw [z8]; exact n4⟩
  clear Y7C Y7A YB G7 k8 g8 z8 HNN n1 n2 n3 n4
  have HNN := HN8
  clear HN8
  have UA := Y8A
  have UB := Y8B
  have UC := YC
  clear Y8A Y8B YC
  have T8 : Hid (S.Tab w8) := HT.out.grown G8.out (by simp) (by simp)
  have X8 : Hid (Byt w8 (fun b => b < w8.heap.size) A plain) := (HX.out.grown G8.out fun b hb => ⟨HO.out b hb, by simp⟩).imp fun b hb => Nat.lt_of_lt_of_le (HO.out b hb) G8.out.size
  have hcb : Calls Tryz.prog 29 #[.agg (u8s (own ks)).toArray, .agg (u8s (begin16 ks)).toArray, .slice A n c] w8 (NewG w8 (body ks plain)) := cbc_g X8.out (fun _ h => h) HNL.out hc hm (by omega) (own_length ks) (begin16_length ks)
  go_wp2_with (first | (refine wpList_load_ar ar25 rfl _ rfl ga rfl (own ks) UA.out (own_length ks) ?_) | (refine wpList_load_ar ar78 rfl _ rfl gc rfl (begin16 ks) UC.out (begin16_length ks) ?_))
  go_at_call 29
  refine hcb.mono ?_
  rintro _ w9 ⟨A9, c9, rfl, h1, h2, h3, g9⟩
  obtain ⟨bd, hbd⟩ : ∃ x, x = body ks plain := ⟨_, rfl⟩
  have hbl := body_length ks plain
  have hsl : sealB ks plain = bd ++ stampB ks bd := by rw [hbd]; rfl
  rw [← hbd] at hbl h1 h3 ⊢
  obtain ⟨m, hml⟩ : ∃ m, bd.length = m := ⟨_, rfl⟩
  rw [hml] at hbl h1 ⊢
  have hm1 : m ≤ 1040 := by rw [hbl, HNL.out]; omega
  have HSL := Lib.hid hsl
  have HML := Lib.hid hml
  have X9 : Hid (Byt w9 (fun b => w8.heap.size ≤ b ∧ b < w9.heap.size) A9 bd) := h3
  have UB9 := Lib.hid (Arr.grown UB.out g9 (by simp))
  have T9 : Hid (S.Tab w9) := T8.out.grown g9 (by simp) (by simp)
  have G9 := Lib.hid (World.grownBy.trans G8.out g9)
  clear hcb h3 g9 UA UB UC T8 G8 X8 HNN hbd hbl hsl hml
  have hst := stamp_any T9.out (marker_length ks) (X9.out.imp fun b hb => hb.2) (fun _ h => h) HML.out h1 h2 (by omega)
  go_wp2_with (refine wpList_load_ar ar25 rfl _ rfl gb rfl (marker ks) UB9.out (marker_length ks) ?_)
  go_at_call 31
  refine hst.mono ?_
  rintro _ w10 ⟨gs, rfl, k10, n10, g10⟩
  have X10 : Hid (Byt w10 (fun b => b < w10.heap.size) A9 bd) := (X9.out.grown g10 fun b hb => ⟨hb.2, by simp⟩).imp fun b hb => Nat.lt_of_lt_of_le hb.2 g10.size
  have Y10 : Hid (Byt w10 (fun b => b < w10.heap.size) (some ⟨gs, 0, none⟩) (stampB ks bd)) := (Arr.byt (ok := fun b => b < w10.heap.size) k10 (Arr.lt k10)).take 16
  have G10 := Lib.hid (World.grownBy.trans G9.out g10)
  have hls := lst_two X10.out Y10.out (fun _ h => h) HML.out (stampB_length ks bd) h1 h2 (by omega : 16 ≤ 32) (by unfold maxLen; omega)
  have hga := World.grownBy_alloc w10 (.cells #[.slice A9 m c9, .slice (some ⟨gs, 0, none⟩) 16 32] 23) none
  have LS := Lib.hid hls
  have GA := Lib.hid (World.grownBy.trans G10.out hga)
  clear hst k10 n10 g10 X9 UB9 T9 G9 X10 Y10 hls hga G10
  go_wp2_with fail
  obtain ⟨w11, hw11⟩ : ∃ w', w10.alloc (.cells #[.slice A9 m c9, .slice (some ⟨gs, 0, none⟩) 16 32] 23) = w' := ⟨_, rfl⟩
  have hsz : w11.heap.size = w10.heap.size + 1 := by rw [← hw11]; simp
  rw [hw11] at LS GA ⊢
  have hfl : [bd, stampB ks bd].flatten = sealB ks plain := by rw [HSL.out]; simp
  have hsn : (sealB ks plain).length = m + 16 := by rw [HSL.out, List.length_append, stampB_length, HML.out]
  have hcc := concat_any (n := 2) (c := 2) LS.out (fun b hb => by rw [hsz]; exact hb) rfl (by omega) (by rw [hfl, hsn]; omega) (by rw [hfl, hsn]; omega)
  rw [hfl] at hcc
  have SZ := Lib.hid GA.out.size
  clear hw11 hsz hfl hsn LS
  go_at_call 30
  refine hcc.mono ?_
  rintro _ w12 ⟨A12, c12, rfl, q1, q2, q3, q4⟩
  have Q1 := Lib.hid q1
  have Q2 := Lib.hid q2
  have Q3 := Lib.hid q3
  have Q4 := Lib.hid (World.grownBy.trans GA.out (below_grown q4))
  clear hcc q1 q2 q3 q4 GA
  go_wp2
  go_ret
  exact ⟨A12, c12, rfl, Q1.out, Q2.out, Q3.out.imp fun b hb => ⟨Nat.le_trans SZ.out hb.1, hb.2⟩, Q4.out⟩
end Go.Proofs.YtkbffponemihoaaGreatDoor
