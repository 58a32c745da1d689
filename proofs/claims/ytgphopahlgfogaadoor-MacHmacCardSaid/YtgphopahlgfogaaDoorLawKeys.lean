/- MacKeys: bytes 0 behind a key, and a long key's hash in its place, change nothing. Conditions: none. -/
import Derived.Test.YtgphopahlgfogaaDoorOpen
import Derived.Test.YtgphopahlgfogaaDoorCards
import Derived.Test.YtgphopahlgfogaaDoorTie
import Derived.Stop.BytesEq
namespace Go.Proofs.YtgphopahlgfogaaDoor
open Go.RowKit Go.ChangeShapes Go.WideShapes Go.ChangeAt
theorem size5 (w : World) : (sizeOf 5).run Tryd.prog w = .ok 1 w := by kernel_rfl
theorem key_eq (xs ys : List UInt8) (hx : xs.length = 32) (hy : ys.length = 32) (w : World) : (binOp .eql 24 (.agg (u8s xs).toArray) (.agg (u8s ys).toArray)).run Tryd.prog w = .ok (.bool (xs == ys)) w :=
  run_eql_bytes (P := Tryd.prog) w 24 5 32 Tryd.underlying24 Tryd.underlying5 size5 xs ys hx hy
theorem key_same (xs : List UInt8) (hx : xs.length = 32) (w : World) : (binOp .eql 24 (.agg (u8s xs).toArray) (.agg (u8s xs).toArray)).run Tryd.prog w = .ok (.bool true) w := by
  have h := key_eq xs xs hx hx w
  rw [beq_self_eq_true] at h
  exact h
theorem guard24 : Tryd.prog.eqGuardType Tryd.prog.depth 24 = false := by kernel_rfl
theorem wpList_same24 {w : World} {ops : Array Oper} {rest : List Oper} {o : Oper} {a : Act} {Q : Exit → Act → World → Prop} (hgd : o.guard = none) (x y : Operand) (ho : o.op = .binOp .eql 24 x y 24)
    (ks : List UInt8) (hx : a.eval x = .agg (u8s ks).toArray) (hy : a.eval y = .agg (u8s ks).toArray) (hl : ks.length = 32) (h : wpList Tryd.prog ops Q rest (a.put o.dst (.bool true)) w) : wpList Tryd.prog ops Q (o :: rest) a w := by
  refine wpList_plain hgd fun K hK => ?_
  have hrun := key_same ks hl w
  unfold Oper.wp execOp
  simp only [ho, hx, hy, hrun, run_eqGuard_agg _ _ _ _ _ _ _ guard24, Sem.run_bind, Result.andThen_ok]
  exact hK _ _ h
theorem kpad_hash (key : List UInt8) (h : 64 < key.length) : kpad (sha256 key) = kpad key := by
  unfold kpad
  rw [if_pos h, sha256_length, if_neg (by decide)]
  rw [sha256_length]
theorem kpad_zeros (key : List UInt8) (j : Nat) (h : key.length + j ≤ 64) : kpad (key ++ zs j) = kpad key := by
  have hl : (key ++ zs j).length = key.length + j := by rw [List.length_append, zs_length]
  unfold kpad
  rw [if_neg (by omega), if_neg (by omega), hl, List.append_assoc]
  congr 1
  simp only [zs]
  rw [List.replicate_append_replicate]
  congr 1
  omega
theorem hmac_hash (key text : List UInt8) (h : 64 < key.length) : hmac (sha256 key) text = hmac key text := by unfold hmac; rw [kpad_hash key h]
theorem hmac_zeros (key text : List UInt8) (j : Nat) (h : key.length + j ≤ 64) : hmac (key ++ zs j) text = hmac key text := by unfold hmac; rw [kpad_zeros key j h]
set_option maxRecDepth 100000 in
set_option maxHeartbeats 1600000 in
theorem keys_big {w : World} {c d n m : Nat} {z : Int} {A B : Option Addr} (hT : Tab w) (h : 5000 < n ∨ 5000 < m) :
    Calls Tryd.prog 6 #[.slice A n c, .slice B m d, .int .u8 z] w fun e w' => e = .returned (.bool true) ∧ w.grownBy w' none := by
  by_cases h1 : 5000 < n
  · have d1 : decide (5000 < (n : Int)) = true := by simp; omega
    go_enter Tryd.func6, Tryd.ntmps6
    go_wp2_with (go_at_call 7; refine (alive_any hT).mono ?_; rintro _ w1 ⟨rfl, hg1⟩)
    go_ret
    exact ⟨rfl, hg1⟩
  · have d1 : decide (5000 < (n : Int)) = false := by simp; omega
    have d2 : decide (5000 < (m : Int)) = true := by simp; omega
    go_enter Tryd.func6, Tryd.ntmps6
    go_wp2_with (go_at_call 7; refine (alive_any hT).mono ?_; rintro _ w1 ⟨rfl, hg1⟩)
    go_ret
    exact ⟨rfl, hg1⟩
set_option maxRecDepth 100000 in
set_option maxHeartbeats 1600000 in
theorem keys_long {w : World} {c d n m : Nat} {z : Int} {A B : Option Addr} {ok : Nat → Prop} {key text : List UInt8} (hk : Byt w ok A key) (ht : Byt w ok B text) (hok : ∀ b, ok b → b < w.heap.size) (hn : key.length = n) (hm : text.length = m) (hc : n ≤ c) (hcm : c ≤ maxLen) (hd : m ≤ d) (hdm : d ≤ maxLen)
    (hT : Tab w) (h1 : n ≤ 5000) (h2 : m ≤ 5000) (h3 : 64 < n) :
    Calls Tryd.prog 6 #[.slice A n c, .slice B m d, .int .u8 z] w fun e w' => e = .returned (.bool true) ∧ w.grownBy w' none := by
  have d1 : decide (5000 < (n : Int)) = false := by simp; omega
  have d2 : decide (5000 < (m : Int)) = false := by simp; omega
  have d3 : decide (64 < (n : Int)) = true := by simp; omega
  have HK := Lib.hid hk
  have HX := Lib.hid ht
  have HN := Lib.hid hn
  have HM := Lib.hid hm
  have HT := Lib.hid hT
  clear hk ht hn hm hT
  go_enter Tryd.func6, Tryd.ntmps6
  go_upto_region 6 with (go_at_call 7; refine (alive_any HT.out).mono ?_; rintro _ w1 ⟨rfl, hg1⟩)
  have hk1 := HK.out.grown hg1 (fun b hb => ⟨hok b hb, by simp⟩)
  have hT1 := HT.out.grown hg1 (by simp) (by simp)
  have ho1 : ∀ b, ok b → b < w1.heap.size := fun b hb => Nat.lt_of_lt_of_le (hok b hb) hg1.size
  have HK1 := Lib.hid hk1
  have HT1 := Lib.hid hT1
  have HO1 := Lib.hid ho1
  have HG1 := Lib.hid hg1
  clear hk1 hT1 ho1 hg1
  go_upto_region 7 with (first
    | (go_at_call 14; refine (sum256_any HK1.out HO1.out HN.out hc hcm (by omega) HT1.out.1 HT1.out.2).mono ?_; rintro _ w2 ⟨rfl, hg2⟩)
    | (refine wpList_alloc24 rfl rfl ?_; intro w3 hb3 hg3 hz3)
    | (refine wpList_store_row rfl 24 _ _ rfl w2.heap.size (u8s (sha256 key)).toArray rfl rfl 24 _ hb3 (by rw [size24, List.size_toArray, u8s_length, sha256_length]) (by simp [u8s_length, sha256_length, zs_length]) (all_oneCell_toArray (u8s_one _)) ?_))
  obtain ⟨g, hgg⟩ : ∃ g, g = w2.heap.size := ⟨_, rfl⟩
  obtain ⟨w4, hw4⟩ : ∃ w', w' = w3.setRow w2.heap.size (u8s (sha256 key)).toArray := ⟨_, rfl⟩
  rw [← hw4, ← hgg]
  have hb4 : Blk w4 g 24 (u8s (sha256 key)) := by rw [hw4, hgg]; exact Blk.setRow hb3
  have hz2 := hg2.size
  have hz1 := HG1.out.size
  have hg14 : w1.grownBy w4 none := World.grownBy.andThen (World.grownBy.trans hg2 hg3) (by rw [hw4]; exact grown_setRow _ _ _) (by rintro _ ⟨⟩; exact .inl hz2)
  have hg4 : w.grownBy w4 none := World.grownBy.trans HG1.out hg14
  have hT4 := HT1.out.grown hg14 (by simp) (by simp)
  have hk4 := HK.out.grown hg4 (fun b hb => ⟨hok b hb, by simp⟩)
  have ht4 := HX.out.grown hg4 (fun b hb => ⟨hok b hb, by simp⟩)
  have ho4 : ∀ b, ok b → b < w4.heap.size := fun b hb => Nat.lt_of_lt_of_le (hok b hb) hg4.size
  obtain ⟨y, hy⟩ : ∃ y, y = hmac key text := ⟨_, rfl⟩
  have hy2 : hmac (sha256 key) text = y := by rw [hy, hmac_hash key text (by rw [HN.out]; exact h3)]
  have hly : y.length = 32 := by rw [hy, hmac_length]
  have hm32 : (32 : Nat) ≤ maxLen := by unfold maxLen; omega
  have m1 : ∀ V, w4.grownBy V none → Calls Tryd.prog 8 #[.slice A n c, .slice B m d] V fun e w' => e = .returned (.agg (u8s y).toArray) ∧ V.grownBy w' none := fun V hV => by
    rw [hy]
    exact mac_any (hk4.grown hV (fun b hb => ⟨ho4 b hb, by simp⟩)) (ht4.grown hV (fun b hb => ⟨ho4 b hb, by simp⟩)) (fun b hb => Nat.lt_of_lt_of_le (ho4 b hb) hV.size) HN.out HM.out hc hcm hd hdm (by omega) (by omega) (hT4.grown hV (by simp) (by simp))
  have m2 : ∀ V, w4.grownBy V none → Calls Tryd.prog 8 #[.slice (some ⟨g, 0, none⟩) 32 32, .slice B m d] V fun e w' => e = .returned (.agg (u8s y).toArray) ∧ V.grownBy w' none := fun V hV => by
    rw [← hy2]
    exact mac_any (hb4.grown hV (by simp)).bytes ((ht4.grown hV (fun b hb => ⟨ho4 b hb, by simp⟩)).imp fun b hb => Nat.lt_of_lt_of_le (ho4 b hb) hV.size) (fun b hb => hb) (sha256_length _) HM.out (Nat.le_refl _) hm32 hd hdm (by decide) (by omega) (hT4.grown hV (by simp) (by simp))
  have hgd : w4.grownBy w4.drew none := grown_drew (n := 0) (World.grownBy.refl _ _) rfl
  have hsame := key_same y hly
  have hgu := guard24
  have M1 := Lib.hid m1
  have M2 := Lib.hid m2
  have HG4 := Lib.hid hg4
  have HGD := Lib.hid hgd
  clear hgg hw4 hb3 hb4 hz2 hz1 hg14 hg4 hT4 hk4 ht4 ho4 hy hy2 m1 m2 hgd hg2 hg3 hz3
  go_region_held3 (fun _ => True) (exact trivial) (first
    | (go_at_call 8; with_reducible refine (M1.out _ HGD.out).mono ?_; rintro _ w5 ⟨rfl, hg5⟩)
    | (go_at_call 8; with_reducible refine (M2.out _ (World.grownBy.trans HGD.out hg5)).mono ?_; rintro _ w6 ⟨rfl, hg6⟩))
  go_wp2
  go_ret
  exact ⟨rfl, World.grownBy.trans HG4.out (World.grownBy.trans HGD.out (World.grownBy.trans hg5 hg6))⟩
set_option maxRecDepth 100000 in
set_option maxHeartbeats 1600000 in
theorem keys_short {w : World} {c d n m q : Nat} {A B : Option Addr} {ok : Nat → Prop} {key text : List UInt8} (hk : Byt w ok A key) (ht : Byt w ok B text) (hok : ∀ b, ok b → b < w.heap.size) (hn : key.length = n) (hm : text.length = m) (hc : n ≤ c) (hcm : c ≤ maxLen) (hd : m ≤ d) (hdm : d ≤ maxLen)
    (hT : Tab w) (h2 : m ≤ 5000) (h3 : n ≤ 64) (hq : q < 256) :
    Calls Tryd.prog 6 #[.slice A n c, .slice B m d, .int .u8 (q : Int)] w fun e w' => e = .returned (.bool true) ∧ w.grownBy w' none := by
  have d1 : decide (5000 < (n : Int)) = false := by simp; omega
  have d2 : decide (5000 < (m : Int)) = false := by simp; omega
  have d3 : decide (64 < (n : Int)) = false := by simp; omega
  have HK := Lib.hid hk
  have HX := Lib.hid ht
  have HN := Lib.hid hn
  have HM := Lib.hid hm
  have HT := Lib.hid hT
  clear hk ht hn hm hT
  go_enter Tryd.func6, Tryd.ntmps6
  go_upto_region 8 with (go_at_call 7; refine (alive_any HT.out).mono ?_; rintro _ w1 ⟨rfl, hg1⟩)
  have hk1 := HK.out.grown hg1 (fun b hb => ⟨hok b hb, by simp⟩)
  have hT1 := HT.out.grown hg1 (by simp) (by simp)
  have ho1 : ∀ b, ok b → b < w1.heap.size := fun b hb => Nat.lt_of_lt_of_le (hok b hb) hg1.size
  have HK1 := Lib.hid hk1
  have HT1 := Lib.hid hT1
  have HO1 := Lib.hid ho1
  have HG1 := Lib.hid hg1
  clear hk1 hT1 ho1 hg1
  go_upto_region 9 with (fail)
  obtain ⟨r, hr, hnr, hr64⟩ : ∃ r : Nat, (if (n : Int) + (q : Int) < 64 then (n : Int) + (q : Int) else 64) = (r : Int) ∧ n ≤ r ∧ r ≤ 64 := by
    by_cases h : (n : Int) + (q : Int) < 64
    · exact ⟨n + q, by rw [if_pos h]; omega, by omega, by omega⟩
    · exact ⟨64, by rw [if_neg h]; rfl, h3, Nat.le_refl _⟩
  rw [hr]
  clear hr
  obtain ⟨i0, hi, hz0, hzz1, hzz2⟩ := info_parts Tryd.info5
  go_wp2_with (with_reducible refine wpList_make_full _ rfl _ _ 22 rfl w1.heap.size 5 i0 (.int .u8 0) 1 Tryd.underlying22 hi hz0 hzz1 .i64 .i64 _ _ r rfl rfl rfl rfl ?c1 ?c2 ?c3 ?_)
  case c1 => rw [hzz2]; omega
  case c2 => unfold maxLen; omega
  case c3 => exact Nat.le_refl _
  intro w2 hown hg2
  rw [made_u8'] at hown
  have hb2 := Blk.of_owns hown
  obtain ⟨g, hgg⟩ : ∃ g, g = w1.heap.size := ⟨_, rfl⟩
  rw [← hgg] at hb2 ⊢
  have hk2 := HK1.out.grown hg2 (fun b hb => ⟨HO1.out b hb, by simp⟩)
  have HB2 := Lib.hid hb2
  have HK2 := Lib.hid hk2
  have HG2 := Lib.hid hg2
  have HGG := Lib.hid hgg
  clear hown hb2 hk2 hg2 hgg
  go_upto_region 11 with (refine wpList_copy_blk rfl _ _ rfl g 0 r r n c A key (zs r) rfl rfl HN.out (zs_length r) 5 [] [] (HB2.out.to (by simp)) rfl ok HK2.out n (by rw [HN.out, zs_length]; exact Nat.min_eq_left hnr) ?_; intro w4 hb4 hg4 hz4)
  have hb5 : Blk w4 g 5 (u8s (key ++ zs (r - n))) := hb4.to (by rw [lay_le _ _ (by rw [zs_length, HN.out]; exact hnr), zs_drop, HN.out]; simp)
  have hg14 : w1.grownBy w4 none := World.grownBy.andThen HG2.out hg4 (by rintro _ ⟨⟩; exact .inl (by have := HGG.out; omega))
  have hgw4 : w.grownBy w4 none := World.grownBy.trans HG1.out hg14
  have hT4 := HT1.out.grown hg14 (by simp) (by simp)
  have hk4 := HK.out.grown hgw4 (fun b hb => ⟨hok b hb, by simp⟩)
  have ht4 := HX.out.grown hgw4 (fun b hb => ⟨hok b hb, by simp⟩)
  have ho4 : ∀ b, ok b → b < w4.heap.size := fun b hb => Nat.lt_of_lt_of_le (hok b hb) hgw4.size
  obtain ⟨y, hy⟩ : ∃ y, y = hmac key text := ⟨_, rfl⟩
  have hy2 : hmac (key ++ zs (r - n)) text = y := by rw [hy, hmac_zeros key text _ (by rw [HN.out]; omega)]
  have hly : y.length = 32 := by rw [hy, hmac_length]
  have hlk : (key ++ zs (r - n)).length = r := by rw [List.length_append, zs_length, HN.out]; omega
  have m1 : ∀ V, w4.grownBy V none → Calls Tryd.prog 8 #[.slice A n c, .slice B m d] V fun e w' => e = .returned (.agg (u8s y).toArray) ∧ V.grownBy w' none := fun V hV => by
    rw [hy]
    exact mac_any (hk4.grown hV (fun b hb => ⟨ho4 b hb, by simp⟩)) (ht4.grown hV (fun b hb => ⟨ho4 b hb, by simp⟩)) (fun b hb => Nat.lt_of_lt_of_le (ho4 b hb) hV.size) HN.out HM.out hc hcm hd hdm (by omega) (by omega) (hT4.grown hV (by simp) (by simp))
  have m2 : ∀ V, w4.grownBy V none → Calls Tryd.prog 8 #[.slice (some ⟨g, 0, none⟩) r r, .slice B m d] V fun e w' => e = .returned (.agg (u8s y).toArray) ∧ V.grownBy w' none := fun V hV => by
    rw [← hy2]
    exact mac_any (hb5.grown hV (by simp)).bytes ((ht4.grown hV (fun b hb => ⟨ho4 b hb, by simp⟩)).imp fun b hb => Nat.lt_of_lt_of_le (ho4 b hb) hV.size) (fun b hb => hb) hlk HM.out (Nat.le_refl _) (by unfold maxLen; omega) hd hdm (by omega) (by omega) (hT4.grown hV (by simp) (by simp))
  have M1 := Lib.hid m1
  have M2 := Lib.hid m2
  have HG4 := Lib.hid hgw4
  have HLY := Lib.hid hly
  clear hb4 hg4 hz4 hb5 hg14 hgw4 hT4 hk4 ht4 ho4 hy hy2 hly hlk m1 m2 HB2 HK2 HG2
  go_wp2_with (first
    | (go_at_call 8; with_reducible refine (M1.out _ (World.grownBy.refl _ _)).mono ?_; rintro _ w5 ⟨rfl, hg5⟩)
    | (go_at_call 8; with_reducible refine (M2.out _ hg5).mono ?_; rintro _ w6 ⟨rfl, hg6⟩)
    | (refine wpList_same24 rfl _ _ rfl y rfl rfl HLY.out ?_))
  go_ret
  exact ⟨rfl, World.grownBy.trans HG4.out (World.grownBy.trans hg5 hg6)⟩
theorem keys_walk {w : World} {c d n m q : Nat} {A B : Option Addr} {ok : Nat → Prop} {key text : List UInt8} (hk : Byt w ok A key) (ht : Byt w ok B text) (hok : ∀ b, ok b → b < w.heap.size) (hn : key.length = n) (hm : text.length = m) (hc : n ≤ c) (hcm : c ≤ maxLen) (hd : m ≤ d) (hdm : d ≤ maxLen)
    (hT : Tab w) (hq : q < 256) :
    Calls Tryd.prog 6 #[.slice A n c, .slice B m d, .int .u8 (q : Int)] w fun e w' => e = .returned (.bool true) ∧ w.grownBy w' none := by
  by_cases h : 5000 < n ∨ 5000 < m
  · exact keys_big hT h
  · by_cases h3 : 64 < n
    · exact keys_long hk ht hok hn hm hc hcm hd hdm hT (by omega) (by omega) h3
    · exact keys_short hk ht hok hn hm hc hcm hd hdm hT (by omega) (by omega) hq
set_option maxRecDepth 100000 in
theorem keys_lifted (os : Os) (started : os.Started) (H : Type) (enc : TypeId × Value → H) :
    ReturnsInHanded {} Tryd.checked os 6 .any (fun w args => (Rows.macKeysSpec.pre enc Tryd.prog Tryd.f6 [] false w args ∧ laidMetH Tryd.prog laid2 w) ∧ sizedMet enc Tryd.prog Tryd.f6 (OpenSpec.ofChange Rows.macKeysSpec) false w args)
      (Rows.macKeysSpec.post enc Tryd.prog Tryd.f6 false true false false) := by
  refine returnsInHanded_of_change_and (C := Tryd.checked) (X := fun w _ => laidMetH Tryd.prog laid2 w) (fun _ _ _ hh h => h.of_heap hh) own_knob started (by kernel_rfl) Tryd.func6
    (ChangeSpec.witness_shaped (enc := enc) (C := Tryd.checked) (os := os) (X := fun w _ => laidMetH Tryd.prog laid2 w) false (World.doorLaid Tryd.prog 400 os) #[.slice none 0 0, .slice none 0 0, .int .u8 0] 8 rfl (World.shaped_of_RefB (by kernel_rfl) (by kernel_rfl)) (by kernel_rfl) (by kernel_rfl) (by kernel_rfl) (door_met os _)) ?_
  intro W base args ds gs before hval0 hW _ _ hL _
  have hval : ∀ (j : Nat) t v, Tryd.f6.params[j]? = some t → args[j]? = some v → Value.okWide Tryd.prog W .any base t v := hval0
  have hW' := hW
  obtain ⟨p, q, hA0, hV, rfl, _, _⟩ := hW
  have hA : DataW.TrodAll enc Tryd.prog W 0 (fun _ => true) true Tryd.f6.params.toList args.toList ds p := hA0
  rw [Tryd.params6] at hA hval
  obtain ⟨v0, vs0, d0, ds0, p0, q0, hargs, rfl, rfl, h0, r0⟩ := trodAll_cons hA
  obtain ⟨v1, vs1, d1, ds1, p1, q1, rfl, rfl, rfl, h1, r1⟩ := trodAll_cons r0
  obtain ⟨v2, vs2, d2, ds2, p2, q2, rfl, rfl, rfl, h2, r2⟩ := trodAll_cons r1
  obtain ⟨rfl, rfl, rfl⟩ := trodAll_nil r2
  obtain rfl : args = #[v0, v1, v2] := by cases args; simp_all
  obtain ⟨rfl, rfl⟩ := trodVars_none hV
  obtain ⟨A, xs, c, rfl, hc1, hm1, hx⟩ := open_byt (hval 0 22 v0 rfl rfl) h0
  obtain ⟨B, ys, d, rfl, hc2, hm2, hy⟩ := open_byt (hval 1 22 v1 rfl rfl) h1
  obtain ⟨a2, rfl, rfl, rfl, w2⟩ := open_int Tryd.underlying5 (hval 2 5 v2 rfl rfl) h2
  clear hA0 hval0
  simp only [List.append_nil] at hW'
  have hb := byteOf_nat w2
  have hlt := (byteOf a2).toNat_lt
  refine (show Calls Tryd.prog 6 #[.slice A xs.length c, .slice B ys.length d, .int .u8 a2] W fun e w' => e = .returned (.bool true) ∧ W.grownBy w' none by rw [← hb]; exact keys_walk hx hy (fun b hb => hb) rfl rfl hc1 hm1 hc2 hm2 (tab_of_laid hL) hlt).mono fun e W' ⟨he, hgr⟩ => ?_
  have hg := below_of_grown hgr
  subst he
  refine ⟨_, rfl, ?_⟩
  have hback0 := Below.trod laid_out read22 row22 h0 hg (fun x hx => hW'.lt x (by simp [hx]))
  have hback1 := Below.trod laid_out read22 row22 h1 hg (fun x hx => hW'.lt x (by simp [hx]))
  refine ⟨_, _, _, [], p0 ++ (p1 ++ []), [], hW', trodAll_mk1 (shut_bool Tryd.underlying4 true), trodAll_mk3 hback0 hback1 (shut_int Tryd.underlying5 w2), rfl, hg.frame _, fun h => by cases h⟩
theorem keys_over : Rows.MacKeysSaid :=
  OpenClaim.holds_of_wide 6 Tryd.f6 rfl rfl rfl rfl rfl rfl rfl ⟨rfl, rfl, rfl, rfl, rfl⟩ rfl rfl rfl rfl rfl (by kernel_rfl) Tryd.func6 (by kernel_rfl)
    (of_decide_eq_true (by kernel_rfl)) (by unfold Func.isWrapper; first | (rw [if_pos (by decide +kernel)]; kernel_rfl) | (rw [if_neg (by decide +kernel)]; exact ⟨rfl, rfl⟩))
    (fun os started H enc _ => keys_lifted os started H enc)
theorem keys_holds : Rows.MacKeysCardSaid :=
  Claim7.holds_tied_plain_at .later [] [.data, .data] true (true, "6804543c43d07a47c7f4d856165f2e1db9ca47d2c36460fdd1f06eef064ba28a") false
    keys_over (fun _ h => by cases h) (by kernel_rfl) (fun _ h => by cases h) macKeys_row_tie rfl ⟨rfl, rfl⟩ (by kernel_rfl) rfl
    (fun f fn hf hfn => by
      obtain rfl : f = 6 := Option.some.inj ((show Tryd.prog.funcNamed "missive/missivelaw04.MacKeys" = some 6 by kernel_rfl).symm.trans hf) |>.symm
      obtain rfl : fn = Tryd.f6 := (Option.some.inj (Tryd.func6.symm.trans hfn)).symm
      exact ⟨by kernel_rfl, fun j t ht => by
        rw [Tryd.params6] at ht
        have hm : t ∈ [22, 22, 5] := by simpa using Array.mem_of_getElem? ht
        have hall : ([22, 22, 5].all fun u => !Tryd.prog.wantsStandIn u) = true := by kernel_rfl
        exact (show Tryd.prog.wantsStandIn t = false by simpa using List.all_eq_true.1 hall t hm)⟩)
    (by kernel_rfl)
#print axioms keys_holds
end Go.Proofs.YtgphopahlgfogaaDoor
