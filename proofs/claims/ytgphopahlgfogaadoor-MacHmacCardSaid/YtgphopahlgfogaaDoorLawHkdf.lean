/- MacHkdf, but for the reference's hash: HKDF is the document's, whatever it is made of; a shorter one is its beginning. Conditions: the reference's hash is as HashSays has it. -/
import Derived.Test.YtgphopahlgfogaaDoorRefHkdf
namespace Go.Proofs.YtgphopahlgfogaaDoor
open Go.RowKit Go.ChangeShapes Go.WideShapes Go.ChangeAt
set_option maxRecDepth 100000 in
set_option maxHeartbeats 1600000 in
theorem hk_big {w : World} {c1 c2 c3 n1 n2 n3 : Nat} {n less : Int} {A1 A2 A3 : Option Addr} (hT : Tab w) (h : 3000 < n1 ∨ 3000 < n2 ∨ 3000 < n3 ∨ (2000 < n ∧ n ≤ 8160)) :
    Calls Tryd.prog 4 #[.slice A1 n1 c1, .slice A2 n2 c2, .slice A3 n3 c3, .int .i64 n, .int .i64 less] w fun e w' => e = .returned (.bool true) ∧ w.grownBy w' none := by
  by_cases h1 : 3000 < n1
  · have d1 : decide (3000 < (n1 : Int)) = true := by simp; omega
    go_enter Tryd.func4, Tryd.ntmps4
    go_wp2_with (go_at_call 7; refine (alive_any hT).mono ?_; rintro _ w1 ⟨rfl, hg1⟩)
    go_ret
    exact ⟨rfl, hg1⟩
  · have d1 : decide (3000 < (n1 : Int)) = false := by simp; omega
    by_cases h2 : 3000 < n2
    · have d2 : decide (3000 < (n2 : Int)) = true := by simp; omega
      go_enter Tryd.func4, Tryd.ntmps4
      go_wp2_with (go_at_call 7; refine (alive_any hT).mono ?_; rintro _ w1 ⟨rfl, hg1⟩)
      go_ret
      exact ⟨rfl, hg1⟩
    · have d2 : decide (3000 < (n2 : Int)) = false := by simp; omega
      by_cases h3 : 3000 < n3
      · have d3 : decide (3000 < (n3 : Int)) = true := by simp; omega
        go_enter Tryd.func4, Tryd.ntmps4
        go_wp2_with (go_at_call 7; refine (alive_any hT).mono ?_; rintro _ w1 ⟨rfl, hg1⟩)
        go_ret
        exact ⟨rfl, hg1⟩
      · have d3 : decide (3000 < (n3 : Int)) = false := by simp; omega
        have hn : 2000 < n ∧ n ≤ 8160 := by omega
        have d4 : decide (2000 < n) = true := by simp; omega
        have d5 : decide (n ≤ 8160) = true := by simp; omega
        go_enter Tryd.func4, Tryd.ntmps4
        go_wp2_with (go_at_call 7; refine (alive_any hT).mono ?_; rintro _ w1 ⟨rfl, hg1⟩)
        go_ret
        exact ⟨rfl, hg1⟩
set_option maxRecDepth 100000 in
set_option maxHeartbeats 1600000 in
theorem hk_out {w : World} {c1 c2 c3 n1 n2 n3 : Nat} {n less : Int} {A1 A2 A3 : Option Addr} (hT : Tab w) (h1 : n1 ≤ 3000) (h2 : n2 ≤ 3000) (h3 : n3 ≤ 3000) (h : n < 0 ∨ 8160 < n) :
    Calls Tryd.prog 4 #[.slice A1 n1 c1, .slice A2 n2 c2, .slice A3 n3 c3, .int .i64 n, .int .i64 less] w fun e w' => e = .returned (.bool true) ∧ w.grownBy w' none := by
  have d1 : decide (3000 < (n1 : Int)) = false := by simp; omega
  have d2 : decide (3000 < (n2 : Int)) = false := by simp; omega
  have d3 : decide (3000 < (n3 : Int)) = false := by simp; omega
  have H := Lib.hid h
  have HT := Lib.hid hT
  have B0 : ∀ W, Calls Tryd.prog 12 #[.slice none 0 0, .slice none 0 0] W fun e w' => e = .returned (.bool true) ∧ W = w' := fun W => by
    have h := bytes_any (w := W) (ok := fun _ => True) (ok' := fun _ => True) (A := none) (B := none) (xs := []) (ys := []) (c := 0) (d := 0) Byt.nil Byt.nil
    simpa using h
  have R1 : ∀ W v1 v2 v3, Calls Tryd.prog 10 #[v1, v2, v3, .int .i64 n] W fun e w' => e = .returned (.tuple #[.slice none 0 0, .bool false]) ∧ W = w' := fun W _ _ _ => hkdf_no H.out
  have R2 : ∀ W v1 v2 v3, Calls Tryd.prog 11 #[v1, v2, v3, .int .i64 n] W fun e w' => e = .returned (.tuple #[.slice none 0 0, .bool false]) ∧ W = w' := fun W _ _ _ => refhkdf_no H.out
  have HB0 := Lib.hid B0
  have HR1 := Lib.hid R1
  have HR2 := Lib.hid R2
  have hcase : (decide (2000 < n) = false) ∨ (decide (2000 < n) = true ∧ decide (n ≤ 8160) = false) := by
    by_cases h5 : 2000 < n
    · right; exact ⟨by simpa using h5, by simp; omega⟩
    · left; simpa using h5
  clear hT h B0 R1 R2
  rcases hcase with d4 | ⟨d4, d5⟩
  all_goals
    go_enter Tryd.func4, Tryd.ntmps4
    go_wp2_with (first
      | (go_at_call 7; refine (alive_any HT.out).mono ?_; rintro _ w1 ⟨rfl, hg1⟩)
      | (go_at_call 10; with_reducible refine (HR1.out _ _ _ _).mono ?_; rintro _ w5 ⟨rfl, rfl⟩)
      | (go_at_call 11; with_reducible refine (HR2.out _ _ _ _).mono ?_; rintro _ w6 ⟨rfl, rfl⟩)
      | (go_at_call 12; with_reducible refine (HB0.out _).mono ?_; rintro _ w7 ⟨rfl, rfl⟩))
    go_ret
    exact ⟨rfl, hg1⟩
set_option maxRecDepth 100000 in
set_option maxHeartbeats 3200000 in
theorem hk_in1 (HH : HashSays) {w : World} {c1 c2 c3 n1 n2 n3 n : Nat} {less : Int} {ok : Nat → Prop} {A1 A2 A3 : Option Addr} {salt from_ info : List UInt8} (hs : Byt w ok A1 salt) (hf : Byt w ok A2 from_) (hx : Byt w ok A3 info) (hok : ∀ b, ok b → b < w.heap.size)
    (hn1 : salt.length = n1) (hn2 : from_.length = n2) (hn3 : info.length = n3) (hc1 : n1 ≤ c1) (hc2 : n2 ≤ c2) (hc3 : n3 ≤ c3) (hm1 : c1 ≤ maxLen) (hm2 : c2 ≤ maxLen) (hm3 : c3 ≤ maxLen) (h1 : n1 ≤ 3000) (h2 : n2 ≤ 3000) (h3 : n3 ≤ 3000) (hn : n ≤ 2000) (hT : Tab w) (hless : less < 0 ∨ (n : Int) < less) :
    Calls Tryd.prog 4 #[.slice A1 n1 c1, .slice A2 n2 c2, .slice A3 n3 c3, .int .i64 (n : Int), .int .i64 less] w fun e w' => e = .returned (.bool true) ∧ w.grownBy w' none := by
  have d1 : decide (3000 < (n1 : Int)) = false := by simp; omega
  have d2 : decide (3000 < (n2 : Int)) = false := by simp; omega
  have d3 : decide (3000 < (n3 : Int)) = false := by simp; omega
  have d4 : decide (2000 < (n : Int)) = false := by simp; omega
  have r1 : ∀ (m : Nat), m ≤ 8160 → ∀ V, w.grownBy V none → Calls Tryd.prog 10 #[.slice A1 n1 c1, .slice A2 n2 c2, .slice A3 n3 c3, .int .i64 (m : Int)] V fun e w' => ∃ gb, e = .returned (.tuple #[.slice (some ⟨gb, 0, none⟩) m m, .bool true]) ∧ Blk w' gb 5 (u8s (hkdf salt from_ info m)) ∧ V.heap.size ≤ gb ∧ V.grownBy w' none := fun m hm V hV =>
    hkdf_yes (hs.grown hV (fun b hb => ⟨hok b hb, by simp⟩)) (hf.grown hV (fun b hb => ⟨hok b hb, by simp⟩)) (hx.grown hV (fun b hb => ⟨hok b hb, by simp⟩)) (fun b hb => Nat.lt_of_lt_of_le (hok b hb) hV.size) hn1 hn2 hn3 hc1 hc2 hc3 hm1 hm2 hm3 (by omega) (by omega) (by omega) hm (hT.grown hV (by simp) (by simp))
  have r2 : ∀ V, w.grownBy V none → Calls Tryd.prog 11 #[.slice A1 n1 c1, .slice A2 n2 c2, .slice A3 n3 c3, .int .i64 (n : Int)] V fun e w' => ∃ A c, e = .returned (.tuple #[.slice A n c, .bool true]) ∧ n ≤ c ∧ c ≤ maxLen ∧ Byt w' (fun b => b < w'.heap.size) A (hkdf salt from_ info n) ∧ V.grownBy w' none := fun V hV =>
    refhkdf_yes HH (hs.grown hV (fun b hb => ⟨hok b hb, by simp⟩)) (hf.grown hV (fun b hb => ⟨hok b hb, by simp⟩)) (hx.grown hV (fun b hb => ⟨hok b hb, by simp⟩)) (fun b hb => Nat.lt_of_lt_of_le (hok b hb) hV.size) hn1 hn2 hn3 h1 h2 h3 hn
  have HR1 := Lib.hid (r1 n (by omega))
  have HR2 := Lib.hid r2
  have HT := Lib.hid hT
  clear hs hf hx hn1 hn2 hn3 hT r1 r2
  have H := Lib.hid hless
  have hcase : (decide (less < 0) = true) ∨ (decide (less < 0) = false ∧ decide ((n : Int) < less) = true) := by
    by_cases h5 : less < 0
    · left; simpa using h5
    · right; exact ⟨by simpa using h5, by simp; omega⟩
  clear hless
  rcases hcase with d5 | ⟨d5, d6⟩
  all_goals
    go_enter Tryd.func4, Tryd.ntmps4
    go_upto_region 7 with (first
      | (go_at_call 7; refine (alive_any HT.out).mono ?_; rintro _ w1 ⟨rfl, hg1⟩)
      | (go_at_call 10; with_reducible refine (HR1.out _ hg1).mono ?_; rintro _ w5 ⟨gb, rfl, hb5, hgb, hg5⟩)
      | (go_at_call 11; with_reducible refine (HR2.out _ (World.grownBy.trans hg1 hg5)).mono ?_; rintro _ w6 ⟨A, c, rfl, hnc, hcm, hb6, hg6⟩))
    have hx5 := (hb5.grown hg6 (by simp)).bytes
    have b1 := bytes_n (c := n) (d := c) hx5 hb6 (hkdf_length salt from_ info n) (hkdf_length salt from_ info n)
    rw [decide_eq_true (rfl : hkdf salt from_ info n = hkdf salt from_ info n)] at b1
    have HB1 := Lib.hid b1
    have HG := Lib.hid (World.grownBy.trans hg1 (World.grownBy.trans hg5 hg6))
    clear hb5 hgb hg1 hg5 hg6 hb6 hx5 b1
    go_wp2_with (go_at_call 12; with_reducible refine HB1.out.mono ?_; rintro _ w7 ⟨rfl, rfl⟩)
    go_ret
    exact ⟨rfl, HG.out⟩
set_option maxRecDepth 100000 in
set_option maxHeartbeats 3200000 in
theorem hk_in2 (HH : HashSays) {w : World} {c1 c2 c3 n1 n2 n3 n less : Nat} {ok : Nat → Prop} {A1 A2 A3 : Option Addr} {salt from_ info : List UInt8} (hs : Byt w ok A1 salt) (hf : Byt w ok A2 from_) (hx : Byt w ok A3 info) (hok : ∀ b, ok b → b < w.heap.size)
    (hn1 : salt.length = n1) (hn2 : from_.length = n2) (hn3 : info.length = n3) (hc1 : n1 ≤ c1) (hc2 : n2 ≤ c2) (hc3 : n3 ≤ c3) (hm1 : c1 ≤ maxLen) (hm2 : c2 ≤ maxLen) (hm3 : c3 ≤ maxLen) (h1 : n1 ≤ 3000) (h2 : n2 ≤ 3000) (h3 : n3 ≤ 3000) (hn : n ≤ 2000) (hT : Tab w) (hless : less ≤ n) :
    Calls Tryd.prog 4 #[.slice A1 n1 c1, .slice A2 n2 c2, .slice A3 n3 c3, .int .i64 (n : Int), .int .i64 (less : Int)] w fun e w' => e = .returned (.bool true) ∧ w.grownBy w' none := by
  have d1 : decide (3000 < (n1 : Int)) = false := by simp; omega
  have d2 : decide (3000 < (n2 : Int)) = false := by simp; omega
  have d3 : decide (3000 < (n3 : Int)) = false := by simp; omega
  have d4 : decide (2000 < (n : Int)) = false := by simp; omega
  have r1 : ∀ (m : Nat), m ≤ 8160 → ∀ V, w.grownBy V none → Calls Tryd.prog 10 #[.slice A1 n1 c1, .slice A2 n2 c2, .slice A3 n3 c3, .int .i64 (m : Int)] V fun e w' => ∃ gb, e = .returned (.tuple #[.slice (some ⟨gb, 0, none⟩) m m, .bool true]) ∧ Blk w' gb 5 (u8s (hkdf salt from_ info m)) ∧ V.heap.size ≤ gb ∧ V.grownBy w' none := fun m hm V hV =>
    hkdf_yes (hs.grown hV (fun b hb => ⟨hok b hb, by simp⟩)) (hf.grown hV (fun b hb => ⟨hok b hb, by simp⟩)) (hx.grown hV (fun b hb => ⟨hok b hb, by simp⟩)) (fun b hb => Nat.lt_of_lt_of_le (hok b hb) hV.size) hn1 hn2 hn3 hc1 hc2 hc3 hm1 hm2 hm3 (by omega) (by omega) (by omega) hm (hT.grown hV (by simp) (by simp))
  have r2 : ∀ V, w.grownBy V none → Calls Tryd.prog 11 #[.slice A1 n1 c1, .slice A2 n2 c2, .slice A3 n3 c3, .int .i64 (n : Int)] V fun e w' => ∃ A c, e = .returned (.tuple #[.slice A n c, .bool true]) ∧ n ≤ c ∧ c ≤ maxLen ∧ Byt w' (fun b => b < w'.heap.size) A (hkdf salt from_ info n) ∧ V.grownBy w' none := fun V hV =>
    refhkdf_yes HH (hs.grown hV (fun b hb => ⟨hok b hb, by simp⟩)) (hf.grown hV (fun b hb => ⟨hok b hb, by simp⟩)) (hx.grown hV (fun b hb => ⟨hok b hb, by simp⟩)) (fun b hb => Nat.lt_of_lt_of_le (hok b hb) hV.size) hn1 hn2 hn3 h1 h2 h3 hn
  have HR1 := Lib.hid (r1 n (by omega))
  have HR3 := Lib.hid r1
  have HR2 := Lib.hid r2
  have HT := Lib.hid hT
  clear hs hf hx hn1 hn2 hn3 hT r1 r2
  have d5 : decide ((less : Int) < 0) = false := by simp
  have d6 : decide ((n : Int) < (less : Int)) = false := by simp; omega
  have HR4 := Lib.hid (HR3.out less (by omega))
  clear HR3
  go_enter Tryd.func4, Tryd.ntmps4
  go_upto_region 7 with (first
    | (go_at_call 7; refine (alive_any HT.out).mono ?_; rintro _ w1 ⟨rfl, hg1⟩)
    | (go_at_call 10; with_reducible refine (HR1.out _ hg1).mono ?_; rintro _ w5 ⟨gb, rfl, hb5, hgb, hg5⟩)
    | (go_at_call 11; with_reducible refine (HR2.out _ (World.grownBy.trans hg1 hg5)).mono ?_; rintro _ w6 ⟨A, c, rfl, hnc, hcm, hb6, hg6⟩))
  have hx5 := (hb5.grown hg6 (by simp)).bytes
  have b1 := bytes_n (c := n) (d := c) hx5 hb6 (hkdf_length salt from_ info n) (hkdf_length salt from_ info n)
  rw [decide_eq_true (rfl : hkdf salt from_ info n = hkdf salt from_ info n)] at b1
  have HB1 := Lib.hid b1
  have HB6 := Lib.hid hb6
  have HG := Lib.hid (World.grownBy.trans hg1 (World.grownBy.trans hg5 hg6))
  clear hb5 hgb hg1 hg5 hg6 hb6 hx5 b1
  go_upto_region 12 with (first
    | (go_at_call 12; with_reducible refine HB1.out.mono ?_; rintro _ w7 ⟨rfl, rfl⟩)
    | (go_at_call 10; with_reducible refine (HR4.out _ HG.out).mono ?_; rintro _ w8 ⟨gb2, rfl, hb8, hgb2, hg8⟩))
  have hb68 := (HB6.out.grown hg8 (fun b hb => ⟨hb, by simp⟩)).take less
  have hl : ((hkdf salt from_ info n).take less).length = less := by rw [List.length_take, hkdf_length]; omega
  have b2 := bytes_n (c := less) (d := c) hb8.bytes hb68 (hkdf_length salt from_ info less) hl
  rw [decide_eq_true (hkdf_begin salt from_ info n less hless)] at b2
  have HB2 := Lib.hid b2
  have HG8 := Lib.hid (World.grownBy.trans HG.out hg8)
  have q1 : (less : Int) ≤ (c : Int) := by omega
  have q2 : (0 : Int) ≤ (less : Int) := by omega
  clear hb68 hl b2 hb8 hgb2 hg8
  go_wp2_with (go_at_call 12; with_reducible refine HB2.out.mono ?_; rintro _ w9 ⟨rfl, rfl⟩)
  go_ret
  exact ⟨rfl, HG8.out⟩
theorem hk_walk (HH : HashSays) {w : World} {c1 c2 c3 n1 n2 n3 : Nat} {n less : Int} {ok : Nat → Prop} {A1 A2 A3 : Option Addr} {salt from_ info : List UInt8} (hs : Byt w ok A1 salt) (hf : Byt w ok A2 from_) (hx : Byt w ok A3 info) (hok : ∀ b, ok b → b < w.heap.size)
    (hn1 : salt.length = n1) (hn2 : from_.length = n2) (hn3 : info.length = n3) (hc1 : n1 ≤ c1) (hc2 : n2 ≤ c2) (hc3 : n3 ≤ c3) (hm1 : c1 ≤ maxLen) (hm2 : c2 ≤ maxLen) (hm3 : c3 ≤ maxLen) (hT : Tab w) :
    Calls Tryd.prog 4 #[.slice A1 n1 c1, .slice A2 n2 c2, .slice A3 n3 c3, .int .i64 n, .int .i64 less] w fun e w' => e = .returned (.bool true) ∧ w.grownBy w' none := by
  by_cases hb : 3000 < n1 ∨ 3000 < n2 ∨ 3000 < n3 ∨ (2000 < n ∧ n ≤ 8160)
  · exact hk_big hT hb
  · by_cases ho : n < 0 ∨ 8160 < n
    · exact hk_out hT (by omega) (by omega) (by omega) ho
    · obtain ⟨N, rfl⟩ : ∃ N : Nat, n = (N : Int) := ⟨n.toNat, by omega⟩
      by_cases hl : less < 0 ∨ (N : Int) < less
      · exact hk_in1 HH hs hf hx hok hn1 hn2 hn3 hc1 hc2 hc3 hm1 hm2 hm3 (by omega) (by omega) (by omega) (by omega) hT hl
      · obtain ⟨L, rfl⟩ : ∃ L : Nat, less = (L : Int) := ⟨less.toNat, by omega⟩
        exact hk_in2 HH hs hf hx hok hn1 hn2 hn3 hc1 hc2 hc3 hm1 hm2 hm3 (by omega) (by omega) (by omega) (by omega) hT (by omega)
theorem trodAll_next {H : Type} {enc : TypeId × Value → H} {P : Program} {w : World} {base : Nat} {spare : Nat → Bool} {held : Bool} {t : TypeId} {v : Value} {d : DataW H} {p q : List MemPlace} {ts : List TypeId} {vs : List Value} {ds : List (DataW H)}
    (h : DataW.Trod enc P w base spare held t v d p) (h' : DataW.TrodAll enc P w base spare held ts vs ds q) : DataW.TrodAll enc P w base spare held (t :: ts) (v :: vs) (d :: ds) (p ++ q) := ⟨p, q, h, h', rfl⟩
set_option maxRecDepth 100000 in
theorem hkdf_lifted (HH : HashSays) (os : Os) (started : os.Started) (H : Type) (enc : TypeId × Value → H) :
    ReturnsInHanded {} Tryd.checked os 4 .any (fun w args => (Rows.macHkdfSpec.pre enc Tryd.prog Tryd.f4 [] false w args ∧ laidMetH Tryd.prog laid2 w) ∧ sizedMet enc Tryd.prog Tryd.f4 (OpenSpec.ofChange Rows.macHkdfSpec) false w args)
      (Rows.macHkdfSpec.post enc Tryd.prog Tryd.f4 false true false false) := by
  refine returnsInHanded_of_change_and (C := Tryd.checked) (X := fun w _ => laidMetH Tryd.prog laid2 w) (fun _ _ _ hh h => h.of_heap hh) own_knob started (by kernel_rfl) Tryd.func4
    (ChangeSpec.witness_shaped (enc := enc) (C := Tryd.checked) (os := os) (X := fun w _ => laidMetH Tryd.prog laid2 w) false (World.doorLaid Tryd.prog 400 os) #[.slice none 0 0, .slice none 0 0, .slice none 0 0, .int .i64 0, .int .i64 0] 8 rfl (World.shaped_of_RefB (by kernel_rfl) (by kernel_rfl)) (by kernel_rfl) (by kernel_rfl) (by kernel_rfl) (door_met os _)) ?_
  intro W base args ds gs before hval0 hW _ _ hL _
  have hval : ∀ (j : Nat) t v, Tryd.f4.params[j]? = some t → args[j]? = some v → Value.okWide Tryd.prog W .any base t v := hval0
  have hW' := hW
  obtain ⟨p, q, hA0, hV, rfl, _, _⟩ := hW
  have hA : DataW.TrodAll enc Tryd.prog W 0 (fun _ => true) true Tryd.f4.params.toList args.toList ds p := hA0
  rw [Tryd.params4] at hA hval
  obtain ⟨v0, vs0, d0, ds0, p0, q0, hargs, rfl, rfl, h0, r0⟩ := trodAll_cons hA
  obtain ⟨v1, vs1, d1, ds1, p1, q1, rfl, rfl, rfl, h1, r1⟩ := trodAll_cons r0
  obtain ⟨v2, vs2, d2, ds2, p2, q2, rfl, rfl, rfl, h2, r2⟩ := trodAll_cons r1
  obtain ⟨v3, vs3, d3, ds3, p3, q3, rfl, rfl, rfl, h3, r3⟩ := trodAll_cons r2
  obtain ⟨v4, vs4, d4, ds4, p4, q4, rfl, rfl, rfl, h4, r4⟩ := trodAll_cons r3
  obtain ⟨rfl, rfl, rfl⟩ := trodAll_nil r4
  obtain rfl : args = #[v0, v1, v2, v3, v4] := by cases args; simp_all
  obtain ⟨rfl, rfl⟩ := trodVars_none hV
  obtain ⟨A, xs, c, rfl, hc1, hm1, hx⟩ := open_byt (hval 0 22 v0 rfl rfl) h0
  obtain ⟨B, ys, d, rfl, hc2, hm2, hy⟩ := open_byt (hval 1 22 v1 rfl rfl) h1
  obtain ⟨C, us, e0, rfl, hc3, hm3, hu⟩ := open_byt (hval 2 22 v2 rfl rfl) h2
  obtain ⟨a3, rfl, rfl, rfl, w3⟩ := open_int Tryd.underlying3 (hval 3 3 v3 rfl rfl) h3
  obtain ⟨a4, rfl, rfl, rfl, w4⟩ := open_int Tryd.underlying3 (hval 4 3 v4 rfl rfl) h4
  clear hA0 hval0
  simp only [List.append_nil] at hW'
  refine (hk_walk HH (n := a3) (less := a4) hx hy hu (fun b hb => hb) rfl rfl rfl hc1 hc2 hc3 hm1 hm2 hm3 (tab_of_laid hL)).mono fun e W' ⟨he, hgr⟩ => ?_
  have hg := below_of_grown hgr
  subst he
  refine ⟨_, rfl, ?_⟩
  have hback0 := Below.trod laid_out read22 row22 h0 hg (fun x hx => hW'.lt x (by simp [hx]))
  have hback1 := Below.trod laid_out read22 row22 h1 hg (fun x hx => hW'.lt x (by simp [hx]))
  have hback2 := Below.trod laid_out read22 row22 h2 hg (fun x hx => hW'.lt x (by simp [hx]))
  have hall := trodAll_next hback0 (trodAll_next hback1 (trodAll_mk3 hback2 (shut_int Tryd.underlying3 w3) (shut_int Tryd.underlying3 w4)))
  simp only [List.append_nil] at hall
  refine ⟨_, _, _, [], p0 ++ (p1 ++ p2), [], hW', trodAll_mk1 (shut_bool Tryd.underlying4 true), hall, rfl, hg.frame _, fun h => by cases h⟩
theorem hkdf_over (HH : HashSays) : Rows.MacHkdfSaid :=
  OpenClaim.holds_of_wide 4 Tryd.f4 rfl rfl rfl rfl rfl rfl rfl ⟨rfl, rfl, rfl, rfl, rfl⟩ rfl rfl rfl rfl rfl (by kernel_rfl) Tryd.func4 (by kernel_rfl)
    (of_decide_eq_true (by kernel_rfl)) (by unfold Func.isWrapper; first | (rw [if_pos (by decide +kernel)]; kernel_rfl) | (rw [if_neg (by decide +kernel)]; exact ⟨rfl, rfl⟩))
    (fun os started H enc _ => hkdf_lifted HH os started H enc)
theorem hkdf_card (HH : HashSays) : Rows.MacHkdfCardSaid :=
  Claim7.holds_tied_plain_at .later [] [.data, .data] true (true, "6804543c43d07a47c7f4d856165f2e1db9ca47d2c36460fdd1f06eef064ba28a") false
    (hkdf_over HH) (fun _ h => by cases h) (by kernel_rfl) (fun _ h => by cases h) macHkdf_row_tie rfl ⟨rfl, rfl⟩ (by kernel_rfl) rfl
    (fun f fn hf hfn => by
      obtain rfl : f = 4 := Option.some.inj ((show Tryd.prog.funcNamed "missive/missivelaw04.MacHkdf" = some 4 by kernel_rfl).symm.trans hf) |>.symm
      obtain rfl : fn = Tryd.f4 := (Option.some.inj (Tryd.func4.symm.trans hfn)).symm
      exact ⟨by kernel_rfl, fun j t ht => by
        rw [Tryd.params4] at ht
        have hm : t ∈ [22, 22, 22, 3, 3] := by simpa using Array.mem_of_getElem? ht
        have hall : ([22, 22, 22, 3, 3].all fun u => !Tryd.prog.wantsStandIn u) = true := by kernel_rfl
        exact (show Tryd.prog.wantsStandIn t = false by simpa using List.all_eq_true.1 hall t hm)⟩)
    (by kernel_rfl)
#print axioms hkdf_card
end Go.Proofs.YtgphopahlgfogaaDoor
