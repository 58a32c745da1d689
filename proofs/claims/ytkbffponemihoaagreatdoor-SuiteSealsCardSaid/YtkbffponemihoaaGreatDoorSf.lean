/- Whether bytes are the same, as the program and the reference tell it. Conditions: none. HKDF, as the program tells it. Conditions: none. -/
import Derived.Test.YtkbffponemihoaaGreatDoorSe
namespace Go.Proofs.YtkbffponemihoaaGreatDoor.S
open Go.RowKit
theorem bool_end {a b : Bool} (h : a = b) : Ending.returned (.bool a) = .returned (.bool b) := by rw [h]
theorem bytes_any {w : World} {ok ok' : Nat → Prop} {A B : Option Addr} {xs ys : List UInt8} {c d : Nat} (ha : Byt w ok A xs) (hb : Byt w ok' B ys) :
    Calls Tryz.prog 9 #[.slice A xs.length c, .slice B ys.length d] w fun e w' => e = .returned (.bool (decide (xs = ys))) ∧ w = w' := by
  have r1 := ha.str c
  have r2 := hb.str d
  go_enter Tryz.func9, Tryz.ntmps9
  go_wp2
  go_ret
  exact ⟨bool_end (by rw [Bool.eq_iff_iff]; simp), rfl⟩
theorem bytes_n {w : World} {ok ok' : Nat → Prop} {A B : Option Addr} {xs ys : List UInt8} {c d n m : Nat} (ha : Byt w ok A xs) (hb : Byt w ok' B ys) (hn : xs.length = n) (hm : ys.length = m) :
    Calls Tryz.prog 9 #[.slice A n c, .slice B m d] w fun e w' => e = .returned (.bool (decide (xs = ys))) ∧ w = w' := by
  subst hn hm; exact bytes_any ha hb
/-- Where the k first bytes are unlike. -/
def dif (xs ys : List UInt8) : Nat → UInt8
  | 0 => 0
  | k + 1 => dif xs ys k ||| (xs.getD k 0 ^^^ ys.getD k 0)
theorem or_zero_iff (a b : UInt8) : a ||| b = 0 ↔ a = 0 ∧ b = 0 := by
  rw [← UInt8.toNat_inj, ← UInt8.toNat_inj, ← UInt8.toNat_inj, UInt8.toNat_or]
  exact Nat.or_eq_zero_iff
theorem xor_zero_iff (a b : UInt8) : a ^^^ b = 0 ↔ a = b := by
  constructor
  · intro h
    have := congrArg (· ^^^ b) h
    simpa [UInt8.xor_assoc] using this
  · rintro rfl; simp
theorem dif_zero (xs ys : List UInt8) : ∀ k, dif xs ys k = 0 ↔ ∀ j, j < k → xs.getD j 0 = ys.getD j 0
  | 0 => by simp [dif]
  | k + 1 => by
    rw [dif, or_zero_iff, dif_zero xs ys k, xor_zero_iff]
    constructor
    · rintro ⟨h1, h2⟩ j hj
      rcases Nat.lt_or_ge j k with h | h
      · exact h1 j h
      · obtain rfl : j = k := by omega
        exact h2
    · intro h
      exact ⟨fun j hj => h j (by omega), h k (by omega)⟩
theorem dif_same (xs ys : List UInt8) (h : xs.length = ys.length) : dif xs ys xs.length = 0 ↔ xs = ys := by
  rw [dif_zero]
  constructor
  · intro hj
    apply List.ext_getElem h
    intro i h1 h2
    have := hj i h1
    simpa [List.getD_eq_getElem?_getD, h1, h2] using this
  · rintro rfl; simp
theorem u8_or' (x y : UInt8) : bits .or .u8 (x.toNat : Int) (y.toNat : Int) = ((x ||| y).toNat : Int) := by
  rw [u8_or_nat _ _ x.toNat_lt y.toNat_lt, UInt8.toNat_or]
set_option maxHeartbeats 800000 in
theorem same_any {w : World} {ok ok' : Nat → Prop} {A B : Option Addr} {xs ys : List UInt8} {c d n m : Nat} (ha : Byt w ok A xs) (hb : Byt w ok' B ys) (hn : xs.length = n) (hm : ys.length = m) (hmax : n ≤ 9223372036854775807) :
    Calls Tryz.prog 40 #[.slice A n c, .slice B m d] w fun e w' => e = .returned (.bool (decide (xs = ys))) ∧ w = w' := by
  have HA := Lib.hid ha
  have HB := Lib.hid hb
  have HN := Lib.hid hn
  have HM := Lib.hid hm
  clear ha hb hn hm
  by_cases hnm : n = m
  · subst hnm
    have d1 : ((n : Int) != (n : Int)) = false := by simp
    go_enter Tryz.func40, Tryz.ntmps40
    go_wp2
    go_loop [5, 15] (fun u i => ∃ k : Nat, k ≤ n ∧ i = .int .i64 k ∧ u = .int .u8 ((dif xs ys k).toNat : Int)) (fun _ i => n - (intOf i).toNat)
    case atStart => exact ⟨0, Nat.zero_le _, rfl, rfl⟩
    case round =>
      obtain ⟨k, hk, rfl, rfl⟩ := hrel
      by_cases hlt : k < n
      · have hkx : k < xs.length := by rw [HN.out]; exact hlt
        have hky : k < ys.length := by rw [HM.out]; exact hlt
        obtain ⟨a, rfl, -, ca⟩ := HA.out.some_ (by omega)
        obtain ⟨b, rfl, -, cb⟩ := HB.out.some_ (by omega)
        have ha := ca k hkx
        have hb := cb k hky
        have e1 : xs.getD k 0 = xs[k] := by simp [List.getD_eq_getElem?_getD, hkx]
        have e2 : ys.getD k 0 = ys[k] := by simp [List.getD_eq_getElem?_getD, hky]
        rw [← e1] at ha
        rw [← e2] at hb
        obtain ⟨x, hx⟩ : ∃ x, x = xs.getD k 0 := ⟨_, rfl⟩
        obtain ⟨y, hy⟩ : ∃ y, y = ys.getD k 0 := ⟨_, rfl⟩
        obtain ⟨u, hu⟩ : ∃ u, u = dif xs ys k := ⟨_, rfl⟩
        obtain ⟨v, hv⟩ : ∃ v, v = x ^^^ y := ⟨_, rfl⟩
        obtain ⟨r, hr⟩ : ∃ r, r = u ||| v := ⟨_, rfl⟩
        have hs : dif xs ys (k + 1) = r := by rw [hr, hv, hx, hy, hu]; rfl
        rw [← hx] at ha
        rw [← hy] at hb
        rw [← hu]
        have z1 : bits .xor .u8 (x.toNat : Int) (y.toNat : Int) = (v.toNat : Int) := by rw [hv]; exact u8_xor' x y
        have z2 : bits .or .u8 (u.toNat : Int) (v.toNat : Int) = (r.toNat : Int) := by rw [hr]; exact u8_or' u v
        have HS := Lib.hid hs
        clear e1 e2 hx hy hu hs hv hr ca cb hkx hky
        go_wp2
        go_round
        case rel => exact ⟨k + 1, by omega, by go_num, by rw [HS.out]⟩
        case measure => simp [intOf]; omega
      · have ek : k = n := by omega
        have hd : (dif xs ys k).toNat = 0 ↔ xs = ys := by
          rw [ek, ← HN.out, ← dif_same xs ys (by rw [HN.out, HM.out])]
          constructor
          · intro h
            apply UInt8.toNat.inj
            rw [h]; rfl
          · intro h; rw [h]; rfl
        have HD := Lib.hid hd
        obtain ⟨z, hz⟩ : ∃ z, z = ((dif xs ys k).toNat : Int) := ⟨_, rfl⟩
        have HZ := Lib.hid hz
        rw [← hz]
        clear hd hz ek
        go_wp2
        go_ret
        refine ⟨bool_end ?_, rfl⟩
        rw [Bool.eq_iff_iff]
        simpa [HZ.out] using HD.out
  · have d1 : ((n : Int) != (m : Int)) = true := by simp; omega
    go_enter Tryz.func40, Tryz.ntmps40
    go_wp2
    go_ret
    refine ⟨bool_end ?_, rfl⟩
    have : xs ≠ ys := fun e => hnm (by rw [← HN.out, ← HM.out, e])
    simp [this]
open Go.RowKit
/-- The k-th block of HKDF's answer; none at 0. -/
def tk (p info : List UInt8) : Nat → List UInt8
  | 0 => []
  | k + 1 => hmac p (tk p info k ++ info ++ [UInt8.ofNat (k + 1)])
/-- The k first blocks. -/
def okm (p info : List UInt8) : Nat → List UInt8
  | 0 => []
  | k + 1 => okm p info k ++ tk p info (k + 1)
theorem tk_length (p info : List UInt8) (k : Nat) : (tk p info (k + 1)).length = 32 := hmac_length _ _
theorem okm_length (p info : List UInt8) : ∀ k, (okm p info k).length = 32 * k
  | 0 => rfl
  | k + 1 => by rw [okm, List.length_append, okm_length p info k, tk_length]; omega
/-- HKDF. -/
def hkdf (salt from_ info : List UInt8) (n : Nat) : List UInt8 := (okm (hmac salt from_) info ((n + 31) / 32)).take n
theorem hkdf_length (salt from_ info : List UInt8) (n : Nat) : (hkdf salt from_ info n).length = n := by
  unfold hkdf
  rw [List.length_take, okm_length]
  omega
theorem okm_take (p info : List UInt8) (n k : Nat) (h : n ≤ 32 * k) : ∀ d, (okm p info (k + d)).take n = (okm p info k).take n
  | 0 => rfl
  | d + 1 => by
    rw [← Nat.add_assoc, okm, List.take_append_of_le_length (by rw [okm_length]; omega), okm_take p info n k h d]
theorem okm_end (p info : List UInt8) (n k : Nat) (h : n ≤ 32 * k) : (okm p info ((n + 31) / 32)).take n = (okm p info k).take n := by
  obtain ⟨d, hd⟩ : ∃ d, k = (n + 31) / 32 + d := ⟨k - (n + 31) / 32, by omega⟩
  rw [hd, okm_take p info n _ (by omega) d]
theorem okm_step (p info : List UInt8) (n k : Nat) (h : 32 * k ≤ n) : okm p info k ++ lay (tk p info (k + 1)) (zs (n - 32 * k)) = (okm p info (k + 1)).take n ++ zs (n - (32 * k + 32)) := by
  have hl := okm_length p info k
  rw [okm, List.take_append, hl, List.take_of_length_le (by omega), lay, zs_length, zs_drop, tk_length, List.append_assoc, Nat.sub_sub]
/-- While the blocks are made. -/
def HkAt (B : World) (gb n : Nat) (p info : List UInt8) (v i : Value) (wr : World) : Prop :=
  ∃ (k a l : Nat) (A : Option Addr), i = .int .i64 (a : Int) ∧ a = 32 * k ∧ a < n + 32 ∧ v = .slice A l l ∧ (tk p info k).length = l ∧ Byt wr (fun b => b < wr.heap.size ∧ b ≠ gb) A (tk p info k) ∧ Blk wr gb 5 (u8s ((okm p info k).take n ++ zs (n - a))) ∧ B.grownBy wr (some gb)
theorem lst_three {w : World} {ok : Nat → Prop} {g : Nat} {ty : TypeId} {A B C : Option Addr} {n1 c1 n2 c2 n3 c3 : Nat} {x y z : List UInt8} (hb : Blk w g ty [.slice A n1 c1, .slice B n2 c2, .slice C n3 c3]) (hg : ok g) (h1 : x.length = n1) (h2 : y.length = n2) (h3 : z.length = n3)
    (l1 : n1 ≤ c1) (l2 : n2 ≤ c2) (l3 : n3 ≤ c3) (m1 : c1 ≤ maxLen) (m2 : c2 ≤ maxLen) (m3 : c3 ≤ maxLen) (hx : Byt w ok A x) (hy : Byt w ok B y) (hz : Byt w ok C z) : Lst w ok (some ⟨g, 0, none⟩) [x, y, z] := by
  subst h1 h2 h3
  refine lst_of_blk hb hg fun j hj => ?_
  have hj3 : j < 3 := by simpa using hj
  obtain rfl | rfl | rfl : j = 0 ∨ j = 1 ∨ j = 2 := by omega
  · exact ⟨A, c1, rfl, l1, m1, hx⟩
  · exact ⟨B, c2, rfl, l2, m2, hy⟩
  · exact ⟨C, c3, rfl, l3, m3, hz⟩
theorem msum_three {w : World} {c2 gi go : Nat} {ok : Nat → Prop} {A2 : Option Addr} {fi fo x y z : List UInt8} (hi : Blk w gi 99 (u8s fi)) (ho : Blk w go 99 (u8s fo)) (hli : fi.length = 64) (hlo : fo.length = 64) (hp : Lst w ok A2 [x, y, z]) (hok : ∀ b, ok b → b < w.heap.size)
    (hs : 64 + (x.length + y.length + z.length) < 2305843009213693952) (hT : Tab w) {r : List UInt8} (hr : r = sha256 (fo ++ sha256 (fi ++ (x ++ y ++ z)))) :
    Calls Tryz.prog 64 #[.pointer (some ⟨gi, 0, none⟩), .pointer (some ⟨go, 0, none⟩), .slice A2 3 c2] w fun e w' => e = .returned (.agg (u8s r).toArray) ∧ w.grownBy w' none := by
  subst hr
  have h := msum_any (c2 := c2) hi ho hli hlo hp hok rfl (by simp) (by simp; omega) hT
  simpa using h
theorem byte_nat (k : Nat) (h : k < 255) : ((UInt8.ofNat (k + 1)).toNat : Int) = (k : Int) + 1 := by rw [u8_ofNat]; omega
theorem blk_one (w : World) (x : UInt8) : Blk (w.alloc (.cells #[.int .u8 (x.toNat : Int)] 5)) w.heap.size 5 (u8s [x]) := Blk.of_alloc w #[.int .u8 (x.toNat : Int)] 5
set_option maxRecDepth 100000 in
set_option maxHeartbeats 1600000 in
theorem hkdf_yes {w : World} {c1 c2 c3 n1 n2 n3 n : Nat} {ok : Nat → Prop} {A1 A2 A3 : Option Addr} {salt from_ info : List UInt8} (hs : Byt w ok A1 salt) (hf : Byt w ok A2 from_) (hx : Byt w ok A3 info) (hok : ∀ b, ok b → b < w.heap.size)
    (hn1 : salt.length = n1) (hn2 : from_.length = n2) (hn3 : info.length = n3) (hc1 : n1 ≤ c1) (hc2 : n2 ≤ c2) (hc3 : n3 ≤ c3) (hm1 : c1 ≤ maxLen) (hm2 : c2 ≤ maxLen) (hm3 : c3 ≤ maxLen)
    (hz1 : n1 < 1152921504606846976) (hz2 : n2 < 1152921504606846976) (hz3 : n3 < 1152921504606846976) (hn : n ≤ 8160) (hT : Tab w) :
    Calls Tryz.prog 45 #[.slice A1 n1 c1, .slice A2 n2 c2, .slice A3 n3 c3, .int .i64 (n : Int)] w fun e w' => ∃ gb, e = .returned (.tuple #[.slice (some ⟨gb, 0, none⟩) n n, .bool true]) ∧ Blk w' gb 5 (u8s (hkdf salt from_ info n)) ∧ w.heap.size ≤ gb ∧ w.grownBy w' none := by
  have d1 : decide ((n : Int) < 0) = false := by simp
  have d2 : decide (8160 < (n : Int)) = false := by simp; omega
  have HS := Lib.hid hs
  have HF := Lib.hid hf
  have HX := Lib.hid hx
  have HN1 := Lib.hid hn1
  have HN2 := Lib.hid hn2
  have HN3 := Lib.hid hn3
  have HT := Lib.hid hT
  clear hs hf hx hn1 hn2 hn3 hT
  go_enter Tryz.func45, Tryz.ntmps45
  go_upto_region 4 with (first
    | (go_at_call 51; refine (mac_any HS.out HF.out hok HN1.out HN2.out hc1 hm1 hc2 hm2 hz1 hz2 HT.out).mono ?_; rintro _ w1 ⟨rfl, hg1⟩)
    | (refine wpList_alloc24 rfl rfl ?_; intro w2 hb2 hg2 hzz2)
    | (refine wpList_store_row rfl 22 _ _ rfl w1.heap.size (u8s (hmac salt from_)).toArray rfl rfl 22 _ hb2 (by rw [size24, List.size_toArray, u8s_length, hmac_length]) (by simp [u8s_length, hmac_length, zs_length]) (all_oneCell_toArray (u8s_one _)) ?_))
  obtain ⟨p, hp⟩ : ∃ p, p = hmac salt from_ := ⟨_, rfl⟩
  obtain ⟨gp, hgp⟩ : ∃ g, g = w1.heap.size := ⟨_, rfl⟩
  obtain ⟨w3, hw3⟩ : ∃ w', w' = w2.setRow w1.heap.size (u8s (hmac salt from_)).toArray := ⟨_, rfl⟩
  rw [← hw3, ← hp, ← hgp]
  have hlp : p.length = 32 := by rw [hp, hmac_length]
  have hb3 : Blk w3 gp 22 (u8s p) := by rw [hw3, ← hgp, ← hp]; rw [← hgp] at hb2; exact Blk.setRow hb2
  have hzg1 := hg1.size
  have hg3 : w.grownBy w3 none := by
    rw [hw3]
    exact World.grownBy.andThen (World.grownBy.trans hg1 hg2) (grown_setRow _ _ _) (by rintro _ ⟨⟩; exact .inl (by omega))
  have hwp : w.heap.size ≤ gp := by omega
  have hx3 := hb3.bytes
  have hT3 := HT.out.grown hg3 (by simp) (by simp)
  have hb3l := hb3.lt
  have HP := Lib.hid hp
  have HLP := Lib.hid hlp
  have HG3 := Lib.hid hg3
  have HX3 := Lib.hid hx3
  have HT3 := Lib.hid hT3
  have hmx : (32 : Nat) ≤ maxLen := by unfold maxLen; omega
  clear hp hgp hw3 hlp hb2 hb3 hzg1 hg1 hg2 hzz2 hg3 hx3 hT3
  go_wp2_with (first
    | (go_at_call 63; refine (forms_any HX3.out (fun b hb => hb) HLP.out (Nat.le_refl _) hmx (by omega) HT3.out).mono ?_; rintro _ w4 ⟨rfl, hg4⟩)
    | (refine wpList_alloc32 rfl rfl ?_))
  intro w5 hb5 hg5 hz5
  go_wp2_with (refine wpList_alloc32 rfl rfl ?_)
  intro w6 hb6 hg6 hz6
  obtain ⟨fi, hfi⟩ : ∃ l, l = xr 54 (kpad p) := ⟨_, rfl⟩
  obtain ⟨fo, hfo⟩ : ∃ l, l = xr 92 (kpad p) := ⟨_, rfl⟩
  have hli : fi.length = 64 := by rw [hfi, xr_length, kpad_length]
  have hlo : fo.length = 64 := by rw [hfo, xr_length, kpad_length]
  obtain ⟨gi, hgi⟩ : ∃ g, g = w4.heap.size := ⟨_, rfl⟩
  obtain ⟨go, hgo⟩ : ∃ g, g = w4.heap.size + 1 := ⟨_, rfl⟩
  rw [← hfi, ← hfo, ← hgo, ← hgi]
  rw [← hgo] at hb6
  rw [← hgi] at hb5
  have hb56 := hb5.grown hg6 (by simp)
  have hg36 := World.grownBy.trans hg4 (World.grownBy.trans hg5 hg6)
  have hne : gi ≠ go := by omega
  have hz4 := hg4.size
  have hz3 := HG3.out.size
  have hwi : w.heap.size ≤ gi := by omega
  have hwo : w.heap.size ≤ go := by omega
  have HB5 := Lib.hid hb56
  have HB6 := Lib.hid hb6
  have HG36 := Lib.hid (World.grownBy.trans HG3.out hg36)
  have HFI := Lib.hid hfi
  have HFO := Lib.hid hfo
  have HLI := Lib.hid hli
  have HLO := Lib.hid hlo
  clear hg4 hg5 hg6 hb5 hb56 hb6 hg36 hfi hfo hli hlo hgi hgo hz4 hz3 HX3 HT3 hz5 hz6
  go_upto_region 5 with (first
    | (refine wpList_store_row rfl 99 _ _ rfl gi (u8s fi).toArray rfl rfl 99 _ HB5.out (by rw [size32, List.size_toArray, u8s_length, HLI.out]) (by simp [u8s_length, HLI.out, zs_length]) (all_oneCell_toArray (u8s_one _)) ?_)
    | (refine wpList_store_row rfl 99 _ _ rfl go (u8s fo).toArray rfl rfl 99 _ (HB6.out.grown (grown_setRow _ gi _) (fun e => hne (Option.some.inj e).symm)) (by rw [size32, List.size_toArray, u8s_length, HLO.out]) (by simp [u8s_length, HLO.out, zs_length]) (all_oneCell_toArray (u8s_one _)) ?_))
  obtain ⟨w7, hw7⟩ : ∃ w', w' = (w6.setRow gi (u8s fi).toArray).setRow go (u8s fo).toArray := ⟨_, rfl⟩
  rw [← hw7]
  have hbi : Blk w7 gi 99 (u8s fi) := by rw [hw7]; exact Blk.grown (Blk.setRow HB5.out) (grown_setRow _ go _) (fun e => hne (Option.some.inj e))
  have hbo : Blk w7 go 99 (u8s fo) := by rw [hw7]; exact Blk.setRow (HB6.out.grown (grown_setRow _ gi _) (fun e => hne (Option.some.inj e).symm))
  have hg7 : w.grownBy w7 none := by
    rw [hw7]
    exact World.grownBy.andThen (World.grownBy.andThen HG36.out (grown_setRow _ gi _) (by rintro _ ⟨⟩; exact .inl hwi)) (grown_setRow _ go _) (by rintro _ ⟨⟩; exact .inl hwo)
  have HBI := Lib.hid hbi
  have HBO := Lib.hid hbo
  have HG7 := Lib.hid hg7
  clear hw7 hbi hbo hg7 HB5 HB6 HG36
  obtain ⟨i0, hi, hz0, hzz1, hzz2⟩ := info_parts Tryz.info5
  go_wp2_with (with_reducible refine wpList_make_full _ rfl _ _ 23 rfl w7.heap.size 5 i0 (.int .u8 0) 1 Tryz.underlying23 hi hz0 hzz1 .i64 .i64 _ _ n rfl rfl rfl rfl ?c1 ?c2 ?c3 ?_)
  case c1 => rw [hzz2]; omega
  case c2 => unfold maxLen; omega
  case c3 => exact Nat.le_refl _
  intro w8 hown hg8
  rw [made_u8'] at hown
  have hb8 := Blk.of_owns hown
  obtain ⟨gb, hgb⟩ : ∃ g, g = w7.heap.size := ⟨_, rfl⟩
  rw [← hgb] at hb8 ⊢
  have hgi := HBI.out.lt
  have hgo := HBO.out.lt
  have hib : gi ≠ gb := by omega
  have hob : go ≠ gb := by omega
  have hwb : w.heap.size ≤ gb := by have := HG7.out.size; omega
  have hg88 := World.grownBy.trans HG7.out hg8
  have HBI8 := Lib.hid (HBI.out.grown hg8 (by simp))
  have HBO8 := Lib.hid (HBO.out.grown hg8 (by simp))
  have HG8 := Lib.hid hg88
  have HX8 := Lib.hid (HX.out.grown hg88 (fun b hb => ⟨hok b hb, by simp⟩))
  have hok8 : ∀ b, ok b → b < w8.heap.size ∧ b ≠ gb := fun b hb => by have h1 := hok b hb; have h2 := hg88.size; omega
  have hT8 := HT.out.grown hg88 (by simp) (by simp)
  have hT1 := HT.out.lt
  have hgb1 : 2 < gb := by omega
  have HOK8 := Lib.hid hok8
  have HT8 := Lib.hid hT8
  have hst : HkAt w8 gb n p info (.slice none 0 0) (.int .i64 (0 : Int)) w8 := ⟨0, 0, 0, none, rfl, rfl, by omega, rfl, rfl, Byt.nil, by rw [okm, List.take_nil, List.nil_append]; exact hb8, World.grownBy.refl _ _⟩
  have HST := Lib.hid hst
  clear hown hg8 hb8 hgb hgi hgo hg88 hok8 hT8 hst HBI HBO HG7
  go_wp2_with (fail)
  go_loopw [14, 15] (fun v i wr => HkAt w8 gb n p info v i wr) (fun _ i _ => n + 32 - (intOf i).toNat)
  case atStart => exact HST.out
  case round =>
    obtain ⟨k, a, l, A, rfl, hak, han, rfl, htl, hby, hbb, hgr⟩ := hrel
    by_cases hlt : a < n
    · have hk : k < 255 := by omega
      have q2 : (a : Int) / 32 = (k : Int) := by rw [hak]; omega
      have q1 : (a : Int).tdiv 32 = (k : Int) := by rw [Int.tdiv_eq_ediv_of_nonneg (by omega), q2]
      have hl32 : l ≤ 32 := by
        rw [← htl]
        cases k with
        | zero => exact Nat.zero_le _
        | succ k => rw [tk_length]; exact Nat.le_refl _
      obtain ⟨x, hxe⟩ : ∃ x, x = UInt8.ofNat (k + 1) := ⟨_, rfl⟩
      have u1 : (k : Int) + 1 = (x.toNat : Int) := by rw [hxe, byte_nat k hk]
      obtain ⟨V, hV⟩ : ∃ V, V = wr.alloc (.cells #[.int .u8 (x.toNat : Int)] 5) := ⟨_, rfl⟩
      obtain ⟨W, hW⟩ : ∃ W, W = V.alloc (.cells #[.slice A l l, .slice A3 n3 c3, .slice (some ⟨wr.heap.size, 0, none⟩) 1 1] 23) := ⟨_, rfl⟩
      have hgV : wr.grownBy V none := by rw [hV]; exact World.grownBy_alloc wr _ none
      have hgVW : V.grownBy W none := by rw [hW]; exact World.grownBy_alloc V _ none
      have hgW := World.grownBy.trans hgV hgVW
      have hg8W : w8.grownBy W (some gb) := World.grownBy.andThen hgr hgW (by rintro _ ⟨⟩)
      have hzV : V.heap.size = wr.heap.size + 1 := by rw [hV]; exact World.size_alloc wr _
      have hbx : Byt W (fun b => b < W.heap.size) (some ⟨wr.heap.size, 0, none⟩) [x] := (Blk.grown (by rw [hV]; exact blk_one wr x) hgVW (by simp)).bytes
      have hbt : Byt W (fun b => b < W.heap.size) A (tk p info k) := (hby.grown hgW (fun b hb => ⟨hb.1, by simp⟩)).imp fun b hb => Nat.lt_of_lt_of_le hb.1 hgW.size
      have hbn : Byt W (fun b => b < W.heap.size) A3 info := (HX8.out.grown hg8W (fun b hb => ⟨(HOK8.out b hb).1, fun e => (HOK8.out b hb).2 (Option.some.inj e)⟩)).imp fun b hb => Nat.lt_of_lt_of_le (HOK8.out b hb).1 hg8W.size
      have hbl : Blk W (wr.heap.size + 1) 23 [.slice A l l, .slice A3 n3 c3, .slice (some ⟨wr.heap.size, 0, none⟩) 1 1] := by rw [← hzV, hW]; exact Blk.of_alloc V _ 23
      have hps : Lst W (fun b => b < W.heap.size) (some ⟨wr.heap.size + 1, 0, none⟩) [tk p info k, info, [x]] := lst_three hbl hbl.lt htl HN3.out rfl (Nat.le_refl _) hc3 (Nat.le_refl _) (by unfold maxLen; omega) hm3 (by unfold maxLen; omega) hbt hbn hbx
      have hiW := HBI8.out.grown hg8W (fun e => hib (Option.some.inj e))
      have hoW := HBO8.out.grown hg8W (fun e => hob (Option.some.inj e))
      have hTW := HT8.out.grown hg8W (fun e => by have := Option.some.inj e; omega) (fun e => by have := Option.some.inj e; omega)
      have hss : 64 + ((tk p info k).length + info.length + [x].length) < 2305843009213693952 := by rw [htl, HN3.out]; simp; omega
      have hbW := hbb.grown hgW (by simp)
      obtain ⟨y, hy⟩ : ∃ y, y = sha256 (fo ++ sha256 (fi ++ (tk p info k ++ info ++ [x]))) := ⟨_, rfl⟩
      have hyk : y = tk p info (k + 1) := by rw [hy, HFO.out, HFI.out, hxe]; rfl
      have hly : y.length = 32 := by rw [hyk, tk_length]
      have HAK := Lib.hid hak
      have HK := Lib.hid hk
      have HPS := Lib.hid hps
      have HIW := Lib.hid hiW
      have HOW := Lib.hid hoW
      have HTW := Lib.hid hTW
      have HSS := Lib.hid hss
      have HBW := Lib.hid hbW
      have HGW := Lib.hid hg8W
      have HY := Lib.hid hy
      have HYK := Lib.hid hyk
      have HLY := Lib.hid hly
      have HW : Hid (W = (wr.alloc (.cells #[.int .u8 ((k : Int) + 1)] 5)).alloc (.cells #[.slice A l l, .slice A3 n3 c3, .slice (some ⟨wr.heap.size, 0, none⟩) 1 1] 23)) := by rw [u1, ← hV]; exact hW
      clear htl hby hbb hgr hak hxe u1 hV hW hgV hgVW hgW hg8W hzV hbx hbt hbn hbl hps hiW hoW hTW hss hbW hy hyk hly
      go_upto_region 11 with (first
        | (go_at_call 64; rw [← HW.out]; refine (msum_three HIW.out HOW.out HLI.out HLO.out HPS.out (fun b hb => hb) HSS.out HTW.out HY.out).mono ?_; rintro _ w10 ⟨rfl, hg10⟩)
        | (refine wpList_alloc24 rfl rfl ?_; intro w11 hb11 hg11 hz11)
        | (refine wpList_store_row rfl 22 _ _ rfl w10.heap.size (u8s y).toArray rfl rfl 22 _ hb11 (by rw [size24, List.size_toArray, u8s_length, HLY.out]) (by simp [u8s_length, HLY.out, zs_length]) (all_oneCell_toArray (u8s_one _)) ?_))
      obtain ⟨gt, hgt⟩ : ∃ g, g = w10.heap.size := ⟨_, rfl⟩
      obtain ⟨w12, hw12⟩ : ∃ w', w' = w11.setRow w10.heap.size (u8s y).toArray := ⟨_, rfl⟩
      rw [← hw12, ← hgt]
      rw [← hgt] at hb11 hw12
      have hlb := HBW.out.lt
      have hzz := hg10.size
      have hgtb : gt ≠ gb := by omega
      have hbt12 : Blk w12 gt 22 (u8s y) := by rw [hw12]; exact Blk.setRow hb11
      have hg12 : W.grownBy w12 none := World.grownBy.andThen (World.grownBy.trans hg10 hg11) (by rw [hw12]; exact grown_setRow _ gt _) (by rintro _ ⟨⟩; exact .inl (by omega))
      have hbb12 := HBW.out.grown hg12 (by simp)
      have hokl := okm_length p info k
      have hbb13 : Blk w12 gb 5 (u8s (okm p info k) ++ u8s (zs (n - a)) ++ []) := hbb12.to (by rw [List.take_of_length_le (by rw [hokl]; have := HAK.out; omega), u8s_append, List.append_nil])
      have hbb14 : ∀ j, Blk (w12.drewN j) gb 5 (u8s (okm p info k) ++ u8s (zs (n - a)) ++ []) := fun j => hbb13.keep rfl
      have hxt : Byt w12 (fun b => b < w12.heap.size) (some ⟨gt, 0, none⟩) y := hbt12.bytes
      have hxt14 : ∀ j, Byt (w12.drewN j) (fun b => b < w12.heap.size) (some ⟨gt, 0, none⟩) y := fun j => hxt.keep fun b hb => rfl
      have hpl : (u8s (okm p info k)).length = a := by rw [u8s_length, hokl, HAK.out]
      have hg8 : ∀ j, w8.grownBy (w12.drewN j) (some gb) := fun j => grown_drewN j (World.grownBy.andThen HGW.out hg12 (by rintro _ ⟨⟩))
      have hm0 : 0 < Nat.min y.length (zs (n - a)).length := by rw [HLY.out, zs_length]; exact Nat.lt_min.2 ⟨by omega, by omega⟩
      obtain ⟨m, hm⟩ : ∃ m, Nat.min y.length (zs (n - a)).length = m := ⟨_, rfl⟩
      have s1 : (0 : Int) ≤ (a : Int) := by omega
      have s2 : (a : Int) ≤ (n : Int) := by omega
      have s3 : ¬ n = a := by omega
      have s4 : ¬ n ≤ a := by omega
      have HB14 := Lib.hid hbb14
      have HXT := Lib.hid hxt14
      have HPL := Lib.hid hpl
      have HG8 := Lib.hid hg8
      have HM0 := Lib.hid hm0
      have HM := Lib.hid hm
      have HBT := Lib.hid hbt12
      clear hgt hw12 hb11 hlb hzz hbt12 hg12 hbb12 hokl hbb13 hbb14 hxt hxt14 hpl hg8 hm0 hm hg10 hg11 hz11
      go_region_law (first
        | (refine step_copy_blk rfl (.tmp 49) (.tmp 50) rfl gb a (n - a) (n - a) 32 32 (some ⟨gt, 0, none⟩) y (zs (n - a)) rfl rfl HLY.out (zs_length _) HM0.out 5 (u8s (okm p info k)) [] (HB14.out 1) HPL.out _ (HXT.out 1) m HM.out ?_; intro w15 hb15 hg15 hz15)
        | fail)
      have hgr15 : w8.grownBy w15 (some gb) := World.grownBy.trans (HG8.out 1) hg15
      have hbb15 : Blk w15 gb 5 (u8s ((okm p info (k + 1)).take n ++ zs (n - (a + 32)))) := by
        refine hb15.to ?_
        rw [List.append_nil, ← u8s_append, HYK.out, HAK.out, okm_step p info n k (by have := HAK.out; omega)]
      have hbt15 : Blk w15 gt 22 (u8s y) := Blk.grown (HBT.out.keep (w' := w12.drewN 1) rfl) hg15 (fun e => hgtb (Option.some.inj e))
      have hby15 : Byt w15 (fun b => b < w15.heap.size ∧ b ≠ gb) (some ⟨gt, 0, none⟩) (tk p info (k + 1)) := by
        rw [← HYK.out]
        exact ((hbt15.to (by rw [List.append_nil]; rfl)).byt (pre := []) (post := []) rfl).imp fun b hb => by rw [hb]; exact ⟨hbt15.lt, hgtb⟩
      have HGR := Lib.hid hgr15
      have HBB15 := Lib.hid hbb15
      have HBY15 := Lib.hid hby15
      clear hgr15 hbb15 hbt15 hby15 hb15 hg15 hz15
      go_wp2
      go_roundw
      case rel =>
        exact ⟨k + 1, a + 32, 32, some ⟨gt, 0, none⟩, by go_num, by have := HAK.out; omega, by omega, rfl, tk_length _ _ _, HBY15.out, HBB15.out, HGR.out⟩
      case measure => simp [intOf]; omega
    · have hend : (okm p info k).take n ++ zs (n - a) = hkdf salt from_ info n := by
        rw [show n - a = 0 by omega, ← okm_end p info n k (by omega), HP.out]
        simp [zs, hkdf]
      rw [hend] at hbb
      have hgw : w.grownBy wr none := World.grownBy.andThen HG8.out hgr (by rintro _ ⟨⟩; exact .inl hwb)
      have HBB := Lib.hid hbb
      have HGW := Lib.hid hgw
      clear htl hby hbb hgr hak hend hgw
      go_wp2
      go_ret2
      exact ⟨gb, rfl, HBB.out, hwb, HGW.out⟩
end Go.Proofs.YtkbffponemihoaaGreatDoor.S
