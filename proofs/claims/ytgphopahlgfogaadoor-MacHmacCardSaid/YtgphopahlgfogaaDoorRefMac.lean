/- The reference's HMAC. Conditions: none. -/
import Derived.Test.YtgphopahlgfogaaDoorPush
import Derived.Deep.CutRange
namespace Go.Proofs.YtgphopahlgfogaaDoor
open Go.RowKit
/-- A key, filled up. -/
def kpad (key : List UInt8) : List UInt8 := (if 64 < key.length then sha256 key else key) ++ zs (64 - (if 64 < key.length then sha256 key else key).length)
theorem kpad_length (key : List UInt8) : (kpad key).length = 64 := by
  unfold kpad
  split
  · rw [List.length_append, sha256_length, zs_length]
  · rw [List.length_append, zs_length]; omega
def xr (n : UInt8) (l : List UInt8) : List UInt8 := l.map (· ^^^ n)
theorem xr_length (n : UInt8) (l : List UInt8) : (xr n l).length = l.length := by simp [xr]
/-- HMAC. -/
def hmac (key text : List UInt8) : List UInt8 := sha256 (xr 92 (kpad key) ++ sha256 (xr 54 (kpad key) ++ text))
theorem hmac_length (key text : List UInt8) : (hmac key text).length = 32 := sha256_length _
/-- Two rows of the call's own, in blocks of their own. -/
def Two (B : World) (l : List UInt8) (v1 v2 i : Value) (wr : World) : Prop :=
  ∃ k : Nat, k ≤ 64 ∧ i = .int .i64 (k : Int) ∧ wr.ownsRow B.heap.size 5 1 v1 k (u8s (xr 54 (l.take k))) ∧ wr.ownsRow B.heap.size 5 1 v2 k (u8s (xr 92 (l.take k))) ∧ (v1.ownBlock = none ∨ v1.ownBlock ≠ v2.ownBlock) ∧ B.grownBy wr none
/-- One byte behind a row of bytes; another row stays. -/
theorem wpList_push2 {B w0 : World} {ops : Array Oper} {rest : List Oper} {o : Oper} {a : Act} {Q : Exit → Act → World → Prop} (hgd : o.guard = none) (s x : Operand) (ho : o.op = .call { callee := .builtin .append, args := #[s, x], argTypes := #[22, 22] })
    (v u : Value) (n m : Nat) (ys us : List UInt8) (hs : a.eval s = v) (hown : w0.ownsRow B.heap.size 5 1 v n (u8s ys)) (hown2 : w0.ownsRow B.heap.size 5 1 u m (u8s us)) (hne : v.ownBlock = none ∨ u.ownBlock = none ∨ v.ownBlock ≠ u.ownBlock)
    (hB : B.grownBy w0 none) (b : UInt8) (z : Int) (hz : z = (b.toNat : Int)) (hx : a.eval x = .slice (some ⟨w0.heap.size, 0, none⟩) 1 1) (hn : n < 1000000)
    (h : ∀ v' w', w'.ownsRow B.heap.size 5 1 v' (n + 1) (u8s (ys ++ [b])) → w'.ownsRow B.heap.size 5 1 u m (u8s us) → (u.ownBlock = none ∨ v'.ownBlock ≠ u.ownBlock) → B.grownBy w' none → wpList Tryd.prog ops Q rest (a.put o.dst v') w') : wpList Tryd.prog ops Q (o :: rest) a (w0.alloc (.cells #[.int .u8 z] 5)) := by
  subst hz
  obtain ⟨i0, hi, hz0, hz1, hz2⟩ := info_parts Tryd.info5
  have hB1 : B.grownBy (w0.alloc (.cells #[.int .u8 (b.toNat : Int)] 5)) none := World.grownBy.trans hB (World.grownBy_alloc w0 _ none)
  have hown1 := own_keep hown (World.grownBy_alloc w0 (.cells #[.int .u8 (b.toNat : Int)] 5) none)
  have hown3 := own_keep hown2 (World.grownBy_alloc w0 (.cells #[.int .u8 (b.toNat : Int)] 5) none)
  refine wpList_append_own_at _ hgd s x 22 ho B.heap.size 5 i0 (.int .u8 0) 1 1 Tryd.underlying22 hi hz0 hz1 hz2 rfl Nat.one_pos v n (u8s ys) hs hown1 ⟨w0.heap.size, 0, none⟩ 1 1 [.int .u8 (b.toNat : Int)] hx rfl ?_ (one_u8 _) (by unfold maxLen; omega) (by omega) hB1.size ?_
  · intro j q hq
    obtain rfl : j = 0 := by
      have := (List.getElem?_eq_some_iff.1 hq).1
      simpa using this
    rw [Addr.add_lit]
    exact (Blk.of_alloc w0 #[.int .u8 (b.toNat : Int)] 5).get 0 _ hq
  · intro v' w' h1 h2 _ h4
    have hlt := hown3.lt
    refine h v' w' (by rw [u8s_append]; exact h1) ?_ ?_ (own_grown hown1 hB1 h2)
    · refine hown3.kept h2 ?_
      rcases hne with e | e | e
      · rw [e]
        cases u.ownBlock <;> simp
      · exact .inl e
      · exact .inr (fun e2 => e e2.symm)
    · cases hu : u.ownBlock with
      | none => exact .inl rfl
      | some k =>
        refine .inr ?_
        rcases h4 with e | e
        · rw [e]
          rcases hne with e3 | e3 | e3
          · rw [e3]; simp
          · rw [hu] at e3; cases e3
          · rw [hu] at e3; exact e3
        · rw [e]
          intro e5
          have := (hlt k hu).2
          have := Option.some.inj e5
          omega
theorem made_u8' (s : Nat) : (madeCells #[Value.int .u8 0] s).toList = u8s (zs s) := by
  rw [toList_madeCells_one]
  simp [u8s, zs]
theorem u8_xor' (x : UInt8) (n : UInt8) : bits .xor .u8 (x.toNat : Int) (n.toNat : Int) = ((x ^^^ n).toNat : Int) := by
  rw [u8_xor_nat _ _ x.toNat_lt n.toNat_lt, UInt8.toNat_xor]
theorem xr_snoc (n : UInt8) (l : List UInt8) (k : Nat) (h : k < l.length) : xr n (l.take (k + 1)) = xr n (l.take k) ++ [l[k] ^^^ n] := by
  rw [List.take_succ_eq_append_getElem h, xr, List.map_append]; rfl
set_option maxRecDepth 100000 in
set_option maxHeartbeats 1600000 in
theorem refmac_short (H : HashSays) {w : World} {c1 c2 n m : Nat} {ok : Nat → Prop} {A1 A2 : Option Addr} {key text : List UInt8} (hk : Byt w ok A1 key) (ht : Byt w ok A2 text) (hok : ∀ b, ok b → b < w.heap.size) (hn : key.length = n) (hm : text.length = m) (hn2 : n ≤ 64) (hm2 : m ≤ 15000) :
    Calls Tryd.prog 9 #[.slice A1 n c1, .slice A2 m c2] w fun e w' => e = .returned (.agg (u8s (hmac key text)).toArray) ∧ w.grownBy w' none := by
  have hkp : kpad key = key ++ zs (64 - n) := by unfold kpad; rw [if_neg (by omega), hn]
  obtain ⟨i0, hi, hz0, hz1, hz2⟩ := info_parts Tryd.info5
  have HK := Lib.hid hk
  have HT := Lib.hid ht
  have HN := Lib.hid hn
  have HM := Lib.hid hm
  have HKP := Lib.hid hkp
  clear hk ht hn hm hkp
  go_enter Tryd.func9, Tryd.ntmps9
  go_wp2_with (refine wpList_alloc24 rfl rfl ?_)
  intro w1 hb1 hg1 hzz1
  go_wp2_with (with_reducible refine wpList_make_full _ rfl _ _ 22 rfl w1.heap.size 5 i0 (.int .u8 0) 1 Tryd.underlying22 hi hz0 hz1 .i64 .i64 _ _ 64 rfl rfl rfl rfl ?c1 ?c2 ?c3 ?_)
  case c1 => rw [hz2]; omega
  case c2 => unfold maxLen; omega
  case c3 => exact Nat.le_refl _
  intro w2 hown hg2
  rw [made_u8'] at hown
  have hb2 := Blk.of_owns hown
  obtain ⟨gk, hgk⟩ : ∃ gk, gk = w.heap.size + 1 := ⟨_, rfl⟩
  rw [← hgk] at hb2 ⊢
  have hg12 := World.grownBy.trans hg1 hg2
  have hb12 := hb1.grown hg2 (by simp)
  have hk2 := HK.out.grown hg12 (fun b hb => ⟨hok b hb, by simp⟩)
  have ht2 := HT.out.grown hg12 (fun b hb => ⟨hok b hb, by simp⟩)
  have hlt2 := hb2.lt
  have HB1 := Lib.hid hb12
  have HB2 := Lib.hid hb2
  have HG2 := Lib.hid hg12
  have HK2 := Lib.hid hk2
  have HT2 := Lib.hid ht2
  have HGK := Lib.hid hgk
  clear hown hb1 hb2 hg1 hg2 hg12 hb12 hk2 ht2 hgk hzz1
  go_wp2_with (refine wpList_copy_blk rfl _ _ rfl gk 0 64 64 n c1 A1 key (zs 64) rfl rfl HN.out (zs_length 64) 5 [] [] (HB2.out.to (by simp)) rfl ok HK2.out n (by rw [HN.out, zs_length]; exact Nat.min_eq_left (by omega)) ?_)
  intro w3 hb3 hg3 hz3
  have hkey : Blk w3 gk 5 (u8s (kpad key)) := hb3.to (by rw [HKP.out, lay_le _ _ (by rw [zs_length, HN.out]; exact hn2), zs_drop, HN.out])
  have hb13 := HB1.out.grown hg3 (fun e => by have := Option.some.inj e; have := HGK.out; omega)
  have hg13 : w.grownBy w3 none := World.grownBy.andThen HG2.out hg3 (by rintro _ ⟨⟩; exact .inl (by have := HGK.out; omega))
  have ht3 := HT2.out.grown hg3 (fun b hb => ⟨by have h1 := hok b hb; have h2 := HG2.out.size; omega, fun e => by have h1 := Option.some.inj e; have h2 := hok b hb; have := HGK.out; omega⟩)
  have hl3 : gk < w3.heap.size := hkey.lt
  have HKEY := Lib.hid hkey
  have HB13 := Lib.hid hb13
  have HG13 := Lib.hid hg13
  have HT3 := Lib.hid ht3
  clear hb3 hg3 hz3 hkey hb13 hg13 ht3 HB1 HB2 HG2 HK2 HT2
  go_wp2_with (fail)
  go_loopw [7, 8, 9] (fun v1 v2 i wr => Two w3 (kpad key) v1 v2 i wr) (fun _ _ i _ => 64 - (intOf i).toNat)
  case atStart => exact ⟨0, by omega, rfl, World.ownsRow_nil _ _ _ _, World.ownsRow_nil _ _ _ _, .inl rfl, World.grownBy.refl _ _⟩
  case round =>
    obtain ⟨k, hk, rfl, ho1, ho2, hne, hgr⟩ := hrel
    by_cases hlt : k < 64
    · have hkl := kpad_length key
      obtain ⟨x, hx⟩ : ∃ x, x = (kpad key)[k]'(by omega) := ⟨_, rfl⟩
      have hcx : (u8s (kpad key))[k]? = some (.int .u8 (x.toNat : Int)) := by
        unfold u8s
        rw [List.getElem?_map, List.getElem?_eq_getElem (by omega), ← hx]
        rfl
      have hc := (HKEY.out.grown hgr (by simp)).get k _ hcx
      have hs1 : xr 54 ((kpad key).take (k + 1)) = xr 54 ((kpad key).take k) ++ [x ^^^ 54] := by rw [xr_snoc 54 _ k (by omega), ← hx]
      have hs2 : xr 92 ((kpad key).take (k + 1)) = xr 92 ((kpad key).take k) ++ [x ^^^ 92] := by rw [xr_snoc 92 _ k (by omega), ← hx]
      have z1 : bits .xor .u8 (x.toNat : Int) 54 = ((x ^^^ 54).toNat : Int) := u8_xor' x 54
      have z2 : bits .xor .u8 (x.toNat : Int) 92 = ((x ^^^ 92).toNat : Int) := u8_xor' x 92
      have HO1 := Lib.hid ho1
      have HO2 := Lib.hid ho2
      have HNE := Lib.hid hne
      have HS1 := Lib.hid hs1
      have HS2 := Lib.hid hs2
      have Z1 := Lib.hid z1
      have Z2 := Lib.hid z2
      have HC2 := Lib.hid hcx
      clear ho1 ho2 hne hs1 hs2 z1 z2 hcx hx hkl
      have hkb : ∀ w', w3.grownBy w' none → w'.cell? ⟨gk, k, none⟩ = some (.int .u8 (x.toNat : Int)) := fun w' hg => (HKEY.out.grown hg (by simp)).get k _ HC2.out
      have HKB := Lib.hid hkb
      clear hkb
      have hn1 : u7.ownBlock = none ∨ u8.ownBlock = none ∨ u7.ownBlock ≠ u8.ownBlock := HNE.out.elim .inl (fun e => .inr (.inr e))
      have HN1 := Lib.hid hn1
      clear hn1
      go_wp2_with (at_builtin; refine wpList_push2 rfl _ _ rfl u7 u8 k k (xr 54 ((kpad key).take k)) (xr 92 ((kpad key).take k)) rfl HO1.out HO2.out HN1.out hgr (x ^^^ 54) _ Z1.out rfl (by omega) ?_)
      intro v1 w4 ho3 ho4 hne3 hg4
      have hc4 := HKB.out w4 hg4
      have HO3 := Lib.hid ho3
      have HO4 := Lib.hid ho4
      have hn4 : u8.ownBlock = none ∨ v1.ownBlock = none ∨ u8.ownBlock ≠ v1.ownBlock := hne3.elim .inl (fun e => .inr (.inr (fun e2 => e e2.symm)))
      have HN4 := Lib.hid hn4
      clear ho3 ho4 hne3 hn4 hc
      go_wp2_with (at_builtin; refine wpList_push2 rfl _ _ rfl u8 v1 k (k + 1) (xr 92 ((kpad key).take k)) (xr 54 ((kpad key).take k) ++ [x ^^^ 54]) rfl HO4.out HO3.out HN4.out hg4 (x ^^^ 92) _ Z2.out rfl (by omega) ?_)
      intro v2 w5 ho5 ho6 hne5 hg5
      go_wp2
      go_roundw
      case rel =>
        refine ⟨k + 1, by omega, by go_num, ?_, ?_, ?_, hg5⟩
        · rw [HS1.out]; exact ho6
        · rw [HS2.out]; exact ho5
        · exact hne5.elim .inl (fun e => .inr (fun e2 => e e2.symm))
      case measure => simp [intOf]; omega
    · have ek : k = 64 := by omega
      have hfull : (kpad key).take k = kpad key := by rw [ek, List.take_of_length_le (by rw [kpad_length]; exact Nat.le_refl _)]
      rw [hfull, ek] at ho1 ho2
      have ht4 := HT3.out.grown hgr (fun b hb => ⟨by have h1 := hok b hb; have h2 := HG13.out.size; omega, by simp⟩)
      have HO1 := Lib.hid ho1
      have HO2 := Lib.hid ho2
      have HNE := Lib.hid hne
      have HT4 := Lib.hid ht4
      clear ho1 ho2 hne ht4 hfull ek
      go_wp2_with (at_builtin; refine wpList_append_byt_n _ rfl _ _ 22 rfl w3.heap.size i0 (.int .u8 0) Tryd.underlying22 hi hz0 hz1 hz2 rfl u7 64 (xr 54 (kpad key)) rfl HO1.out ok A2 _ m text HM.out rfl HT4.out ?c4 ?c5 ?_)
      case c4 => omega
      case c5 => exact hgr.size
      intro v5 w6 ho6 hg6 hd6
      have hgr6 := own_grown HO1.out hgr hg6
      have ho26 := HO2.out.kept hg6 (HNE.out.elim (fun e => by rw [e]; cases u8.ownBlock <;> simp) (fun e => .inr (fun e2 => e e2.symm)))
      obtain ⟨A5, c5, hv5, -, -, -, hx6⟩ := own_form ho6
      have hl6 : (xr 54 (kpad key) ++ text).length = 64 + m := by rw [List.length_append, xr_length, kpad_length, HM.out]
      rw [hl6] at hv5
      have hx6' : Byt w6 (fun b => w3.heap.size ≤ b ∧ b < w6.heap.size) A5 (xr 54 (kpad key) ++ text) := hx6.imp fun b hb => hb.2
      subst hv5
      obtain ⟨inn, hinn⟩ : ∃ inn, inn = xr 54 (kpad key) ++ text := ⟨_, rfl⟩
      rw [← hinn] at hx6' hl6
      have HIN := Lib.hid hinn
      have HO26 := Lib.hid ho26
      have HX6 := Lib.hid hx6'
      have HGR6 := Lib.hid hgr6
      have HL6 := Lib.hid hl6
      clear ho6 hg6 hd6 hgr6 ho26 hx6 hx6' hl6 hinn
      have ho18 : ∀ b, (w3.heap.size ≤ b ∧ b < w6.heap.size) → b < w6.heap.size := fun b hb => hb.2
      have hm18 : 64 + m ≤ 20000 := by omega
      go_wp2_with (first
        | (go_at_call 17; refine (short_any H HX6.out ho18 HL6.out hm18).mono ?_; rintro _ w7 ⟨rfl, hg7⟩)
        | (refine wpList_alloc24 rfl rfl ?_))
      intro w8 hb8 hg8 hz8
      obtain ⟨gh, hgh⟩ : ∃ gh, gh = w7.heap.size := ⟨_, rfl⟩
      rw [← hgh] at hb8 hz8 ⊢
      have hg68 := World.grownBy.trans hg7 hg8
      have hgl : w6.heap.size ≤ gh := by rw [hgh]; exact hg7.size
      have ho28 := own_keep HO26.out hg68
      have hgr8 := World.grownBy.trans HGR6.out hg68
      have hgh2 : gh < w8.heap.size := by omega
      have h24 : ∀ w', w8.grownBy w' (some gh) → Blk w' w.heap.size 24 (u8s (zs 32)) := fun w' hg => (HB13.out.grown hgr8 (by simp)).grown hg (fun e => by have h1 := Option.some.inj e; have h2 := HGR6.out.size; have := HGK.out; omega)
      have hu8 : u8.ownBlock = none ∨ u8.ownBlock ≠ some gh := by
        cases hu : u8.ownBlock with
        | none => exact .inl rfl
        | some q => refine .inr (fun e => ?_); have h1 := (HO26.out.lt q hu).2; have h2 := Option.some.inj e; omega
      have HB8 := Lib.hid hb8
      have HO28 := Lib.hid ho28
      have HGR8 := Lib.hid hgr8
      have H24 := Lib.hid h24
      have HU8 := Lib.hid hu8
      have HGL := Lib.hid hgl
      clear hb8 hg68 ho28 hgr8 h24 hu8 hz8 hgh hg8 hg7 hgl
      go_upto_region 15 with (refine wpList_store_row rfl 24 _ _ rfl gh (u8s (sha256 inn)).toArray rfl rfl 24 _ HB8.out (by rw [size24, List.size_toArray, u8s_length, sha256_length]) (by simp [u8s_length, sha256_length, zs_length]) (all_oneCell_toArray (u8s_one _)) ?_)
      obtain ⟨w9, hw9⟩ : ∃ w9, w9 = w8.setRow gh (u8s (sha256 inn)).toArray := ⟨_, rfl⟩
      rw [← hw9]
      have hg9 : w8.grownBy w9 (some gh) := by rw [hw9]; exact grown_setRow _ _ _
      have hb9 : Blk w9 gh 24 (u8s (sha256 inn)) := by rw [hw9]; exact Blk.setRow HB8.out
      have hx9 : Byt w9 (fun b => b = gh) (some ⟨gh, 0, none⟩) (sha256 inn) := (hb9.to (by rw [List.append_nil]; rfl)).byt (pre := []) (post := []) rfl
      have ho29 := HO28.out.kept hg9 HU8.out
      have hb249 := H24.out w9 hg9
      have hgr9 : w3.grownBy w9 none := World.grownBy.andThen HGR8.out hg9 (by rintro _ ⟨⟩; exact .inl (by have h1 := HGR6.out.size; have := HGL.out; omega))
      have HX9 := Lib.hid hx9
      have HO29 := Lib.hid ho29
      have HB249 := Lib.hid hb249
      have HGR9 := Lib.hid hgr9
      clear hw9 hg9 hb9 hx9 ho29 hb249 hgr9 HB8 HO28 HGR8 H24 HU8
      go_wp2_with (at_builtin; (refine wpList_append_byt_n _ rfl _ _ 22 rfl w3.heap.size i0 (.int .u8 0) Tryd.underlying22 hi hz0 hz1 hz2 rfl u8 64 (xr 92 (kpad key)) rfl HO29.out (fun b => b = gh) (some ⟨gh, 0, none⟩) 32 32 (sha256 inn) (sha256_length inn) rfl HX9.out ?c6 ?c7 ?_))
      case c6 => omega
      case c7 => exact HGR9.out.size
      intro v10 w10 ho10 hg10 _
      have hgr10 := own_grown HO29.out HGR9.out hg10
      have hb2410 : Blk w10 w.heap.size 24 (u8s (zs 32)) := by
        refine HB249.out.grown hg10 (fun e => ?_)
        have h1 := (HO29.out.lt _ e.symm).1
        have := HGK.out
        omega
      obtain ⟨A10, c10, hv10, -, -, -, hx10⟩ := own_form ho10
      have hl10 : (xr 92 (kpad key) ++ sha256 inn).length = 96 := by rw [List.length_append, xr_length, kpad_length, sha256_length]
      rw [hl10] at hv10
      have hx10' : Byt w10 (fun b => w3.heap.size ≤ b ∧ b < w10.heap.size) A10 (xr 92 (kpad key) ++ sha256 inn) := hx10.imp fun b hb => hb.2
      subst hv10
      have hfin : sha256 (xr 92 (kpad key) ++ sha256 inn) = hmac key text := by rw [HIN.out]; rfl
      obtain ⟨outt, hout⟩ : ∃ outt, outt = xr 92 (kpad key) ++ sha256 inn := ⟨_, rfl⟩
      rw [← hout] at hx10' hl10 hfin
      have HX10 := Lib.hid hx10'
      have HL10 := Lib.hid hl10
      have HFIN := Lib.hid hfin
      have HGR10 := Lib.hid hgr10
      have HB10 := Lib.hid hb2410
      clear ho10 hg10 hx10 hx10' hl10 hfin hgr10 hb2410 hout HX9 HO29 HB249 HGR9 HX6 HIN HL6
      have ho10 : ∀ b, (w3.heap.size ≤ b ∧ b < w10.heap.size) → b < w10.heap.size := fun b hb => hb.2
      go_wp2_with (first
        | (go_at_call 17; refine (short_any H HX10.out ho10 HL10.out (by omega)).mono ?_; rintro _ w11 ⟨rfl, hg11⟩)
        | (refine wpList_store_row rfl 24 _ _ rfl w.heap.size (u8s (sha256 outt)).toArray rfl rfl 24 _ (HB10.out.grown hg11 (by simp)) (by rw [size24, List.size_toArray, u8s_length, sha256_length]) (by simp [u8s_length, sha256_length, zs_length]) (all_oneCell_toArray (u8s_one _)) ?_))
      have hb11 := HB10.out.grown hg11 (by simp)
      refine bodyPost_ret (results_cell_row rfl _ _ w.heap.size 24 (u8s (sha256 outt)).toArray (0, 0) _ rfl (setRow_heap w11 w.heap.size _ _ 24 (0, 0) hb11) Tryd.underlying24 rfl (by rw [size24, List.size_toArray, u8s_length, sha256_length])) rfl ⟨by rw [HFIN.out], ?_⟩
      exact World.grownBy.andThen (World.grownBy.trans (World.grownBy.trans HG13.out HGR10.out) hg11) (grown_setRow _ _ _) (by rintro _ ⟨⟩; exact .inl (Nat.le_refl _))

set_option maxRecDepth 100000 in
set_option maxHeartbeats 3200000 in
theorem refmac_long (H : HashSays) {w : World} {c1 c2 n m : Nat} {ok : Nat → Prop} {A1 A2 : Option Addr} {key text : List UInt8} (hk : Byt w ok A1 key) (ht : Byt w ok A2 text) (hok : ∀ b, ok b → b < w.heap.size) (hn : key.length = n) (hm : text.length = m) (hn2 : 64 < n) (hn3 : n ≤ 20000) (hm2 : m ≤ 15000) :
    Calls Tryd.prog 9 #[.slice A1 n c1, .slice A2 m c2] w fun e w' => e = .returned (.agg (u8s (hmac key text)).toArray) ∧ w.grownBy w' none := by
  have hkp : kpad key = sha256 key ++ zs 32 := by unfold kpad; rw [if_pos (by omega), sha256_length]
  obtain ⟨i0, hi, hz0, hz1, hz2⟩ := info_parts Tryd.info5
  have HK := Lib.hid hk
  have HT := Lib.hid ht
  have HN := Lib.hid hn
  have HM := Lib.hid hm
  have HKP := Lib.hid hkp
  clear hk ht hn hm hkp
  go_enter Tryd.func9, Tryd.ntmps9
  go_wp2_with (refine wpList_alloc24 rfl rfl ?_)
  intro w1 hb1 hg1 hzz1
  go_wp2_with (with_reducible refine wpList_make_full _ rfl _ _ 22 rfl w1.heap.size 5 i0 (.int .u8 0) 1 Tryd.underlying22 hi hz0 hz1 .i64 .i64 _ _ 64 rfl rfl rfl rfl ?c1 ?c2 ?c3 ?_)
  case c1 => rw [hz2]; omega
  case c2 => unfold maxLen; omega
  case c3 => exact Nat.le_refl _
  intro w2 hown hg2
  rw [made_u8'] at hown
  have hb2 := Blk.of_owns hown
  obtain ⟨g0, hg0⟩ : ∃ g0, g0 = w.heap.size + 1 := ⟨_, rfl⟩
  rw [← hg0] at hb2 ⊢
  have hg12 := World.grownBy.trans hg1 hg2
  have hb12 := hb1.grown hg2 (by simp)
  have hk2 := HK.out.grown hg12 (fun b hb => ⟨hok b hb, by simp⟩)
  have HB1 := Lib.hid hb12
  have HB2 := Lib.hid hb2
  have HG2 := Lib.hid hg12
  have HK2 := Lib.hid hk2
  have HGK0 := Lib.hid hg0
  clear hown hb1 hb2 hg1 hg2 hg12 hb12 hk2 hg0 hzz1
  go_upto_region 3 with (refine wpList_copy_blk rfl _ _ rfl g0 0 64 64 n c1 A1 key (zs 64) rfl rfl HN.out (zs_length 64) 5 [] [] (HB2.out.to (by simp)) rfl ok HK2.out 64 (by rw [HN.out, zs_length]; exact Nat.min_eq_right (by omega)) ?_; intro y3 hb3 hg3 hz3)
  have hyg : w.grownBy y3 none := World.grownBy.andThen HG2.out hg3 (by rintro _ ⟨⟩; exact .inl (by have := HGK0.out; omega))
  have hyb := HB1.out.grown hg3 (fun e => by have := Option.some.inj e; have := HGK0.out; omega)
  have hk3 := HK.out.grown hyg (fun b hb => ⟨hok b hb, by simp⟩)
  have ho3 : ∀ b, ok b → b < y3.heap.size := fun b hb => Nat.lt_of_lt_of_le (hok b hb) hyg.size
  have HYG := Lib.hid hyg
  have HYB := Lib.hid hyb
  have HK3 := Lib.hid hk3
  have HO3 := Lib.hid ho3
  clear hyg hyb hk3 ho3 hb3 hg3 hz3 HB1 HB2 HG2 HK2
  go_upto_region 5 with (first
    | (go_at_call 17; refine (short_any H HK3.out HO3.out HN.out hn3).mono ?_; rintro _ y4 ⟨rfl, hg4⟩)
    | (refine wpList_alloc24 rfl rfl ?_; intro y5 hb5 hg5 hz5)
    | (refine wpList_store_row rfl 24 _ _ rfl y4.heap.size (u8s (sha256 key)).toArray rfl rfl 24 _ hb5 (by rw [size24, List.size_toArray, u8s_length, sha256_length]) (by simp [u8s_length, sha256_length, zs_length]) (all_oneCell_toArray (u8s_one _)) ?_))
  obtain ⟨y6, hy6⟩ : ∃ y6, y6 = y5.setRow y4.heap.size (u8s (sha256 key)).toArray := ⟨_, rfl⟩
  rw [← hy6]
  obtain ⟨gz, hgz⟩ : ∃ gz, gz = y4.heap.size := ⟨_, rfl⟩
  rw [← hgz] at hb5 hy6 hz5 ⊢
  have hg6 : y5.grownBy y6 (some gz) := by rw [hy6]; exact grown_setRow _ _ _
  have hb6 : Blk y6 gz 24 (u8s (sha256 key)) := by rw [hy6]; exact Blk.setRow hb5
  have hy4 := hg4.size
  have hy3 := HYG.out.size
  have hg36 : y3.grownBy y6 none := World.grownBy.andThen (World.grownBy.trans hg4 hg5) hg6 (by rintro _ ⟨⟩; exact .inl (by omega))
  have hgs6 := hg36.size
  have hgl6 : gz < y6.heap.size := hb6.lt
  have HG36 := Lib.hid hg36
  have HB6 := Lib.hid hb6
  have HGZ := Lib.hid hgz
  clear hb5 hy6 hz5 hg6 hb6 hg36 hg4 hg5 hgz
  go_wp2_with (with_reducible refine wpList_make_full _ rfl _ _ 22 rfl y6.heap.size 5 i0 (.int .u8 0) 1 Tryd.underlying22 hi hz0 hz1 .i64 .i64 _ _ 64 rfl rfl rfl rfl ?c4 ?c5 ?c6 ?_)
  case c4 => rw [hz2]; omega
  case c5 => unfold maxLen; omega
  case c6 => exact Nat.le_refl _
  intro y7 hown7 hg7
  rw [made_u8'] at hown7
  have hb7 := Blk.of_owns hown7
  obtain ⟨gk, hgk⟩ : ∃ gk, gk = y6.heap.size := ⟨_, rfl⟩
  rw [← hgk] at hb7 ⊢
  have hbz7 := HB6.out.grown hg7 (by simp)
  have hxz7 : Byt y7 (fun b => b = gz) (some ⟨gz, 0, none⟩) (sha256 key) := (hbz7.to (by rw [List.append_nil]; rfl)).byt (pre := []) (post := []) rfl
  have HB7 := Lib.hid hb7
  have HX7 := Lib.hid hxz7
  have HG7 := Lib.hid hg7
  have hl7 := hb7.lt
  have HGK : Hid (w.heap.size + 1 ≤ gk) := Lib.hid (by have h0 := HGZ.out; omega)
  have HGKE := Lib.hid hgk
  clear hown7 hb7 hbz7 hxz7 hg7 hgk
  go_wp2_with (refine wpList_copy_blk rfl _ _ rfl gk 0 64 64 32 32 (some ⟨gz, 0, none⟩) (sha256 key) (zs 64) rfl rfl (sha256_length key) (zs_length 64) 5 [] [] (HB7.out.to (by simp)) rfl _ HX7.out 32 (by rw [sha256_length, zs_length]; rfl) ?_)
  intro w3 hb3 hg3 hz3
  have hkey : Blk w3 gk 5 (u8s (kpad key)) := hb3.to (by rw [HKP.out, lay_le _ _ (by rw [zs_length, sha256_length]; decide), zs_drop, sha256_length])
  have hg37 := World.grownBy.trans HG36.out HG7.out
  have hg33 : y3.grownBy w3 none := World.grownBy.andThen hg37 hg3 (by rintro _ ⟨⟩; exact .inl (by have := HGKE.out; omega))
  have hb13 := HYB.out.grown hg33 (by simp)
  have hg13 : w.grownBy w3 none := World.grownBy.trans HYG.out hg33
  have ht3 := HT.out.grown hg13 (fun b hb => ⟨hok b hb, by simp⟩)
  have hl3 : gk < w3.heap.size := hkey.lt
  have HKEY := Lib.hid hkey
  have HB13 := Lib.hid hb13
  have HG13 := Lib.hid hg13
  have HT3 := Lib.hid ht3
  clear hb3 hg3 hz3 hkey hb13 hg13 ht3 hg37 hg33 hy3 hy4 hgs6 hgl6 hl7
  go_wp2_with (fail)
  go_loopw [7, 8, 9] (fun v1 v2 i wr => Two w3 (kpad key) v1 v2 i wr) (fun _ _ i _ => 64 - (intOf i).toNat)
  case atStart => exact ⟨0, by omega, rfl, World.ownsRow_nil _ _ _ _, World.ownsRow_nil _ _ _ _, .inl rfl, World.grownBy.refl _ _⟩
  case round =>
    obtain ⟨k, hk, rfl, ho1, ho2, hne, hgr⟩ := hrel
    by_cases hlt : k < 64
    · have hkl := kpad_length key
      obtain ⟨x, hx⟩ : ∃ x, x = (kpad key)[k]'(by omega) := ⟨_, rfl⟩
      have hcx : (u8s (kpad key))[k]? = some (.int .u8 (x.toNat : Int)) := by
        unfold u8s
        rw [List.getElem?_map, List.getElem?_eq_getElem (by omega), ← hx]
        rfl
      have hc := (HKEY.out.grown hgr (by simp)).get k _ hcx
      have hs1 : xr 54 ((kpad key).take (k + 1)) = xr 54 ((kpad key).take k) ++ [x ^^^ 54] := by rw [xr_snoc 54 _ k (by omega), ← hx]
      have hs2 : xr 92 ((kpad key).take (k + 1)) = xr 92 ((kpad key).take k) ++ [x ^^^ 92] := by rw [xr_snoc 92 _ k (by omega), ← hx]
      have z1 : bits .xor .u8 (x.toNat : Int) 54 = ((x ^^^ 54).toNat : Int) := u8_xor' x 54
      have z2 : bits .xor .u8 (x.toNat : Int) 92 = ((x ^^^ 92).toNat : Int) := u8_xor' x 92
      have HO1 := Lib.hid ho1
      have HO2 := Lib.hid ho2
      have HNE := Lib.hid hne
      have HS1 := Lib.hid hs1
      have HS2 := Lib.hid hs2
      have Z1 := Lib.hid z1
      have Z2 := Lib.hid z2
      have HC2 := Lib.hid hcx
      clear ho1 ho2 hne hs1 hs2 z1 z2 hcx hx hkl
      have hkb : ∀ w', w3.grownBy w' none → w'.cell? ⟨gk, k, none⟩ = some (.int .u8 (x.toNat : Int)) := fun w' hg => (HKEY.out.grown hg (by simp)).get k _ HC2.out
      have HKB := Lib.hid hkb
      clear hkb
      have hn1 : u7.ownBlock = none ∨ u8.ownBlock = none ∨ u7.ownBlock ≠ u8.ownBlock := HNE.out.elim .inl (fun e => .inr (.inr e))
      have HN1 := Lib.hid hn1
      clear hn1
      go_wp2_with (at_builtin; refine wpList_push2 rfl _ _ rfl u7 u8 k k (xr 54 ((kpad key).take k)) (xr 92 ((kpad key).take k)) rfl HO1.out HO2.out HN1.out hgr (x ^^^ 54) _ Z1.out rfl (by omega) ?_)
      intro v1 w4 ho3 ho4 hne3 hg4
      have hc4 := HKB.out w4 hg4
      have HO3 := Lib.hid ho3
      have HO4 := Lib.hid ho4
      have hn4 : u8.ownBlock = none ∨ v1.ownBlock = none ∨ u8.ownBlock ≠ v1.ownBlock := hne3.elim .inl (fun e => .inr (.inr (fun e2 => e e2.symm)))
      have HN4 := Lib.hid hn4
      clear ho3 ho4 hne3 hn4 hc
      go_wp2_with (at_builtin; refine wpList_push2 rfl _ _ rfl u8 v1 k (k + 1) (xr 92 ((kpad key).take k)) (xr 54 ((kpad key).take k) ++ [x ^^^ 54]) rfl HO4.out HO3.out HN4.out hg4 (x ^^^ 92) _ Z2.out rfl (by omega) ?_)
      intro v2 w5 ho5 ho6 hne5 hg5
      go_wp2
      go_roundw
      case rel =>
        refine ⟨k + 1, by omega, by go_num, ?_, ?_, ?_, hg5⟩
        · rw [HS1.out]; exact ho6
        · rw [HS2.out]; exact ho5
        · exact hne5.elim .inl (fun e => .inr (fun e2 => e e2.symm))
      case measure => simp [intOf]; omega
    · have ek : k = 64 := by omega
      have hfull : (kpad key).take k = kpad key := by rw [ek, List.take_of_length_le (by rw [kpad_length]; exact Nat.le_refl _)]
      rw [hfull, ek] at ho1 ho2
      have ht4 := HT3.out.grown hgr (fun b hb => ⟨by have h1 := hok b hb; have h2 := HG13.out.size; omega, by simp⟩)
      have HO1 := Lib.hid ho1
      have HO2 := Lib.hid ho2
      have HNE := Lib.hid hne
      have HT4 := Lib.hid ht4
      clear ho1 ho2 hne ht4 hfull ek
      go_wp2_with (at_builtin; refine wpList_append_byt_n _ rfl _ _ 22 rfl w3.heap.size i0 (.int .u8 0) Tryd.underlying22 hi hz0 hz1 hz2 rfl u7 64 (xr 54 (kpad key)) rfl HO1.out ok A2 _ m text HM.out rfl HT4.out ?c4 ?c5 ?_)
      case c4 => omega
      case c5 => exact hgr.size
      intro v5 w6 ho6 hg6 hd6
      have hgr6 := own_grown HO1.out hgr hg6
      have ho26 := HO2.out.kept hg6 (HNE.out.elim (fun e => by rw [e]; cases u8.ownBlock <;> simp) (fun e => .inr (fun e2 => e e2.symm)))
      obtain ⟨A5, c5, hv5, -, -, -, hx6⟩ := own_form ho6
      have hl6 : (xr 54 (kpad key) ++ text).length = 64 + m := by rw [List.length_append, xr_length, kpad_length, HM.out]
      rw [hl6] at hv5
      have hx6' : Byt w6 (fun b => w3.heap.size ≤ b ∧ b < w6.heap.size) A5 (xr 54 (kpad key) ++ text) := hx6.imp fun b hb => hb.2
      subst hv5
      obtain ⟨inn, hinn⟩ : ∃ inn, inn = xr 54 (kpad key) ++ text := ⟨_, rfl⟩
      rw [← hinn] at hx6' hl6
      have HIN := Lib.hid hinn
      have HO26 := Lib.hid ho26
      have HX6 := Lib.hid hx6'
      have HGR6 := Lib.hid hgr6
      have HL6 := Lib.hid hl6
      clear ho6 hg6 hd6 hgr6 ho26 hx6 hx6' hl6 hinn
      have ho18 : ∀ b, (w3.heap.size ≤ b ∧ b < w6.heap.size) → b < w6.heap.size := fun b hb => hb.2
      have hm18 : 64 + m ≤ 20000 := by omega
      go_wp2_with (first
        | (go_at_call 17; refine (short_any H HX6.out ho18 HL6.out hm18).mono ?_; rintro _ w7 ⟨rfl, hg7⟩)
        | (refine wpList_alloc24 rfl rfl ?_))
      intro w8 hb8 hg8 hz8
      obtain ⟨gh, hgh⟩ : ∃ gh, gh = w7.heap.size := ⟨_, rfl⟩
      rw [← hgh] at hb8 hz8 ⊢
      have hg68 := World.grownBy.trans hg7 hg8
      have hgl : w6.heap.size ≤ gh := by rw [hgh]; exact hg7.size
      have ho28 := own_keep HO26.out hg68
      have hgr8 := World.grownBy.trans HGR6.out hg68
      have hgh2 : gh < w8.heap.size := by omega
      have h24 : ∀ w', w8.grownBy w' (some gh) → Blk w' w.heap.size 24 (u8s (zs 32)) := fun w' hg => (HB13.out.grown hgr8 (by simp)).grown hg (fun e => by have h1 := Option.some.inj e; have h2 := HGR6.out.size; have := HGK.out; omega)
      have hu8 : u8.ownBlock = none ∨ u8.ownBlock ≠ some gh := by
        cases hu : u8.ownBlock with
        | none => exact .inl rfl
        | some q => refine .inr (fun e => ?_); have h1 := (HO26.out.lt q hu).2; have h2 := Option.some.inj e; omega
      have HB8 := Lib.hid hb8
      have HO28 := Lib.hid ho28
      have HGR8 := Lib.hid hgr8
      have H24 := Lib.hid h24
      have HU8 := Lib.hid hu8
      have HGL := Lib.hid hgl
      clear hb8 hg68 ho28 hgr8 h24 hu8 hz8 hgh hg8 hg7 hgl
      go_upto_region 15 with (refine wpList_store_row rfl 24 _ _ rfl gh (u8s (sha256 inn)).toArray rfl rfl 24 _ HB8.out (by rw [size24, List.size_toArray, u8s_length, sha256_length]) (by simp [u8s_length, sha256_length, zs_length]) (all_oneCell_toArray (u8s_one _)) ?_)
      obtain ⟨w9, hw9⟩ : ∃ w9, w9 = w8.setRow gh (u8s (sha256 inn)).toArray := ⟨_, rfl⟩
      rw [← hw9]
      have hg9 : w8.grownBy w9 (some gh) := by rw [hw9]; exact grown_setRow _ _ _
      have hb9 : Blk w9 gh 24 (u8s (sha256 inn)) := by rw [hw9]; exact Blk.setRow HB8.out
      have hx9 : Byt w9 (fun b => b = gh) (some ⟨gh, 0, none⟩) (sha256 inn) := (hb9.to (by rw [List.append_nil]; rfl)).byt (pre := []) (post := []) rfl
      have ho29 := HO28.out.kept hg9 HU8.out
      have hb249 := H24.out w9 hg9
      have hgr9 : w3.grownBy w9 none := World.grownBy.andThen HGR8.out hg9 (by rintro _ ⟨⟩; exact .inl (by have h1 := HGR6.out.size; have := HGL.out; omega))
      have HX9 := Lib.hid hx9
      have HO29 := Lib.hid ho29
      have HB249 := Lib.hid hb249
      have HGR9 := Lib.hid hgr9
      clear hw9 hg9 hb9 hx9 ho29 hb249 hgr9 HB8 HO28 HGR8 H24 HU8
      go_wp2_with (at_builtin; (refine wpList_append_byt_n _ rfl _ _ 22 rfl w3.heap.size i0 (.int .u8 0) Tryd.underlying22 hi hz0 hz1 hz2 rfl u8 64 (xr 92 (kpad key)) rfl HO29.out (fun b => b = gh) (some ⟨gh, 0, none⟩) 32 32 (sha256 inn) (sha256_length inn) rfl HX9.out ?c6 ?c7 ?_))
      case c6 => omega
      case c7 => exact HGR9.out.size
      intro v10 w10 ho10 hg10 _
      have hgr10 := own_grown HO29.out HGR9.out hg10
      have hb2410 : Blk w10 w.heap.size 24 (u8s (zs 32)) := by
        refine HB249.out.grown hg10 (fun e => ?_)
        have h1 := (HO29.out.lt _ e.symm).1
        have := HGK.out
        omega
      obtain ⟨A10, c10, hv10, -, -, -, hx10⟩ := own_form ho10
      have hl10 : (xr 92 (kpad key) ++ sha256 inn).length = 96 := by rw [List.length_append, xr_length, kpad_length, sha256_length]
      rw [hl10] at hv10
      have hx10' : Byt w10 (fun b => w3.heap.size ≤ b ∧ b < w10.heap.size) A10 (xr 92 (kpad key) ++ sha256 inn) := hx10.imp fun b hb => hb.2
      subst hv10
      have hfin : sha256 (xr 92 (kpad key) ++ sha256 inn) = hmac key text := by rw [HIN.out]; rfl
      obtain ⟨outt, hout⟩ : ∃ outt, outt = xr 92 (kpad key) ++ sha256 inn := ⟨_, rfl⟩
      rw [← hout] at hx10' hl10 hfin
      have HX10 := Lib.hid hx10'
      have HL10 := Lib.hid hl10
      have HFIN := Lib.hid hfin
      have HGR10 := Lib.hid hgr10
      have HB10 := Lib.hid hb2410
      clear ho10 hg10 hx10 hx10' hl10 hfin hgr10 hb2410 hout HX9 HO29 HB249 HGR9 HX6 HIN HL6
      have ho10 : ∀ b, (w3.heap.size ≤ b ∧ b < w10.heap.size) → b < w10.heap.size := fun b hb => hb.2
      go_wp2_with (first
        | (go_at_call 17; refine (short_any H HX10.out ho10 HL10.out (by omega)).mono ?_; rintro _ w11 ⟨rfl, hg11⟩)
        | (refine wpList_store_row rfl 24 _ _ rfl w.heap.size (u8s (sha256 outt)).toArray rfl rfl 24 _ (HB10.out.grown hg11 (by simp)) (by rw [size24, List.size_toArray, u8s_length, sha256_length]) (by simp [u8s_length, sha256_length, zs_length]) (all_oneCell_toArray (u8s_one _)) ?_))
      have hb11 := HB10.out.grown hg11 (by simp)
      refine bodyPost_ret (results_cell_row rfl _ _ w.heap.size 24 (u8s (sha256 outt)).toArray (0, 0) _ rfl (setRow_heap w11 w.heap.size _ _ 24 (0, 0) hb11) Tryd.underlying24 rfl (by rw [size24, List.size_toArray, u8s_length, sha256_length])) rfl ⟨by rw [HFIN.out], ?_⟩
      exact World.grownBy.andThen (World.grownBy.trans (World.grownBy.trans HG13.out HGR10.out) hg11) (grown_setRow _ _ _) (by rintro _ ⟨⟩; exact .inl (Nat.le_refl _))
/-- The reference's HMAC is HMAC, whatever the key and the text are. -/
theorem refmac_any (H : HashSays) {w : World} {c1 c2 n m : Nat} {ok : Nat → Prop} {A1 A2 : Option Addr} {key text : List UInt8} (hk : Byt w ok A1 key) (ht : Byt w ok A2 text) (hok : ∀ b, ok b → b < w.heap.size) (hn : key.length = n) (hm : text.length = m) (hn3 : n ≤ 20000) (hm2 : m ≤ 15000) :
    Calls Tryd.prog 9 #[.slice A1 n c1, .slice A2 m c2] w fun e w' => e = .returned (.agg (u8s (hmac key text)).toArray) ∧ w.grownBy w' none := by
  by_cases h : n ≤ 64
  · exact refmac_short H hk ht hok hn hm h hm2
  · exact refmac_long H hk ht hok hn hm (by omega) hn3 hm2
end Go.Proofs.YtgphopahlgfogaaDoor
