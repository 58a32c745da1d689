/- The two forms of a key that HMAC takes. Conditions: none. The hash of a form and of texts behind it. Conditions: none. HMAC of texts, one behind the other, by a key's two forms. Conditions: none. HMAC of a key and a text, as the program tells it. Conditions: none. -/
import Derived.Test.YtdnkeaokgkiloaaDoorSd
import Derived.Deep.RegionHeld3
namespace Go.Proofs.YtdnkeaokgkiloaaDoor.S
open Go.RowKit
/-- The tables of SHA-256 lie where the program has laid them. -/
def Tab (w : World) : Prop := (∀ i, i < 8 → w.cell? ⟨0, i, none⟩ = some (.int .u64 (sqN.getD i 0 : Nat))) ∧ (∀ i, i < 80 → w.cell? ⟨1, i, none⟩ = some (.int .u64 (cuN.getD i 0 : Nat)))
theorem Tab.lt {w : World} (h : Tab w) : 1 < w.heap.size := by
  have := h.2 0 (by omega)
  rcases Nat.lt_or_ge 1 w.heap.size with h | h
  · exact h
  · simp [World.cell?, Array.getElem?_eq_none h] at this
theorem Tab.grown {w w' : World} {row : Option Nat} (h : Tab w) (hg : w.grownBy w' row) (h0 : some 0 ≠ row) (h1 : some 1 ≠ row) : Tab w' :=
  ⟨fun i hi => hg.cell (h.1 i hi) h0, fun i hi => hg.cell (h.2 i hi) h1⟩
theorem run_alloc32 (w : World) : (Instr.alloc 104 true (.tuple #[])).run Tryd.prog w = .ok (.pointer (some ⟨w.heap.size, 0, none⟩)) (w.alloc (.cells (u8s (zs 64)).toArray 104)) := by kernel_rfl
section
variable {w : World} {ops : Array Oper} {rest : List Oper} {o : Oper} {a : Act} {Q : Exit → Act → World → Prop}
theorem wpList_alloc32 (hgd : o.guard = none) (ho : o.op = .alloc 104)
    (h : ∀ w', Blk w' w.heap.size 104 (u8s (zs 64)) → w.grownBy w' none → w'.heap.size = w.heap.size + 1 → wpList Tryd.prog ops Q rest (a.put o.dst (.pointer (some ⟨w.heap.size, 0, none⟩))) w') : wpList Tryd.prog ops Q (o :: rest) a w := by
  refine wpList_plain hgd fun K hK => ?_
  have hrun := run_alloc32 w
  generalize u8s (zs 64) = z at hrun h
  unfold Oper.wp
  simp only [execOp, ho, Sem.run_bind, hrun, Result.andThen_ok, Sem.run_pure]
  exact hK _ _ (h _ (Blk.of_alloc w _ 104) (World.grownBy_alloc w _ none) (World.size_alloc w _))
end
theorem size32 : (Tryd.prog.info? 104).map (·.size) = some 64 := by kernel_rfl
theorem results_two {fn : Func} {p q : Tmp} (h : fn.results = #[.cell p 104, .cell q 104]) (tmps : Array Value) (w : World) (g g2 : Nat) (xs ys : List UInt8) (hp : tmps.getD p undef = .pointer (some ⟨g, 0, none⟩)) (hq : tmps.getD q undef = .pointer (some ⟨g2, 0, none⟩)) (hk : Blk w g 104 (u8s xs)) (hk2 : Blk w g2 104 (u8s ys)) (hl : xs.length = 64) (hl2 : ys.length = 64) :
    (results fn tmps).run Tryd.prog w = .ok (.tuple #[.agg (u8s xs).toArray, .agg (u8s ys).toArray]) w := by
  have hp' : tmps[p]?.getD undef = .pointer (some ⟨g, 0, none⟩) := by simpa using hp
  have hq' : tmps[q]?.getD undef = .pointer (some ⟨g2, 0, none⟩) := by simpa using hq
  simp [results, h, hp', hq', asAddr, run_loadVar_row w g 104 104 _ (0, 0) _ hk Tryd.underlying104 rfl (by simp [size32, u8s_length, hl]), run_loadVar_row w g2 104 104 _ (0, 0) _ hk2 Tryd.underlying104 rfl (by simp [size32, u8s_length, hl2])]
/-- The k first bytes are taken with n. -/
def half (n : UInt8) (l : List UInt8) (k : Nat) : List UInt8 := xr n (l.take k) ++ l.drop k
theorem half_zero (n : UInt8) (l : List UInt8) : half n l 0 = l := by simp [half, xr]
theorem half_all (n : UInt8) (l : List UInt8) (k : Nat) (h : l.length = k) : half n l k = xr n l := by subst h; simp [half]
theorem half_get (n : UInt8) (l : List UInt8) (k : Nat) (h : k < l.length) : (u8s (half n l k))[k]? = some (.int .u8 (l[k].toNat : Int)) := by
  have hk : (xr n (l.take k)).length = k := by rw [xr_length, List.length_take]; omega
  unfold u8s half
  rw [List.getElem?_map, List.getElem?_append_right (by omega), hk, Nat.sub_self, List.getElem?_drop, Nat.add_zero, List.getElem?_eq_getElem h]
  rfl
theorem half_step (n : UInt8) (l : List UInt8) (k : Nat) (h : k < l.length) : (u8s (half n l k)).set k (.int .u8 ((l[k] ^^^ n).toNat : Int)) = u8s (half n l (k + 1)) := by
  have hk : (xr n (l.take k)).length = k := by rw [xr_length, List.length_take]; omega
  rw [u8s_set]
  congr 1
  unfold half
  rw [List.set_append_right _ _ (by omega), hk, Nat.sub_self, List.drop_eq_getElem_cons h, List.set_cons_zero, xr_snoc n l k h, List.append_assoc]
  rfl
/-- While the bytes of both forms are taken. -/
def FormAt (B : World) (g g2 : Nat) (l : List UInt8) (i : Value) (wr : World) : Prop :=
  ∃ k : Nat, k ≤ 64 ∧ i = .int .i64 (k : Int) ∧ Blk wr g 104 (u8s (half 54 l k)) ∧ Blk wr g2 104 (u8s (half 92 l k)) ∧ B.grownBy wr none
set_option maxRecDepth 100000 in
set_option maxHeartbeats 1600000 in
theorem forms_short {w : World} {c n : Nat} {ok : Nat → Prop} {A : Option Addr} {key : List UInt8} (hk : Byt w ok A key) (hok : ∀ b, ok b → b < w.heap.size) (hn : key.length = n) (hn2 : n ≤ 64) :
    Calls Tryd.prog 49 #[.slice A n c] w fun e w' => e = .returned (.tuple #[.agg (u8s (xr 54 (kpad key))).toArray, .agg (u8s (xr 92 (kpad key))).toArray]) ∧ w.grownBy w' none := by
  have hkp : kpad key = key ++ zs (64 - n) := by unfold kpad; rw [if_neg (by omega), hn]
  have HK := Lib.hid hk
  have HN := Lib.hid hn
  have HKP := Lib.hid hkp
  clear hk hn hkp
  go_enter Tryd.func49, Tryd.ntmps49
  go_wp2_with (refine wpList_alloc32 rfl rfl ?_)
  intro w1 hb1 hg1 hz1
  go_wp2_with (refine wpList_alloc32 rfl rfl ?_)
  intro w2 hb2 hg2 hz2
  obtain ⟨g, hgg⟩ : ∃ g, g = w.heap.size := ⟨_, rfl⟩
  obtain ⟨g2, hgg2⟩ : ∃ g2, g2 = w.heap.size + 1 := ⟨_, rfl⟩

  rw [← hgg2] at hb2 ⊢
  rw [← hgg] at hb1 ⊢
  have hg12 := World.grownBy.trans hg1 hg2
  have hb12 := hb1.grown hg2 (by simp)
  have hk2 := HK.out.grown hg12 (fun b hb => ⟨hok b hb, by simp⟩)
  have hne : g ≠ g2 := by omega
  have hne2 : g2 ≠ g := by omega
  have hgw : w.heap.size ≤ g := by omega
  have hgw2 : w.heap.size ≤ g2 := by omega
  have HB1 := Lib.hid hb12
  have HB2 := Lib.hid hb2
  have HG2 := Lib.hid hg12
  have HK2 := Lib.hid hk2
  have HW := Lib.hid hgw
  have HW2 := Lib.hid hgw2
  clear hb1 hb2 hg1 hg2 hg12 hb12 hk2 hgg hgg2 hz1 hz2 hgw hgw2
  go_wp2_with (refine wpList_copy_blk rfl _ _ rfl g 0 64 64 n c A key (zs 64) rfl rfl HN.out (zs_length 64) 104 [] [] (HB1.out.to (by simp)) rfl ok HK2.out n (by rw [HN.out, zs_length]; exact Nat.min_eq_left (by omega)) ?_)
  intro w3 hb3 hg3 hz3
  have hkey : Blk w3 g 104 (u8s (kpad key)) := hb3.to (by rw [HKP.out, lay_le _ _ (by rw [zs_length, HN.out]; exact hn2), zs_drop, HN.out])
  have hrg : w3.rangeAt g 0 (u8s (kpad key)) := Blk.range (pre := []) (post := []) (hkey.to (by rw [List.append_nil]; rfl)) rfl
  have hb23 := HB2.out.grown hg3 (fun e => hne2 (Option.some.inj e))
  have hg13 : w.grownBy w3 none := World.grownBy.andThen HG2.out hg3 (by rintro _ ⟨⟩; exact .inl HW.out)
  have HKEY := Lib.hid hkey
  have HRG := Lib.hid hrg
  have HB23 := Lib.hid hb23
  have HG13 := Lib.hid hg13
  obtain ⟨l, hl⟩ : ∃ l, l = kpad key := ⟨_, rfl⟩
  have hll : l.length = 64 := by rw [hl, kpad_length]
  have HL := Lib.hid hl
  have HLL := Lib.hid hll
  clear hb3 hg3 hz3 hkey hb23 hg13 HB1 HB2 HG2 HK2 hrg hl hll
  go_wp2_with (first | (refine wpList_load_mid rfl 104 _ rfl g 0 rfl (u8s (kpad key)) _ HRG.out Tryd.underlying104 rfl (by rw [size32, u8s_length, kpad_length]) ?_) | (refine wpList_store_row rfl 104 _ _ rfl g2 (u8s (kpad key)).toArray rfl rfl 104 _ HB23.out (by rw [size32, List.size_toArray, u8s_length, kpad_length]) (by simp [u8s_length, kpad_length, zs_length]) (all_oneCell_toArray (u8s_one _)) ?_))
  obtain ⟨w4, hw4⟩ : ∃ w4, w4 = w3.setRow g2 (u8s (kpad key)).toArray := ⟨_, rfl⟩
  rw [← hw4]
  have hg4 : w3.grownBy w4 (some g2) := by rw [hw4]; exact grown_setRow _ _ _
  have hb4 : Blk w4 g2 104 (u8s (half 92 l 0)) := by rw [hw4, half_zero, HL.out]; exact Blk.setRow HB23.out
  have hb14 : Blk w4 g 104 (u8s (half 54 l 0)) := by rw [half_zero, HL.out]; exact HKEY.out.grown hg4 (fun e => hne (Option.some.inj e))
  have hg14 : w.grownBy w4 none := World.grownBy.andThen HG13.out hg4 (by rintro _ ⟨⟩; exact .inl HW2.out)
  clear hw4 hg4 HKEY HRG HB23 HG13
  go_loopw [16] (fun i wr => FormAt w g g2 l i wr) (fun i _ => 64 - (intOf i).toNat)
  case atStart => exact ⟨0, by omega, rfl, hb14, hb4, hg14⟩
  case round =>
    clear hb14 hb4 hg14
    obtain ⟨k, hk, rfl, hb, hb2, hgr⟩ := hrel
    by_cases hlt : k < 64
    · have hkl : k < l.length := by have := HLL.out; omega
      have hc := hb.get k _ (half_get 54 l k hkl)
      have hf := hb.frozen k
      have hc2 := hb2.get k _ (half_get 92 l k hkl)
      have hf2 := hb2.frozen k
      have hs1 := half_step 54 l k hkl
      have hs2 := half_step 92 l k hkl
      obtain ⟨x, hx⟩ : ∃ x, x = l[k] := ⟨_, rfl⟩
      rw [← hx] at hc hc2 hs1 hs2
      have z1 : bits .xor .u8 (x.toNat : Int) 54 = ((x ^^^ 54).toNat : Int) := u8_xor' x 54
      have z2 : bits .xor .u8 (x.toNat : Int) 92 = ((x ^^^ 92).toNat : Int) := u8_xor' x 92
      have hc3 : ∀ v, (wr.setCell ⟨g, k, none⟩ v).cell? ⟨g2, k, none⟩ = some (.int .u8 (x.toNat : Int)) := fun v => (grown_set wr g k v).cell hc2 (fun e => hne2 (Option.some.inj e))
      have hf3 : ∀ v, (wr.setCell ⟨g, k, none⟩ v).frozen? ⟨g2, k, none⟩ = false := fun v => (hb2.grown (grown_set wr g k v) (fun e => hne2 (Option.some.inj e))).frozen k
      have HB := Lib.hid hb
      have HB2 := Lib.hid hb2
      have HS1 := Lib.hid hs1
      have HS2 := Lib.hid hs2
      clear hb hb2 hs1 hs2 hx hkl
      go_wp2
      go_roundw
      case rel =>
        refine ⟨k + 1, by omega, by go_num, ?_, ?_, ?_⟩
        · have h1 := HB.out.set k (.int .u8 ((x ^^^ 54).toNat : Int))
          rw [HS1.out] at h1
          exact h1.grown (grown_set _ g2 k _) (fun e => hne (Option.some.inj e))
        · have h1 := (HB2.out.grown (grown_set wr g k (.int .u8 ((x ^^^ 54).toNat : Int))) (fun e => hne2 (Option.some.inj e))).set k (.int .u8 ((x ^^^ 92).toNat : Int))
          rw [HS2.out] at h1
          exact h1
        · exact World.grownBy.andThen (World.grownBy.andThen hgr (grown_set _ g k _) (by rintro _ ⟨⟩; exact .inl HW.out)) (grown_set _ g2 k _) (by rintro _ ⟨⟩; exact .inl HW2.out)
      case measure => simp [intOf]; omega
    · have ek : k = 64 := by omega
      rw [half_all _ _ _ (by rw [HLL.out, ek])] at hb hb2
      obtain ⟨cs1, hcs1⟩ : ∃ cs, cs = u8s (xr 54 l) := ⟨_, rfl⟩
      obtain ⟨cs2, hcs2⟩ : ∃ cs, cs = u8s (xr 92 l) := ⟨_, rfl⟩
      have hl1 : cs1.length = 64 := by rw [hcs1, u8s_length, xr_length, HLL.out]
      have hl2 : cs2.length = 64 := by rw [hcs2, u8s_length, xr_length, HLL.out]
      have ho1 : ∀ v ∈ cs1, v.oneCell' = true := by rw [hcs1]; exact u8s_one _
      have ho2 : ∀ v ∈ cs2, v.oneCell' = true := by rw [hcs2]; exact u8s_one _
      have hu := Tryd.underlying104
      have hi1 : (Tryd.prog.info? 104).map (·.size) = some cs1.length := by rw [hl1]; exact size32
      have hi2 : (Tryd.prog.info? 104).map (·.size) = some cs2.length := by rw [hl2]; exact size32
      rw [← hcs1] at hb
      rw [← hcs2] at hb2
      have hr1 : wr.rangeAt g 0 cs1 := Blk.range (pre := []) (post := []) (hb.to (by rw [List.append_nil]; rfl)) rfl
      have hr2 : wr.rangeAt g2 0 cs2 := Blk.range (pre := []) (post := []) (hb2.to (by rw [List.append_nil]; rfl)) rfl
      have ht1 : wr.there g 0 64 := fun j hj => ⟨by rw [Nat.zero_add, hb.cell j (by omega)]; rfl, by rw [Nat.zero_add]; exact hb.frozen j⟩
      have ht2 : wr.there g2 0 64 := fun j hj => ⟨by rw [Nat.zero_add, hb2.cell j (by omega)]; rfl, by rw [Nat.zero_add]; exact hb2.frozen j⟩
      have HB := Lib.hid hb
      have HB2 := Lib.hid hb2
      have HC1 := Lib.hid hcs1
      have HC2 := Lib.hid hcs2
      clear hb hb2 hcs1 hcs2
      go_wp2_with (fail)

      refine wp_region_held_drew (S := fun w' => Blk w' g 104 cs1 ∧ Blk w' g2 104 cs2) (by kernel_rfl) ⟨HB.out.keep rfl, HB2.out.keep rfl⟩ (fun hHeld => ?_)
      refine' wpAnyH_take (i := 0) (oi := { dst := some 30, op := .load 104 (.tmp 2), type := 104, pos := "mac.go:63", after := #[], guard := none }) (v := _) rfl (by kernel_rfl) (by kernel_rfl) (by kernel_rfl) (fun _ _ _ h => h) (yieldsIf_load_mid (by rfl) _ _ rfl _ _ rfl cs1 _ ?s1 ?u1 ?d1 ?i1) (by assumption) ?rest1
      case s1 => exact fun w' hs => Blk.range (pre := []) (post := []) (hs.1.to (by rw [List.append_nil]; rfl)) rfl
      case u1 => exact Tryd.underlying104
      case d1 => rfl
      case i1 => exact hi1
      try simp only [Act.put, List.setIfInBounds_toArray, List.set_cons_zero, List.set_cons_succ]
      refine' wpAnyH_take (i := 1) (oi := { dst := some 31, op := .load 104 (.tmp 3), type := 104, pos := "mac.go:63", after := #[{ on := 2, ground := .gcOnly .lateStores }], guard := none }) (v := _) rfl (by kernel_rfl) (by kernel_rfl) (by kernel_rfl) (fun _ _ _ h => h) (yieldsIf_load_mid (by rfl) _ _ rfl _ _ rfl cs2 _ ?s2 ?u2 ?d2 ?i2) (by assumption) ?rest2
      case s2 => exact fun w' hs => Blk.range (pre := []) (post := []) (hs.2.to (by rw [List.append_nil]; rfl)) rfl
      case u2 => exact Tryd.underlying104
      case d2 => rfl
      case i2 => exact hi2
      try simp only [Act.put, List.setIfInBounds_toArray, List.set_cons_zero, List.set_cons_succ]
      refine wpAnyH_ready (rs := [2]) (by kernel_rfl) (by simp) ?_
      refine AllReadyH.cons (o := { dst := none, op := .store 104 (.tmp 2) (.tmp 30), type := 0, pos := "mac.go:63", after := #[{ on := 0, ground := .data }, { on := 0, ground := .phase }, { on := 1, ground := .textOnly .lateStores }], guard := none }) rfl (fun K hK => ?_) AllReadyH.nil
      rw [if_pos (by rfl)]
      refine wp_store_row 104 _ _ rfl g cs1.toArray rfl rfl 104 _ hHeld.1 (by rw [List.size_toArray]; exact hi1) rfl (all_oneCell_toArray ho1) ?_
      refine hK.out _ _ ⟨Blk.setRow hHeld.1, hHeld.2.grown (grown_setRow _ _ _) (fun e => hne2 (Option.some.inj e))⟩ (fun hHeld2 => ?_)
      clear hK K
      simp only [Act.put]
      refine wpAnyH_ready (rs := [3]) (by kernel_rfl) (by simp) ?_
      refine AllReadyH.cons (o := { dst := none, op := .store 104 (.tmp 3) (.tmp 31), type := 0, pos := "mac.go:63", after := #[{ on := 1, ground := .data }, { on := 2, ground := .chain }, { on := 0, ground := .phase }, { on := 1, ground := .phase }, { on := 2, ground := .phase }], guard := none }) rfl (fun K hK => ?_) AllReadyH.nil
      rw [if_pos (by rfl)]
      refine wp_store_row 104 _ _ rfl g2 cs2.toArray rfl rfl 104 _ hHeld2.2 (by rw [List.size_toArray]; exact hi2) rfl (all_oneCell_toArray ho2) ?_
      refine hK.out _ _ ⟨hHeld2.1.grown (grown_setRow _ _ _) (fun e => hne (Option.some.inj e)), Blk.setRow hHeld2.2⟩ (fun hHeld3 => ?_)
      clear hK K
      simp only [Act.put]
      refine wpAnyH_done (by kernel_rfl) ?_ _
      have hg6 : w.grownBy ((wr.drew.setRow g cs1.toArray).setRow g2 cs2.toArray) none :=
        World.grownBy.andThen (World.grownBy.andThen (grown_drew (n := 0) hgr rfl) (grown_setRow _ _ _) (by rintro _ ⟨⟩; exact .inl HW.out)) (grown_setRow _ _ _) (by rintro _ ⟨⟩; exact .inl HW2.out)
      rw [HC1.out, HC2.out] at hHeld3
      rw [HC1.out, HC2.out] at hg6 ⊢
      go_wp2
      exact bodyPost_ret (results_two rfl _ _ g g2 (xr 54 l) (xr 92 l) rfl rfl hHeld3.1 hHeld3.2 (by rw [xr_length, HLL.out]) (by rw [xr_length, HLL.out])) rfl ⟨by rw [HL.out], hg6⟩
set_option maxRecDepth 100000 in
set_option maxHeartbeats 1600000 in
theorem forms_long {w : World} {c n : Nat} {ok : Nat → Prop} {A : Option Addr} {key : List UInt8} (hk : Byt w ok A key) (hok : ∀ b, ok b → b < w.heap.size) (hn : key.length = n) (hn2 : 64 < n) (hc : n ≤ c) (hcm : c ≤ maxLen) (hm : n < 2305843009213693952) (hT : Tab w) :
    Calls Tryd.prog 49 #[.slice A n c] w fun e w' => e = .returned (.tuple #[.agg (u8s (xr 54 (kpad key))).toArray, .agg (u8s (xr 92 (kpad key))).toArray]) ∧ w.grownBy w' none := by
  have hkp : kpad key = sha256 key ++ zs 32 := by unfold kpad; rw [if_pos (by omega), sha256_length]
  have HK := Lib.hid hk
  have HN := Lib.hid hn
  have HKP := Lib.hid hkp
  clear hk hn hkp
  go_enter Tryd.func49, Tryd.ntmps49
  go_wp2_with (refine wpList_alloc32 rfl rfl ?_)
  intro w1 hb1 hg1 hz1
  go_wp2_with (refine wpList_alloc32 rfl rfl ?_)
  intro w2 hb2 hg2 hz2
  obtain ⟨g, hgg⟩ : ∃ g, g = w.heap.size := ⟨_, rfl⟩
  obtain ⟨g2, hgg2⟩ : ∃ g2, g2 = w.heap.size + 1 := ⟨_, rfl⟩

  rw [← hgg2] at hb2 ⊢
  rw [← hgg] at hb1 ⊢
  have hg12 := World.grownBy.trans hg1 hg2
  have hb12 := hb1.grown hg2 (by simp)
  have hk2 := HK.out.grown hg12 (fun b hb => ⟨hok b hb, by simp⟩)
  have hne : g ≠ g2 := by omega
  have hne2 : g2 ≠ g := by omega
  have hgw : w.heap.size ≤ g := by omega
  have hgw2 : w.heap.size ≤ g2 := by omega
  have HB1 := Lib.hid hb12
  have HB2 := Lib.hid hb2
  have HG2 := Lib.hid hg12
  have HK2 := Lib.hid hk2
  have HW := Lib.hid hgw
  have HW2 := Lib.hid hgw2
  have ho2 : ∀ b, ok b → b < w2.heap.size := fun b hb => by have := hok b hb; omega
  have hT2 := hT.grown hg12 (by simp) (by simp)
  have HO2 := Lib.hid ho2
  have HT2 := Lib.hid hT2
  clear hb1 hb2 hg1 hg2 hg12 hb12 hk2 hgg hgg2 hgw hgw2 ho2 hT2 hz1 hz2
  go_upto_region 4 with (first
    | (go_at_call 55; refine (sum256_any HK2.out HO2.out HN.out hc hcm hm HT2.out.1 HT2.out.2).mono ?_; rintro _ y4 ⟨rfl, hg4⟩)
    | (refine wpList_alloc24 rfl rfl ?_; intro y5 hb5 hg5 hz5)
    | (refine wpList_store_row rfl 22 _ _ rfl y4.heap.size (u8s (sha256 key)).toArray rfl rfl 22 _ hb5 (by rw [size24, List.size_toArray, u8s_length, sha256_length]) (by simp [u8s_length, sha256_length, zs_length]) (all_oneCell_toArray (u8s_one _)) ?_))
  obtain ⟨y6, hy6⟩ : ∃ y6, y6 = y5.setRow y4.heap.size (u8s (sha256 key)).toArray := ⟨_, rfl⟩
  rw [← hy6]
  obtain ⟨gz, hgz⟩ : ∃ gz, gz = y4.heap.size := ⟨_, rfl⟩
  rw [← hgz] at hb5 hy6 hz5 ⊢
  have hg6 : y5.grownBy y6 (some gz) := by rw [hy6]; exact grown_setRow _ _ _
  have hb6 : Blk y6 gz 22 (u8s (sha256 key)) := by rw [hy6]; exact Blk.setRow hb5
  have hz4 := hg4.size
  have hg26 : w2.grownBy y6 none := World.grownBy.andThen (World.grownBy.trans hg4 hg5) hg6 (by rintro _ ⟨⟩; exact .inl (by omega))
  have hx6 : Byt y6 (fun b => b = gz) (some ⟨gz, 0, none⟩) (sha256 key) := (hb6.to (by rw [List.append_nil]; rfl)).byt (pre := []) (post := []) rfl
  have hl1 := HB1.out.lt
  have hl2 := HB2.out.lt
  have hb16 := HB1.out.grown hg26 (by simp)
  have hb26 := HB2.out.grown hg26 (by simp)
  have hG6 := World.grownBy.trans HG2.out hg26
  have hgz1 : gz ≠ g := by omega
  have hgz2 : gz ≠ g2 := by omega
  have HX6 := Lib.hid hx6
  have HB16 := Lib.hid hb16
  have HB26 := Lib.hid hb26
  have HG6 := Lib.hid hG6
  clear hb5 hy6 hz5 hg6 hb6 hg26 hg4 hg5 hgz hx6 hb16 hb26 hG6 hz4 HB1 HB2 HG2 HK2 HO2 HT2 hl1 hl2
  go_wp2_with (refine wpList_copy_blk rfl _ _ rfl g 0 64 64 32 32 (some ⟨gz, 0, none⟩) (sha256 key) (zs 64) rfl rfl (sha256_length key) (zs_length 64) 104 [] [] (HB16.out.to (by simp)) rfl (fun b => b = gz) HX6.out 32 (by rw [sha256_length, zs_length]; rfl) ?_)
  intro w3 hb3 hg3 hz3
  have hkey : Blk w3 g 104 (u8s (kpad key)) := hb3.to (by rw [HKP.out, lay_le _ _ (by rw [zs_length, sha256_length]; decide), zs_drop, sha256_length])
  have hrg : w3.rangeAt g 0 (u8s (kpad key)) := Blk.range (pre := []) (post := []) (hkey.to (by rw [List.append_nil]; rfl)) rfl
  have hb23 := HB26.out.grown hg3 (fun e => hne2 (Option.some.inj e))
  have hg13 : w.grownBy w3 none := World.grownBy.andThen HG6.out hg3 (by rintro _ ⟨⟩; exact .inl HW.out)
  have HKEY := Lib.hid hkey
  have HRG := Lib.hid hrg
  have HB23 := Lib.hid hb23
  have HG13 := Lib.hid hg13
  obtain ⟨l, hl⟩ : ∃ l, l = kpad key := ⟨_, rfl⟩
  have hll : l.length = 64 := by rw [hl, kpad_length]
  have HL := Lib.hid hl
  have HLL := Lib.hid hll
  clear hb3 hg3 hz3 hkey hb23 hg13 HB16 HB26 HG6 HX6 hrg hl hll
  go_wp2_with (first | (refine wpList_load_mid rfl 104 _ rfl g 0 rfl (u8s (kpad key)) _ HRG.out Tryd.underlying104 rfl (by rw [size32, u8s_length, kpad_length]) ?_) | (refine wpList_store_row rfl 104 _ _ rfl g2 (u8s (kpad key)).toArray rfl rfl 104 _ HB23.out (by rw [size32, List.size_toArray, u8s_length, kpad_length]) (by simp [u8s_length, kpad_length, zs_length]) (all_oneCell_toArray (u8s_one _)) ?_))
  obtain ⟨w4, hw4⟩ : ∃ w4, w4 = w3.setRow g2 (u8s (kpad key)).toArray := ⟨_, rfl⟩
  rw [← hw4]
  have hg4 : w3.grownBy w4 (some g2) := by rw [hw4]; exact grown_setRow _ _ _
  have hb4 : Blk w4 g2 104 (u8s (half 92 l 0)) := by rw [hw4, half_zero, HL.out]; exact Blk.setRow HB23.out
  have hb14 : Blk w4 g 104 (u8s (half 54 l 0)) := by rw [half_zero, HL.out]; exact HKEY.out.grown hg4 (fun e => hne (Option.some.inj e))
  have hg14 : w.grownBy w4 none := World.grownBy.andThen HG13.out hg4 (by rintro _ ⟨⟩; exact .inl HW2.out)
  clear hw4 hg4 HKEY HRG HB23 HG13
  go_loopw [16] (fun i wr => FormAt w g g2 l i wr) (fun i _ => 64 - (intOf i).toNat)
  case atStart => exact ⟨0, by omega, rfl, hb14, hb4, hg14⟩
  case round =>
    clear hb14 hb4 hg14
    obtain ⟨k, hk, rfl, hb, hb2, hgr⟩ := hrel
    by_cases hlt : k < 64
    · have hkl : k < l.length := by have := HLL.out; omega
      have hc := hb.get k _ (half_get 54 l k hkl)
      have hf := hb.frozen k
      have hc2 := hb2.get k _ (half_get 92 l k hkl)
      have hf2 := hb2.frozen k
      have hs1 := half_step 54 l k hkl
      have hs2 := half_step 92 l k hkl
      obtain ⟨x, hx⟩ : ∃ x, x = l[k] := ⟨_, rfl⟩
      rw [← hx] at hc hc2 hs1 hs2
      have z1 : bits .xor .u8 (x.toNat : Int) 54 = ((x ^^^ 54).toNat : Int) := u8_xor' x 54
      have z2 : bits .xor .u8 (x.toNat : Int) 92 = ((x ^^^ 92).toNat : Int) := u8_xor' x 92
      have hc3 : ∀ v, (wr.setCell ⟨g, k, none⟩ v).cell? ⟨g2, k, none⟩ = some (.int .u8 (x.toNat : Int)) := fun v => (grown_set wr g k v).cell hc2 (fun e => hne2 (Option.some.inj e))
      have hf3 : ∀ v, (wr.setCell ⟨g, k, none⟩ v).frozen? ⟨g2, k, none⟩ = false := fun v => (hb2.grown (grown_set wr g k v) (fun e => hne2 (Option.some.inj e))).frozen k
      have HB := Lib.hid hb
      have HB2 := Lib.hid hb2
      have HS1 := Lib.hid hs1
      have HS2 := Lib.hid hs2
      clear hb hb2 hs1 hs2 hx hkl
      go_wp2
      go_roundw
      case rel =>
        refine ⟨k + 1, by omega, by go_num, ?_, ?_, ?_⟩
        · have h1 := HB.out.set k (.int .u8 ((x ^^^ 54).toNat : Int))
          rw [HS1.out] at h1
          exact h1.grown (grown_set _ g2 k _) (fun e => hne (Option.some.inj e))
        · have h1 := (HB2.out.grown (grown_set wr g k (.int .u8 ((x ^^^ 54).toNat : Int))) (fun e => hne2 (Option.some.inj e))).set k (.int .u8 ((x ^^^ 92).toNat : Int))
          rw [HS2.out] at h1
          exact h1
        · exact World.grownBy.andThen (World.grownBy.andThen hgr (grown_set _ g k _) (by rintro _ ⟨⟩; exact .inl HW.out)) (grown_set _ g2 k _) (by rintro _ ⟨⟩; exact .inl HW2.out)
      case measure => simp [intOf]; omega
    · have ek : k = 64 := by omega
      rw [half_all _ _ _ (by rw [HLL.out, ek])] at hb hb2
      obtain ⟨cs1, hcs1⟩ : ∃ cs, cs = u8s (xr 54 l) := ⟨_, rfl⟩
      obtain ⟨cs2, hcs2⟩ : ∃ cs, cs = u8s (xr 92 l) := ⟨_, rfl⟩
      have hl1 : cs1.length = 64 := by rw [hcs1, u8s_length, xr_length, HLL.out]
      have hl2 : cs2.length = 64 := by rw [hcs2, u8s_length, xr_length, HLL.out]
      have ho1 : ∀ v ∈ cs1, v.oneCell' = true := by rw [hcs1]; exact u8s_one _
      have ho2 : ∀ v ∈ cs2, v.oneCell' = true := by rw [hcs2]; exact u8s_one _
      have hu := Tryd.underlying104
      have hi1 : (Tryd.prog.info? 104).map (·.size) = some cs1.length := by rw [hl1]; exact size32
      have hi2 : (Tryd.prog.info? 104).map (·.size) = some cs2.length := by rw [hl2]; exact size32
      rw [← hcs1] at hb
      rw [← hcs2] at hb2
      have hr1 : wr.rangeAt g 0 cs1 := Blk.range (pre := []) (post := []) (hb.to (by rw [List.append_nil]; rfl)) rfl
      have hr2 : wr.rangeAt g2 0 cs2 := Blk.range (pre := []) (post := []) (hb2.to (by rw [List.append_nil]; rfl)) rfl
      have ht1 : wr.there g 0 64 := fun j hj => ⟨by rw [Nat.zero_add, hb.cell j (by omega)]; rfl, by rw [Nat.zero_add]; exact hb.frozen j⟩
      have ht2 : wr.there g2 0 64 := fun j hj => ⟨by rw [Nat.zero_add, hb2.cell j (by omega)]; rfl, by rw [Nat.zero_add]; exact hb2.frozen j⟩
      have HB := Lib.hid hb
      have HB2 := Lib.hid hb2
      have HC1 := Lib.hid hcs1
      have HC2 := Lib.hid hcs2
      clear hb hb2 hcs1 hcs2
      go_wp2_with (fail)

      refine wp_region_held_drew (S := fun w' => Blk w' g 104 cs1 ∧ Blk w' g2 104 cs2) (by kernel_rfl) ⟨HB.out.keep rfl, HB2.out.keep rfl⟩ (fun hHeld => ?_)
      refine' wpAnyH_take (i := 0) (oi := { dst := some 30, op := .load 104 (.tmp 2), type := 104, pos := "mac.go:63", after := #[], guard := none }) (v := _) rfl (by kernel_rfl) (by kernel_rfl) (by kernel_rfl) (fun _ _ _ h => h) (yieldsIf_load_mid (by rfl) _ _ rfl _ _ rfl cs1 _ ?s1 ?u1 ?d1 ?i1) (by assumption) ?rest1
      case s1 => exact fun w' hs => Blk.range (pre := []) (post := []) (hs.1.to (by rw [List.append_nil]; rfl)) rfl
      case u1 => exact Tryd.underlying104
      case d1 => rfl
      case i1 => exact hi1
      try simp only [Act.put, List.setIfInBounds_toArray, List.set_cons_zero, List.set_cons_succ]
      refine' wpAnyH_take (i := 1) (oi := { dst := some 31, op := .load 104 (.tmp 3), type := 104, pos := "mac.go:63", after := #[{ on := 2, ground := .gcOnly .lateStores }], guard := none }) (v := _) rfl (by kernel_rfl) (by kernel_rfl) (by kernel_rfl) (fun _ _ _ h => h) (yieldsIf_load_mid (by rfl) _ _ rfl _ _ rfl cs2 _ ?s2 ?u2 ?d2 ?i2) (by assumption) ?rest2
      case s2 => exact fun w' hs => Blk.range (pre := []) (post := []) (hs.2.to (by rw [List.append_nil]; rfl)) rfl
      case u2 => exact Tryd.underlying104
      case d2 => rfl
      case i2 => exact hi2
      try simp only [Act.put, List.setIfInBounds_toArray, List.set_cons_zero, List.set_cons_succ]
      refine wpAnyH_ready (rs := [2]) (by kernel_rfl) (by simp) ?_
      refine AllReadyH.cons (o := { dst := none, op := .store 104 (.tmp 2) (.tmp 30), type := 0, pos := "mac.go:63", after := #[{ on := 0, ground := .data }, { on := 0, ground := .phase }, { on := 1, ground := .textOnly .lateStores }], guard := none }) rfl (fun K hK => ?_) AllReadyH.nil
      rw [if_pos (by rfl)]
      refine wp_store_row 104 _ _ rfl g cs1.toArray rfl rfl 104 _ hHeld.1 (by rw [List.size_toArray]; exact hi1) rfl (all_oneCell_toArray ho1) ?_
      refine hK.out _ _ ⟨Blk.setRow hHeld.1, hHeld.2.grown (grown_setRow _ _ _) (fun e => hne2 (Option.some.inj e))⟩ (fun hHeld2 => ?_)
      clear hK K
      simp only [Act.put]
      refine wpAnyH_ready (rs := [3]) (by kernel_rfl) (by simp) ?_
      refine AllReadyH.cons (o := { dst := none, op := .store 104 (.tmp 3) (.tmp 31), type := 0, pos := "mac.go:63", after := #[{ on := 1, ground := .data }, { on := 2, ground := .chain }, { on := 0, ground := .phase }, { on := 1, ground := .phase }, { on := 2, ground := .phase }], guard := none }) rfl (fun K hK => ?_) AllReadyH.nil
      rw [if_pos (by rfl)]
      refine wp_store_row 104 _ _ rfl g2 cs2.toArray rfl rfl 104 _ hHeld2.2 (by rw [List.size_toArray]; exact hi2) rfl (all_oneCell_toArray ho2) ?_
      refine hK.out _ _ ⟨hHeld2.1.grown (grown_setRow _ _ _) (fun e => hne (Option.some.inj e)), Blk.setRow hHeld2.2⟩ (fun hHeld3 => ?_)
      clear hK K
      simp only [Act.put]
      refine wpAnyH_done (by kernel_rfl) ?_ _
      have hg6 : w.grownBy ((wr.drew.setRow g cs1.toArray).setRow g2 cs2.toArray) none :=
        World.grownBy.andThen (World.grownBy.andThen (grown_drew (n := 0) hgr rfl) (grown_setRow _ _ _) (by rintro _ ⟨⟩; exact .inl HW.out)) (grown_setRow _ _ _) (by rintro _ ⟨⟩; exact .inl HW2.out)
      rw [HC1.out, HC2.out] at hHeld3
      rw [HC1.out, HC2.out] at hg6 ⊢
      go_wp2
      exact bodyPost_ret (results_two rfl _ _ g g2 (xr 54 l) (xr 92 l) rfl rfl hHeld3.1 hHeld3.2 (by rw [xr_length, HLL.out]) (by rw [xr_length, HLL.out])) rfl ⟨by rw [HL.out], hg6⟩
theorem forms_any {w : World} {c n : Nat} {ok : Nat → Prop} {A : Option Addr} {key : List UInt8} (hk : Byt w ok A key) (hok : ∀ b, ok b → b < w.heap.size) (hn : key.length = n) (hc : n ≤ c) (hcm : c ≤ maxLen) (hm : n < 2305843009213693952) (hT : Tab w) :
    Calls Tryd.prog 49 #[.slice A n c] w fun e w' => e = .returned (.tuple #[.agg (u8s (xr 54 (kpad key))).toArray, .agg (u8s (xr 92 (kpad key))).toArray]) ∧ w.grownBy w' none := by
  by_cases h : n ≤ 64
  · exact forms_short hk hok hn h
  · exact forms_long hk hok hn (by omega) hc hcm hm hT
open Go.RowKit
/-- The bytes of the k first texts. -/
def flat (ps : List (List UInt8)) (k : Nat) : List UInt8 := (ps.take k).flatten
theorem flat_zero (ps : List (List UInt8)) : flat ps 0 = [] := rfl
theorem flat_all (ps : List (List UInt8)) (k : Nat) (h : ps.length = k) : flat ps k = ps.flatten := by subst h; simp [flat]
theorem flat_succ (ps : List (List UInt8)) (k : Nat) (h : k < ps.length) : flat ps (k + 1) = flat ps k ++ ps[k] := by
  unfold flat
  rw [List.take_succ_eq_append_getElem h, List.flatten_append]
  simp
theorem flat_le (ps : List (List UInt8)) (k : Nat) (h : k < ps.length) : (flat ps k).length + ps[k].length ≤ ps.flatten.length := by
  have e : ps.flatten = flat ps (k + 1) ++ (ps.drop (k + 1)).flatten := by
    unfold flat
    rw [← List.flatten_append, List.take_append_drop]
  rw [e, flat_succ ps k h, List.length_append, List.length_append]
  omega
/-- While the texts are put. -/
def TextAt (B : World) (p : Nat) (form : List UInt8) (ps : List (List UInt8)) (i : Value) (wr : World) : Prop :=
  ∃ k : Nat, k ≤ ps.length ∧ i = .int .i64 (k : Int) ∧ HashAt wr p (form ++ flat ps k) ∧ B.grownBy wr (some p)
set_option maxRecDepth 100000 in
set_option maxHeartbeats 1600000 in
theorem mhash_any {w : World} {c1 c2 n m : Nat} {ok : Nat → Prop} {A1 A2 : Option Addr} {form : List UInt8} {ps : List (List UInt8)} (hf : Byt w ok A1 form) (hp : Lst w ok A2 ps) (hok : ∀ b, ok b → b < w.heap.size) (hn : form.length = n) (hc : n ≤ c1) (hcm : c1 ≤ maxLen) (hm : ps.length = m) (hm2 : m ≤ 1000000)
    (hs : n + ps.flatten.length < 2305843009213693952) (hT : Tab w) :
    Calls Tryd.prog 56 #[.slice A1 n c1, .slice A2 m c2] w fun e w' => e = .returned (.agg (u8s (sha256 (form ++ ps.flatten))).toArray) ∧ w.grownBy w' none := by
  have h1w := hT.lt
  have HF := Lib.hid hf
  have HP := Lib.hid hp
  have HN := Lib.hid hn
  have HM := Lib.hid hm
  have HT := Lib.hid hT
  clear hf hp hn hm hT
  go_enter Tryd.func56, Tryd.ntmps56
  go_wp2_with (refine wpList_alloc24 rfl rfl ?_)
  intro w1 hb1 hg1 hz1
  have hT1 := HT.out.grown hg1 (by simp) (by simp)
  have HB1 := Lib.hid hb1
  have HG1 := Lib.hid hg1
  have HT1 := Lib.hid hT1
  clear hb1 hg1 hT1
  go_wp2_with (go_at_call 62; refine (new_any HT1.out.1).mono ?_; rintro _ w2 ⟨rfl, hh2, hg2⟩)
  rw [hz1] at hh2
  obtain ⟨p, hpe⟩ : ∃ p, p = w.heap.size + 1 := ⟨_, rfl⟩
  rw [← hpe] at hh2 ⊢
  have hg12 := World.grownBy.trans HG1.out hg2
  have hf2 := HF.out.grown hg12 (fun b hb => ⟨hok b hb, by simp⟩)
  have ho2 : ∀ b, ok b → b < w2.heap.size ∧ b ≠ p := fun b hb => by have h1 := hok b hb; have h2 := hg12.size; omega
  have hT2 := HT1.out.grown hg2 (by simp) (by simp)
  have hb2 := HB1.out.grown hg2 (by simp)
  have hp1 : 1 < p := by omega
  have hpw : w.heap.size ≤ p := by omega
  have hpn : w.heap.size ≠ p := by omega
  have hs0 : ([] : List UInt8).length + n < 2305843009213693952 := by simp; omega
  have HH2 := Lib.hid hh2
  have HG2 := Lib.hid hg12
  have HF2 := Lib.hid hf2
  have HO2 := Lib.hid ho2
  have HT2 := Lib.hid hT2
  have HB2 := Lib.hid hb2
  have HS0 := Lib.hid hs0
  clear hh2 hg12 hf2 ho2 hT2 hb2 hg2 hz1 hpe HB1 HG1 HT1 hs0
  go_wp2_with (go_at_call 63; refine (put_any hp1 HH2.out HF2.out HO2.out HN.out hc hcm HS0.out HT2.out.2).mono ?_; rintro _ w3 ⟨rfl, hh3, hg3⟩)
  rw [List.nil_append] at hh3
  have hT3 := HT2.out.grown hg3 (fun e => by have := Option.some.inj e; omega) (fun e => by have := Option.some.inj e; omega)
  have hb3 := HB2.out.grown hg3 (fun e => hpn (Option.some.inj e))
  have hg13 : w.grownBy w3 none := World.grownBy.andThen HG2.out hg3 (by rintro _ ⟨⟩; exact .inl hpw)
  have hh3' : HashAt w3 p (form ++ flat ps 0) := by rw [flat_zero, List.append_nil]; exact hh3
  have HH3 := Lib.hid hh3'
  have HT3 := Lib.hid hT3
  have HB3 := Lib.hid hb3
  have HG3 := Lib.hid hg13
  clear hh3 hh3' hT3 hb3 hg13 hg3 HH2 HG2 HF2 HO2 HT2 HB2 HS0
  go_loopw [14] (fun i wr => TextAt w3 p form ps i wr) (fun i _ => ps.length - (intOf i).toNat)
  case atStart => exact ⟨0, Nat.zero_le _, rfl, HH3.out, World.grownBy.refl _ _⟩
  case round =>
    obtain ⟨k, hk, rfl, hh, hgr⟩ := hrel
    have hml := HM.out
    by_cases hlt : k < ps.length
    · obtain ⟨ad, A', c', rfl, hoka, hcl, hl1, hl2, hbx⟩ := HP.out k hlt
      have hgw : ∀ b, ok b → wr.heap[b]? = w.heap[b]? := fun b hb => by
        rw [hgr.block b (Nat.lt_of_lt_of_le (hok b hb) HG3.out.size) (fun e => by have := Option.some.inj e; have := hok b hb; omega), HG3.out.block b (hok b hb) (by simp)]
      have hcl2 : wr.cell? (ad.add k) = some (.slice A' ps[k].length c') := (World.cell?_of_block (by rw [block_of_plus]; exact hgw _ hoka)).trans hcl
      have hbx2 : Byt wr ok A' ps[k] := hbx.keep hgw
      have hfl := flat_le ps k hlt
      have hstep := flat_succ ps k hlt
      obtain ⟨x, hx⟩ : ∃ x, x = ps[k] := ⟨_, rfl⟩
      rw [← hx] at hcl2 hbx2 hl1 hfl hstep
      obtain ⟨q, hq⟩ : ∃ q, x.length = q := ⟨_, rfl⟩
      rw [hq] at hcl2 hl1 hfl
      have hs1 : (form ++ flat ps k).length + q < 2305843009213693952 := by rw [List.length_append, HN.out]; omega
      have ho1 : ∀ b, ok b → b < wr.heap.size ∧ b ≠ p := fun b hb => by have h1 := hok b hb; have h2 := HG3.out.size; have h3 := hgr.size; omega
      have hT4 := HT3.out.grown hgr (fun e => by have := Option.some.inj e; omega) (fun e => by have := Option.some.inj e; omega)
      have HH := Lib.hid hh
      have HQ := Lib.hid hq
      have HX := Lib.hid hbx2
      have HS1 := Lib.hid hs1
      have HO1 := Lib.hid ho1
      have HT4 := Lib.hid hT4
      have HST := Lib.hid hstep
      have HGR := Lib.hid hgr
      have kk : k < m := by omega
      clear hh hq hx hbx hbx2 hs1 ho1 hT4 hstep hgr hfl hgw hcl hml
      go_wp2_with (go_at_call 63; refine (put_any hp1 HH.out HX.out HO1.out HQ.out hl1 hl2 HS1.out HT4.out.2).mono ?_; rintro _ w4 ⟨rfl, hh4, hg4⟩)
      go_roundw
      case rel => exact ⟨k + 1, by omega, by go_num, by rw [HST.out, ← List.append_assoc]; exact hh4, World.grownBy.trans HGR.out hg4⟩
      case measure => simp [intOf]; omega
    · have ek : k = m := by omega
      have hh2 : HashAt wr p (form ++ ps.flatten) := by rw [flat_all ps k (by rw [hml, ek])] at hh; exact hh
      have hlen : (form ++ ps.flatten).length < 2305843009213693952 := by rw [List.length_append, HN.out]; exact hs
      have hT4 := HT3.out.grown hgr (fun e => by have := Option.some.inj e; omega) (fun e => by have := Option.some.inj e; omega)
      have hb4 := HB3.out.grown hgr (fun e => hpn (Option.some.inj e))
      have hg4 : w.grownBy wr none := World.grownBy.andThen HG3.out hgr (by rintro _ ⟨⟩; exact .inl hpw)
      obtain ⟨tx, htx⟩ : ∃ tx, tx = form ++ ps.flatten := ⟨_, rfl⟩
      rw [← htx] at hh2 hlen
      have HTX := Lib.hid htx
      have HH := Lib.hid hh2
      have HLE := Lib.hid hlen
      have HT4 := Lib.hid hT4
      have HB4 := Lib.hid hb4
      have HG4 := Lib.hid hg4
      clear hh hh2 hlen hT4 hb4 hg4 hgr htx
      go_wp2_with (first
        | (go_at_call 64; (refine (sum_any HH.out HLE.out HT4.out.2).mono ?_; rintro _ w5 ⟨rfl, hg5⟩))
        | (refine wpList_store_row rfl 22 _ _ rfl w.heap.size (u8s (sha256 tx)).toArray rfl rfl 22 _ (HB4.out.grown hg5 (by simp)) (by rw [size24, List.size_toArray, u8s_length, sha256_length]) (by simp [u8s_length, sha256_length, zs_length]) (all_oneCell_toArray (u8s_one _)) ?_))
      have hb5 := HB4.out.grown hg5 (by simp)
      refine bodyPost_ret (results_cell_row rfl _ _ w.heap.size 22 (u8s (sha256 tx)).toArray (0, 0) _ rfl (setRow_heap w5 w.heap.size _ _ 22 (0, 0) hb5) Tryd.underlying22 rfl (by rw [size24, List.size_toArray, u8s_length, sha256_length])) rfl ⟨by rw [HTX.out], ?_⟩
      exact World.grownBy.andThen (World.grownBy.trans HG4.out hg5) (grown_setRow _ _ _) (by rintro _ ⟨⟩; exact .inl (Nat.le_refl _))
open Go.RowKit
theorem lst_of_blk {w : World} {ok : Nat → Prop} {g : Nat} {ty : TypeId} {vs : List Value} {ps : List (List UInt8)} (hb : Blk w g ty vs) (hg : ok g)
    (h : ∀ j (hj : j < ps.length), ∃ A c, vs[j]? = some (.slice A ps[j].length c) ∧ ps[j].length ≤ c ∧ c ≤ maxLen ∧ Byt w ok A ps[j]) : Lst w ok (some ⟨g, 0, none⟩) ps := fun j hj => by
  obtain ⟨A, c, h1, h2, h3, h4⟩ := h j hj
  refine ⟨_, A, c, rfl, hg, ?_, h2, h3, h4⟩
  rw [Addr.add_lit, Nat.zero_add]
  exact hb.get j _ h1
theorem lst_one {w : World} {ok : Nat → Prop} {g : Nat} {ty : TypeId} {A : Option Addr} {c n : Nat} {x : List UInt8} (hb : Blk w g ty [.slice A n c]) (hg : ok g) (hn : x.length = n) (hl : n ≤ c) (hm : c ≤ maxLen) (hx : Byt w ok A x) : Lst w ok (some ⟨g, 0, none⟩) [x] := by
  subst hn
  refine lst_of_blk hb hg fun j hj => ?_
  obtain rfl : j = 0 := by simpa using hj
  exact ⟨A, c, rfl, hl, hm, hx⟩
theorem u8s_info (x : List UInt8) : (Tryd.prog.info? 22).map (·.size) = some (u8s (sha256 x)).length := by rw [size24, u8s_length, sha256_length]
theorem Blk.there {w : World} {g n : Nat} {ty : TypeId} {cs : List Value} (h : Blk w g ty cs) (hn : cs.length = n) : w.there g 0 n := fun j hj => ⟨by rw [Nat.zero_add, h.cell j (by omega)]; rfl, by rw [Nat.zero_add]; exact h.frozen j⟩
theorem Blk.setAll {w : World} {g : Nat} {ty : TypeId} {cs ds : List Value} (h : Blk w g ty cs) (hl : ds.length = cs.length) : Blk (w.setCells g 0 ds) g ty ds ∧ w.grownBy (w.setCells g 0 ds) (some g) := by
  obtain ⟨h1, h2, _⟩ := Blk.setCells (post := []) ds cs [] 0 w (h.to (by simp)) rfl hl
  exact ⟨h1.to (by simp), h2⟩
theorem mhash_one {w : World} {c1 c2 n : Nat} {ok : Nat → Prop} {A1 A2 : Option Addr} {form x : List UInt8} (hf : Byt w ok A1 form) (hp : Lst w ok A2 [x]) (hok : ∀ b, ok b → b < w.heap.size) (hn : form.length = n) (hc : n ≤ c1) (hcm : c1 ≤ maxLen)
    (hs : n + x.length < 2305843009213693952) (hT : Tab w) :
    Calls Tryd.prog 56 #[.slice A1 n c1, .slice A2 1 c2] w fun e w' => e = .returned (.agg (u8s (sha256 (form ++ x))).toArray) ∧ w.grownBy w' none := by
  have h := mhash_any (c2 := c2) hf hp hok hn hc hcm rfl (by simp) (by simpa using hs) hT
  simpa using h
set_option maxRecDepth 100000 in
set_option maxHeartbeats 1600000 in
theorem msum_any {w : World} {c2 m gi go : Nat} {ok : Nat → Prop} {A2 : Option Addr} {fi fo : List UInt8} {ps : List (List UInt8)} (hi : Blk w gi 104 (u8s fi)) (ho : Blk w go 104 (u8s fo)) (hli : fi.length = 64) (hlo : fo.length = 64) (hp : Lst w ok A2 ps) (hok : ∀ b, ok b → b < w.heap.size)
    (hm : ps.length = m) (hm2 : m ≤ 1000000) (hs : 64 + ps.flatten.length < 2305843009213693952) (hT : Tab w) :
    Calls Tryd.prog 50 #[.pointer (some ⟨gi, 0, none⟩), .pointer (some ⟨go, 0, none⟩), .slice A2 m c2] w fun e w' => e = .returned (.agg (u8s (sha256 (fo ++ sha256 (fi ++ ps.flatten)))).toArray) ∧ w.grownBy w' none := by
  have hil := hi.lt
  have hol := ho.lt
  have HI := Lib.hid hi
  have HO := Lib.hid ho
  have HLI := Lib.hid hli
  have HLO := Lib.hid hlo
  have HP := Lib.hid hp
  have HM := Lib.hid hm
  have HT := Lib.hid hT
  clear hi ho hli hlo hp hm hT
  go_enter Tryd.func50, Tryd.ntmps50
  go_wp2_with (refine wpList_alloc24 rfl rfl ?_)
  intro w1 hb1 hg1 hz1
  have hx1 : Byt w1 (fun b => b < w1.heap.size) (some ⟨gi, 0, none⟩) fi := ((HI.out.grown hg1 (by simp)).to (by rw [List.append_nil]; rfl) |>.byt (pre := []) (post := []) rfl).imp fun b hb => by omega
  have hp1 : Lst w1 (fun b => b < w1.heap.size) A2 ps := (HP.out.keep fun b hb => hg1.block b (hok b hb) (by simp)).imp fun b hb => by have := hok b hb; omega
  have hT1 := HT.out.grown hg1 (by simp) (by simp)
  have ho1 := HO.out.grown hg1 (by simp)
  have HB1 := Lib.hid hb1
  have HG1 := Lib.hid hg1
  have HX1 := Lib.hid hx1
  have HP1 := Lib.hid hp1
  have HT1 := Lib.hid hT1
  have HO1 := Lib.hid ho1
  have HZ1 := Lib.hid hz1
  clear hb1 hg1 hx1 hp1 hT1 ho1 hz1
  have hm64 : (64 : Nat) ≤ maxLen := by unfold maxLen; omega
  go_wp2_with (first
    | (go_at_call 56; refine (mhash_any HX1.out HP1.out (fun b hb => hb) HLI.out (Nat.le_refl _) hm64 HM.out hm2 hs HT1.out).mono ?_; rintro _ w2 ⟨rfl, hg2⟩)
    | (refine wpList_alloc24 rfl rfl ?_; intro w3 hb3 hg3 hz3)
    | (refine wpList_store_row rfl 22 _ _ rfl w2.heap.size (u8s (sha256 (fi ++ ps.flatten))).toArray rfl rfl 22 _ hb3 (by rw [size24, List.size_toArray, u8s_length, sha256_length]) (by simp [u8s_length, sha256_length, zs_length]) (all_oneCell_toArray (u8s_one _)) ?_))
  obtain ⟨t1, ht1⟩ : ∃ t, t = sha256 (fi ++ ps.flatten) := ⟨_, rfl⟩
  have HTE := Lib.hid ht1
  obtain ⟨g7, hg7⟩ : ∃ g, g = w2.heap.size := ⟨_, rfl⟩
  obtain ⟨w4, hw4⟩ : ∃ w', w' = w3.setRow w2.heap.size (u8s (sha256 (fi ++ ps.flatten))).toArray := ⟨_, rfl⟩
  rw [← hw4, ← ht1, ← hg7]
  have hl1 : t1.length = 32 := by rw [ht1, sha256_length]
  have hb4 : Blk w4 g7 22 (u8s t1) := by rw [hw4, ← hg7, ← ht1]; rw [← hg7] at hb3; exact Blk.setRow hb3
  have hg34 : w3.grownBy w4 (some g7) := by rw [hw4, ← hg7]; exact grown_setRow _ _ _
  have hz2 := hg2.size
  have hz11 := HZ1.out
  have hg14 : w1.grownBy w4 none := World.grownBy.andThen (World.grownBy.trans hg2 hg3) hg34 (by rintro _ ⟨⟩; exact .inl (by omega))
  have hgw4 : w.grownBy w4 none := World.grownBy.trans HG1.out hg14
  have hbw4 := HB1.out.grown hg14 (by simp)
  have hbo4 := HO1.out.grown hg14 (by simp)
  have hT4 := HT1.out.grown hg14 (by simp) (by simp)
  have hlt4 := hb4.lt
  have hwz : w.heap.size < w4.heap.size := hbw4.lt
  obtain ⟨W, hW⟩ : ∃ W, W = (w4.alloc (.cells #[.slice (some ⟨g7, 0, none⟩) 32 32] 66)).drew := ⟨_, rfl⟩
  have hg4W : w4.grownBy W none := by rw [hW]; exact grown_drew (n := 0) (World.grownBy_alloc w4 _ none) rfl
  have hbl : Blk W w4.heap.size 66 [.slice (some ⟨g7, 0, none⟩) 32 32] := by rw [hW]; exact (Blk.of_alloc w4 #[.slice (some ⟨g7, 0, none⟩) 32 32] 66).keep rfl
  have hx7 : Byt W (fun b => b < W.heap.size) (some ⟨g7, 0, none⟩) t1 := ((hb4.grown hg4W (by simp)).to (by rw [List.append_nil]; rfl) |>.byt (pre := []) (post := []) rfl).imp fun b hb => by have := hg4W.size; omega
  have hm32 : (32 : Nat) ≤ maxLen := by unfold maxLen; omega
  have hps7 : Lst W (fun b => b < W.heap.size) (some ⟨w4.heap.size, 0, none⟩) [t1] := lst_one hbl hbl.lt hl1 (Nat.le_refl _) hm32 hx7
  have hxo : Byt W (fun b => b < W.heap.size) (some ⟨go, 0, none⟩) fo := ((hbo4.grown hg4W (by simp)).to (by rw [List.append_nil]; rfl) |>.byt (pre := []) (post := []) rfl).imp fun b hb => by have := hg4W.size; omega
  have hTW := hT4.grown hg4W (by simp) (by simp)
  have hbW := hbw4.grown hg4W (by simp)
  have hs7 : 64 + t1.length < 2305843009213693952 := by omega
  have HGW := Lib.hid (World.grownBy.trans hgw4 hg4W)
  have HPS := Lib.hid hps7
  have HXO := Lib.hid hxo
  have HTW := Lib.hid hTW
  have HBW := Lib.hid hbW
  have HS7 := Lib.hid hs7
  have HWE := Lib.hid hW
  clear ht1 hg7 hw4 hl1 hb3 hb4 hg34 hz2 hz11 hg14 hgw4 hbw4 hbo4 hT4 hW hg4W hbl hx7 hps7 hxo hTW hbW hs7 hg2 hg3 hz3 HB1 HG1 HX1 HP1 HT1 HO1
  go_region_held3 (fun _ => True) (exact trivial) (first
    | (go_at_call 56; rw [← HWE.out]; refine (mhash_one HXO.out HPS.out (fun b hb => hb) HLO.out (Nat.le_refl _) hm64 HS7.out HTW.out).mono ?_; rintro _ w5 ⟨rfl, hg5⟩; have hb5 := HBW.out.grown hg5 (by simp); have ht5 : w5.there w.heap.size 0 32 := hb5.there (u8s_length _); have hi5 : (Tryd.prog.info? 22).map (·.size) = some (u8s (sha256 (fo ++ t1))).length := u8s_info _; have hn5 : (u8s (sha256 (fo ++ t1))).length = 32 := (by rw [u8s_length, sha256_length]); have ho5 : ∀ v ∈ (u8s (sha256 (fo ++ t1))), v.oneCell' = true := u8s_one _))
  obtain ⟨hb6, hg6⟩ := hb5.setAll (ds := u8s (sha256 (fo ++ t1))) (by rw [u8s_length, u8s_length, sha256_length]; rfl)
  go_wp2
  refine bodyPost_ret (results_cell_row rfl _ _ w.heap.size 22 (u8s (sha256 (fo ++ t1))).toArray (0, 0) _ rfl hb6 Tryd.underlying22 rfl (by rw [size24, List.size_toArray, u8s_length, sha256_length])) rfl ⟨by rw [HTE.out], ?_⟩
  exact World.grownBy.andThen (World.grownBy.trans HGW.out hg5) hg6 (by rintro _ ⟨⟩; exact .inl (Nat.le_refl _))
open Go.RowKit
theorem Blk.bytes {w : World} {g : Nat} {ty : TypeId} {x : List UInt8} (h : Blk w g ty (u8s x)) : Byt w (fun b => b < w.heap.size) (some ⟨g, 0, none⟩) x :=
  ((h.to (by rw [List.append_nil]; rfl)).byt (pre := []) (post := []) rfl).imp fun b hb => by rw [hb]; exact h.lt
theorem msum_one {w : World} {c2 gi go : Nat} {ok : Nat → Prop} {A2 : Option Addr} {fi fo x : List UInt8} (hi : Blk w gi 104 (u8s fi)) (ho : Blk w go 104 (u8s fo)) (hli : fi.length = 64) (hlo : fo.length = 64) (hp : Lst w ok A2 [x]) (hok : ∀ b, ok b → b < w.heap.size)
    (hs : 64 + x.length < 2305843009213693952) (hT : Tab w) :
    Calls Tryd.prog 50 #[.pointer (some ⟨gi, 0, none⟩), .pointer (some ⟨go, 0, none⟩), .slice A2 1 c2] w fun e w' => e = .returned (.agg (u8s (sha256 (fo ++ sha256 (fi ++ x)))).toArray) ∧ w.grownBy w' none := by
  have h := msum_any (c2 := c2) hi ho hli hlo hp hok rfl (by simp) (by simpa using hs) hT
  simpa using h
set_option maxRecDepth 100000 in
set_option maxHeartbeats 1600000 in
theorem mac_any {w : World} {c1 c2 n m : Nat} {ok : Nat → Prop} {A1 A2 : Option Addr} {key text : List UInt8} (hk : Byt w ok A1 key) (ht : Byt w ok A2 text) (hok : ∀ b, ok b → b < w.heap.size) (hn : key.length = n) (hm : text.length = m) (hc1 : n ≤ c1) (hcm1 : c1 ≤ maxLen) (hc2 : m ≤ c2) (hcm2 : c2 ≤ maxLen) (hs1 : n < 1152921504606846976) (hs3 : m < 1152921504606846976) (hT : Tab w) :
    Calls Tryd.prog 42 #[.slice A1 n c1, .slice A2 m c2] w fun e w' => e = .returned (.agg (u8s (hmac key text)).toArray) ∧ w.grownBy w' none := by
  have hs2 : 64 + text.length < 2305843009213693952 := by omega
  have HK := Lib.hid hk
  have HX := Lib.hid ht
  have HN := Lib.hid hn
  have HM := Lib.hid hm
  have HS2 := Lib.hid hs2
  have HT := Lib.hid hT
  clear hk ht hn hm hT hs2
  go_enter Tryd.func42, Tryd.ntmps42
  go_wp2_with (refine wpList_alloc24 rfl rfl ?_)
  intro w1 hb1 hg1 hz1
  have hk1 := HK.out.grown hg1 (fun b hb => ⟨hok b hb, by simp⟩)
  have hT1 := HT.out.grown hg1 (by simp) (by simp)
  have ho1 : ∀ b, ok b → b < w1.heap.size := fun b hb => by have := hok b hb; omega
  have HB1 := Lib.hid hb1
  have HG1 := Lib.hid hg1
  have HZ1 := Lib.hid hz1
  have HK1 := Lib.hid hk1
  have HT1 := Lib.hid hT1
  have HO1 := Lib.hid ho1
  clear hb1 hg1 hz1 hk1 hT1 ho1
  go_wp2_with (first
    | (go_at_call 49; refine (forms_any HK1.out HO1.out HN.out hc1 hcm1 (by omega) HT1.out).mono ?_; rintro _ w2 ⟨rfl, hg2⟩)
    | (refine wpList_alloc32 rfl rfl ?_))
  intro w3 hb3 hg3 hz3
  go_wp2_with (refine wpList_alloc32 rfl rfl ?_)
  intro w4 hb4 hg4 hz4
  obtain ⟨fi, hfi⟩ : ∃ l, l = xr 54 (kpad key) := ⟨_, rfl⟩
  obtain ⟨fo, hfo⟩ : ∃ l, l = xr 92 (kpad key) := ⟨_, rfl⟩
  have hli : fi.length = 64 := by rw [hfi, xr_length, kpad_length]
  have hlo : fo.length = 64 := by rw [hfo, xr_length, kpad_length]
  obtain ⟨g5, hg5⟩ : ∃ g, g = w2.heap.size := ⟨_, rfl⟩
  obtain ⟨g6, hg6⟩ : ∃ g, g = w2.heap.size + 1 := ⟨_, rfl⟩
  rw [← hfi, ← hfo, ← hg6, ← hg5]
  rw [← hg6] at hb4
  rw [← hg5] at hb3
  have hb34 := hb3.grown hg4 (by simp)
  have hg24 := World.grownBy.trans hg3 hg4
  have hg14 := World.grownBy.trans hg2 hg24
  have hne : g5 ≠ g6 := by omega
  have hz2 := hg2.size
  have hz11 := HZ1.out
  have hw5 : w.heap.size < g5 := by omega
  have hw6 : w.heap.size < g6 := by omega
  have HB3 := Lib.hid hb34
  have HB4 := Lib.hid hb4
  have HG14 := Lib.hid hg14
  have HFI := Lib.hid hfi
  have HFO := Lib.hid hfo
  have HLI := Lib.hid hli
  have HLO := Lib.hid hlo
  clear hg2 hg3 hg4 hz3 hz4 hb3 hb34 hb4 hg24 hg14 hz2 hz11 hfi hfo hli hlo hg5 hg6
  go_upto_region 2 with (first
    | (refine wpList_store_row rfl 104 _ _ rfl g5 (u8s fi).toArray rfl rfl 104 _ HB3.out (by rw [size32, List.size_toArray, u8s_length, HLI.out]) (by simp [u8s_length, HLI.out, zs_length]) (all_oneCell_toArray (u8s_one _)) ?_)
    | (refine wpList_store_row rfl 104 _ _ rfl g6 (u8s fo).toArray rfl rfl 104 _ (HB4.out.grown (grown_setRow _ g5 _) (fun e => hne (Option.some.inj e).symm)) (by rw [size32, List.size_toArray, u8s_length, HLO.out]) (by simp [u8s_length, HLO.out, zs_length]) (all_oneCell_toArray (u8s_one _)) ?_))
  obtain ⟨w5, hw5e⟩ : ∃ w', w' = (w4.setRow g5 (u8s fi).toArray).setRow g6 (u8s fo).toArray := ⟨_, rfl⟩
  rw [← hw5e]
  have hbi : Blk w5 g5 104 (u8s fi) := by rw [hw5e]; exact Blk.grown (Blk.setRow HB3.out) (grown_setRow _ g6 _) (fun e => hne (Option.some.inj e))
  have hbo : Blk w5 g6 104 (u8s fo) := by rw [hw5e]; exact Blk.setRow (HB4.out.grown (grown_setRow _ g5 _) (fun e => hne (Option.some.inj e).symm))
  have hz11 := HZ1.out
  have hg15 : w1.grownBy w5 none := by
    rw [hw5e]
    exact World.grownBy.andThen (World.grownBy.andThen HG14.out (grown_setRow _ g5 _) (by rintro _ ⟨⟩; exact .inl (by omega))) (grown_setRow _ g6 _) (by rintro _ ⟨⟩; exact .inl (by omega))
  obtain ⟨W, hW⟩ : ∃ W, W = w5.alloc (.cells #[.slice A2 m c2] 66) := ⟨_, rfl⟩
  have hg5W : w5.grownBy W none := by rw [hW]; exact World.grownBy_alloc w5 _ none
  have hg1W := World.grownBy.trans hg15 hg5W
  have hgW := World.grownBy.trans HG1.out hg1W
  have hbl : Blk W w5.heap.size 66 [.slice A2 m c2] := by rw [hW]; exact Blk.of_alloc w5 #[.slice A2 m c2] 66
  have hx7 : Byt W (fun b => b < W.heap.size) A2 text := (HX.out.grown hgW (fun b hb => ⟨hok b hb, by simp⟩)).imp fun b hb => Nat.lt_of_lt_of_le (hok b hb) hgW.size
  have hps7 : Lst W (fun b => b < W.heap.size) (some ⟨w5.heap.size, 0, none⟩) [text] := lst_one hbl hbl.lt HM.out hc2 hcm2 hx7
  have hiW := hbi.grown hg5W (by simp)
  have hoW := hbo.grown hg5W (by simp)
  have hTW := HT1.out.grown hg1W (by simp) (by simp)
  have hbW := HB1.out.grown hg1W (by simp)
  have HGW := Lib.hid hgW
  have HPS := Lib.hid hps7
  have HIW := Lib.hid hiW
  have HOW := Lib.hid hoW
  have HTW := Lib.hid hTW
  have HBW := Lib.hid hbW
  have HWE := Lib.hid hW
  have hend : sha256 (fo ++ sha256 (fi ++ text)) = hmac key text := by rw [HFI.out, HFO.out]; rfl
  have HEND := Lib.hid hend
  clear hw5e hbi hbo hz11 hg15 hW hg5W hg1W hgW hbl hx7 hps7 hiW hoW hTW hbW hend
  go_wp2_with (first
    | (go_at_call 50; rw [← HWE.out]; refine (msum_one HIW.out HOW.out HLI.out HLO.out HPS.out (fun b hb => hb) HS2.out HTW.out).mono ?_; rintro _ w6 ⟨rfl, hg6⟩)
    | (refine wpList_store_row rfl 22 _ _ rfl w.heap.size (u8s (sha256 (fo ++ sha256 (fi ++ text)))).toArray rfl rfl 22 _ (HBW.out.grown hg6 (by simp)) (by rw [size24, List.size_toArray, u8s_length, sha256_length]) (by simp [u8s_length, sha256_length, zs_length]) (all_oneCell_toArray (u8s_one _)) ?_))
  have hb6 := HBW.out.grown hg6 (by simp)
  refine bodyPost_ret (results_cell_row rfl _ _ w.heap.size 22 (u8s (sha256 (fo ++ sha256 (fi ++ text)))).toArray (0, 0) _ rfl (setRow_heap w6 w.heap.size _ _ 22 (0, 0) hb6) Tryd.underlying22 rfl (by rw [size24, List.size_toArray, u8s_length, sha256_length])) rfl ⟨by rw [HEND.out], ?_⟩
  exact World.grownBy.andThen (World.grownBy.trans HGW.out hg6) (grown_setRow _ _ _) (by rintro _ ⟨⟩; exact .inl (Nat.le_refl _))
end Go.Proofs.YtdnkeaokgkiloaaDoor.S
