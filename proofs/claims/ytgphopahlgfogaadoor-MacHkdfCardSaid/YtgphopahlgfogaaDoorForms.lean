/- The two forms of a key that HMAC takes. Conditions: none. -/
import Derived.Test.YtgphopahlgfogaaDoorRefMac
import Derived.Deep.RegionHeld3
namespace Go.Proofs.YtgphopahlgfogaaDoor
open Go.RowKit
/-- The tables of SHA-256 lie where the program has laid them. -/
def Tab (w : World) : Prop := (∀ i, i < 8 → w.cell? ⟨0, i, none⟩ = some (.int .u64 (sqN.getD i 0 : Nat))) ∧ (∀ i, i < 80 → w.cell? ⟨1, i, none⟩ = some (.int .u64 (cuN.getD i 0 : Nat)))
theorem Tab.lt {w : World} (h : Tab w) : 1 < w.heap.size := by
  have := h.2 0 (by omega)
  rcases Nat.lt_or_ge 1 w.heap.size with h | h
  · exact h
  · simp [World.cell?, Array.getElem?_eq_none h] at this
theorem Tab.grown {w w' : World} {row : Option Nat} (h : Tab w) (hg : w.grownBy w' row) (h0 : some 0 ≠ row) (h1 : some 1 ≠ row) : Tab w' :=
  ⟨fun i hi => hg.cell (h.1 i hi) h0, fun i hi => hg.cell (h.2 i hi) h1⟩
theorem run_alloc32 (w : World) : (Instr.alloc 32 true (.tuple #[])).run Tryd.prog w = .ok (.pointer (some ⟨w.heap.size, 0, none⟩)) (w.alloc (.cells (u8s (zs 64)).toArray 32)) := by kernel_rfl
section
variable {w : World} {ops : Array Oper} {rest : List Oper} {o : Oper} {a : Act} {Q : Exit → Act → World → Prop}
theorem wpList_alloc32 (hgd : o.guard = none) (ho : o.op = .alloc 32)
    (h : ∀ w', Blk w' w.heap.size 32 (u8s (zs 64)) → w.grownBy w' none → w'.heap.size = w.heap.size + 1 → wpList Tryd.prog ops Q rest (a.put o.dst (.pointer (some ⟨w.heap.size, 0, none⟩))) w') : wpList Tryd.prog ops Q (o :: rest) a w := by
  refine wpList_plain hgd fun K hK => ?_
  have hrun := run_alloc32 w
  generalize u8s (zs 64) = z at hrun h
  unfold Oper.wp
  simp only [execOp, ho, Sem.run_bind, hrun, Result.andThen_ok, Sem.run_pure]
  exact hK _ _ (h _ (Blk.of_alloc w _ 32) (World.grownBy_alloc w _ none) (World.size_alloc w _))
end
theorem size32 : (Tryd.prog.info? 32).map (·.size) = some 64 := by kernel_rfl
theorem results_two {fn : Func} {p q : Tmp} (h : fn.results = #[.cell p 32, .cell q 32]) (tmps : Array Value) (w : World) (g g2 : Nat) (xs ys : List UInt8) (hp : tmps.getD p undef = .pointer (some ⟨g, 0, none⟩)) (hq : tmps.getD q undef = .pointer (some ⟨g2, 0, none⟩)) (hk : Blk w g 32 (u8s xs)) (hk2 : Blk w g2 32 (u8s ys)) (hl : xs.length = 64) (hl2 : ys.length = 64) :
    (results fn tmps).run Tryd.prog w = .ok (.tuple #[.agg (u8s xs).toArray, .agg (u8s ys).toArray]) w := by
  have hp' : tmps[p]?.getD undef = .pointer (some ⟨g, 0, none⟩) := by simpa using hp
  have hq' : tmps[q]?.getD undef = .pointer (some ⟨g2, 0, none⟩) := by simpa using hq
  simp [results, h, hp', hq', asAddr, run_loadVar_row w g 32 32 _ (0, 0) _ hk Tryd.underlying32 rfl (by simp [size32, u8s_length, hl]), run_loadVar_row w g2 32 32 _ (0, 0) _ hk2 Tryd.underlying32 rfl (by simp [size32, u8s_length, hl2])]
/-- The k first bytes are taken with n. -/
def half (n : UInt8) (l : List UInt8) (k : Nat) : List UInt8 := xr n (l.take k) ++ l.drop k
theorem half_length (n : UInt8) (l : List UInt8) (k : Nat) : (half n l k).length = l.length := by simp [half, xr]; omega
theorem half_zero (n : UInt8) (l : List UInt8) : half n l 0 = l := by simp [half, xr]
theorem half_all (n : UInt8) (l : List UInt8) (k : Nat) (h : l.length = k) : half n l k = xr n l := by subst h; simp [half]
theorem half_get (n : UInt8) (l : List UInt8) (k : Nat) (h : k < l.length) : (u8s (half n l k))[k]? = some (.int .u8 (l[k].toNat : Int)) := by
  have hk : (xr n (l.take k)).length = k := by rw [xr_length, List.length_take]; omega
  unfold u8s half
  rw [List.getElem?_map, List.getElem?_append_right (by omega), hk, Nat.sub_self, List.getElem?_drop, Nat.add_zero, List.getElem?_eq_getElem h]
  rfl
theorem half_step (n : UInt8) (l : List UInt8) (k : Nat) (h : k < l.length) : (u8s (half n l k)).set k (.int .u8 ((l[k] ^^^ n).toNat : Int)) = u8s (half n l (k + 1)) := by
  have hk : (xr n (l.take k)).length = k := by rw [xr_length, List.length_take]; omega
  rw [u8s_set]
  congr 1
  unfold half
  rw [List.set_append_right _ _ (by omega), hk, Nat.sub_self, List.drop_eq_getElem_cons h, List.set_cons_zero, xr_snoc n l k h, List.append_assoc]
  rfl
/-- While the bytes of both forms are taken. -/
def FormAt (B : World) (g g2 : Nat) (l : List UInt8) (i : Value) (wr : World) : Prop :=
  ∃ k : Nat, k ≤ 64 ∧ i = .int .i64 (k : Int) ∧ Blk wr g 32 (u8s (half 54 l k)) ∧ Blk wr g2 32 (u8s (half 92 l k)) ∧ B.grownBy wr none
set_option maxRecDepth 100000 in
set_option maxHeartbeats 1600000 in
theorem forms_short {w : World} {c n : Nat} {ok : Nat → Prop} {A : Option Addr} {key : List UInt8} (hk : Byt w ok A key) (hok : ∀ b, ok b → b < w.heap.size) (hn : key.length = n) (hn2 : n ≤ 64) :
    Calls Tryd.prog 15 #[.slice A n c] w fun e w' => e = .returned (.tuple #[.agg (u8s (xr 54 (kpad key))).toArray, .agg (u8s (xr 92 (kpad key))).toArray]) ∧ w.grownBy w' none := by
  have hkp : kpad key = key ++ zs (64 - n) := by unfold kpad; rw [if_neg (by omega), hn]
  have HK := Lib.hid hk
  have HN := Lib.hid hn
  have HKP := Lib.hid hkp
  clear hk hn hkp
  go_enter Tryd.func15, Tryd.ntmps15
  go_wp2_with (refine wpList_alloc32 rfl rfl ?_)
  intro w1 hb1 hg1 hz1
  go_wp2_with (refine wpList_alloc32 rfl rfl ?_)
  intro w2 hb2 hg2 hz2
  obtain ⟨g, hgg⟩ : ∃ g, g = w.heap.size := ⟨_, rfl⟩
  obtain ⟨g2, hgg2⟩ : ∃ g2, g2 = w.heap.size + 1 := ⟨_, rfl⟩

  rw [← hgg2] at hb2 ⊢
  rw [← hgg] at hb1 ⊢
  have hg12 := World.grownBy.trans hg1 hg2
  have hb12 := hb1.grown hg2 (by simp)
  have hk2 := HK.out.grown hg12 (fun b hb => ⟨hok b hb, by simp⟩)
  have hne : g ≠ g2 := by omega
  have hne2 : g2 ≠ g := by omega
  have hgw : w.heap.size ≤ g := by omega
  have hgw2 : w.heap.size ≤ g2 := by omega
  have HB1 := Lib.hid hb12
  have HB2 := Lib.hid hb2
  have HG2 := Lib.hid hg12
  have HK2 := Lib.hid hk2
  have HW := Lib.hid hgw
  have HW2 := Lib.hid hgw2
  clear hb1 hb2 hg1 hg2 hg12 hb12 hk2 hgg hgg2 hz1 hz2 hgw hgw2
  go_wp2_with (refine wpList_copy_blk rfl _ _ rfl g 0 64 64 n c A key (zs 64) rfl rfl HN.out (zs_length 64) 32 [] [] (HB1.out.to (by simp)) rfl ok HK2.out n (by rw [HN.out, zs_length]; exact Nat.min_eq_left (by omega)) ?_)
  intro w3 hb3 hg3 hz3
  have hkey : Blk w3 g 32 (u8s (kpad key)) := hb3.to (by rw [HKP.out, lay_le _ _ (by rw [zs_length, HN.out]; exact hn2), zs_drop, HN.out])
  have hrg : w3.rangeAt g 0 (u8s (kpad key)) := Blk.range (pre := []) (post := []) (hkey.to (by rw [List.append_nil]; rfl)) rfl
  have hb23 := HB2.out.grown hg3 (fun e => hne2 (Option.some.inj e))
  have hg13 : w.grownBy w3 none := World.grownBy.andThen HG2.out hg3 (by rintro _ ⟨⟩; exact .inl HW.out)
  have HKEY := Lib.hid hkey
  have HRG := Lib.hid hrg
  have HB23 := Lib.hid hb23
  have HG13 := Lib.hid hg13
  obtain ⟨l, hl⟩ : ∃ l, l = kpad key := ⟨_, rfl⟩
  have hll : l.length = 64 := by rw [hl, kpad_length]
  have HL := Lib.hid hl
  have HLL := Lib.hid hll
  clear hb3 hg3 hz3 hkey hb23 hg13 HB1 HB2 HG2 HK2 hrg hl hll
  go_wp2_with (first | (refine wpList_load_mid rfl 32 _ rfl g 0 rfl (u8s (kpad key)) _ HRG.out Tryd.underlying32 rfl (by rw [size32, u8s_length, kpad_length]) ?_) | (refine wpList_store_row rfl 32 _ _ rfl g2 (u8s (kpad key)).toArray rfl rfl 32 _ HB23.out (by rw [size32, List.size_toArray, u8s_length, kpad_length]) (by simp [u8s_length, kpad_length, zs_length]) (all_oneCell_toArray (u8s_one _)) ?_))
  obtain ⟨w4, hw4⟩ : ∃ w4, w4 = w3.setRow g2 (u8s (kpad key)).toArray := ⟨_, rfl⟩
  rw [← hw4]
  have hg4 : w3.grownBy w4 (some g2) := by rw [hw4]; exact grown_setRow _ _ _
  have hb4 : Blk w4 g2 32 (u8s (half 92 l 0)) := by rw [hw4, half_zero, HL.out]; exact Blk.setRow HB23.out
  have hb14 : Blk w4 g 32 (u8s (half 54 l 0)) := by rw [half_zero, HL.out]; exact HKEY.out.grown hg4 (fun e => hne (Option.some.inj e))
  have hg14 : w.grownBy w4 none := World.grownBy.andThen HG13.out hg4 (by rintro _ ⟨⟩; exact .inl HW2.out)
  clear hw4 hg4 HKEY HRG HB23 HG13
  go_loopw [16] (fun i wr => FormAt w g g2 l i wr) (fun i _ => 64 - (intOf i).toNat)
  case atStart => exact ⟨0, by omega, rfl, hb14, hb4, hg14⟩
  case round =>
    clear hb14 hb4 hg14
    obtain ⟨k, hk, rfl, hb, hb2, hgr⟩ := hrel
    by_cases hlt : k < 64
    · have hkl : k < l.length := by have := HLL.out; omega
      have hc := hb.get k _ (half_get 54 l k hkl)
      have hf := hb.frozen k
      have hc2 := hb2.get k _ (half_get 92 l k hkl)
      have hf2 := hb2.frozen k
      have hs1 := half_step 54 l k hkl
      have hs2 := half_step 92 l k hkl
      obtain ⟨x, hx⟩ : ∃ x, x = l[k] := ⟨_, rfl⟩
      rw [← hx] at hc hc2 hs1 hs2
      have z1 : bits .xor .u8 (x.toNat : Int) 54 = ((x ^^^ 54).toNat : Int) := u8_xor' x 54
      have z2 : bits .xor .u8 (x.toNat : Int) 92 = ((x ^^^ 92).toNat : Int) := u8_xor' x 92
      have hc3 : ∀ v, (wr.setCell ⟨g, k, none⟩ v).cell? ⟨g2, k, none⟩ = some (.int .u8 (x.toNat : Int)) := fun v => (grown_set wr g k v).cell hc2 (fun e => hne2 (Option.some.inj e))
      have hf3 : ∀ v, (wr.setCell ⟨g, k, none⟩ v).frozen? ⟨g2, k, none⟩ = false := fun v => (hb2.grown (grown_set wr g k v) (fun e => hne2 (Option.some.inj e))).frozen k
      have HB := Lib.hid hb
      have HB2 := Lib.hid hb2
      have HS1 := Lib.hid hs1
      have HS2 := Lib.hid hs2
      clear hb hb2 hs1 hs2 hx hkl
      go_wp2
      go_roundw
      case rel =>
        refine ⟨k + 1, by omega, by go_num, ?_, ?_, ?_⟩
        · have h1 := HB.out.set k (.int .u8 ((x ^^^ 54).toNat : Int))
          rw [HS1.out] at h1
          exact h1.grown (grown_set _ g2 k _) (fun e => hne (Option.some.inj e))
        · have h1 := (HB2.out.grown (grown_set wr g k (.int .u8 ((x ^^^ 54).toNat : Int))) (fun e => hne2 (Option.some.inj e))).set k (.int .u8 ((x ^^^ 92).toNat : Int))
          rw [HS2.out] at h1
          exact h1
        · exact World.grownBy.andThen (World.grownBy.andThen hgr (grown_set _ g k _) (by rintro _ ⟨⟩; exact .inl HW.out)) (grown_set _ g2 k _) (by rintro _ ⟨⟩; exact .inl HW2.out)
      case measure => simp [intOf]; omega
    · have ek : k = 64 := by omega
      rw [half_all _ _ _ (by rw [HLL.out, ek])] at hb hb2
      obtain ⟨cs1, hcs1⟩ : ∃ cs, cs = u8s (xr 54 l) := ⟨_, rfl⟩
      obtain ⟨cs2, hcs2⟩ : ∃ cs, cs = u8s (xr 92 l) := ⟨_, rfl⟩
      have hl1 : cs1.length = 64 := by rw [hcs1, u8s_length, xr_length, HLL.out]
      have hl2 : cs2.length = 64 := by rw [hcs2, u8s_length, xr_length, HLL.out]
      have ho1 : ∀ v ∈ cs1, v.oneCell' = true := by rw [hcs1]; exact u8s_one _
      have ho2 : ∀ v ∈ cs2, v.oneCell' = true := by rw [hcs2]; exact u8s_one _
      have hu := Tryd.underlying32
      have hi1 : (Tryd.prog.info? 32).map (·.size) = some cs1.length := by rw [hl1]; exact size32
      have hi2 : (Tryd.prog.info? 32).map (·.size) = some cs2.length := by rw [hl2]; exact size32
      rw [← hcs1] at hb
      rw [← hcs2] at hb2
      have hr1 : wr.rangeAt g 0 cs1 := Blk.range (pre := []) (post := []) (hb.to (by rw [List.append_nil]; rfl)) rfl
      have hr2 : wr.rangeAt g2 0 cs2 := Blk.range (pre := []) (post := []) (hb2.to (by rw [List.append_nil]; rfl)) rfl
      have ht1 : wr.there g 0 64 := fun j hj => ⟨by rw [Nat.zero_add, hb.cell j (by omega)]; rfl, by rw [Nat.zero_add]; exact hb.frozen j⟩
      have ht2 : wr.there g2 0 64 := fun j hj => ⟨by rw [Nat.zero_add, hb2.cell j (by omega)]; rfl, by rw [Nat.zero_add]; exact hb2.frozen j⟩
      have HB := Lib.hid hb
      have HB2 := Lib.hid hb2
      have HC1 := Lib.hid hcs1
      have HC2 := Lib.hid hcs2
      clear hb hb2 hcs1 hcs2
      go_wp2_with (fail)

      refine wp_region_held_drew (S := fun w' => Blk w' g 32 cs1 ∧ Blk w' g2 32 cs2) (by kernel_rfl) ⟨HB.out.keep rfl, HB2.out.keep rfl⟩ (fun hHeld => ?_)
      refine' wpAnyH_take (i := 0) (oi := { dst := some 30, op := .load 32 (.tmp 2), type := 32, pos := "mac.go:63", after := #[], guard := none }) (v := _) rfl (by kernel_rfl) (by kernel_rfl) (by kernel_rfl) (fun _ _ _ h => h) (yieldsIf_load_mid (by rfl) _ _ rfl _ _ rfl cs1 _ ?s1 ?u1 ?d1 ?i1) (by assumption) ?rest1
      case s1 => exact fun w' hs => Blk.range (pre := []) (post := []) (hs.1.to (by rw [List.append_nil]; rfl)) rfl
      case u1 => exact Tryd.underlying32
      case d1 => rfl
      case i1 => exact hi1
      try simp only [Act.put, List.setIfInBounds_toArray, List.set_cons_zero, List.set_cons_succ]
      refine' wpAnyH_take (i := 1) (oi := { dst := some 31, op := .load 32 (.tmp 3), type := 32, pos := "mac.go:63", after := #[{ on := 2, ground := .gcOnly .lateStores }], guard := none }) (v := _) rfl (by kernel_rfl) (by kernel_rfl) (by kernel_rfl) (fun _ _ _ h => h) (yieldsIf_load_mid (by rfl) _ _ rfl _ _ rfl cs2 _ ?s2 ?u2 ?d2 ?i2) (by assumption) ?rest2
      case s2 => exact fun w' hs => Blk.range (pre := []) (post := []) (hs.2.to (by rw [List.append_nil]; rfl)) rfl
      case u2 => exact Tryd.underlying32
      case d2 => rfl
      case i2 => exact hi2
      try simp only [Act.put, List.setIfInBounds_toArray, List.set_cons_zero, List.set_cons_succ]
      refine wpAnyH_ready (rs := [2]) (by kernel_rfl) (by simp) ?_
      refine AllReadyH.cons (o := { dst := none, op := .store 32 (.tmp 2) (.tmp 30), type := 0, pos := "mac.go:63", after := #[{ on := 0, ground := .data }, { on := 0, ground := .phase }, { on := 1, ground := .textOnly .lateStores }], guard := none }) rfl (fun K hK => ?_) AllReadyH.nil
      rw [if_pos (by rfl)]
      refine wp_store_row 32 _ _ rfl g cs1.toArray rfl rfl 32 _ hHeld.1 (by rw [List.size_toArray]; exact hi1) rfl (all_oneCell_toArray ho1) ?_
      refine hK.out _ _ ⟨Blk.setRow hHeld.1, hHeld.2.grown (grown_setRow _ _ _) (fun e => hne2 (Option.some.inj e))⟩ (fun hHeld2 => ?_)
      clear hK K
      simp only [Act.put]
      refine wpAnyH_ready (rs := [3]) (by kernel_rfl) (by simp) ?_
      refine AllReadyH.cons (o := { dst := none, op := .store 32 (.tmp 3) (.tmp 31), type := 0, pos := "mac.go:63", after := #[{ on := 1, ground := .data }, { on := 2, ground := .chain }, { on := 0, ground := .phase }, { on := 1, ground := .phase }, { on := 2, ground := .phase }], guard := none }) rfl (fun K hK => ?_) AllReadyH.nil
      rw [if_pos (by rfl)]
      refine wp_store_row 32 _ _ rfl g2 cs2.toArray rfl rfl 32 _ hHeld2.2 (by rw [List.size_toArray]; exact hi2) rfl (all_oneCell_toArray ho2) ?_
      refine hK.out _ _ ⟨hHeld2.1.grown (grown_setRow _ _ _) (fun e => hne (Option.some.inj e)), Blk.setRow hHeld2.2⟩ (fun hHeld3 => ?_)
      clear hK K
      simp only [Act.put]
      refine wpAnyH_done (by kernel_rfl) ?_ _
      have hg6 : w.grownBy ((wr.drew.setRow g cs1.toArray).setRow g2 cs2.toArray) none :=
        World.grownBy.andThen (World.grownBy.andThen (grown_drew (n := 0) hgr rfl) (grown_setRow _ _ _) (by rintro _ ⟨⟩; exact .inl HW.out)) (grown_setRow _ _ _) (by rintro _ ⟨⟩; exact .inl HW2.out)
      rw [HC1.out, HC2.out] at hHeld3
      rw [HC1.out, HC2.out] at hg6 ⊢
      go_wp2
      exact bodyPost_ret (results_two rfl _ _ g g2 (xr 54 l) (xr 92 l) rfl rfl hHeld3.1 hHeld3.2 (by rw [xr_length, HLL.out]) (by rw [xr_length, HLL.out])) rfl ⟨by rw [HL.out], hg6⟩
set_option maxRecDepth 100000 in
set_option maxHeartbeats 1600000 in
theorem forms_long {w : World} {c n : Nat} {ok : Nat → Prop} {A : Option Addr} {key : List UInt8} (hk : Byt w ok A key) (hok : ∀ b, ok b → b < w.heap.size) (hn : key.length = n) (hn2 : 64 < n) (hc : n ≤ c) (hcm : c ≤ maxLen) (hm : n < 2305843009213693952) (hT : Tab w) :
    Calls Tryd.prog 15 #[.slice A n c] w fun e w' => e = .returned (.tuple #[.agg (u8s (xr 54 (kpad key))).toArray, .agg (u8s (xr 92 (kpad key))).toArray]) ∧ w.grownBy w' none := by
  have hkp : kpad key = sha256 key ++ zs 32 := by unfold kpad; rw [if_pos (by omega), sha256_length]
  have HK := Lib.hid hk
  have HN := Lib.hid hn
  have HKP := Lib.hid hkp
  clear hk hn hkp
  go_enter Tryd.func15, Tryd.ntmps15
  go_wp2_with (refine wpList_alloc32 rfl rfl ?_)
  intro w1 hb1 hg1 hz1
  go_wp2_with (refine wpList_alloc32 rfl rfl ?_)
  intro w2 hb2 hg2 hz2
  obtain ⟨g, hgg⟩ : ∃ g, g = w.heap.size := ⟨_, rfl⟩
  obtain ⟨g2, hgg2⟩ : ∃ g2, g2 = w.heap.size + 1 := ⟨_, rfl⟩

  rw [← hgg2] at hb2 ⊢
  rw [← hgg] at hb1 ⊢
  have hg12 := World.grownBy.trans hg1 hg2
  have hb12 := hb1.grown hg2 (by simp)
  have hk2 := HK.out.grown hg12 (fun b hb => ⟨hok b hb, by simp⟩)
  have hne : g ≠ g2 := by omega
  have hne2 : g2 ≠ g := by omega
  have hgw : w.heap.size ≤ g := by omega
  have hgw2 : w.heap.size ≤ g2 := by omega
  have HB1 := Lib.hid hb12
  have HB2 := Lib.hid hb2
  have HG2 := Lib.hid hg12
  have HK2 := Lib.hid hk2
  have HW := Lib.hid hgw
  have HW2 := Lib.hid hgw2
  have ho2 : ∀ b, ok b → b < w2.heap.size := fun b hb => by have := hok b hb; omega
  have hT2 := hT.grown hg12 (by simp) (by simp)
  have HO2 := Lib.hid ho2
  have HT2 := Lib.hid hT2
  clear hb1 hb2 hg1 hg2 hg12 hb12 hk2 hgg hgg2 hgw hgw2 ho2 hT2 hz1 hz2
  go_upto_region 4 with (first
    | (go_at_call 14; refine (sum256_any HK2.out HO2.out HN.out hc hcm hm HT2.out.1 HT2.out.2).mono ?_; rintro _ y4 ⟨rfl, hg4⟩)
    | (refine wpList_alloc24 rfl rfl ?_; intro y5 hb5 hg5 hz5)
    | (refine wpList_store_row rfl 24 _ _ rfl y4.heap.size (u8s (sha256 key)).toArray rfl rfl 24 _ hb5 (by rw [size24, List.size_toArray, u8s_length, sha256_length]) (by simp [u8s_length, sha256_length, zs_length]) (all_oneCell_toArray (u8s_one _)) ?_))
  obtain ⟨y6, hy6⟩ : ∃ y6, y6 = y5.setRow y4.heap.size (u8s (sha256 key)).toArray := ⟨_, rfl⟩
  rw [← hy6]
  obtain ⟨gz, hgz⟩ : ∃ gz, gz = y4.heap.size := ⟨_, rfl⟩
  rw [← hgz] at hb5 hy6 hz5 ⊢
  have hg6 : y5.grownBy y6 (some gz) := by rw [hy6]; exact grown_setRow _ _ _
  have hb6 : Blk y6 gz 24 (u8s (sha256 key)) := by rw [hy6]; exact Blk.setRow hb5
  have hz4 := hg4.size
  have hg26 : w2.grownBy y6 none := World.grownBy.andThen (World.grownBy.trans hg4 hg5) hg6 (by rintro _ ⟨⟩; exact .inl (by omega))
  have hx6 : Byt y6 (fun b => b = gz) (some ⟨gz, 0, none⟩) (sha256 key) := (hb6.to (by rw [List.append_nil]; rfl)).byt (pre := []) (post := []) rfl
  have hl1 := HB1.out.lt
  have hl2 := HB2.out.lt
  have hb16 := HB1.out.grown hg26 (by simp)
  have hb26 := HB2.out.grown hg26 (by simp)
  have hG6 := World.grownBy.trans HG2.out hg26
  have hgz1 : gz ≠ g := by omega
  have hgz2 : gz ≠ g2 := by omega
  have HX6 := Lib.hid hx6
  have HB16 := Lib.hid hb16
  have HB26 := Lib.hid hb26
  have HG6 := Lib.hid hG6
  clear hb5 hy6 hz5 hg6 hb6 hg26 hg4 hg5 hgz hx6 hb16 hb26 hG6 hz4 HB1 HB2 HG2 HK2 HO2 HT2 hl1 hl2
  go_wp2_with (refine wpList_copy_blk rfl _ _ rfl g 0 64 64 32 32 (some ⟨gz, 0, none⟩) (sha256 key) (zs 64) rfl rfl (sha256_length key) (zs_length 64) 32 [] [] (HB16.out.to (by simp)) rfl (fun b => b = gz) HX6.out 32 (by rw [sha256_length, zs_length]; rfl) ?_)
  intro w3 hb3 hg3 hz3
  have hkey : Blk w3 g 32 (u8s (kpad key)) := hb3.to (by rw [HKP.out, lay_le _ _ (by rw [zs_length, sha256_length]; decide), zs_drop, sha256_length])
  have hrg : w3.rangeAt g 0 (u8s (kpad key)) := Blk.range (pre := []) (post := []) (hkey.to (by rw [List.append_nil]; rfl)) rfl
  have hb23 := HB26.out.grown hg3 (fun e => hne2 (Option.some.inj e))
  have hg13 : w.grownBy w3 none := World.grownBy.andThen HG6.out hg3 (by rintro _ ⟨⟩; exact .inl HW.out)
  have HKEY := Lib.hid hkey
  have HRG := Lib.hid hrg
  have HB23 := Lib.hid hb23
  have HG13 := Lib.hid hg13
  obtain ⟨l, hl⟩ : ∃ l, l = kpad key := ⟨_, rfl⟩
  have hll : l.length = 64 := by rw [hl, kpad_length]
  have HL := Lib.hid hl
  have HLL := Lib.hid hll
  clear hb3 hg3 hz3 hkey hb23 hg13 HB16 HB26 HG6 HX6 hrg hl hll
  go_wp2_with (first | (refine wpList_load_mid rfl 32 _ rfl g 0 rfl (u8s (kpad key)) _ HRG.out Tryd.underlying32 rfl (by rw [size32, u8s_length, kpad_length]) ?_) | (refine wpList_store_row rfl 32 _ _ rfl g2 (u8s (kpad key)).toArray rfl rfl 32 _ HB23.out (by rw [size32, List.size_toArray, u8s_length, kpad_length]) (by simp [u8s_length, kpad_length, zs_length]) (all_oneCell_toArray (u8s_one _)) ?_))
  obtain ⟨w4, hw4⟩ : ∃ w4, w4 = w3.setRow g2 (u8s (kpad key)).toArray := ⟨_, rfl⟩
  rw [← hw4]
  have hg4 : w3.grownBy w4 (some g2) := by rw [hw4]; exact grown_setRow _ _ _
  have hb4 : Blk w4 g2 32 (u8s (half 92 l 0)) := by rw [hw4, half_zero, HL.out]; exact Blk.setRow HB23.out
  have hb14 : Blk w4 g 32 (u8s (half 54 l 0)) := by rw [half_zero, HL.out]; exact HKEY.out.grown hg4 (fun e => hne (Option.some.inj e))
  have hg14 : w.grownBy w4 none := World.grownBy.andThen HG13.out hg4 (by rintro _ ⟨⟩; exact .inl HW2.out)
  clear hw4 hg4 HKEY HRG HB23 HG13
  go_loopw [16] (fun i wr => FormAt w g g2 l i wr) (fun i _ => 64 - (intOf i).toNat)
  case atStart => exact ⟨0, by omega, rfl, hb14, hb4, hg14⟩
  case round =>
    clear hb14 hb4 hg14
    obtain ⟨k, hk, rfl, hb, hb2, hgr⟩ := hrel
    by_cases hlt : k < 64
    · have hkl : k < l.length := by have := HLL.out; omega
      have hc := hb.get k _ (half_get 54 l k hkl)
      have hf := hb.frozen k
      have hc2 := hb2.get k _ (half_get 92 l k hkl)
      have hf2 := hb2.frozen k
      have hs1 := half_step 54 l k hkl
      have hs2 := half_step 92 l k hkl
      obtain ⟨x, hx⟩ : ∃ x, x = l[k] := ⟨_, rfl⟩
      rw [← hx] at hc hc2 hs1 hs2
      have z1 : bits .xor .u8 (x.toNat : Int) 54 = ((x ^^^ 54).toNat : Int) := u8_xor' x 54
      have z2 : bits .xor .u8 (x.toNat : Int) 92 = ((x ^^^ 92).toNat : Int) := u8_xor' x 92
      have hc3 : ∀ v, (wr.setCell ⟨g, k, none⟩ v).cell? ⟨g2, k, none⟩ = some (.int .u8 (x.toNat : Int)) := fun v => (grown_set wr g k v).cell hc2 (fun e => hne2 (Option.some.inj e))
      have hf3 : ∀ v, (wr.setCell ⟨g, k, none⟩ v).frozen? ⟨g2, k, none⟩ = false := fun v => (hb2.grown (grown_set wr g k v) (fun e => hne2 (Option.some.inj e))).frozen k
      have HB := Lib.hid hb
      have HB2 := Lib.hid hb2
      have HS1 := Lib.hid hs1
      have HS2 := Lib.hid hs2
      clear hb hb2 hs1 hs2 hx hkl
      go_wp2
      go_roundw
      case rel =>
        refine ⟨k + 1, by omega, by go_num, ?_, ?_, ?_⟩
        · have h1 := HB.out.set k (.int .u8 ((x ^^^ 54).toNat : Int))
          rw [HS1.out] at h1
          exact h1.grown (grown_set _ g2 k _) (fun e => hne (Option.some.inj e))
        · have h1 := (HB2.out.grown (grown_set wr g k (.int .u8 ((x ^^^ 54).toNat : Int))) (fun e => hne2 (Option.some.inj e))).set k (.int .u8 ((x ^^^ 92).toNat : Int))
          rw [HS2.out] at h1
          exact h1
        · exact World.grownBy.andThen (World.grownBy.andThen hgr (grown_set _ g k _) (by rintro _ ⟨⟩; exact .inl HW.out)) (grown_set _ g2 k _) (by rintro _ ⟨⟩; exact .inl HW2.out)
      case measure => simp [intOf]; omega
    · have ek : k = 64 := by omega
      rw [half_all _ _ _ (by rw [HLL.out, ek])] at hb hb2
      obtain ⟨cs1, hcs1⟩ : ∃ cs, cs = u8s (xr 54 l) := ⟨_, rfl⟩
      obtain ⟨cs2, hcs2⟩ : ∃ cs, cs = u8s (xr 92 l) := ⟨_, rfl⟩
      have hl1 : cs1.length = 64 := by rw [hcs1, u8s_length, xr_length, HLL.out]
      have hl2 : cs2.length = 64 := by rw [hcs2, u8s_length, xr_length, HLL.out]
      have ho1 : ∀ v ∈ cs1, v.oneCell' = true := by rw [hcs1]; exact u8s_one _
      have ho2 : ∀ v ∈ cs2, v.oneCell' = true := by rw [hcs2]; exact u8s_one _
      have hu := Tryd.underlying32
      have hi1 : (Tryd.prog.info? 32).map (·.size) = some cs1.length := by rw [hl1]; exact size32
      have hi2 : (Tryd.prog.info? 32).map (·.size) = some cs2.length := by rw [hl2]; exact size32
      rw [← hcs1] at hb
      rw [← hcs2] at hb2
      have hr1 : wr.rangeAt g 0 cs1 := Blk.range (pre := []) (post := []) (hb.to (by rw [List.append_nil]; rfl)) rfl
      have hr2 : wr.rangeAt g2 0 cs2 := Blk.range (pre := []) (post := []) (hb2.to (by rw [List.append_nil]; rfl)) rfl
      have ht1 : wr.there g 0 64 := fun j hj => ⟨by rw [Nat.zero_add, hb.cell j (by omega)]; rfl, by rw [Nat.zero_add]; exact hb.frozen j⟩
      have ht2 : wr.there g2 0 64 := fun j hj => ⟨by rw [Nat.zero_add, hb2.cell j (by omega)]; rfl, by rw [Nat.zero_add]; exact hb2.frozen j⟩
      have HB := Lib.hid hb
      have HB2 := Lib.hid hb2
      have HC1 := Lib.hid hcs1
      have HC2 := Lib.hid hcs2
      clear hb hb2 hcs1 hcs2
      go_wp2_with (fail)

      refine wp_region_held_drew (S := fun w' => Blk w' g 32 cs1 ∧ Blk w' g2 32 cs2) (by kernel_rfl) ⟨HB.out.keep rfl, HB2.out.keep rfl⟩ (fun hHeld => ?_)
      refine' wpAnyH_take (i := 0) (oi := { dst := some 30, op := .load 32 (.tmp 2), type := 32, pos := "mac.go:63", after := #[], guard := none }) (v := _) rfl (by kernel_rfl) (by kernel_rfl) (by kernel_rfl) (fun _ _ _ h => h) (yieldsIf_load_mid (by rfl) _ _ rfl _ _ rfl cs1 _ ?s1 ?u1 ?d1 ?i1) (by assumption) ?rest1
      case s1 => exact fun w' hs => Blk.range (pre := []) (post := []) (hs.1.to (by rw [List.append_nil]; rfl)) rfl
      case u1 => exact Tryd.underlying32
      case d1 => rfl
      case i1 => exact hi1
      try simp only [Act.put, List.setIfInBounds_toArray, List.set_cons_zero, List.set_cons_succ]
      refine' wpAnyH_take (i := 1) (oi := { dst := some 31, op := .load 32 (.tmp 3), type := 32, pos := "mac.go:63", after := #[{ on := 2, ground := .gcOnly .lateStores }], guard := none }) (v := _) rfl (by kernel_rfl) (by kernel_rfl) (by kernel_rfl) (fun _ _ _ h => h) (yieldsIf_load_mid (by rfl) _ _ rfl _ _ rfl cs2 _ ?s2 ?u2 ?d2 ?i2) (by assumption) ?rest2
      case s2 => exact fun w' hs => Blk.range (pre := []) (post := []) (hs.2.to (by rw [List.append_nil]; rfl)) rfl
      case u2 => exact Tryd.underlying32
      case d2 => rfl
      case i2 => exact hi2
      try simp only [Act.put, List.setIfInBounds_toArray, List.set_cons_zero, List.set_cons_succ]
      refine wpAnyH_ready (rs := [2]) (by kernel_rfl) (by simp) ?_
      refine AllReadyH.cons (o := { dst := none, op := .store 32 (.tmp 2) (.tmp 30), type := 0, pos := "mac.go:63", after := #[{ on := 0, ground := .data }, { on := 0, ground := .phase }, { on := 1, ground := .textOnly .lateStores }], guard := none }) rfl (fun K hK => ?_) AllReadyH.nil
      rw [if_pos (by rfl)]
      refine wp_store_row 32 _ _ rfl g cs1.toArray rfl rfl 32 _ hHeld.1 (by rw [List.size_toArray]; exact hi1) rfl (all_oneCell_toArray ho1) ?_
      refine hK.out _ _ ⟨Blk.setRow hHeld.1, hHeld.2.grown (grown_setRow _ _ _) (fun e => hne2 (Option.some.inj e))⟩ (fun hHeld2 => ?_)
      clear hK K
      simp only [Act.put]
      refine wpAnyH_ready (rs := [3]) (by kernel_rfl) (by simp) ?_
      refine AllReadyH.cons (o := { dst := none, op := .store 32 (.tmp 3) (.tmp 31), type := 0, pos := "mac.go:63", after := #[{ on := 1, ground := .data }, { on := 2, ground := .chain }, { on := 0, ground := .phase }, { on := 1, ground := .phase }, { on := 2, ground := .phase }], guard := none }) rfl (fun K hK => ?_) AllReadyH.nil
      rw [if_pos (by rfl)]
      refine wp_store_row 32 _ _ rfl g2 cs2.toArray rfl rfl 32 _ hHeld2.2 (by rw [List.size_toArray]; exact hi2) rfl (all_oneCell_toArray ho2) ?_
      refine hK.out _ _ ⟨hHeld2.1.grown (grown_setRow _ _ _) (fun e => hne (Option.some.inj e)), Blk.setRow hHeld2.2⟩ (fun hHeld3 => ?_)
      clear hK K
      simp only [Act.put]
      refine wpAnyH_done (by kernel_rfl) ?_ _
      have hg6 : w.grownBy ((wr.drew.setRow g cs1.toArray).setRow g2 cs2.toArray) none :=
        World.grownBy.andThen (World.grownBy.andThen (grown_drew (n := 0) hgr rfl) (grown_setRow _ _ _) (by rintro _ ⟨⟩; exact .inl HW.out)) (grown_setRow _ _ _) (by rintro _ ⟨⟩; exact .inl HW2.out)
      rw [HC1.out, HC2.out] at hHeld3
      rw [HC1.out, HC2.out] at hg6 ⊢
      go_wp2
      exact bodyPost_ret (results_two rfl _ _ g g2 (xr 54 l) (xr 92 l) rfl rfl hHeld3.1 hHeld3.2 (by rw [xr_length, HLL.out]) (by rw [xr_length, HLL.out])) rfl ⟨by rw [HL.out], hg6⟩
theorem forms_any {w : World} {c n : Nat} {ok : Nat → Prop} {A : Option Addr} {key : List UInt8} (hk : Byt w ok A key) (hok : ∀ b, ok b → b < w.heap.size) (hn : key.length = n) (hc : n ≤ c) (hcm : c ≤ maxLen) (hm : n < 2305843009213693952) (hT : Tab w) :
    Calls Tryd.prog 15 #[.slice A n c] w fun e w' => e = .returned (.tuple #[.agg (u8s (xr 54 (kpad key))).toArray, .agg (u8s (xr 92 (kpad key))).toArray]) ∧ w.grownBy w' none := by
  by_cases h : n ≤ 64
  · exact forms_short hk hok hn h
  · exact forms_long hk hok hn (by omega) hc hcm hm hT
end Go.Proofs.YtgphopahlgfogaaDoor
