/- The code strikes what fills a text up. Conditions: the bytes lie alone in their block, no fewer than 16 of them. The code's Unlock. Conditions: no more than a million and 16 bytes. The six statements of layer 6. Conditions: none. -/
import Derived.Test.YtkbffponemihoaaGreatDoorCj
namespace Go.Proofs.YtkbffponemihoaaGreatDoor.C
open Go.RowKit
theorem blk_u8 {w : World} {g : Nat} {ty : TypeId} {xs : List UInt8} (h : Blk w g ty (u8s xs)) (i : Nat) (hi : i < xs.length) : w.cell? ⟨g, i, none⟩ = some (.int .u8 ((xs.getD i 0).toNat : Int)) := by
  refine h.get i _ ?_
  unfold u8s
  rw [List.getElem?_map, List.getElem?_eq_getElem hi, List.getD_eq_getElem?_getD, List.getElem?_eq_getElem hi]
  rfl
theorem drop_all {xs : List UInt8} {N v : Nat} {x : UInt8} (hl : xs.length = N) (hv : v ≤ N) (h : ∀ j, j < v → xs.getD (N - v + j) 0 = x) : xs.drop (N - v) = List.replicate v x := by
  apply List.ext_getElem
  · rw [List.length_drop, List.length_replicate]; omega
  · intro j h1 h2
    rw [List.length_replicate] at h2
    rw [List.getElem_drop, List.getElem_replicate]
    have h3 := h j h2
    rw [List.getD_eq_getElem?_getD, List.getElem?_eq_getElem (by omega)] at h3
    exact h3
theorem drop_not {xs : List UInt8} {N v : Nat} {x : UInt8} (j : Nat) (hj : j < v) (h : xs.getD (N - v + j) 0 ≠ x) : xs.drop (N - v) ≠ List.replicate v x := by
  intro e
  apply h
  have h2 : (xs.drop (N - v)).getD j 0 = x := by rw [e, List.getD_eq_getElem?_getD, List.getElem?_replicate, if_pos hj]; rfl
  rw [← h2, List.getD_eq_getElem?_getD, List.getD_eq_getElem?_getD, List.getElem?_drop]
theorem unfill_some {xs : List UInt8} {N v : Nat} {x : UInt8} (hl : xs.length = N) (hx : x = xs.getD (N - 1) 0) (hv : v = x.toNat) (h1 : 1 ≤ v) (h2 : v ≤ 16) (h3 : v ≤ N) (h : xs.drop (N - v) = List.replicate v x) : unfill xs = some (xs.take (N - v)) := by
  subst hl hv hx
  unfold unfill
  rw [if_pos ⟨h1, h2, h3, h⟩]
theorem unfill_none {xs : List UInt8} {N v : Nat} {x : UInt8} (hl : xs.length = N) (hx : x = xs.getD (N - 1) 0) (hv : v = x.toNat) (h : ¬ (1 ≤ v ∧ v ≤ 16 ∧ v ≤ N ∧ xs.drop (N - v) = List.replicate v x)) : unfill xs = none := by
  subst hl hv hx
  unfold unfill
  rw [if_neg h]
/-- What striking answers. -/
def Bare (g : Nat) (xs : List UInt8) (e : Ending) : Prop :=
  (∃ s, unfill xs = some s ∧ e = .returned (.tuple #[.slice (some ⟨g, 0, none⟩) s.length s.length, .bool true]) ∧ s.length ≤ xs.length ∧ s = xs.take s.length) ∨ (unfill xs = none ∧ e = .returned (.tuple #[.slice none 0 0, .bool false]))
set_option maxRecDepth 100000 in
set_option maxHeartbeats 1600000 in
theorem bare_any {w : World} {g : Nat} {xs : List UInt8} {N : Nat} (hb : Blk w g 5 (u8s xs)) (hl : xs.length = N) (h16 : 16 ≤ N) (hs : N ≤ 2000000) :
    Calls Tryz.prog 61 #[.slice (some ⟨g, 0, none⟩) N N] w fun e w' => w = w' ∧ Bare g xs e := by
  obtain ⟨x, hx⟩ : ∃ x, x = xs.getD (N - 1) 0 := ⟨_, rfl⟩
  obtain ⟨v, hv⟩ : ∃ v, v = x.toNat := ⟨_, rfl⟩
  obtain ⟨q, hq⟩ : ∃ q, q = N - 1 := ⟨_, rfl⟩
  have c0 := blk_u8 hb q (by omega)
  rw [hq, ← hx, ← hv, ← hq] at c0
  have d1 : IntKind.i64.wrap ((N : Int) - 1) = (q : Int) := by rw [IntKind.wrap_i64]; omega
  have d2 : (N : Int) - 1 = (q : Int) := by omega
  have d3 : (q : Int) < (N : Int) := by omega
  have hv255 : v ≤ 255 := by have := x.toNat_lt; omega
  have d4 := i64_keep v (by omega)
  have HB := Lib.hid hb
  have HL := Lib.hid hl
  have HX := Lib.hid hx
  have HV := Lib.hid hv
  clear hb hl hx hq hv
  by_cases h1 : v < 1
  · have hno : unfill xs = none := unfill_none HL.out HX.out HV.out (by omega)
    have e1 : (v : Int) < 1 := by omega
    go_enter Tryz.func61, Tryz.ntmps61
    go_wp2
    go_ret2
    exact ⟨rfl, .inr ⟨hno, rfl⟩⟩
  · by_cases h2 : 16 < v
    · have hno : unfill xs = none := unfill_none HL.out HX.out HV.out (by omega)
      have e1 : ¬ (v : Int) < 1 := by omega
      have e2 : (16 : Int) < (v : Int) := by omega
      go_enter Tryz.func61, Tryz.ntmps61
      go_wp2
      go_ret2
      exact ⟨rfl, .inr ⟨hno, rfl⟩⟩
    · have e1 : ¬ (v : Int) < 1 := by omega
      have e2 : ¬ (16 : Int) < (v : Int) := by omega
      obtain ⟨z, hz⟩ : ∃ z, z = N - v := ⟨_, rfl⟩
      have e3 : IntKind.i64.wrap ((N : Int) - (v : Int)) = (z : Int) := by rw [IntKind.wrap_i64]; omega
      have e4 : (N : Int) - (v : Int) = (z : Int) := by omega
      have e5 : (z : Int) ≤ (N : Int) := by omega
      have e6 : ¬ N = z := by omega
      have e7 : N - z = v := by omega
      have HZ := Lib.hid hz
      clear hz
      go_enter Tryz.func61, Tryz.ntmps61
      go_wp2_with (fail)
      clear d1 d2 d3 d4 e3 e4 c0
      go_loop [8, 31] (fun _ p => ∃ i : Nat, i ≤ v ∧ p = .int .i64 (i : Int) ∧ ∀ j, j < i → xs.getD (N - v + j) 0 = x) (fun _ p => v - (intOf p).toNat)
      case atStart => exact ⟨0, Nat.zero_le _, rfl, fun j hj => absurd hj (Nat.not_lt_zero _)⟩
      case round =>
        obtain ⟨i, hi, rfl, hall⟩ := hrel
        by_cases hlt : i < v
        · obtain ⟨p, hp⟩ : ∃ p, p = z + i := ⟨_, rfl⟩
          have c1 := blk_u8 HB.out (z + i) (by have h3 := HL.out; have h4 := HZ.out; omega)
          have f1 : (i : Int) < (v : Int) := by omega
          obtain ⟨y, hy⟩ : ∃ y, y = xs.getD (z + i) 0 := ⟨_, rfl⟩
          rw [← hy] at c1
          have hyz : xs.getD (N - v + i) 0 = y := by rw [hy, HZ.out]
          have HALL := Lib.hid hall
          have HY := Lib.hid hyz
          clear hall hy hyz hp
          obtain ⟨t, ht⟩ : ∃ t, t = y.toNat := ⟨_, rfl⟩
          rw [← ht] at c1
          by_cases heq : t = v
          · have hyx : y = x := UInt8.toNat_inj.1 (by rw [← ht, heq, HV.out])
            have f2 : (t : Int) = (v : Int) := by omega
            have hnext : ∀ j, j < i + 1 → xs.getD (N - v + j) 0 = x := fun j hj => by
              by_cases hji : j < i
              · exact HALL.out j hji
              · have : j = i := by omega
                subst this
                rw [HY.out, hyx]
            have HNX := Lib.hid hnext
            clear hnext hyx ht
            go_wp2
            exact ⟨⟨i + 1, by omega, by go_num, HNX.out⟩, by simp [intOf]; omega⟩
          · have f2 : ¬ (t : Int) = (v : Int) := by omega
            have hne : xs.getD (N - v + i) 0 ≠ x := by rw [HY.out]; intro e; apply heq; rw [ht, e, HV.out]
            have hno : unfill xs = none := unfill_none HL.out HX.out HV.out (fun h => drop_not i hlt hne h.2.2.2)
            have HNO := Lib.hid hno
            clear hne hno ht
            go_wp2
            go_ret2
            exact ⟨rfl, .inr ⟨HNO.out, rfl⟩⟩
        · have ei : i = v := by omega
          subst ei
          have hyes := unfill_some HL.out HX.out HV.out (by omega) (by omega) (by omega) (drop_all HL.out (by omega) hall)
          have hzl : (xs.take (N - i)).length = z := by rw [List.length_take, HL.out, HZ.out]; omega
          have HY := Lib.hid hyes
          have HZL := Lib.hid hzl
          clear hall hyes hzl
          go_wp2
          go_ret2
          exact ⟨rfl, .inl ⟨xs.take (N - i), HY.out, by rw [HZL.out]; rfl, by rw [HZL.out, HL.out]; omega, by rw [HZL.out, HZ.out]⟩⟩
open Go.RowKit
theorem made_u8 (s : Nat) : (madeCells #[Value.int .u8 0] s).toList = u8s (zs s) := by
  rw [toList_madeCells_one]
  simp [u8s, zs]
/-- The text's block number j. -/
def ub (D : State → State) (v : State) (b : List UInt8) (j : Nat) : State := keyS (uv v (st b) j) (D (st b j))
/-- While blocks are unlocked. -/
def UnC (w : World) (gc ga gt : Nat) (ks : List UInt8) (D : State → State) (v : State) (b : List UInt8) (N m : Nat) (V : World) : Prop :=
  Cip V gc ks ∧ Blk V ga 48 (bytesOf (uv v (st b) m)) ∧ Blk V gt 5 (u8s (toB ((List.range m).map (ub D v b)) ++ zs (N - 16 * m))) ∧ w.grownBy V none
theorem byt_block {w : World} {ok : Nat → Prop} {ad : Addr} {b : List UInt8} (h : Byt w ok (some ad) b) (m o : Nat) (ho : o = 16 * m) (hl : 16 * m + 16 ≤ b.length) : ∀ j v, (bytesOf (st b m))[j]? = some v → w.cell? ((ad.add o).add j) = some v := by
  intro j v hv
  subst ho
  have hj : j < 16 := by
    have := (List.getElem?_eq_some_iff.1 hv).1
    rwa [bytesOf_length] at this
  rw [bytesOf_get _ j hj] at hv
  cases hv
  rw [plus_plus]
  exact byt_st h m j hj (by omega)
theorem lay_zs (X : State) (k m : Nat) (h : 16 * m + 16 ≤ k) : lay (bl X) (zs (k - 16 * m)) = bl X ++ zs (k - 16 * (m + 1)) := by
  unfold lay
  rw [List.take_of_length_le (by rw [bl_length, zs_length]; omega), bl_length, zs_drop, show k - 16 * m - 16 = k - 16 * (m + 1) by omega]
theorem wpList_load_st {ops : Array Oper} {rest : List Oper} {o : Oper} {a : Act} {w : World} {Q : Exit → Act → World → Prop} (hgd : o.guard = none) (x : Operand) (ho : o.op = .load 48 x) (ad : Addr) (hx : a.eval x = .pointer (some ad)) (s : State)
    (hc : ∀ j v, (bytesOf s)[j]? = some v → w.cell? (ad.add j) = some v) (h : wpList Tryz.prog ops Q rest (a.put o.dst (.agg (bytesOf s).toArray)) w) : wpList Tryz.prog ops Q (o :: rest) a w :=
  wpList_plain hgd fun K hK => by
    have hrun := run_load_at w ad s hc
    unfold Oper.wp execOp
    simp only [ho, hx, hrun, Sem.run_bind, Result.andThen_ok]
    exact hK _ _ h
theorem wpList_array {ops : Array Oper} {rest : List Oper} {o : Oper} {a : Act} {w : World} {Q : Exit → Act → World → Prop} (hgd : o.guard = none) (x : Operand) (ho : o.op = .sliceToArrayPointer 48 x) (B : Addr) (n c : Nat) (hx : a.eval x = .slice (some B) n c) (hn : 16 ≤ n)
    (h : wpList Tryz.prog ops Q rest (a.put o.dst (.pointer (some B))) w) : wpList Tryz.prog ops Q (o :: rest) a w :=
  wpList_plain hgd fun K hK => by
    have hrun := run_arrayAt (P := Tryz.prog) (w := w) 48 5 16 (some B) n c Tryz.underlying48 hn
    unfold Oper.wp execOp
    simp only [ho, hx, hrun, Sem.run_bind, Sem.run_pure, Result.andThen_ok]
    exact hK _ _ h
set_option maxRecDepth 100000 in
set_option maxHeartbeats 3200000 in
theorem unlock_some {w : World} {ok : Nat → Prop} {ad : Addr} {b : List UInt8} {n c : Nat} (hx : Byt w ok (some ad) b) (hok : ∀ g, ok g → g < w.heap.size) (hn : b.length = n) (hc : n ≤ c) (hsz : n ≤ 1000016) (h0 : 0 < n) (h16 : n % 16 = 0) (k : Fin 32 → UInt8) (v : State) :
    Calls Tryz.prog 41 #[.agg (u8s (k32 k)).toArray, .agg (bytesOf v).toArray, .slice (some ad) n c] w fun e w' => w.grownBy w' none ∧ ∃ g, Blk w' g 5 (u8s (toB (cbcU (aesUnlock (kn (k32 k))) v (ofB b)))) ∧ Bare g (toB (cbcU (aesUnlock (kn (k32 k))) v (ofB b))) e := by
  have d1 : (n : Int).tmod 16 = 0 := by rw [Int.tmod_eq_emod_of_nonneg (by omega)]; omega
  have d2 : (n : Int) % 16 = 0 := by omega
  have d3 : ¬ (n : Int) = 0 := by omega
  go_enter Tryz.func41, Tryz.ntmps41
  go_wp2_with (first
    | (refine wpList_box22 rfl _ k rfl rfl ?_
       intro w1 hb1 hg1 hz1'
       obtain ⟨gk, hgk⟩ : ∃ g, g = w.heap.size := ⟨_, rfl⟩
       rw [← hgk] at hb1 ⊢
       have HB1 := Lib.hid hb1
       have HG1 := Lib.hid hg1
       clear hb1 hg1 hz1' hgk)
    | (refine wpList_box23 rfl _ v rfl rfl ?_
       intro w2 hb2 hg2 hz2'
       obtain ⟨gv, hgv⟩ : ∃ g, g = w1.heap.size := ⟨_, rfl⟩
       rw [← hgv] at hb2 ⊢
       have HB2 := Lib.hid hb2
       have HK2 := Lib.hid (HB1.out.grown hg2 (by simp))
       have HG2 := Lib.hid (World.grownBy.trans HG1.out hg2)
       clear hb2 hg2 hz2' hgv)
    | fail)
  have d4 : ((n : Int) == 0) = false := by simp; omega
  rw [d4]
  clear d1 d2 d3 d4
  go_cut [8, 9] from 23 to 25 (fun s t wx => Two w2 (k32 k) v s t wx)
  case first =>
    refine wp_region_held_drew (S := fun w' => Blk w' gk 22 (u8s (k32 k)) ∧ Blk w' gv 48 (bytesOf v)) (by kernel_rfl) ⟨HK2.out.keep rfl, HB2.out.keep rfl⟩ (fun hHeld => ?_)
    refine' wpAnyH_take (i := 0) (oi := { dst := some 23, op := .load 22 (.tmp 3), type := 22, pos := "cbc.go:32", after := #[], guard := none }) (v := _) rfl (by kernel_rfl) (by kernel_rfl) (by kernel_rfl) (fun _ _ _ h => h) (yieldsIf_load_mid (by rfl) _ _ rfl _ _ rfl (u8s (k32 k)) _ ?s0 ?u0 ?d0 ?i0) (by assumption) ?rest0
    case s0 => exact fun w' hs => range_blk hs.1
    case u0 => exact Tryz.underlying22
    case d0 => rfl
    case i0 => exact (by rw [size22, u8s_length, k32_length])
    try simp only [Act.put, List.setIfInBounds_toArray, List.set_cons_zero, List.set_cons_succ]
    refine' wpAnyH_take (i := 2) (oi := { dst := some 25, op := .load 48 (.tmp 4), type := 48, pos := "cbc.go:32", after := #[{ on := 4, ground := .gcOnly .lateStores }], guard := none }) (v := _) rfl (by kernel_rfl) (by kernel_rfl) (by kernel_rfl) (fun _ _ _ h => h) (yieldsIf_load_mid (by rfl) _ _ rfl _ _ rfl (bytesOf v) _ ?s2 ?u2 ?d2 ?i2) (by assumption) ?rest2
    case s2 => exact fun w' hs => range_blk hs.2
    case u2 => exact Tryz.underlying48
    case d2 => rfl
    case i2 => exact (bytes_size' v)
    try simp only [Act.put, List.setIfInBounds_toArray, List.set_cons_zero, List.set_cons_succ]
    refine wpAnyH_ready (rs := [1, 3]) (by kernel_rfl) (by simp) ?_
    refine AllReadyH.cons (o := { dst := some 24, op := .call { callee := .value (.func 46), args := #[.tmp 23], argTypes := #[22] }, type := 79, pos := "cbc.go:32", after := #[{ on := 0, ground := .data }], guard := none }) rfl (fun K hK => ?_) (AllReadyH.cons (o := { dst := some 9, op := .alloc 48, type := 0, pos := "cbc.go:32", after := #[], guard := none }) rfl (fun K hK => ?_) AllReadyH.nil)
    · rw [if_pos (by rfl)]
      go_simp
      refine (cnew_at _ k).mono ?_
      rintro _ wn ⟨gc, rfl, hcn, hgn, hsn⟩
      refine hK.out _ _ ⟨hHeld.1.grown hgn (by simp), hHeld.2.grown hgn (by simp)⟩ (fun hHeld => ?_)
      clear hK K
      try simp only [Act.put, List.setIfInBounds_toArray, List.set_cons_zero, List.set_cons_succ]
      refine wpAnyH_ready (rs := [3]) (by kernel_rfl) (by simp) ?_
      refine AllReadyH.cons (o := { dst := some 9, op := .alloc 48, type := 0, pos := "cbc.go:32", after := #[], guard := none }) rfl (fun K hK => ?_) AllReadyH.nil
      rw [if_pos (by rfl)]
      refine wp_alloc23 rfl ?_
      intro wa hba hga hza
      obtain ⟨ga, hgae⟩ : ∃ g, g = wn.heap.size := ⟨_, rfl⟩
      rw [← hgae] at hba ⊢
      have hbl := hba
      have hcl : Cip wa gc (k32 k) := hcn.grown hga
      have hne : gc ≠ ga := by have h1 : gc < wn.heap.size := Blk.lt hcn; omega
      have hgl : w2.grownBy wa none := World.grownBy.trans (World.grownBy.trans (grown_drew (World.grownBy.refl _ _)) hgn) hga
      have hle : w2.heap.size ≤ ga := by have h1 := (World.grownBy.trans (grown_drew (World.grownBy.refl w2 _)) hgn).size; omega
      have hnk : gk ≠ ga := by have h1 := hHeld.1.lt; omega
      have hnv : gv ≠ ga := by have h1 := hHeld.2.lt; omega
      refine hK.out _ _ ⟨hHeld.1.grown hga (by simp), hHeld.2.grown hga (by simp)⟩ (fun hHeld => ?_)
      clear hK K
      try simp only [Act.put, List.setIfInBounds_toArray, List.set_cons_zero, List.set_cons_succ]
      clear hcn hgn hsn hba hga hza hgae
      refine wpAnyH_ready (rs := [4]) (by kernel_rfl) (by simp) ?_
      refine AllReadyH.cons (o := { dst := some 8, op := .assign (.tmp 24), type := 79, pos := "cbc.go:32", after := #[{ on := 1, ground := .data }, { on := 1, ground := .chain }, { on := 0, ground := .phase }, { on := 1, ground := .phase }, { on := 2, ground := .textOnly .lateStores }, { on := 3, ground := .phase }], guard := none }) rfl (fun K hK => ?_) AllReadyH.nil
      rw [if_pos (by rfl)]
      go_simp
      refine hK.out _ _ hHeld (fun hHeld => ?_)
      clear hK K
      try simp only [Act.put, List.setIfInBounds_toArray, List.set_cons_zero, List.set_cons_succ]
      refine wpAnyH_ready (rs := [5]) (by kernel_rfl) (by simp) ?_
      refine AllReadyH.cons (o := { dst := none, op := .store 48 (.tmp 9) (.tmp 25), type := 0, pos := "cbc.go:32", after := #[{ on := 3, ground := .data }, { on := 2, ground := .data }, { on := 4, ground := .chain }, { on := 0, ground := .phase }, { on := 1, ground := .phase }, { on := 2, ground := .phase }, { on := 3, ground := .phase }, { on := 4, ground := .phase }], guard := none }) rfl (fun K hK => ?_) AllReadyH.nil
      rw [if_pos (by rfl)]
      refine wp_store_row 48 _ _ rfl ga (bytesOf v).toArray rfl rfl 48 _ hbl (bytes_size _) (bytes_same _ _) (all_oneCell_toArray (bytesOf_one _)) ?_
      refine hK.out _ _ ⟨hHeld.1.grown (grown_setRow _ _ _) (fun e => hnk (Option.some.inj e)), hHeld.2.grown (grown_setRow _ _ _) (fun e => hnv (Option.some.inj e))⟩ (fun hHeld => ?_)
      clear hK K
      refine wpAnyH_done (by kernel_rfl) ?_ _
      dsimp only [Act.put]
      go_wp2_with (fail)
      go_meet
      case rel => exact ⟨gc, ga, rfl, rfl, Blk.grown hcl (grown_setRow _ _ _) (fun e => hne (Option.some.inj e)), Blk.setRow hbl, hne, hle, World.grownBy.andThen hgl (grown_setRow _ _ _) (by rintro _ ⟨⟩; exact .inl hle)⟩
    · rw [if_pos (by rfl)]
      refine wp_alloc23 rfl ?_
      intro wa hba hga hza
      have hba : Blk wa w2.heap.size 48 (bytesOf fun _ => 0) := hba
      have hnk : gk ≠ w2.heap.size := Nat.ne_of_lt hHeld.1.lt
      have hnv : gv ≠ w2.heap.size := Nat.ne_of_lt hHeld.2.lt
      refine hK.out _ _ ⟨hHeld.1.grown hga (by simp), hHeld.2.grown hga (by simp)⟩ (fun hHeld => ?_)
      clear hK K
      try simp only [Act.put, List.setIfInBounds_toArray, List.set_cons_zero, List.set_cons_succ]
      refine wpAnyH_ready (rs := [1]) (by kernel_rfl) (by simp) ?_
      refine AllReadyH.cons (o := { dst := some 24, op := .call { callee := .value (.func 46), args := #[.tmp 23], argTypes := #[22] }, type := 79, pos := "cbc.go:32", after := #[{ on := 0, ground := .data }], guard := none }) rfl (fun K hK => ?_) AllReadyH.nil
      rw [if_pos (by rfl)]
      go_simp
      refine (cnew_at _ k).mono ?_
      rintro _ wn ⟨gc, rfl, hcn, hgn, hsn⟩
      have hbl := hba.grown hgn (by simp)
      have hcl := hcn
      have hne : gc ≠ w2.heap.size := by have h1 := hba.lt; omega
      have hgl : w2.grownBy wn none := World.grownBy.trans (World.grownBy.trans (grown_drew (World.grownBy.refl _ _)) hga) hgn
      have hle : w2.heap.size ≤ w2.heap.size := Nat.le_refl _
      refine hK.out _ _ ⟨hHeld.1.grown hgn (by simp), hHeld.2.grown hgn (by simp)⟩ (fun hHeld => ?_)
      clear hK K
      try simp only [Act.put, List.setIfInBounds_toArray, List.set_cons_zero, List.set_cons_succ]
      clear hcn hgn hsn hba  hga hza
      refine wpAnyH_ready (rs := [4]) (by kernel_rfl) (by simp) ?_
      refine AllReadyH.cons (o := { dst := some 8, op := .assign (.tmp 24), type := 79, pos := "cbc.go:32", after := #[{ on := 1, ground := .data }, { on := 1, ground := .chain }, { on := 0, ground := .phase }, { on := 1, ground := .phase }, { on := 2, ground := .textOnly .lateStores }, { on := 3, ground := .phase }], guard := none }) rfl (fun K hK => ?_) AllReadyH.nil
      rw [if_pos (by rfl)]
      go_simp
      refine hK.out _ _ hHeld (fun hHeld => ?_)
      clear hK K
      try simp only [Act.put, List.setIfInBounds_toArray, List.set_cons_zero, List.set_cons_succ]
      refine wpAnyH_ready (rs := [5]) (by kernel_rfl) (by simp) ?_
      refine AllReadyH.cons (o := { dst := none, op := .store 48 (.tmp 9) (.tmp 25), type := 0, pos := "cbc.go:32", after := #[{ on := 3, ground := .data }, { on := 2, ground := .data }, { on := 4, ground := .chain }, { on := 0, ground := .phase }, { on := 1, ground := .phase }, { on := 2, ground := .phase }, { on := 3, ground := .phase }, { on := 4, ground := .phase }], guard := none }) rfl (fun K hK => ?_) AllReadyH.nil
      rw [if_pos (by rfl)]
      refine wp_store_row 48 _ _ rfl w2.heap.size (bytesOf v).toArray rfl rfl 48 _ hbl (bytes_size _) (bytes_same _ _) (all_oneCell_toArray (bytesOf_one _)) ?_
      refine hK.out _ _ ⟨hHeld.1.grown (grown_setRow _ _ _) (fun e => hnk (Option.some.inj e)), hHeld.2.grown (grown_setRow _ _ _) (fun e => hnv (Option.some.inj e))⟩ (fun hHeld => ?_)
      clear hK K
      refine wpAnyH_done (by kernel_rfl) ?_ _
      dsimp only [Act.put]
      go_wp2_with (fail)
      go_meet
      case rel => exact ⟨gc, w2.heap.size, rfl, rfl, Blk.grown hcl (grown_setRow _ _ _) (fun e => hne (Option.some.inj e)), Blk.setRow hbl, hne, hle, World.grownBy.andThen hgl (grown_setRow _ _ _) (by rintro _ ⟨⟩; exact .inl hle)⟩
  case rest =>
    obtain ⟨gc, ga, rfl, rfl, hC, hA, hca, hga, hgc⟩ := hcut
    have hx3 : Byt wc ok (some ad) b := hx.grown (World.grownBy.trans HG2.out hgc) (fun b hb => ⟨hok b hb, by simp⟩)
    obtain ⟨M, hM⟩ : ∃ M, M = n / 16 := ⟨_, rfl⟩
    have hN : n = 16 * M := by omega
    obtain ⟨D, hD⟩ : ∃ D, D = aesUnlock (kn (k32 k)) := ⟨_, rfl⟩
    have huk : cbcU (aesUnlock (kn (k32 k))) v (ofB b) = (List.range M).map (ub D v b) := by
      unfold ofB
      rw [hn, ← hM, cbcU_range, hD]
      rfl
    have hM6 : M ≤ 62501 := by omega
    obtain ⟨i0, hi, hz0, hz1, hz2⟩ := info_parts Tryz.info5
    have HX3 := Lib.hid hx3
    have HX := Lib.hid hx
    have HOK := Lib.hid hok
    have HN := Lib.hid hn
    have HC3 := Lib.hid hC
    have HA3 := Lib.hid hA
    have HCA := Lib.hid hca
    have HGA : Hid (w.heap.size ≤ ga) := Lib.hid (Nat.le_trans HG2.out.size hga)
    have HG3 : Hid (w.grownBy wc none) := Lib.hid (World.grownBy.trans HG2.out hgc)
    have HNM := Lib.hid hN
    have HUK := Lib.hid huk
    have HMX := Lib.hid hM6
    have HD := Lib.hid hD
    clear hx hok hn hx3 hC hA hca hga hgc HG1 HG2 HB1 HB2 HK2 hM hN huk hM6 hD
    go_wp2_with (with_reducible refine wpList_make_full _ rfl _ _ 23 rfl wc.heap.size 5 i0 (.int .u8 0) 1 Tryz.underlying23 hi hz0 hz1 .i64 .i64 _ _ n rfl rfl rfl rfl ?c1 ?c2 ?c3 ?_)
    case c1 => rw [hz2]; omega
    case c2 => unfold maxLen; omega
    case c3 => exact Nat.le_refl _
    intro w4 hown hg4
    rw [made_u8] at hown
    obtain ⟨gt, hgt⟩ : ∃ g, g = wc.heap.size := ⟨_, rfl⟩
    rw [← hgt] at hown ⊢
    have hb4 := Blk.of_owns_e hown
    have HB4 := Lib.hid hb4
    have HC4 : Hid (Cip w4 gc (k32 k)) := Lib.hid (HC3.out.grown hg4)
    have HA4 := Lib.hid (HA3.out.grown hg4 (by simp))
    have HAT' : Hid (ga ≠ gt) := Lib.hid (by have h1 := HA3.out.lt; omega)
    have HCT : Hid (gc ≠ gt) := Lib.hid (by have h1 : gc < wc.heap.size := Blk.lt HC3.out; omega)
    have HGT : Hid (w.heap.size ≤ gt) := Lib.hid (by have h1 := HG3.out.size; omega)
    have HG4 : Hid (w.grownBy w4 none) := Lib.hid (World.grownBy.trans HG3.out hg4)
    clear hown hb4 hgt hg4 hi hz0 hz1 hz2 HX3 HC3 HA3 HG3
    go_wp2_with (fail)
    go_loopw [11, 12, 13] (fun x _ _ wr => ∃ m : Nat, m ≤ M ∧ x = .int .i64 ((16 * m : Nat) : Int) ∧ UnC w gc ga gt (k32 k) D v b n m wr) (fun x _ _ _ => 16 * M - (intOf x).toNat)
    case atStart => exact ⟨0, Nat.zero_le _, rfl, HC4.out, HA4.out, HB4.out.to (by rw [Nat.mul_zero, Nat.sub_zero]; rfl), HG4.out⟩
    case round =>
      clear HC4 HA4 HB4 HG4
      obtain ⟨m, hm', rfl, hR⟩ := hrel
      by_cases hlt : m < M
      · have HR := Lib.hid hR
        have hnm := HNM.out
        have hmx := HMX.out
        obtain ⟨at_, hat⟩ : ∃ q, q = 16 * m := ⟨_, rfl⟩
        rw [← hat]
        have e1 : (at_ : Int) < (n : Int) := by omega
        have e2 : at_ + 16 ≤ n := by omega
        have e3 : at_ < n := by omega
        have e4 : 16 ≤ n - at_ := by omega
        have i2 : (at_ : Int) ≤ (n : Int) := by omega
        have i3 : ¬ c = at_ := by omega
        have i4 : ¬ n = at_ := by omega
        have i5 : ¬ n - at_ < 16 := by omega
        obtain ⟨at2, hat2⟩ : ∃ q, q = at_ + 16 := ⟨_, rfl⟩
        have g1 : (at_ : Int) + 16 = (at2 : Int) := by omega
        have g2 := i64_keep at2 (by omega)
        have HA2 : Hid (at2 = 16 * (m + 1)) := Lib.hid (by omega)
        have HAT := Lib.hid hat
        have HLT := Lib.hid hlt
        have HE2 := Lib.hid e2
        have HE3 := Lib.hid e3
        have HE4 := Lib.hid e4
        clear hR hlt hat hm' hat2 hmx hnm e2 e3 e4
        obtain ⟨P, hP⟩ : ∃ P, P = uv v (st b) m := ⟨_, rfl⟩
        obtain ⟨F, hF⟩ : ∃ F, F = st b m := ⟨_, rfl⟩
        obtain ⟨T, hT⟩ : ∃ T, T = aesUnlock (kn (k32 k)) F := ⟨_, rfl⟩
        obtain ⟨X, hX⟩ : ∃ X, X = keyS P T := ⟨_, rfl⟩
        obtain ⟨pre, hpre⟩ : ∃ p, p = u8s (toB ((List.range m).map (ub D v b))) := ⟨_, rfl⟩
        have hpl : pre.length = at_ := by rw [hpre, u8s_length, toB_range_length, HAT.out]
        have hR := HR.out
        have hPr : Blk wr ga 48 (bytesOf P) := by rw [hP]; exact hR.2.1
        have hBr : Blk wr gt 5 (pre ++ u8s (zs (n - at_))) := hR.2.2.1.to (by rw [hpre, u8s_append, HAT.out])
        have hXc : ub D v b m = X := by unfold ub; rw [hX, hT, hP, hF, ← HD.out]
        have hFr : ∀ j u, (bytesOf F)[j]? = some u → wr.cell? ((ad.add at_).add j) = some u := by
          rw [hF]
          exact byt_block (HX.out.grown hR.2.2.2 (fun g hg => ⟨HOK.out g hg, by simp⟩)) m at_ HAT.out (by have h1 := HE2.out; have h2 := HAT.out; rw [HN.out]; omega)
        have HCR : Hid (Cip wr gc (k32 k)) := Lib.hid hR.1
        have HPR := Lib.hid hPr
        have HBR := Lib.hid hBr
        have HGR : Hid (w.grownBy wr none) := Lib.hid hR.2.2.2
        have HXC := Lib.hid hXc
        have HFR := Lib.hid hFr
        have HF := Lib.hid hF
        have HT := Lib.hid hT
        have HX' := Lib.hid hX
        have HPRE := Lib.hid hpre
        have HPL := Lib.hid hpl
        clear hR HR hP hF hT hX hpre hpl hPr hBr hXc hFr
        go_wp2_with (first
          | (refine wpList_array rfl _ rfl (ad.add at_) (n - at_) (c - at_) rfl HE4.out ?_)
          | (refine wpList_load_st rfl _ rfl (ad.add at_) rfl F HFR.out ?_)
          | (refine wpList_alloc23 rfl rfl ?_
             intro w5 hb5 hg5 hz5
             obtain ⟨gl, hgl⟩ : ∃ g, g = wr.heap.size := ⟨_, rfl⟩
             rw [← hgl] at hb5 ⊢
             have HB5 := Lib.hid hb5
             have HC5 : Hid (Cip w5 gc (k32 k)) := Lib.hid (HCR.out.grown hg5)
             have HP5 := Lib.hid (HPR.out.grown hg5 (by simp))
             have HT5 := Lib.hid (HBR.out.grown hg5 (by simp))
             have HG5 : Hid (w.grownBy w5 none) := Lib.hid (World.grownBy.trans HGR.out hg5)
             have HAL : Hid (ga ≠ gl) := Lib.hid (by have h1 := HPR.out.lt; omega)
             have HTL : Hid (gt ≠ gl) := Lib.hid (by have h1 := HBR.out.lt; omega)
             have HCL : Hid (gc ≠ gl) := Lib.hid (by have h1 : gc < wr.heap.size := Blk.lt HCR.out; omega)
             have HGL : Hid (w.heap.size ≤ gl) := Lib.hid (by have h1 := HGR.out.size; omega)
             clear hb5 hg5 hz5 hgl)
          | (refine wpList_store_row rfl 48 _ _ rfl gl (bytesOf F).toArray rfl rfl 48 _ HB5.out (bytes_size _) (bytes_same _ _) (all_oneCell_toArray (bytesOf_one _)) ?_
             obtain ⟨w6, hw6⟩ : ∃ w6, w6 = w5.setRow gl (bytesOf F).toArray := ⟨_, rfl⟩
             have hg6 : w5.grownBy w6 (some gl) := by rw [hw6]; exact grown_setRow _ _ _
             have hl6 : Blk w6 gl 48 (bytesOf F) := by rw [hw6]; exact Blk.setRow HB5.out
             rw [← hw6]
             have HL6 := Lib.hid hl6
             have HC6 : Hid (Cip w6 gc (k32 k)) := Lib.hid (Blk.grown HC5.out hg6 (fun e => HCL.out (Option.some.inj e)))
             have HP6 := Lib.hid (HP5.out.grown hg6 (fun e => HAL.out (Option.some.inj e)))
             have HT6 := Lib.hid (HT5.out.grown hg6 (fun e => HTL.out (Option.some.inj e)))
             have HG6 : Hid (w.grownBy w6 none) := Lib.hid (World.grownBy.andThen HG5.out hg6 (by rintro _ ⟨⟩; exact .inl HGL.out))
             clear hw6 hg6 hl6)
          | fail)
        clear HCR HPR HBR HGR HB5 HC5 HP5 HT5 HG5 HFR
        simp only [Act.put, List.setIfInBounds_toArray, List.set_cons_zero, List.set_cons_succ]
        go_cut [13] from 40 to 44 (fun s wx => ∃ gx, s = .pointer (some ⟨gx, 0, none⟩) ∧ Blk wx gx 48 (bytesOf X) ∧ w6.heap.size ≤ gx ∧ w6.grownBy wx none)
        case first =>
          refine wp_region_held_drew (S := fun w' => Cip w' gc (k32 k) ∧ Blk w' gl 48 (bytesOf F) ∧ Blk w' ga 48 (bytesOf P)) (by kernel_rfl) ⟨Blk.keep HC6.out rfl, HL6.out.keep rfl, HP6.out.keep rfl⟩ (fun hHeld => ?_)
          refine' wpAnyH_take (i := 0) (oi := { dst := some 40, op := Op.move (Operand.tmp 8), type := 79, pos := "cbc.go:36", after := #[], guard := none }) (v := .pointer (some ⟨gc, 0, none⟩)) rfl (by kernel_rfl) (by kernel_rfl) (by kernel_rfl) (fun _ _ _ h => h) (.inl ⟨by rfl, fun _ _ => rfl⟩) (by assumption) ?q0
          try simp only [Act.put, List.setIfInBounds_toArray, List.set_cons_zero, List.set_cons_succ]
          refine' wpAnyH_take (i := 1) (oi := { dst := some 41, op := Op.load 48 (Operand.tmp 12), type := 48, pos := "cbc.go:36", after := #[], guard := none }) (v := _) rfl (by kernel_rfl) (by kernel_rfl) (by kernel_rfl) (fun _ _ _ h => h) (yieldsIf_load_mid (by rfl) _ _ rfl gl 0 rfl (bytesOf F) _ (fun w' hs => range_blk hs.2.1) Tryz.underlying48 rfl (bytes_size' F)) (by assumption) ?q1
          try simp only [Act.put, List.setIfInBounds_toArray, List.set_cons_zero, List.set_cons_succ]
          refine' wpAnyH_take (i := 3) (oi := { dst := some 43, op := Op.load 48 (Operand.tmp 9), type := 48, pos := "cbc.go:36", after := #[], guard := none }) (v := _) rfl (by kernel_rfl) (by kernel_rfl) (by kernel_rfl) (fun _ _ _ h => h) (yieldsIf_load_mid (by rfl) _ _ rfl ga 0 rfl (bytesOf P) _ (fun w' hs => range_blk hs.2.2) Tryz.underlying48 rfl (bytes_size' P)) (by assumption) ?q3
          try simp only [Act.put, List.setIfInBounds_toArray, List.set_cons_zero, List.set_cons_succ]
          refine wpAnyH_ready (rs := [2, 5]) (by kernel_rfl) (by simp) ?_
          refine (AllReadyH.cons (o := { dst := some 42, op := Op.call { callee := Callee.value (Operand.func 60), args := #[Operand.tmp 40, Operand.tmp 41], argTypes := #[79, 48] }, type := 48, pos := "cbc.go:36", after := #[{ on := 0, ground := Ground.data }, { on := 1, ground := Ground.data }], guard := none }) rfl (fun K hK => ?_) (AllReadyH.cons (o := { dst := some 13, op := Op.alloc 48, type := 0, pos := "cbc.go:36", after := #[], guard := none }) rfl (fun K hK => ?_) AllReadyH.nil))
          · rw [if_pos (by rfl)]
            go_simp
            refine (cunlock_any hHeld.1 F).mono ?_
            rintro _ wu ⟨rfl, hgu⟩
            rw [← HT.out]
            have hrwu : w6.grownBy wu none := World.grownBy.trans (grown_drew (World.grownBy.refl w6 none)) hgu
            refine hK.out _ _ ⟨hHeld.1.grown hgu, hHeld.2.1.grown hgu (by simp), hHeld.2.2.grown hgu (by simp)⟩ (fun hHeld => ?_)
            clear hK K
            try simp only [Act.put, List.setIfInBounds_toArray, List.set_cons_zero, List.set_cons_succ]
            refine wpAnyH_ready (rs := [4, 5]) (by kernel_rfl) (by simp) ?_
            refine (AllReadyH.cons (o := { dst := some 44, op := Op.call { callee := Callee.value (Operand.func 49), args := #[Operand.tmp 42, Operand.tmp 43], argTypes := #[48, 48] }, type := 48, pos := "cbc.go:36", after := #[{ on := 2, ground := Ground.data }, { on := 3, ground := Ground.data }, { on := 2, ground := Ground.chain }], guard := none }) rfl (fun K hK => ?_) (AllReadyH.cons (o := { dst := some 13, op := Op.alloc 48, type := 0, pos := "cbc.go:36", after := #[], guard := none }) rfl (fun K hK => ?_) AllReadyH.nil))
            · rw [if_pos (by rfl)]
              go_simp
              refine (xor_any _ T P).mono ?_
              rintro _ wx ⟨rfl, hgx4⟩
              rw [← HX'.out]
              have hrwx : w6.grownBy wx none := World.grownBy.trans hrwu hgx4
              refine hK.out _ _ ⟨hHeld.1.grown hgx4, hHeld.2.1.grown hgx4 (by simp), hHeld.2.2.grown hgx4 (by simp)⟩ (fun hHeld => ?_)
              clear hK K
              try simp only [Act.put, List.setIfInBounds_toArray, List.set_cons_zero, List.set_cons_succ]
              refine wpAnyH_ready (rs := [5]) (by kernel_rfl) (by simp) ?_
              refine AllReadyH.cons (o := { dst := some 13, op := Op.alloc 48, type := 0, pos := "cbc.go:36", after := #[], guard := none }) rfl (fun K hK => ?_) AllReadyH.nil
              rw [if_pos (by rfl)]
              refine wp_alloc23 rfl ?_
              intro wa hbx hga5 _
              obtain ⟨gx, hgx⟩ : ∃ g, g = wx.heap.size := ⟨_, rfl⟩
              rw [← hgx] at hbx ⊢
              have hn1 : gc ≠ gx := by have h1 : gc < wx.heap.size := Blk.lt hHeld.1; omega
              have hn2 : gl ≠ gx := by have h1 := hHeld.2.1.lt; omega
              have hn3 : ga ≠ gx := by have h1 := hHeld.2.2.lt; omega
              have hxg : w6.heap.size ≤ gx := by have h1 := hrwx.size; omega
              have hrwa : w6.grownBy wa none := World.grownBy.trans hrwx hga5
              clear hgx
              refine hK.out _ _ ⟨hHeld.1.grown hga5, hHeld.2.1.grown hga5 (by simp), hHeld.2.2.grown hga5 (by simp)⟩ (fun hHeld => ?_)
              clear hK K
              try simp only [Act.put, List.setIfInBounds_toArray, List.set_cons_zero, List.set_cons_succ]
              refine wpAnyH_ready (rs := [6]) (by kernel_rfl) (by simp) ?_
              refine AllReadyH.cons (o := { dst := none, op := Op.store 48 (Operand.tmp 13) (Operand.tmp 44), type := 0, pos := "cbc.go:36", after := #[{ on := 5, ground := Ground.data }, { on := 4, ground := Ground.data }, { on := 4, ground := Ground.chain }, { on := 0, ground := Ground.phase }, { on := 1, ground := Ground.phase }, { on := 2, ground := Ground.phase }, { on := 3, ground := Ground.phase }, { on := 4, ground := Ground.phase }, { on := 5, ground := Ground.phase }], guard := none }) rfl (fun K hK => ?_) AllReadyH.nil
              rw [if_pos (by rfl)]
              refine wp_store_row 48 _ _ rfl gx (bytesOf X).toArray rfl rfl 48 _ hbx (bytes_size _) (bytes_same _ _) (all_oneCell_toArray (bytesOf_one _)) ?_
              refine hK.out _ _ ⟨Blk.grown hHeld.1 (grown_setRow _ _ _) (fun e => hn1 (Option.some.inj e)), hHeld.2.1.grown (grown_setRow _ _ _) (fun e => hn2 (Option.some.inj e)), hHeld.2.2.grown (grown_setRow _ _ _) (fun e => hn3 (Option.some.inj e))⟩ (fun hHeld => ?_)
              clear hK K
              refine wpAnyH_done (by kernel_rfl) ?_ _
              dsimp only [Act.put]
              go_wp2_with (fail)
              go_meet
              case rel => exact ⟨gx, rfl, Blk.setRow hbx, hxg, World.grownBy.andThen hrwa (grown_setRow _ _ _) (by rintro _ ⟨⟩; exact .inl hxg)⟩
            · rw [if_pos (by rfl)]
              refine wp_alloc23 rfl ?_
              intro wa hbx hga5 _
              obtain ⟨gx, hgx⟩ : ∃ g, g = wu.heap.size := ⟨_, rfl⟩
              rw [← hgx] at hbx ⊢
              have hn1 : gc ≠ gx := by have h1 : gc < wu.heap.size := Blk.lt hHeld.1; omega
              have hn2 : gl ≠ gx := by have h1 := hHeld.2.1.lt; omega
              have hn3 : ga ≠ gx := by have h1 := hHeld.2.2.lt; omega
              have hxg : w6.heap.size ≤ gx := by have h1 := hrwu.size; omega
              have hrwa : w6.grownBy wa none := World.grownBy.trans hrwu hga5
              clear hgx
              refine hK.out _ _ ⟨hHeld.1.grown hga5, hHeld.2.1.grown hga5 (by simp), hHeld.2.2.grown hga5 (by simp)⟩ (fun hHeld => ?_)
              clear hK K
              try simp only [Act.put, List.setIfInBounds_toArray, List.set_cons_zero, List.set_cons_succ]
              refine wpAnyH_ready (rs := [4]) (by kernel_rfl) (by simp) ?_
              refine AllReadyH.cons (o := { dst := some 44, op := Op.call { callee := Callee.value (Operand.func 49), args := #[Operand.tmp 42, Operand.tmp 43], argTypes := #[48, 48] }, type := 48, pos := "cbc.go:36", after := #[{ on := 2, ground := Ground.data }, { on := 3, ground := Ground.data }, { on := 2, ground := Ground.chain }], guard := none }) rfl (fun K hK => ?_) AllReadyH.nil
              rw [if_pos (by rfl)]
              go_simp
              refine (xor_any _ T P).mono ?_
              rintro _ wx ⟨rfl, hgx4⟩
              rw [← HX'.out]
              have hrwx : w6.grownBy wx none := World.grownBy.trans hrwa hgx4
              have hbx2 := hbx.grown hgx4 (by simp)
              refine hK.out _ _ ⟨hHeld.1.grown hgx4, hHeld.2.1.grown hgx4 (by simp), hHeld.2.2.grown hgx4 (by simp)⟩ (fun hHeld => ?_)
              clear hK K
              try simp only [Act.put, List.setIfInBounds_toArray, List.set_cons_zero, List.set_cons_succ]
              refine wpAnyH_ready (rs := [6]) (by kernel_rfl) (by simp) ?_
              refine AllReadyH.cons (o := { dst := none, op := Op.store 48 (Operand.tmp 13) (Operand.tmp 44), type := 0, pos := "cbc.go:36", after := #[{ on := 5, ground := Ground.data }, { on := 4, ground := Ground.data }, { on := 4, ground := Ground.chain }, { on := 0, ground := Ground.phase }, { on := 1, ground := Ground.phase }, { on := 2, ground := Ground.phase }, { on := 3, ground := Ground.phase }, { on := 4, ground := Ground.phase }, { on := 5, ground := Ground.phase }], guard := none }) rfl (fun K hK => ?_) AllReadyH.nil
              rw [if_pos (by rfl)]
              refine wp_store_row 48 _ _ rfl gx (bytesOf X).toArray rfl rfl 48 _ hbx2 (bytes_size _) (bytes_same _ _) (all_oneCell_toArray (bytesOf_one _)) ?_
              refine hK.out _ _ ⟨Blk.grown hHeld.1 (grown_setRow _ _ _) (fun e => hn1 (Option.some.inj e)), hHeld.2.1.grown (grown_setRow _ _ _) (fun e => hn2 (Option.some.inj e)), hHeld.2.2.grown (grown_setRow _ _ _) (fun e => hn3 (Option.some.inj e))⟩ (fun hHeld => ?_)
              clear hK K
              refine wpAnyH_done (by kernel_rfl) ?_ _
              dsimp only [Act.put]
              go_wp2_with (fail)
              go_meet
              case rel => exact ⟨gx, rfl, Blk.setRow hbx2, hxg, World.grownBy.andThen hrwx (grown_setRow _ _ _) (by rintro _ ⟨⟩; exact .inl hxg)⟩
          · rw [if_pos (by rfl)]
            refine wp_alloc23 rfl ?_
            intro wa hbx hga5 _
            have hbx : Blk wa w6.heap.size 48 (bytesOf fun _ => 0) := hbx
            have hn1 : gc ≠ w6.heap.size := Nat.ne_of_lt (Blk.lt hHeld.1)
            have hn2 : gl ≠ w6.heap.size := Nat.ne_of_lt hHeld.2.1.lt
            have hn3 : ga ≠ w6.heap.size := Nat.ne_of_lt hHeld.2.2.lt
            have hxg : w6.heap.size ≤ w6.heap.size := Nat.le_refl _
            have hrwa : w6.grownBy wa none := World.grownBy.trans (grown_drew (World.grownBy.refl _ _)) hga5
            refine hK.out _ _ ⟨hHeld.1.grown hga5, hHeld.2.1.grown hga5 (by simp), hHeld.2.2.grown hga5 (by simp)⟩ (fun hHeld => ?_)
            clear hK K
            try simp only [Act.put, List.setIfInBounds_toArray, List.set_cons_zero, List.set_cons_succ]
            refine wpAnyH_ready (rs := [2]) (by kernel_rfl) (by simp) ?_
            refine AllReadyH.cons (o := { dst := some 42, op := Op.call { callee := Callee.value (Operand.func 60), args := #[Operand.tmp 40, Operand.tmp 41], argTypes := #[79, 48] }, type := 48, pos := "cbc.go:36", after := #[{ on := 0, ground := Ground.data }, { on := 1, ground := Ground.data }], guard := none }) rfl (fun K hK => ?_) AllReadyH.nil
            rw [if_pos (by rfl)]
            go_simp
            refine (cunlock_any hHeld.1 F).mono ?_
            rintro _ wu ⟨rfl, hgu⟩
            rw [← HT.out]
            have hrwu : w6.grownBy wu none := World.grownBy.trans hrwa hgu
            have hbx2 := hbx.grown hgu (by simp)
            refine hK.out _ _ ⟨hHeld.1.grown hgu, hHeld.2.1.grown hgu (by simp), hHeld.2.2.grown hgu (by simp)⟩ (fun hHeld => ?_)
            clear hK K
            try simp only [Act.put, List.setIfInBounds_toArray, List.set_cons_zero, List.set_cons_succ]
            refine wpAnyH_ready (rs := [4]) (by kernel_rfl) (by simp) ?_
            refine AllReadyH.cons (o := { dst := some 44, op := Op.call { callee := Callee.value (Operand.func 49), args := #[Operand.tmp 42, Operand.tmp 43], argTypes := #[48, 48] }, type := 48, pos := "cbc.go:36", after := #[{ on := 2, ground := Ground.data }, { on := 3, ground := Ground.data }, { on := 2, ground := Ground.chain }], guard := none }) rfl (fun K hK => ?_) AllReadyH.nil
            rw [if_pos (by rfl)]
            go_simp
            refine (xor_any _ T P).mono ?_
            rintro _ wx ⟨rfl, hgx4⟩
            rw [← HX'.out]
            have hrwx : w6.grownBy wx none := World.grownBy.trans hrwu hgx4
            have hbx3 := hbx2.grown hgx4 (by simp)
            refine hK.out _ _ ⟨hHeld.1.grown hgx4, hHeld.2.1.grown hgx4 (by simp), hHeld.2.2.grown hgx4 (by simp)⟩ (fun hHeld => ?_)
            clear hK K
            try simp only [Act.put, List.setIfInBounds_toArray, List.set_cons_zero, List.set_cons_succ]
            refine wpAnyH_ready (rs := [6]) (by kernel_rfl) (by simp) ?_
            refine AllReadyH.cons (o := { dst := none, op := Op.store 48 (Operand.tmp 13) (Operand.tmp 44), type := 0, pos := "cbc.go:36", after := #[{ on := 5, ground := Ground.data }, { on := 4, ground := Ground.data }, { on := 4, ground := Ground.chain }, { on := 0, ground := Ground.phase }, { on := 1, ground := Ground.phase }, { on := 2, ground := Ground.phase }, { on := 3, ground := Ground.phase }, { on := 4, ground := Ground.phase }, { on := 5, ground := Ground.phase }], guard := none }) rfl (fun K hK => ?_) AllReadyH.nil
            rw [if_pos (by rfl)]
            refine wp_store_row 48 _ _ rfl w6.heap.size (bytesOf X).toArray rfl rfl 48 _ hbx3 (bytes_size _) (bytes_same _ _) (all_oneCell_toArray (bytesOf_one _)) ?_
            refine hK.out _ _ ⟨Blk.grown hHeld.1 (grown_setRow _ _ _) (fun e => hn1 (Option.some.inj e)), hHeld.2.1.grown (grown_setRow _ _ _) (fun e => hn2 (Option.some.inj e)), hHeld.2.2.grown (grown_setRow _ _ _) (fun e => hn3 (Option.some.inj e))⟩ (fun hHeld => ?_)
            clear hK K
            refine wpAnyH_done (by kernel_rfl) ?_ _
            dsimp only [Act.put]
            go_wp2_with (fail)
            go_meet
            case rel => exact ⟨w6.heap.size, rfl, Blk.setRow hbx3, hxg, World.grownBy.andThen hrwx (grown_setRow _ _ _) (by rintro _ ⟨⟩; exact .inl hxg)⟩
        case rest =>
          obtain ⟨gx, rfl, hbx, hgx, hgr⟩ := hcut
          obtain ⟨w7, hw7⟩ : ∃ w7, w7 = wc := ⟨_, rfl⟩
          rw [← hw7] at hbx hgr ⊢
          have HX7 := Lib.hid hbx
          have HC7 : Hid (Cip w7 gc (k32 k)) := Lib.hid (HC6.out.grown hgr)
          have HL7 := Lib.hid (HL6.out.grown hgr (by simp))
          have HP7 := Lib.hid (HP6.out.grown hgr (by simp))
          have HT7 := Lib.hid (HT6.out.grown hgr (by simp))
          have HG7 : Hid (w.grownBy w7 none) := Lib.hid (World.grownBy.trans HG6.out hgr)
          clear hbx hgx hgr hw7 HL6 HC6 HP6 HT6 HG6
          have hbd : Blk w7.drew gt 5 (pre ++ u8s (zs (n - at_)) ++ []) := (HT7.out.keep (w' := w7.drew) rfl).to (by rw [List.append_nil])
          have hxd : Byt w7.drew (fun b => b = gx) (some ⟨gx, 0, none⟩) (bl X) := (byt_blk (HX7.out.to (bytesOf_bl X))).keep (fun _ _ => rfl)
          have hm1 : Nat.min (bl X).length (zs (n - at_)).length = 16 := by rw [bl_length, zs_length]; exact Nat.min_eq_left HE4.out
          have hm0 : 0 < Nat.min (bl X).length (zs (n - at_)).length := by rw [hm1]; decide
          have HBD := Lib.hid hbd
          have HXD := Lib.hid hxd
          have HM1 := Lib.hid hm1
          have HM0 := Lib.hid hm0
          clear hbd hxd hm1 hm0
          go_wp2_with (fail)
          go_region_law (first
            | (refine step_copy_blk rfl (.tmp 47) (.tmp 48) rfl gt at_ (n - at_) (n - at_) 16 16 (some ⟨gx, 0, none⟩) (bl X) (zs (n - at_)) (by simp [Act.eval, Act.put]) (by simp [Act.eval, Act.put]) (bl_length X) (zs_length _) HM0.out 5 pre [] HBD.out HPL.out (fun b => b = gx) HXD.out 16 HM1.out ?_; intro w8 hb8 hg8 hz8)
            | fail)
          have hb9 : Blk w8 gt 5 (u8s (toB ((List.range (m + 1)).map (ub D v b)) ++ zs (n - 16 * (m + 1)))) := by
            refine hb8.to ?_
            rw [List.append_nil, HAT.out, lay_zs X n m (by have h1 := HE2.out; have h2 := HAT.out; omega), HPRE.out, ← u8s_append, ← List.append_assoc, ← HXC.out, ← toB_range]
          have HT8 := Lib.hid hb9
          have HC8 : Hid (Cip w8 gc (k32 k)) := Lib.hid (Blk.grown (Blk.keep (w' := w7.drew) HC7.out rfl) hg8 (fun e => HCT.out (Option.some.inj e)))
          have HL8 := Lib.hid (Blk.grown (HL7.out.keep (w' := w7.drew) rfl) hg8 (fun e => HTL.out (Option.some.inj e).symm))
          have HP8 := Lib.hid (Blk.grown (HP7.out.keep (w' := w7.drew) rfl) hg8 (fun e => HAT'.out (Option.some.inj e)))
          have HG8 : Hid (w.grownBy w8 none) := Lib.hid (World.grownBy.andThen (grown_drew HG7.out) hg8 (by rintro _ ⟨⟩; exact .inl HGT.out))
          clear hb8 hb9 hg8 hz8 HBD HXD HX7 HC7 HL7 HP7 HT7 HG7
          go_wp2_with (first
            | (refine wpList_load_mid rfl 48 _ rfl gl 0 rfl (bytesOf F) _ (range_blk HL8.out) Tryz.underlying48 rfl (bytes_size' F) ?_)
            | (refine wpList_store_row rfl 48 _ _ rfl ga (bytesOf F).toArray rfl rfl 48 _ HP8.out (bytes_size _) (bytes_same _ _) (all_oneCell_toArray (bytesOf_one _)) ?_
               obtain ⟨w9, hw9⟩ : ∃ w9, w9 = w8.setRow ga (bytesOf F).toArray := ⟨_, rfl⟩
               have hg9 : w8.grownBy w9 (some ga) := by rw [hw9]; exact grown_setRow _ _ _
               have hp9 : Blk w9 ga 48 (bytesOf F) := by rw [hw9]; exact Blk.setRow HP8.out
               rw [← hw9]
               have HR9 : Hid (UnC w gc ga gt (k32 k) D v b n (m + 1) w9) := Lib.hid ⟨Blk.grown HC8.out hg9 (fun e => HCA.out (Option.some.inj e)), by show Blk w9 ga 48 (bytesOf (st b m)); rw [← HF.out]; exact hp9, HT8.out.grown hg9 (fun e => HAT'.out (Option.some.inj e).symm), World.grownBy.andThen HG8.out hg9 (by rintro _ ⟨⟩; exact .inl HGA.out)⟩
               clear hw9 hg9 hp9)
            | fail)
          exact ⟨⟨m + 1, HLT.out, by rw [HA2.out], HR9.out⟩, by have h1 := HLT.out; have h2 := HAT.out; have h3 := HA2.out; simp [intOf]; omega⟩
      · have em : m = M := by omega
        subst em
        obtain ⟨_, _, hB, hG⟩ := hR
        have hnm := HNM.out
        have e1 : ¬ (((16 * m : Nat) : Int) < (n : Int)) := by omega
        have hb9 : Blk wr gt 5 (u8s (toB (cbcU (aesUnlock (kn (k32 k))) v (ofB b)))) := hB.to (by rw [HUK.out, hnm, Nat.sub_self]; simp [zs])
        have hl9 : (toB (cbcU (aesUnlock (kn (k32 k))) v (ofB b))).length = n := by rw [HUK.out, toB_range_length, hnm]
        have HB9 := Lib.hid hb9
        have HL9 := Lib.hid hl9
        have HG9 := Lib.hid hG
        clear hB hG hb9 hl9 hnm hlt hm'
        go_wp2_with (go_at_call 61
                     refine (bare_any HB9.out HL9.out (by omega) (by omega)).mono ?_
                     rintro e9 w9 ⟨rfl, hbare⟩
                     have HBARE := Lib.hid hbare
                     obtain ⟨Z, B9, rfl⟩ : ∃ (Z : Value) (B9 : Bool), e9 = .returned (.tuple #[Z, .bool B9]) := by
                       rcases hbare with ⟨s, _, rfl, _, _⟩ | ⟨_, rfl⟩
                       · exact ⟨_, _, rfl⟩
                       · exact ⟨_, _, rfl⟩
                     clear hbare)
        go_ret2
        exact ⟨HG9.out, gt, HB9.out, HBARE.out⟩
open Go.RowKit
set_option maxRecDepth 100000 in
set_option maxHeartbeats 1600000 in
theorem unlock_none (w : World) (A : Option Addr) (n c : Nat) (h : n = 0 ∨ n % 16 ≠ 0) (k : Fin 32 → UInt8) (v : State) :
    Calls Tryz.prog 41 #[.agg (u8s (k32 k)).toArray, .agg (bytesOf v).toArray, .slice A n c] w fun e w' => w.grownBy w' none ∧ e = .returned (.tuple #[.slice none 0 0, .bool false]) := by
  have d1 : (n : Int).tmod 16 = (n : Int) % 16 := Int.tmod_eq_emod_of_nonneg (by omega)
  rcases h with rfl | h
  · go_enter Tryz.func41, Tryz.ntmps41
    go_wp2_with (first
      | (refine wpList_box22 rfl _ k rfl rfl ?_
         intro w1 hb1 hg1 hz1')
      | (refine wpList_box23 rfl _ v rfl rfl ?_
         intro w2 hb2 hg2 hz2')
      | fail)
    go_ret2
    exact ⟨World.grownBy.trans hg1 hg2, rfl⟩
  · have d2 : ¬ (n : Int) = 0 := by omega
    have d3 : ¬ (n : Int) % 16 = 0 := by omega
    go_enter Tryz.func41, Tryz.ntmps41
    go_wp2_with (first
      | (refine wpList_box22 rfl _ k rfl rfl ?_
         intro w1 hb1 hg1 hz1')
      | (refine wpList_box23 rfl _ v rfl rfl ?_
         intro w2 hb2 hg2 hz2')
      | fail)
    · go_ret2
      exact ⟨World.grownBy.trans hg1 hg2, rfl⟩
    · exact absurd (by assumption : ((n : Int) == 0) = false ∧ ((n : Int) % 16 != 0) = false).2 (by simpa using d3)
theorem cbcunlock_any : UnlockSays := by
  intro w ok A b n c hx hok hn hc hm hs k v
  by_cases h : n = 0 ∨ n % 16 ≠ 0
  · refine (unlock_none w A n c h k v).mono ?_
    rintro e w' ⟨hg, he⟩
    refine ⟨hg, .inr ⟨none, 0, ?_, he⟩⟩
    unfold unlockB
    rw [if_pos (by rw [hn]; exact h)]
  · have h0 : 0 < n := by omega
    have h16 : n % 16 = 0 := by omega
    obtain ⟨ad, rfl, _⟩ := hx.some_ (by omega)
    refine (unlock_some hx hok hn hc hs h0 h16 k v).mono ?_
    rintro e w' ⟨hg, g, hb, hbare⟩
    have hu : unlockB (kn (k32 k)) v b = unfill (toB (cbcU (aesUnlock (kn (k32 k))) v (ofB b))) := by
      unfold unlockB
      rw [if_neg (by rw [hn]; exact h)]
    have hlen : (toB (cbcU (aesUnlock (kn (k32 k))) v (ofB b))).length = n := by
      rw [toB_length, cbcU_length, ofB_length, hn]; omega
    refine ⟨hg, ?_⟩
    rcases hbare with ⟨s, h1, he, h2, h3⟩ | ⟨h1, he⟩
    · refine .inl ⟨s, some ⟨g, 0, none⟩, s.length, hu.trans h1, he, Nat.le_refl _, by unfold maxLen; omega, ?_⟩
      have hb2 := (byt_blk hb).take s.length
      rw [← h3] at hb2
      exact hb2.imp fun b e => by rw [e]; exact hb.lt
    · exact .inr ⟨none, 0, hu.trans h1, he⟩
end Go.Proofs.YtkbffponemihoaaGreatDoor.C
