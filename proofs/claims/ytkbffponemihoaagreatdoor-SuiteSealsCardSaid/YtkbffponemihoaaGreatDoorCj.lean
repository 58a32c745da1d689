/- The code's Lock. Conditions: the text has no more than a million bytes. -/
import Derived.Test.YtkbffponemihoaaGreatDoorCi
import Derived.Deep.CutRange
namespace Go.Proofs.YtkbffponemihoaaGreatDoor.C
open Go.RowKit
/-- While blocks are locked in place. -/
def LkC (w : World) (gc ga gb : Nat) (ks : List UInt8) (E : State → State) (v : State) (l : List UInt8) (post : List Value) (m : Nat) (V : World) : Prop :=
  Cip V gc ks ∧ Blk V ga 48 (bytesOf (cv E v (st l) m)) ∧ Blk V gb 5 (u8s (toB ((List.range m).map fun j => cv E v (st l) (j + 1)) ++ l.drop (16 * m)) ++ post) ∧ w.grownBy V none
theorem toB_range_length (g : Nat → State) (m : Nat) : (toB ((List.range m).map g)).length = 16 * m := by rw [toB_length, List.length_map, List.length_range]
theorem blk_at {w : World} {g : Nat} {ty : TypeId} {pre post : List Value} {l : List UInt8} {m o : Nat} (h : Blk w g ty (pre ++ u8s (l.drop (16 * m)) ++ post)) (ho : pre.length = o) (hl : 16 * m + 16 ≤ l.length) : ∀ j v, (bytesOf (st l m))[j]? = some v → w.cell? ((⟨g, o, none⟩ : Addr).add j) = some v := by
  intro j v hv
  have hj : j < 16 := by
    have := (List.getElem?_eq_some_iff.1 hv).1
    rwa [bytesOf_length] at this
  rw [bytesOf_get _ j hj] at hv
  cases hv
  obtain ⟨_, e, _, hc⟩ := Blk.byt h ho j (by rw [List.length_drop]; omega)
  cases e
  rw [hc]
  unfold st
  rw [List.getElem_drop, List.getD_eq_getElem?_getD, List.getElem?_eq_getElem (by omega)]
  rfl
theorem lay_drop (X : State) (l : List UInt8) (m : Nat) (h : 16 * m + 16 ≤ l.length) : lay (bl X) (l.drop (16 * m)) = bl X ++ l.drop (16 * (m + 1)) := by
  unfold lay
  rw [List.take_of_length_le (by rw [bl_length, List.length_drop]; omega), bl_length, List.drop_drop, show 16 * m + 16 = 16 * (m + 1) by omega]
set_option maxRecDepth 100000 in
set_option maxHeartbeats 3200000 in
theorem cbclock_any : LockSays := by
  intro w ok A text n c hx hok hn hc hm hsz k v
  go_enter Tryz.func29, Tryz.ntmps29
  go_wp2_with (first
    | (refine wpList_box22 rfl _ k rfl rfl ?_
       intro w1 hb1 hg1 hz1'
       obtain ⟨gk, hgk⟩ : ∃ g, g = w.heap.size := ⟨_, rfl⟩
       rw [← hgk] at hb1 ⊢
       have HB1 := Lib.hid hb1
       have HG1 := Lib.hid hg1
       clear hb1 hg1 hz1' hgk)
    | (refine wpList_box23 rfl _ v rfl rfl ?_
       intro w2 hb2 hg2 hz2'
       obtain ⟨gv, hgv⟩ : ∃ g, g = w1.heap.size := ⟨_, rfl⟩
       rw [← hgv] at hb2 ⊢
       have HB2 := Lib.hid hb2
       have HK2 := Lib.hid (HB1.out.grown hg2 (by simp))
       have HG2 := Lib.hid (World.grownBy.trans HG1.out hg2)
       clear hb2 hg2 hz2' hgv)
    | fail)
  go_cut [7, 8] from 11 to 13 (fun s t wx => Two w2 (k32 k) v s t wx)
  case first =>
    refine wp_region_held_drew (S := fun w' => Blk w' gk 22 (u8s (k32 k)) ∧ Blk w' gv 48 (bytesOf v)) (by kernel_rfl) ⟨HK2.out.keep rfl, HB2.out.keep rfl⟩ (fun hHeld => ?_)
    refine' wpAnyH_take (i := 0) (oi := { dst := some 11, op := .load 22 (.tmp 3), type := 22, pos := "cbc.go:18", after := #[], guard := none }) (v := _) rfl (by kernel_rfl) (by kernel_rfl) (by kernel_rfl) (fun _ _ _ h => h) (yieldsIf_load_mid (by rfl) _ _ rfl _ _ rfl (u8s (k32 k)) _ ?s0 ?u0 ?d0 ?i0) (by assumption) ?rest0
    case s0 => exact fun w' hs => range_blk hs.1
    case u0 => exact Tryz.underlying22
    case d0 => rfl
    case i0 => exact (by rw [size22, u8s_length, k32_length])
    try simp only [Act.put, List.setIfInBounds_toArray, List.set_cons_zero, List.set_cons_succ]
    refine' wpAnyH_take (i := 2) (oi := { dst := some 13, op := .load 48 (.tmp 4), type := 48, pos := "cbc.go:18", after := #[{ on := 4, ground := .gcOnly .lateStores }], guard := none }) (v := _) rfl (by kernel_rfl) (by kernel_rfl) (by kernel_rfl) (fun _ _ _ h => h) (yieldsIf_load_mid (by rfl) _ _ rfl _ _ rfl (bytesOf v) _ ?s2 ?u2 ?d2 ?i2) (by assumption) ?rest2
    case s2 => exact fun w' hs => range_blk hs.2
    case u2 => exact Tryz.underlying48
    case d2 => rfl
    case i2 => exact (bytes_size' v)
    try simp only [Act.put, List.setIfInBounds_toArray, List.set_cons_zero, List.set_cons_succ]
    refine wpAnyH_ready (rs := [1, 3]) (by kernel_rfl) (by simp) ?_
    refine AllReadyH.cons (o := { dst := some 12, op := .call { callee := .value (.func 46), args := #[.tmp 11], argTypes := #[22] }, type := 79, pos := "cbc.go:18", after := #[{ on := 0, ground := .data }], guard := none }) rfl (fun K hK => ?_) (AllReadyH.cons (o := { dst := some 8, op := .alloc 48, type := 0, pos := "cbc.go:18", after := #[], guard := none }) rfl (fun K hK => ?_) AllReadyH.nil)
    · rw [if_pos (by rfl)]
      go_simp
      refine (cnew_at _ k).mono ?_
      rintro _ wn ⟨gc, rfl, hcn, hgn, hsn⟩
      refine hK.out _ _ ⟨hHeld.1.grown hgn (by simp), hHeld.2.grown hgn (by simp)⟩ (fun hHeld => ?_)
      clear hK K
      try simp only [Act.put, List.setIfInBounds_toArray, List.set_cons_zero, List.set_cons_succ]
      refine wpAnyH_ready (rs := [3]) (by kernel_rfl) (by simp) ?_
      refine AllReadyH.cons (o := { dst := some 8, op := .alloc 48, type := 0, pos := "cbc.go:18", after := #[], guard := none }) rfl (fun K hK => ?_) AllReadyH.nil
      rw [if_pos (by rfl)]
      refine wp_alloc23 rfl ?_
      intro wa hba hga hza
      obtain ⟨ga, hgae⟩ : ∃ g, g = wn.heap.size := ⟨_, rfl⟩
      rw [← hgae] at hba ⊢
      have hbl := hba
      have hcl : Cip wa gc (k32 k) := hcn.grown hga
      have hne : gc ≠ ga := by have h1 : gc < wn.heap.size := Blk.lt hcn; omega
      have hgl : w2.grownBy wa none := World.grownBy.trans (World.grownBy.trans (grown_drew (World.grownBy.refl _ _)) hgn) hga
      have hle : w2.heap.size ≤ ga := by have h1 := (World.grownBy.trans (grown_drew (World.grownBy.refl w2 _)) hgn).size; omega
      have hnk : gk ≠ ga := by have h1 := hHeld.1.lt; omega
      have hnv : gv ≠ ga := by have h1 := hHeld.2.lt; omega
      refine hK.out _ _ ⟨hHeld.1.grown hga (by simp), hHeld.2.grown hga (by simp)⟩ (fun hHeld => ?_)
      clear hK K
      try simp only [Act.put, List.setIfInBounds_toArray, List.set_cons_zero, List.set_cons_succ]
      clear hcn hgn hsn hba hga hza hgae
      refine wpAnyH_ready (rs := [4]) (by kernel_rfl) (by simp) ?_
      refine AllReadyH.cons (o := { dst := some 7, op := .assign (.tmp 12), type := 79, pos := "cbc.go:18", after := #[{ on := 1, ground := .data }, { on := 1, ground := .chain }, { on := 0, ground := .phase }, { on := 1, ground := .phase }, { on := 2, ground := .textOnly .lateStores }, { on := 3, ground := .phase }], guard := none }) rfl (fun K hK => ?_) AllReadyH.nil
      rw [if_pos (by rfl)]
      go_simp
      refine hK.out _ _ hHeld (fun hHeld => ?_)
      clear hK K
      try simp only [Act.put, List.setIfInBounds_toArray, List.set_cons_zero, List.set_cons_succ]
      refine wpAnyH_ready (rs := [5]) (by kernel_rfl) (by simp) ?_
      refine AllReadyH.cons (o := { dst := none, op := .store 48 (.tmp 8) (.tmp 13), type := 0, pos := "cbc.go:18", after := #[{ on := 3, ground := .data }, { on := 2, ground := .data }, { on := 4, ground := .chain }, { on := 0, ground := .phase }, { on := 1, ground := .phase }, { on := 2, ground := .phase }, { on := 3, ground := .phase }, { on := 4, ground := .phase }], guard := none }) rfl (fun K hK => ?_) AllReadyH.nil
      rw [if_pos (by rfl)]
      refine wp_store_row 48 _ _ rfl ga (bytesOf v).toArray rfl rfl 48 _ hbl (bytes_size _) (bytes_same _ _) (all_oneCell_toArray (bytesOf_one _)) ?_
      refine hK.out _ _ ⟨hHeld.1.grown (grown_setRow _ _ _) (fun e => hnk (Option.some.inj e)), hHeld.2.grown (grown_setRow _ _ _) (fun e => hnv (Option.some.inj e))⟩ (fun hHeld => ?_)
      clear hK K
      refine wpAnyH_done (by kernel_rfl) ?_ _
      go_wp2_with (fail)
      go_meet
      case rel => exact ⟨gc, ga, rfl, rfl, Blk.grown hcl (grown_setRow _ _ _) (fun e => hne (Option.some.inj e)), Blk.setRow hbl, hne, hle, World.grownBy.andThen hgl (grown_setRow _ _ _) (by rintro _ ⟨⟩; exact .inl hle)⟩
    · rw [if_pos (by rfl)]
      refine wp_alloc23 rfl ?_
      intro wa hba hga hza
      have hba : Blk wa w2.heap.size 48 (bytesOf fun _ => 0) := hba
      have hnk : gk ≠ w2.heap.size := Nat.ne_of_lt hHeld.1.lt
      have hnv : gv ≠ w2.heap.size := Nat.ne_of_lt hHeld.2.lt
      refine hK.out _ _ ⟨hHeld.1.grown hga (by simp), hHeld.2.grown hga (by simp)⟩ (fun hHeld => ?_)
      clear hK K
      try simp only [Act.put, List.setIfInBounds_toArray, List.set_cons_zero, List.set_cons_succ]
      refine wpAnyH_ready (rs := [1]) (by kernel_rfl) (by simp) ?_
      refine AllReadyH.cons (o := { dst := some 12, op := .call { callee := .value (.func 46), args := #[.tmp 11], argTypes := #[22] }, type := 79, pos := "cbc.go:18", after := #[{ on := 0, ground := .data }], guard := none }) rfl (fun K hK => ?_) AllReadyH.nil
      rw [if_pos (by rfl)]
      go_simp
      refine (cnew_at _ k).mono ?_
      rintro _ wn ⟨gc, rfl, hcn, hgn, hsn⟩
      have hbl := hba.grown hgn (by simp)
      have hcl := hcn
      have hne : gc ≠ w2.heap.size := by have h1 := hba.lt; omega
      have hgl : w2.grownBy wn none := World.grownBy.trans (World.grownBy.trans (grown_drew (World.grownBy.refl _ _)) hga) hgn
      have hle : w2.heap.size ≤ w2.heap.size := Nat.le_refl _
      refine hK.out _ _ ⟨hHeld.1.grown hgn (by simp), hHeld.2.grown hgn (by simp)⟩ (fun hHeld => ?_)
      clear hK K
      try simp only [Act.put, List.setIfInBounds_toArray, List.set_cons_zero, List.set_cons_succ]
      clear hcn hgn hsn hba  hga hza
      refine wpAnyH_ready (rs := [4]) (by kernel_rfl) (by simp) ?_
      refine AllReadyH.cons (o := { dst := some 7, op := .assign (.tmp 12), type := 79, pos := "cbc.go:18", after := #[{ on := 1, ground := .data }, { on := 1, ground := .chain }, { on := 0, ground := .phase }, { on := 1, ground := .phase }, { on := 2, ground := .textOnly .lateStores }, { on := 3, ground := .phase }], guard := none }) rfl (fun K hK => ?_) AllReadyH.nil
      rw [if_pos (by rfl)]
      go_simp
      refine hK.out _ _ hHeld (fun hHeld => ?_)
      clear hK K
      try simp only [Act.put, List.setIfInBounds_toArray, List.set_cons_zero, List.set_cons_succ]
      refine wpAnyH_ready (rs := [5]) (by kernel_rfl) (by simp) ?_
      refine AllReadyH.cons (o := { dst := none, op := .store 48 (.tmp 8) (.tmp 13), type := 0, pos := "cbc.go:18", after := #[{ on := 3, ground := .data }, { on := 2, ground := .data }, { on := 4, ground := .chain }, { on := 0, ground := .phase }, { on := 1, ground := .phase }, { on := 2, ground := .phase }, { on := 3, ground := .phase }, { on := 4, ground := .phase }], guard := none }) rfl (fun K hK => ?_) AllReadyH.nil
      rw [if_pos (by rfl)]
      refine wp_store_row 48 _ _ rfl w2.heap.size (bytesOf v).toArray rfl rfl 48 _ hbl (bytes_size _) (bytes_same _ _) (all_oneCell_toArray (bytesOf_one _)) ?_
      refine hK.out _ _ ⟨hHeld.1.grown (grown_setRow _ _ _) (fun e => hnk (Option.some.inj e)), hHeld.2.grown (grown_setRow _ _ _) (fun e => hnv (Option.some.inj e))⟩ (fun hHeld => ?_)
      clear hK K
      refine wpAnyH_done (by kernel_rfl) ?_ _
      go_wp2_with (fail)
      go_meet
      case rel => exact ⟨gc, w2.heap.size, rfl, rfl, Blk.grown hcl (grown_setRow _ _ _) (fun e => hne (Option.some.inj e)), Blk.setRow hbl, hne, hle, World.grownBy.andThen hgl (grown_setRow _ _ _) (by rintro _ ⟨⟩; exact .inl hle)⟩
  case rest =>
    obtain ⟨gc, ga, rfl, rfl, hC, hA, hca, hga, hgc⟩ := hcut
    have hx3 : Byt wc ok A text := hx.grown (World.grownBy.trans HG2.out hgc) (fun b hb => ⟨hok b hb, by simp⟩)
    have hok3 : ∀ b, ok b → b < wc.heap.size := fun b hb => Nat.lt_of_lt_of_le (hok b hb) (World.grownBy.trans HG2.out hgc).size
    obtain ⟨l, hl⟩ : ∃ l, l = fillB text := ⟨_, rfl⟩
    obtain ⟨M, hM⟩ : ∃ M, M = n / 16 + 1 := ⟨_, rfl⟩
    obtain ⟨N, hN⟩ : ∃ N, N = 16 * M := ⟨_, rfl⟩
    have hll : l.length = N := by rw [hl, fillB_length, hn, hN, hM, Nat.mul_comm]
    have hlk : lockB (kn (k32 k)) v text = toB ((List.range M).map fun j => cv (aesLock (kn (k32 k))) v (st l) (j + 1)) := by rw [lockB_range, hn, ← hM, ← hl]
    have hlkl : (lockB (kn (k32 k)) v text).length = N := by rw [lockB_length, hn, hN, hM, Nat.mul_comm]
    have hM6 : M ≤ 62501 := by omega
    have HLKL := Lib.hid hlkl
    have HX3 := Lib.hid hx3
    have HOK3 := Lib.hid hok3
    have HN := Lib.hid hn
    have HC3 := Lib.hid hC
    have HA3 := Lib.hid hA
    have HCA := Lib.hid hca
    have HGA : Hid (w.heap.size ≤ ga) := Lib.hid (Nat.le_trans HG2.out.size hga)
    have HG3 : Hid (w.grownBy wc none) := Lib.hid (World.grownBy.trans HG2.out hgc)
    have HL := Lib.hid hl
    have HNM := Lib.hid hN
    have HLL := Lib.hid hll
    have HLK := Lib.hid hlk
    have HMX := Lib.hid hM6
    clear hx hok hn hx3 hok3 hC hA hca hga hgc HG1 HG2 HB1 HB2 HK2 hl hM hN hll hlk hlkl hM6
    go_wp2_with (go_at_call 47
                 refine (filled_any HX3.out HOK3.out HN.out hc hsz).mono ?_
                 rintro _ w4 ⟨gb, post, rfl, hb4, hgb, hg4⟩
                 rw [← HL.out] at hb4
                 rw [← HL.out, HLL.out]
                 have HB4 := Lib.hid hb4
                 have HC4 : Hid (Cip w4 gc (k32 k)) := Lib.hid (HC3.out.grown hg4)
                 have HA4 := Lib.hid (HA3.out.grown hg4 (by simp))
                 have HAB : Hid (ga ≠ gb) := Lib.hid (by have h1 := HA3.out.lt; omega)
                 have HCB : Hid (gc ≠ gb) := Lib.hid (by have h1 : gc < wc.heap.size := Blk.lt HC3.out; omega)
                 have HGB : Hid (w.heap.size ≤ gb) := Lib.hid (Nat.le_trans HG3.out.size hgb)
                 have HG4 : Hid (w.grownBy w4 none) := Lib.hid (World.grownBy.trans HG3.out hg4)
                 clear hb4 hgb hg4)
    clear HX3 HOK3 HN HC3 HA3 HG3
    obtain ⟨E, hE⟩ : ∃ E, E = aesLock (kn (k32 k)) := ⟨_, rfl⟩
    have HE := Lib.hid hE
    clear hE
    go_loopw [10] (fun x wr => ∃ m : Nat, m ≤ M ∧ x = .int .i64 ((16 * m : Nat) : Int) ∧ LkC w gc ga gb (k32 k) E v l post m wr) (fun x _ => 16 * M - (intOf x).toNat)
    case atStart => exact ⟨0, Nat.zero_le _, rfl, HC4.out, HA4.out, HB4.out, HG4.out⟩
    case round =>
      clear HC4 HA4 HB4 HG4
      obtain ⟨m, hm', rfl, hR⟩ := hrel
      by_cases hlt : m < M
      · have HR := Lib.hid hR
        have hnm := HNM.out
        have hmx := HMX.out
        obtain ⟨at_, hat⟩ : ∃ q, q = 16 * m := ⟨_, rfl⟩
        rw [← hat]
        have e1 : (at_ : Int) < (N : Int) := by omega
        have e2 : at_ + 16 ≤ N := by omega
        have e3 : at_ < N := by omega
        have e4 : 16 ≤ N - at_ := by omega
        obtain ⟨at2, hat2⟩ : ∃ q, q = at_ + 16 := ⟨_, rfl⟩
        have g1 : (at_ : Int) + 16 = (at2 : Int) := by omega
        have g2 := i64_keep at2 (by omega)
        have HA2 : Hid (at2 = 16 * (m + 1)) := Lib.hid (by omega)
        have HAT := Lib.hid hat
        have HLT := Lib.hid hlt
        have HE2 := Lib.hid e2
        have HE3 := Lib.hid e3
        have HE4 := Lib.hid e4
        clear hR hlt hat hm' hat2 hmx hnm e2 e3 e4
        obtain ⟨P, hP⟩ : ∃ P, P = cv E v (st l) m := ⟨_, rfl⟩
        obtain ⟨F, hF⟩ : ∃ F, F = st l m := ⟨_, rfl⟩
        obtain ⟨T, hT⟩ : ∃ T, T = keyS P F := ⟨_, rfl⟩
        obtain ⟨X, hX⟩ : ∃ X, X = aesLock (kn (k32 k)) T := ⟨_, rfl⟩
        obtain ⟨pre, hpre⟩ : ∃ p, p = u8s (toB ((List.range m).map fun j => cv E v (st l) (j + 1))) := ⟨_, rfl⟩
        have hpl : pre.length = at_ := by rw [hpre, u8s_length, toB_range_length, HAT.out]
        have hR := HR.out
        have hPr : Blk wr ga 48 (bytesOf P) := by rw [hP]; exact hR.2.1
        have hBr : Blk wr gb 5 (pre ++ u8s (l.drop (16 * m)) ++ post) := hR.2.2.1.to (by rw [hpre, u8s_append])
        have hXc : cv E v (st l) (m + 1) = X := by rw [hX, hT, hP, hF, ← HE.out]; rfl
        have HCR : Hid (Cip wr gc (k32 k)) := Lib.hid hR.1
        have HPR := Lib.hid hPr
        have HBR := Lib.hid hBr
        have HGR : Hid (w.grownBy wr none) := Lib.hid hR.2.2.2
        have HXC := Lib.hid hXc
        have HF := Lib.hid hF
        have HT := Lib.hid hT
        have HX := Lib.hid hX
        have HPRE := Lib.hid hpre
        have HPL := Lib.hid hpl
        clear hR HR hP hF hT hX hpre hpl hPr hBr hXc
        go_wp2_with (fail)
        have hBP : ∀ w', Blk w' gb 5 (pre ++ u8s (l.drop (16 * m)) ++ post) → ∀ j v, (bytesOf F)[j]? = some v → w'.cell? ((⟨gb, at_, none⟩ : Addr).add j) = some v := fun w' h => by
          rw [HF.out]
          exact blk_at h HPL.out (by have h1 := HE2.out; have h2 := HAT.out; rw [HLL.out]; omega)
        refine wp_region_held_drew (S := fun w' => Cip w' gc (k32 k) ∧ Blk w' gb 5 (pre ++ u8s (l.drop (16 * m)) ++ post)) (by kernel_rfl) ⟨Blk.keep HCR.out rfl, HBR.out.keep rfl⟩ (fun hHeld => ?_)
        refine' wpAnyH_take (i := 0) (oi := { dst := some 22, op := Op.move (Operand.tmp 7), type := 79, pos := "cbc.go:21", after := #[], guard := none }) (v := .pointer (some ⟨gc, 0, none⟩)) rfl (by kernel_rfl) (by kernel_rfl) (by kernel_rfl) (fun _ _ _ h => h) (.inl ⟨by rfl, fun _ _ => rfl⟩) (by assumption) ?q0
        try simp only [Act.put, List.setIfInBounds_toArray, List.set_cons_zero, List.set_cons_succ]
        refine' wpAnyH_take (i := 1) (oi := { dst := some 23, op := Op.move (Operand.tmp 9), type := 23, pos := "cbc.go:21", after := #[], guard := none }) (v := .slice (some ⟨gb, 0, none⟩) N N) rfl (by kernel_rfl) (by kernel_rfl) (by kernel_rfl) (fun _ _ _ h => h) (.inl ⟨by rfl, fun _ _ => rfl⟩) (by assumption) ?q1
        try simp only [Act.put, List.setIfInBounds_toArray, List.set_cons_zero, List.set_cons_succ]
        refine' wpAnyH_take (i := 2) (oi := { dst := some 24, op := Op.move (Operand.tmp 10), type := 3, pos := "cbc.go:21", after := #[], guard := none }) (v := .int .i64 (at_ : Int)) rfl (by kernel_rfl) (by kernel_rfl) (by kernel_rfl) (fun _ _ _ h => h) (.inl ⟨by rfl, fun _ _ => rfl⟩) (by assumption) ?q2
        try simp only [Act.put, List.setIfInBounds_toArray, List.set_cons_zero, List.set_cons_succ]
        refine' wpAnyH_take (i := 3) (oi := { dst := some 25, op := Op.slice 23 (Operand.tmp 23) (some (Operand.tmp 24)) none none, type := 23, pos := "cbc.go:21", after := #[{ on := 1, ground := Ground.data }, { on := 2, ground := Ground.data }], guard := none }) (v := .slice (some ⟨gb, at_, none⟩) (N - at_) (N - at_)) rfl (by kernel_rfl) (by kernel_rfl) (by kernel_rfl) (fun _ _ _ h => h) (yieldsIf_from (by rfl) _ _ rfl ⟨gb, 0, none⟩ N N at_ rfl rfl HE3.out (Nat.le_refl _) (by rw [Addr.add_lit, Nat.zero_add])) (by assumption) ?q3
        try simp only [Act.put, List.setIfInBounds_toArray, List.set_cons_zero, List.set_cons_succ]
        refine' wpAnyH_take (i := 4) (oi := { dst := some 26, op := Op.sliceToArrayPointer 48 (Operand.tmp 25), type := 0, pos := "cbc.go:21", after := #[{ on := 3, ground := Ground.data }], guard := none }) (v := .pointer (some ⟨gb, at_, none⟩)) rfl (by kernel_rfl) (by kernel_rfl) (by kernel_rfl) (fun _ _ _ h => h) (yieldsIf_array (by rfl) _ rfl ⟨gb, at_, none⟩ (N - at_) (N - at_) rfl HE4.out) (by assumption) ?q4
        try simp only [Act.put, List.setIfInBounds_toArray, List.set_cons_zero, List.set_cons_succ]
        refine' wpAnyH_take (i := 5) (oi := { dst := some 27, op := Op.load 48 (Operand.tmp 26), type := 48, pos := "cbc.go:21", after := #[{ on := 4, ground := Ground.data }], guard := none }) (v := _) rfl (by kernel_rfl) (by kernel_rfl) (by kernel_rfl) (fun _ _ _ h => h) (yieldsIf_load_at (by rfl) _ rfl ⟨gb, at_, none⟩ rfl F (fun w' hs => hBP w' hs.2)) (by assumption) ?q5
        try simp only [Act.put, List.setIfInBounds_toArray, List.set_cons_zero, List.set_cons_succ]
        refine wpAnyH_ready (rs := [6]) (by kernel_rfl) (by simp) ?_
        refine AllReadyH.cons (o := { dst := some 28, op := Op.load 48 (Operand.tmp 8), type := 48, pos := "cbc.go:21", after := #[], guard := none }) rfl (fun K hK => ?_) AllReadyH.nil
        rw [if_pos (by rfl)]
        refine wp_load_mid 48 _ rfl ga 0 rfl (bytesOf P) _ (range_blk (HPR.out.keep (w' := wr.drew) rfl)) Tryz.underlying48 rfl (bytes_size' P) ?_
        refine hK.out _ _ hHeld (fun hHeld => ?_)
        clear hK K
        try simp only [Act.put, List.setIfInBounds_toArray, List.set_cons_zero, List.set_cons_succ]
        refine wpAnyH_ready (rs := [7]) (by kernel_rfl) (by simp) ?_
        refine AllReadyH.cons (o := { dst := some 29, op := Op.call { callee := Callee.value (Operand.func 49), args := #[Operand.tmp 27, Operand.tmp 28], argTypes := #[48, 48] }, type := 48, pos := "cbc.go:21", after := #[{ on := 5, ground := Ground.data }, { on := 6, ground := Ground.data }], guard := none }) rfl (fun K hK => ?_) AllReadyH.nil
        rw [if_pos (by rfl)]
        go_simp
        refine (xor_any _ F P).mono ?_
        rintro _ w5 ⟨rfl, hg5⟩
        rw [← HT.out]
        have ha5 : Blk w5 ga 48 (bytesOf P) := (HPR.out.keep (w' := wr.drew) rfl).grown hg5 (by simp)
        have hr5 : w.grownBy w5 none := World.grownBy.trans (grown_drew HGR.out) hg5
        refine hK.out _ _ ⟨hHeld.1.grown hg5, hHeld.2.grown hg5 (by simp)⟩ (fun hHeld => ?_)
        clear hK K
        try simp only [Act.put, List.setIfInBounds_toArray, List.set_cons_zero, List.set_cons_succ]
        refine wpAnyH_ready (rs := [8]) (by kernel_rfl) (by simp) ?_
        refine AllReadyH.cons (o := { dst := some 30, op := Op.call { callee := Callee.value (Operand.func 48), args := #[Operand.tmp 22, Operand.tmp 29], argTypes := #[79, 48] }, type := 48, pos := "cbc.go:21", after := #[{ on := 0, ground := Ground.data }, { on := 7, ground := Ground.data }, { on := 7, ground := Ground.chain }], guard := none }) rfl (fun K hK => ?_) AllReadyH.nil
        rw [if_pos (by rfl)]
        go_simp
        refine (clock_any hHeld.1 T).mono ?_
        rintro _ w6 ⟨rfl, hg6⟩
        rw [← HX.out]
        have ha6 := ha5.grown hg6 (by simp)
        have hr6 : w.grownBy w6 none := World.grownBy.trans hr5 hg6
        refine hK.out _ _ ⟨hHeld.1.grown hg6, hHeld.2.grown hg6 (by simp)⟩ (fun hHeld => ?_)
        clear hK K
        try simp only [Act.put, List.setIfInBounds_toArray, List.set_cons_zero, List.set_cons_succ]
        refine wpAnyH_ready (rs := [9]) (by kernel_rfl) (by simp) ?_
        refine AllReadyH.cons (o := { dst := none, op := Op.store 48 (Operand.tmp 8) (Operand.tmp 30), type := 0, pos := "cbc.go:21", after := #[{ on := 8, ground := Ground.data }, { on := 8, ground := Ground.chain }, { on := 0, ground := Ground.phase }, { on := 1, ground := Ground.phase }, { on := 2, ground := Ground.phase }, { on := 3, ground := Ground.phase }, { on := 4, ground := Ground.phase }, { on := 5, ground := Ground.phase }, { on := 6, ground := Ground.phase }, { on := 7, ground := Ground.phase }, { on := 8, ground := Ground.phase }], guard := none }) rfl (fun K hK => ?_) AllReadyH.nil
        rw [if_pos (by rfl)]
        refine wp_store_row 48 _ _ rfl ga (bytesOf X).toArray rfl rfl 48 _ ha6 (bytes_size _) (bytes_same _ _) (all_oneCell_toArray (bytesOf_one _)) ?_
        obtain ⟨w7, hw7⟩ : ∃ w7, w7 = w6.setRow ga (bytesOf X).toArray := ⟨_, rfl⟩
        have hb7 : Blk w7 ga 48 (bytesOf X) := by rw [hw7]; exact Blk.setRow ha6
        have hg7 : w6.grownBy w7 (some ga) := by rw [hw7]; exact grown_setRow _ _ _
        rw [← hw7]
        refine hK.out _ _ ⟨Blk.grown hHeld.1 hg7 (fun e => HCA.out (Option.some.inj e)), hHeld.2.grown hg7 (fun e => HAB.out (Option.some.inj e).symm)⟩ (fun hHeld => ?_)
        clear hK K
        refine wpAnyH_done (by kernel_rfl) ?_ _
        have HC7 : Hid (Cip w7 gc (k32 k)) := Lib.hid hHeld.1
        have HB7 : Hid (Blk w7 gb 5 (pre ++ u8s (l.drop (16 * m)) ++ post)) := Lib.hid hHeld.2
        have HA7 := Lib.hid hb7
        have HG7 : Hid (w.grownBy w7 none) := Lib.hid (World.grownBy.andThen hr6 hg7 (by rintro _ ⟨⟩; exact .inl HGA.out))
        clear hHeld hw7 hb7 hg7 ha6 ha5 hr5 hr6 hg5 hg6 hBP HPR HBR HCR HGR
        simp only [Act.put]
        have i1 : (0 : Int) ≤ (at_ : Int) := by omega
        have i2 : (at_ : Int) ≤ (N : Int) := by omega
        have i3 : ¬ N = at_ := by have := HE3.out; omega
        have hbd : Blk w7.drew gb 5 (pre ++ u8s (l.drop (16 * m)) ++ post) := HB7.out.keep rfl
        have hxd : Byt w7.drew (fun b => b = ga) (some ⟨ga, 0, none⟩) (bl X) := (byt_blk (HA7.out.to (bytesOf_bl X))).keep (fun _ _ => rfl)
        have hld : (l.drop (16 * m)).length = N - at_ := by rw [List.length_drop, HLL.out, HAT.out]
        have hm1 : Nat.min (bl X).length (l.drop (16 * m)).length = 16 := by rw [bl_length, hld]; exact Nat.min_eq_left HE4.out
        have hm0 : 0 < Nat.min (bl X).length (l.drop (16 * m)).length := by rw [hm1]; decide
        have HBD := Lib.hid hbd
        have HXD := Lib.hid hxd
        have HLD := Lib.hid hld
        have HM1 := Lib.hid hm1
        have HM0 := Lib.hid hm0
        clear hbd hxd hld hm1 hm0
        go_wp2_with (fail)
        go_region_law (first
          | (refine step_copy_blk rfl (.tmp 33) (.tmp 34) rfl gb at_ (N - at_) (N - at_) 16 16 (some ⟨ga, 0, none⟩) (bl X) (l.drop (16 * m)) (by simp [Act.eval, Act.put]) (by simp [Act.eval, Act.put]) (bl_length X) HLD.out HM0.out 5 pre post HBD.out HPL.out (fun b => b = ga) HXD.out 16 HM1.out ?_; intro w8 hb8 hg8 hz8)
          | fail)
        have hR8 : LkC w gc ga gb (k32 k) E v l post (m + 1) w8 := by
          refine ⟨Blk.grown (Blk.keep (w' := w7.drew) HC7.out rfl) hg8 (fun e => HCB.out (Option.some.inj e)), ?_, ?_, World.grownBy.andThen (grown_drew HG7.out) hg8 (by rintro _ ⟨⟩; exact .inl HGB.out)⟩
          · rw [HXC.out]
            exact Blk.grown (HA7.out.keep (w' := w7.drew) rfl) hg8 (fun e => HAB.out (Option.some.inj e))
          · refine hb8.to ?_
            rw [lay_drop X l m (by have h1 := HE2.out; have h2 := HAT.out; rw [HLL.out]; omega), HPRE.out, ← u8s_append, ← List.append_assoc, ← HXC.out, ← toB_range]
        have HR8 := Lib.hid hR8
        clear hR8 hb8 hg8 hz8 HBD HXD HC7 HB7 HA7 HG7
        go_wp2_with (fail)
        exact ⟨⟨m + 1, HLT.out, by rw [HA2.out], HR8.out⟩, by have h1 := HLT.out; have h2 := HAT.out; have h3 := HA2.out; simp [intOf]; omega⟩
      · have em : m = M := by omega
        subst em
        obtain ⟨_, _, hB, hG⟩ := hR
        have hnm := HNM.out
        have e1 : ¬ (((16 * m : Nat) : Int) < (N : Int)) := by omega
        have hb9 : Blk wr gb 5 (u8s (lockB (kn (k32 k)) v text) ++ post) := hB.to (by rw [HLK.out, ← HE.out, List.drop_eq_nil_of_le (by rw [HLL.out, hnm]; exact Nat.le_refl _), List.append_nil])
        have hb8 : Byt wr (fun b => b = gb) (some ⟨gb, 0, none⟩) (lockB (kn (k32 k)) v text) := Blk.byt (pre := []) hb9 rfl
        have HB8 : Hid (Byt wr (fun b => w.heap.size ≤ b ∧ b < wr.heap.size) (some ⟨gb, 0, none⟩) (lockB (kn (k32 k)) v text)) := Lib.hid (hb8.imp fun b e => by rw [e]; exact ⟨HGB.out, hb9.lt⟩)
        have HG9 := Lib.hid hG
        clear hB hG hb9 hb8 hnm hlt hm'
        go_wp2_with (fail)
        go_ret
        exact ⟨some ⟨gb, 0, none⟩, N, (by rw [HLKL.out]; rfl), by rw [HLKL.out]; exact Nat.le_refl _, by have h1 := HNM.out; have h2 := HMX.out; unfold maxLen; omega, HB8.out, HG9.out⟩
end Go.Proofs.YtkbffponemihoaaGreatDoor.C
