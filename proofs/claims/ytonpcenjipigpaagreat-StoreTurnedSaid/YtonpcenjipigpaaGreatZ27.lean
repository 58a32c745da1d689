/- The header that counts is found. Conditions: the disk isn't dead, it has two blocks at least. -/
import Derived.Test.YtonpcenjipigpaaGreatZ26
namespace Go.Proofs.YtonpcenjipigpaaGreat
open Go.RowKit
/-- The halves' headers from 'half' on, 'left' of them, behind what was found (whether, where, epoch, count, end). -/
def findL (B : List UInt8) (nh : Nat) : Nat → Nat → (Bool × Nat × Nat × Nat × Nat) → Option (Bool × Nat × Nat × Nat × Nat)
  | 0, _, S => some S
  | m + 1, half, S =>
    if (headT (blk B (half * nh)) nh).1 = 2 then findL B nh m (half + 1) S
    else if (headT (blk B (half * nh)) nh).1 ≠ 0 ∨ (S.1 = true ∧ (headT (blk B (half * nh)) nh).2.1 = S.2.2.1) then none
    else findL B nh m (half + 1) (if S.1 = false ∨ S.2.2.1 < (headT (blk B (half * nh)) nh).2.1 then (true, half, (headT (blk B (half * nh)) nh).2) else (true, S.2))
theorem headT_err (b : List UInt8) (h : Nat) : (headT b h).1 = 2 ∨ (headT b h).1 = 160 ∨ (headT b h).1 = 0 := by
  unfold headT
  split
  · exact .inl rfl
  · split
    · exact .inr (.inr rfl)
    · exact .inr (.inl rfl)
/-- How looking for the header ends. -/
def FindE (w : World) (sp dp : Nat) (mv : Value) (t : Option (Bool × Nat × Nat × Nat × Nat)) (r : Ending) (w' : World) : Prop :=
  w.grownBy w' (some sp) ∧ match t with
    | none => r = .returned (.int .i64 160)
    | some (fd, hf, e, c, n) => r = .returned (.int .i64 (if fd = true then 0 else 2)) ∧ Blk w' sp 75 (scells dp hf e c n mv)
theorem wp_store_agg {w : World} {o : Oper} {a : Act} {K : Act → World → Prop} {Q : Exit → Act → World → Prop} (ty : TypeId) (x y : Operand) (ho : o.op = .store ty x y) (b i : Nat) (vs : List Value) (hx : a.eval x = .pointer (some ⟨b, i, none⟩)) (hy : a.eval y = .agg vs.toArray) (h1 : ∀ u ∈ vs, u.oneCell' = true)
    (hs : (Tryz.prog.info? ty).map (·.size) = some vs.length) (cs : List Value) (t : TypeId) (hb : Blk w b t cs) (hi : i + vs.length ≤ cs.length)
    (h : ∀ w', Hid (Blk w' b t (cs.take i ++ vs ++ cs.drop (i + vs.length))) → Hid (Wr b w w') → K (a.put o.dst undef) w') : o.wp Tryz.prog a w K Q := by
  have hrun := run_storeAt_row w ty b i vs h1 cs t hb hi hs
  unfold Oper.wp execOp
  simp only [ho, hx, hy, Sem.run_bind, hrun, Sem.run_pure, Result.andThen_ok]
  exact h _ (setRow_heap w b _ _ t _ hb) (wr_setRow w b _)
theorem wp_load_hdr {w : World} {o : Oper} {a : Act} {K : Act → World → Prop} {Q : Exit → Act → World → Prop} (x : Operand) (ho : o.op = .load 73 x) (g e c n : Nat) (hx : a.eval x = .pointer (some ⟨g, 0, none⟩)) (hk : Blk w g 73 (hcells e c n)) (h : K (a.put o.dst (.agg (hcells e c n).toArray)) w) : o.wp Tryz.prog a w K Q :=
  wp_load_row 73 x ho g hx 73 (hcells e c n).toArray (0, 0) _ hk Tryz.underlying73 rfl (by kernel_rfl) h
set_option maxRecDepth 100000 in
set_option maxHeartbeats 1000000 in
theorem find_any {foot : Nat → Prop} {w : World} {sp dp hf0 e0 c0 n0 : Nat} {mv : Value} {s : St} (hb : Blk w sp 75 (scells dp hf0 e0 c0 n0 mv)) (hd : Dsk w foot dp s) (hdd : s.dead = false) (hn2 : 2 ≤ s.n) (hsf : ¬ foot sp) :
    Calls Tryz.prog 29 #[.pointer (some ⟨sp, 0, none⟩)] w (FindE w sp dp mv (findL s.img (s.n / 2) 2 0 (false, hf0, e0, c0, n0))) := by
  have hsl := hb.lt
  have hil : s.img.length = 64 * s.n := redo_length hd.ok.2.2.2.1 hd.ok.2.2.1
  have hdW : ∀ (W : World), w.grownBy W (some sp) → Dsk W foot dp s := fun W hW => hd.md (Md.of_grown (foot := fun j => j = sp) hW (fun r e => by cases e; rfl)) fun j hj e => hsf (by rw [← e]; exact hj)
  have kB : Hid (∀ (W : World) (hf e c n k : Nat), w.grownBy W (some sp) → Blk W sp 75 (scells dp hf e c n mv) → k ≤ 1 → Calls Tryz.prog 53 #[.pointer (some ⟨sp, 0, none⟩), .int .i64 (k : Int), .int .u64 0] W (BlockE W (blk s.img (k * (s.n / 2)))) ∧ (blk s.img (k * (s.n / 2))).length = 64) := Lib.hid fun W hf e c n k hW hB hk => by
    have h1 : k * (s.n / 2) ≤ s.n / 2 := by
      have := Nat.mul_le_mul hk (Nat.le_refl (s.n / 2))
      omega
    exact ⟨block_sto (half := hf) ⟨e, c, n, mv, hB⟩ (hdW W hW) k 0 _ hk (by decide) rfl (by omega) hdd, blk_length hil (by omega)⟩
  have kS : Hid (∀ (W : World) (hf e c n : Nat), w.grownBy W (some sp) → Blk W sp 75 (scells dp hf e c n mv) → Calls Tryz.prog 54 #[.pointer (some ⟨sp, 0, none⟩)] W fun r w' => r = .returned (.int .u64 (s.n / 2 : Nat)) ∧ W = w') := Lib.hid fun W hf e c n hW hB => size_sto (half := hf) ⟨e, c, n, mv, hB⟩ (hdW W hW)
  obtain ⟨B, hB⟩ : ∃ B, B = s.img := ⟨_, rfl⟩
  obtain ⟨nh, hnh⟩ : ∃ nh, nh = s.n / 2 := ⟨_, rfl⟩
  rw [← hB, ← hnh] at kB ⊢
  rw [← hnh] at kS
  obtain ⟨T, hT⟩ : ∃ T, T = findL B nh 2 0 (false, hf0, e0, c0, n0) := ⟨_, rfl⟩
  rw [← hT]
  have HT := Lib.hid hT
  have HB := Lib.hid hb
  clear hd hdd hb hB hnh hT hn2 hdW hil
  go_enter Tryz.func29, Tryz.ntmps29
  go_wp2
  go_loopw [3, 7] (fun x y wr => ∃ (k hf e c n fv : Nat) (fd : Bool), k ≤ 2 ∧ y = .int .i64 (k : Int) ∧ x = .int .i64 (fv : Int) ∧ Hid (fv = if fd = true then 0 else 2) ∧ T = findL B nh (2 - k) k (fd, hf, e, c, n) ∧ Blk wr sp 75 (scells dp hf e c n mv) ∧ w.grownBy wr (some sp)) (fun _ y _ => 2 - (intOf y).toNat)
  case atStart => exact ⟨0, hf0, e0, c0, n0, 2, false, by decide, rfl, rfl, Lib.hid rfl, HT.out, HB.out, World.grownBy.refl _ _⟩
  case round =>
    obtain ⟨k, hf, e, c, n, fv, fd, hk, rfl, rfl, HFV, hTT, hbr, hg⟩ := hrel
    by_cases hlt : k < 2
    · obtain ⟨hblk, hbl⟩ := kB.out wr hf e c n k hg hbr (by omega)
      obtain ⟨b, hb⟩ : ∃ b, b = blk B (k * nh) := ⟨_, rfl⟩
      rw [show 2 - k = (2 - (k + 1)) + 1 by omega, findL, ← hb] at hTT
      rw [← hb] at hblk hbl
      obtain ⟨er, e', c', n', ht⟩ : ∃ er e' c' n', headT b nh = (er, e', c', n') := ⟨_, _, _, _, rfl⟩
      have her := headT_err b nh
      rw [ht] at hTT her
      dsimp only at hTT her
      have kH : Hid (∀ (W : World) (g : Nat), Blk W g 5 (u8s b) → Calls Tryz.prog 52 #[.slice (some ⟨g, 0, none⟩) 64 64, .int .u64 (nh : Int)] W (HeadE W (er, e', c', n'))) := Lib.hid fun W g hg => by
        rw [← ht]
        exact headerOf_any hg hbl
      have HG := Lib.hid hg
      have HBR := Lib.hid hbr
      have HTT := Lib.hid hTT
      have hsr : sp < wr.heap.size := hbr.lt
      clear hg hbr hTT ht hb hbl
      by_cases h2 : er = 2
      · subst h2
        have HTN : Hid (T = findL B nh (2 - (k + 1)) (k + 1) (fd, hf, e, c, n)) := Lib.hid (by rw [HTT.out, if_pos rfl])
        clear HTT her
        go_wp2_with (first
          | (go_at_call 53; (with_reducible refine hblk.mono ?_); rintro _ w1 ⟨g1, rfl, hb1, hg1, hgr1⟩
             have hG1 := World.grownBy.andThen (row' := none) HG.out hgr1 (by simp)
             have hS1 := HBR.out.grown hgr1 (by simp))
          | (go_at_call 54; (with_reducible refine (kS.out w1 _ _ _ _ hG1 hS1).mono ?_); rintro _ _ ⟨rfl, rfl⟩)
          | (go_at_call 52; (with_reducible refine (kH.out _ g1 hb1).mono ?_); rintro _ w2 ⟨rfl, hgr2⟩
             have hG2 := World.grownBy.andThen (row' := none) hG1 hgr2 (by simp)
             have hS2 := hS1.grown hgr2 (by simp)
             have hbox := Blk.of_alloc w2 #[.int .u64 0, .int .u64 0, .int .u64 0] 73
             have hS3 := hS2.grown (World.grownBy_alloc w2 (.cells #[.int .u64 0, .int .u64 0, .int .u64 0] 73) none) (by simp)
             have hG3 := World.grownBy.andThen (row' := none) hG2 (World.grownBy_alloc w2 (.cells #[.int .u64 0, .int .u64 0, .int .u64 0] 73) none) (by simp))
          | (refine wpList_store_agg rfl 73 _ _ rfl w2.heap.size 0 (hcells e' c' n') rfl rfl (hcells_one _ _ _) size56 _ _ hbox (by simp [hcells]) ?_; intro w5 k5 r5
             have hS5 := hS3.keep (r5.out.block sp (by have := hS2.lt; omega))
             have hG5 := World.grownBy.andThen (row' := some w2.heap.size) hG3 r5.out.grown (by rintro j ⟨⟩; left; exact Nat.le_trans HG.out.size (Nat.le_trans hgr1.size hgr2.size))
             have K5 : Hid (Blk w5 w2.heap.size 73 (hcells e' c' n')) := Lib.hid (by have := k5.out; simpa [hcells] using this)
             have hh0 : w5.cell? ⟨w2.heap.size, 0, none⟩ = some (.int .u64 (e' : Int)) := K5.out.get 0 _ rfl
             have hs2 := hS5.get 2 _ rfl
             have HG5 := Lib.hid hG5
             have HS5 := Lib.hid hS5
             have hne2 : sp < w2.heap.size := hS2.lt
             clear hbox k5 r5 hS3 hG3 hS2 hG2 hS1 hG1 hgr1 hgr2 hb1 hg1 hS5 hG5)
          | fail)
        go_roundw
        case rel => exact ⟨k + 1, hf, e, c, n, fv, fd, hlt, by simp, rfl, HFV, HTN.out, HS5.out, HG5.out⟩
        case measure => simp [intOf]; omega
      · by_cases h0 : er = 0
        · subst h0
          by_cases h3 : fd = true ∧ e' = e
          · obtain ⟨rfl, rfl⟩ := h3
            have HTN : Hid (T = none) := Lib.hid (by rw [HTT.out, if_neg (by decide), if_pos (.inr ⟨rfl, rfl⟩)])
            obtain rfl : fv = 0 := HFV.out
            clear HTT her h2 HFV
            go_wp2_with (first
          | (go_at_call 53; (with_reducible refine hblk.mono ?_); rintro _ w1 ⟨g1, rfl, hb1, hg1, hgr1⟩
             have hG1 := World.grownBy.andThen (row' := none) HG.out hgr1 (by simp)
             have hS1 := HBR.out.grown hgr1 (by simp))
          | (go_at_call 54; (with_reducible refine (kS.out w1 _ _ _ _ hG1 hS1).mono ?_); rintro _ _ ⟨rfl, rfl⟩)
          | (go_at_call 52; (with_reducible refine (kH.out _ g1 hb1).mono ?_); rintro _ w2 ⟨rfl, hgr2⟩
             have hG2 := World.grownBy.andThen (row' := none) hG1 hgr2 (by simp)
             have hS2 := hS1.grown hgr2 (by simp)
             have hbox := Blk.of_alloc w2 #[.int .u64 0, .int .u64 0, .int .u64 0] 73
             have hS3 := hS2.grown (World.grownBy_alloc w2 (.cells #[.int .u64 0, .int .u64 0, .int .u64 0] 73) none) (by simp)
             have hG3 := World.grownBy.andThen (row' := none) hG2 (World.grownBy_alloc w2 (.cells #[.int .u64 0, .int .u64 0, .int .u64 0] 73) none) (by simp))
          | (refine wpList_store_agg rfl 73 _ _ rfl w2.heap.size 0 (hcells e' c' n') rfl rfl (hcells_one _ _ _) size56 _ _ hbox (by simp [hcells]) ?_; intro w5 k5 r5
             have hS5 := hS3.keep (r5.out.block sp (by have := hS2.lt; omega))
             have hG5 := World.grownBy.andThen (row' := some w2.heap.size) hG3 r5.out.grown (by rintro j ⟨⟩; left; exact Nat.le_trans HG.out.size (Nat.le_trans hgr1.size hgr2.size))
             have K5 : Hid (Blk w5 w2.heap.size 73 (hcells e' c' n')) := Lib.hid (by have := k5.out; simpa [hcells] using this)
             have hh0 : w5.cell? ⟨w2.heap.size, 0, none⟩ = some (.int .u64 (e' : Int)) := K5.out.get 0 _ rfl
             have hs2 := hS5.get 2 _ rfl
             have HG5 := Lib.hid hG5
             have HS5 := Lib.hid hS5
             have hne2 : sp < w2.heap.size := hS2.lt
             clear hbox k5 r5 hS3 hG3 hS2 hG2 hS1 hG1 hgr1 hgr2 hb1 hg1 hS5 hG5)
          | fail)
            go_region
            all_goals
              go_wp2
              go_ret
              rw [HTN.out]
              exact ⟨World.grownBy.andThen (row' := none) HG5.out (grown_drewN 1 : w5.grownBy w5.drew none) (by simp), rfl⟩
          · cases fd with
            | false =>
              have HTN : Hid (T = findL B nh (2 - (k + 1)) (k + 1) (true, k, e', c', n')) := Lib.hid (by rw [HTT.out, if_neg (by decide), if_neg (by simp), if_pos (.inl rfl)])
              obtain rfl : fv = 2 := HFV.out
              clear HTT her h2 HFV h3
              go_wp2_with (first
          | (go_at_call 53; (with_reducible refine hblk.mono ?_); rintro _ w1 ⟨g1, rfl, hb1, hg1, hgr1⟩
             have hG1 := World.grownBy.andThen (row' := none) HG.out hgr1 (by simp)
             have hS1 := HBR.out.grown hgr1 (by simp))
          | (go_at_call 54; (with_reducible refine (kS.out w1 _ _ _ _ hG1 hS1).mono ?_); rintro _ _ ⟨rfl, rfl⟩)
          | (go_at_call 52; (with_reducible refine (kH.out _ g1 hb1).mono ?_); rintro _ w2 ⟨rfl, hgr2⟩
             have hG2 := World.grownBy.andThen (row' := none) hG1 hgr2 (by simp)
             have hS2 := hS1.grown hgr2 (by simp)
             have hbox := Blk.of_alloc w2 #[.int .u64 0, .int .u64 0, .int .u64 0] 73
             have hS3 := hS2.grown (World.grownBy_alloc w2 (.cells #[.int .u64 0, .int .u64 0, .int .u64 0] 73) none) (by simp)
             have hG3 := World.grownBy.andThen (row' := none) hG2 (World.grownBy_alloc w2 (.cells #[.int .u64 0, .int .u64 0, .int .u64 0] 73) none) (by simp))
          | (refine wpList_store_agg rfl 73 _ _ rfl w2.heap.size 0 (hcells e' c' n') rfl rfl (hcells_one _ _ _) size56 _ _ hbox (by simp [hcells]) ?_; intro w5 k5 r5
             have hS5 := hS3.keep (r5.out.block sp (by have := hS2.lt; omega))
             have hG5 := World.grownBy.andThen (row' := some w2.heap.size) hG3 r5.out.grown (by rintro j ⟨⟩; left; exact Nat.le_trans HG.out.size (Nat.le_trans hgr1.size hgr2.size))
             have K5 : Hid (Blk w5 w2.heap.size 73 (hcells e' c' n')) := Lib.hid (by have := k5.out; simpa [hcells] using this)
             have hh0 : w5.cell? ⟨w2.heap.size, 0, none⟩ = some (.int .u64 (e' : Int)) := K5.out.get 0 _ rfl
             have hs2 := hS5.get 2 _ rfl
             have HG5 := Lib.hid hG5
             have HS5 := Lib.hid hS5
             have hne2 : sp < w2.heap.size := hS2.lt
             clear hbox k5 r5 hS3 hG3 hS2 hG2 hS1 hG1 hgr1 hgr2 hb1 hg1 hS5 hG5)
          | fail)
              go_region
              have HNE : Hid (w2.heap.size ≠ sp) := Lib.hid (by omega)
              go_wp2
              refine wp_region_held_drew (S := fun _ => True) (by kernel_rfl) trivial (fun hHeld => ?_)
              refine' wpAnyH_take (i := 0) (oi := { dst := some 48, op := Op.move (Operand.tmp 0), type := 28, pos := "store.go:96", after := #[], guard := none }) (v := .pointer (some ⟨sp, 0, none⟩)) rfl (by kernel_rfl) (by kernel_rfl) (by kernel_rfl) (fun _ _ _ h => h) (Or.inl ⟨by rfl, fun w' hSw => by go_simp⟩) (by assumption) ?qz1
              try simp only [Act.put, List.setIfInBounds_toArray, List.set_cons_zero, List.set_cons_succ]
              refine' wpAnyH_take (i := 1) (oi := { dst := some 49, op := Op.move (Operand.tmp 0), type := 28, pos := "store.go:96", after := #[{ on := 6, ground := Ground.gcOnly Departure.lateStores }], guard := none }) (v := .pointer (some ⟨sp, 0, none⟩)) rfl (by kernel_rfl) (by kernel_rfl) (by kernel_rfl) (fun _ _ _ h => h) (Or.inl ⟨by rfl, fun w' hSw => by go_simp⟩) (by assumption) ?qz2
              try simp only [Act.put, List.setIfInBounds_toArray, List.set_cons_zero, List.set_cons_succ]
              refine' wpAnyH_take (i := 2) (oi := { dst := some 50, op := Op.move (Operand.tmp 4), type := 3, pos := "store.go:96", after := #[], guard := none }) (v := .int .i64 (k : Int)) rfl (by kernel_rfl) (by kernel_rfl) (by kernel_rfl) (fun _ _ _ h => h) (Or.inl ⟨by rfl, fun w' hSw => by go_simp⟩) (by assumption) ?qz3
              try simp only [Act.put, List.setIfInBounds_toArray, List.set_cons_zero, List.set_cons_succ]
              refine' wpAnyH_take (i := 4) (oi := { dst := some 52, op := Op.nilCheck (Operand.tmp 48), type := 0, pos := "store.go:96", after := #[{ on := 0, ground := Ground.data }, { on := 0, ground := Ground.phase }, { on := 1, ground := Ground.textOnly Departure.lateStores }, { on := 2, ground := Ground.phase }, { on := 3, ground := Ground.textOnly Departure.lateStores }], guard := none }) (v := .pointer (some ⟨sp, 0, none⟩)) rfl (by kernel_rfl) (by kernel_rfl) (by kernel_rfl) (fun _ _ _ h => h) (Or.inl ⟨by rfl, fun w' hSw => by go_simp⟩) (by assumption) ?qz4
              try simp only [Act.put, List.setIfInBounds_toArray, List.set_cons_zero, List.set_cons_succ]
              refine' wpAnyH_take (i := 5) (oi := { dst := some 53, op := Op.fieldAddr 75 (Operand.tmp 52) 1, type := 0, pos := "store.go:96", after := #[{ on := 4, ground := Ground.data }, { on := 0, ground := Ground.phase }, { on := 1, ground := Ground.textOnly Departure.lateStores }, { on := 2, ground := Ground.phase }, { on := 3, ground := Ground.textOnly Departure.lateStores }], guard := none }) (v := .pointer (some ⟨sp, 1, none⟩)) rfl (by kernel_rfl) (by kernel_rfl) (by kernel_rfl) (fun _ _ _ h => h) (Or.inl ⟨by rfl, fun w' hSw => by go_simp⟩) (by assumption) ?qz5
              try simp only [Act.put, List.setIfInBounds_toArray, List.set_cons_zero, List.set_cons_succ]
              refine wpAnyH_ready (rs := [3, 6]) (by kernel_rfl) (by simp) ?_
              refine AllReadyH.cons (o := { dst := some 51, op := Op.load 73 (Operand.tmp 5), type := 73, pos := "store.go:96", after := #[{ on := 6, ground := Ground.gcOnly Departure.lateStores }], guard := none }) rfl (fun K hK => ?_) (AllReadyH.cons (o := { dst := none, op := Op.store 3 (Operand.tmp 53) (Operand.tmp 50), type := 0, pos := "store.go:96", after := #[{ on := 5, ground := Ground.data }, { on := 2, ground := Ground.data }, { on := 0, ground := Ground.phase }, { on := 1, ground := Ground.textOnly Departure.lateStores }, { on := 2, ground := Ground.phase }, { on := 3, ground := Ground.textOnly Departure.lateStores }], guard := none }) rfl (fun K hK => ?_) AllReadyH.nil)
              · rw [if_pos (by rfl)]
                refine wp_load_hdr _ rfl w2.heap.size e' c' n' rfl (K5.out) ?_
                refine hK.out _ _ trivial (fun hHeld => ?_)
                clear hK K
                try simp only [Act.put, List.setIfInBounds_toArray, List.set_cons_zero, List.set_cons_succ]
                refine wpAnyH_ready (rs := [6]) (by kernel_rfl) (by simp) ?_
                refine AllReadyH.cons (o := { dst := none, op := Op.store 3 (Operand.tmp 53) (Operand.tmp 50), type := 0, pos := "store.go:96", after := #[{ on := 5, ground := Ground.data }, { on := 2, ground := Ground.data }, { on := 0, ground := Ground.phase }, { on := 1, ground := Ground.textOnly Departure.lateStores }, { on := 2, ground := Ground.phase }, { on := 3, ground := Ground.textOnly Departure.lateStores }], guard := none }) rfl (fun K hK => ?_) AllReadyH.nil
                rw [if_pos (by rfl)]
                refine wp_store_cell 3 _ _ rfl size3 sp 1 (.int .i64 (k : Int)) rfl rfl rfl _ _ HS5.out (by simp [scells]) (fun wz6 kz7 rz8 => ?_)
                have hhz9 : Blk wz6 w2.heap.size 73 (hcells e' c' n') := K5.out.keep (rz8.out.block w2.heap.size HNE.out)
                refine hK.out _ _ trivial (fun hHeld => ?_)
                clear hK K
                dsimp only [Act.put]
                refine' wpAnyH_take (i := 7) (oi := { dst := some 54, op := Op.nilCheck (Operand.tmp 49), type := 0, pos := "store.go:96", after := #[{ on := 1, ground := Ground.data }, { on := 0, ground := Ground.phase }, { on := 1, ground := Ground.phase }, { on := 2, ground := Ground.phase }, { on := 3, ground := Ground.phase }, { on := 4, ground := Ground.phase }, { on := 5, ground := Ground.phase }, { on := 6, ground := Ground.phase }], guard := none }) (v := .pointer (some ⟨sp, 0, none⟩)) rfl (by kernel_rfl) (by kernel_rfl) (by kernel_rfl) (fun _ _ _ h => h) (Or.inl ⟨by rfl, fun w' hSw => by go_simp⟩) (by assumption) ?qz10
                try simp only [Act.put, List.setIfInBounds_toArray, List.set_cons_zero, List.set_cons_succ]
                refine' wpAnyH_take (i := 8) (oi := { dst := some 55, op := Op.fieldAddr 75 (Operand.tmp 54) 2, type := 0, pos := "store.go:96", after := #[{ on := 7, ground := Ground.data }, { on := 0, ground := Ground.phase }, { on := 1, ground := Ground.phase }, { on := 2, ground := Ground.phase }, { on := 3, ground := Ground.phase }, { on := 4, ground := Ground.phase }, { on := 5, ground := Ground.phase }, { on := 6, ground := Ground.phase }], guard := none }) (v := .pointer (some ⟨sp, 2, none⟩)) rfl (by kernel_rfl) (by kernel_rfl) (by kernel_rfl) (fun _ _ _ h => h) (Or.inl ⟨by rfl, fun w' hSw => by go_simp⟩) (by assumption) ?qz11
                try simp only [Act.put, List.setIfInBounds_toArray, List.set_cons_zero, List.set_cons_succ]
                refine wpAnyH_ready (rs := [9]) (by kernel_rfl) (by simp) ?_
                refine AllReadyH.cons (o := { dst := none, op := Op.store 73 (Operand.tmp 55) (Operand.tmp 51), type := 0, pos := "store.go:96", after := #[{ on := 8, ground := Ground.data }, { on := 3, ground := Ground.data }, { on := 6, ground := Ground.chain }, { on := 0, ground := Ground.phase }, { on := 1, ground := Ground.phase }, { on := 2, ground := Ground.phase }, { on := 3, ground := Ground.phase }, { on := 4, ground := Ground.phase }, { on := 5, ground := Ground.phase }, { on := 6, ground := Ground.phase }], guard := none }) rfl (fun K hK => ?_) AllReadyH.nil
                rw [if_pos (by rfl)]
                refine wp_store_agg 73 _ _ rfl sp 2 (hcells e' c' n') rfl rfl (hcells_one _ _ _) size56 _ _ kz7.out (by simp [hcells, scells]) (fun wz12 kz13 rz14 => ?_)
                refine hK.out _ _ trivial (fun hHeld => ?_)
                clear hK K
                dsimp only [Act.put]
                refine wpAnyH_done (by kernel_rfl) ?_ _
                have HK7 := kz13
                have HR6 := rz8
                have HR7 := rz14
                go_wp2
                go_roundw
                case rel =>
                  have hg7 := World.grownBy.andThen (row' := some sp) (World.grownBy.andThen (row' := some sp) (World.grownBy.andThen (row' := none) HG5.out (grown_drewN 2 : w5.grownBy (w5.drewN 2) none) (by simp)) HR6.out.grown (by intro j hj; exact .inr hj)) HR7.out.grown (by intro j hj; exact .inr hj)
                  exact ⟨k + 1, k, e', c', n', 0, true, hlt, by simp, rfl, Lib.hid rfl, HTN.out, by simpa [scells, hcells] using HK7.out, hg7⟩
                case measure => simp [intOf]; omega
              · rw [if_pos (by rfl)]
                refine wp_store_cell 3 _ _ rfl size3 sp 1 (.int .i64 (k : Int)) rfl rfl rfl _ _ HS5.out (by simp [scells]) (fun wz15 kz16 rz17 => ?_)
                have hhz18 : Blk wz15 w2.heap.size 73 (hcells e' c' n') := K5.out.keep (rz17.out.block w2.heap.size HNE.out)
                refine hK.out _ _ trivial (fun hHeld => ?_)
                clear hK K
                dsimp only [Act.put]
                refine wpAnyH_ready (rs := [3]) (by kernel_rfl) (by simp) ?_
                refine AllReadyH.cons (o := { dst := some 51, op := Op.load 73 (Operand.tmp 5), type := 73, pos := "store.go:96", after := #[{ on := 6, ground := Ground.gcOnly Departure.lateStores }], guard := none }) rfl (fun K hK => ?_) AllReadyH.nil
                rw [if_pos (by rfl)]
                refine wp_load_hdr _ rfl w2.heap.size e' c' n' rfl (hhz18) ?_
                refine hK.out _ _ trivial (fun hHeld => ?_)
                clear hK K
                try simp only [Act.put, List.setIfInBounds_toArray, List.set_cons_zero, List.set_cons_succ]
                refine' wpAnyH_take (i := 7) (oi := { dst := some 54, op := Op.nilCheck (Operand.tmp 49), type := 0, pos := "store.go:96", after := #[{ on := 1, ground := Ground.data }, { on := 0, ground := Ground.phase }, { on := 1, ground := Ground.phase }, { on := 2, ground := Ground.phase }, { on := 3, ground := Ground.phase }, { on := 4, ground := Ground.phase }, { on := 5, ground := Ground.phase }, { on := 6, ground := Ground.phase }], guard := none }) (v := .pointer (some ⟨sp, 0, none⟩)) rfl (by kernel_rfl) (by kernel_rfl) (by kernel_rfl) (fun _ _ _ h => h) (Or.inl ⟨by rfl, fun w' hSw => by go_simp⟩) (by assumption) ?qz19
                try simp only [Act.put, List.setIfInBounds_toArray, List.set_cons_zero, List.set_cons_succ]
                refine' wpAnyH_take (i := 8) (oi := { dst := some 55, op := Op.fieldAddr 75 (Operand.tmp 54) 2, type := 0, pos := "store.go:96", after := #[{ on := 7, ground := Ground.data }, { on := 0, ground := Ground.phase }, { on := 1, ground := Ground.phase }, { on := 2, ground := Ground.phase }, { on := 3, ground := Ground.phase }, { on := 4, ground := Ground.phase }, { on := 5, ground := Ground.phase }, { on := 6, ground := Ground.phase }], guard := none }) (v := .pointer (some ⟨sp, 2, none⟩)) rfl (by kernel_rfl) (by kernel_rfl) (by kernel_rfl) (fun _ _ _ h => h) (Or.inl ⟨by rfl, fun w' hSw => by go_simp⟩) (by assumption) ?qz20
                try simp only [Act.put, List.setIfInBounds_toArray, List.set_cons_zero, List.set_cons_succ]
                refine wpAnyH_ready (rs := [9]) (by kernel_rfl) (by simp) ?_
                refine AllReadyH.cons (o := { dst := none, op := Op.store 73 (Operand.tmp 55) (Operand.tmp 51), type := 0, pos := "store.go:96", after := #[{ on := 8, ground := Ground.data }, { on := 3, ground := Ground.data }, { on := 6, ground := Ground.chain }, { on := 0, ground := Ground.phase }, { on := 1, ground := Ground.phase }, { on := 2, ground := Ground.phase }, { on := 3, ground := Ground.phase }, { on := 4, ground := Ground.phase }, { on := 5, ground := Ground.phase }, { on := 6, ground := Ground.phase }], guard := none }) rfl (fun K hK => ?_) AllReadyH.nil
                rw [if_pos (by rfl)]
                refine wp_store_agg 73 _ _ rfl sp 2 (hcells e' c' n') rfl rfl (hcells_one _ _ _) size56 _ _ kz16.out (by simp [hcells, scells]) (fun wz21 kz22 rz23 => ?_)
                refine hK.out _ _ trivial (fun hHeld => ?_)
                clear hK K
                dsimp only [Act.put]
                refine wpAnyH_done (by kernel_rfl) ?_ _
                have HK7 := kz22
                have HR6 := rz17
                have HR7 := rz23
                go_wp2
                go_roundw
                case rel =>
                  have hg7 := World.grownBy.andThen (row' := some sp) (World.grownBy.andThen (row' := some sp) (World.grownBy.andThen (row' := none) HG5.out (grown_drewN 2 : w5.grownBy (w5.drewN 2) none) (by simp)) HR6.out.grown (by intro j hj; exact .inr hj)) HR7.out.grown (by intro j hj; exact .inr hj)
                  exact ⟨k + 1, k, e', c', n', 0, true, hlt, by simp, rfl, Lib.hid rfl, HTN.out, by simpa [scells, hcells] using HK7.out, hg7⟩
                case measure => simp [intOf]; omega
            | true =>
              have hne : ¬ e' = e := fun h => h3 ⟨rfl, h⟩
              have hneI : ¬ (e' : Int) = (e : Int) := by omega
              obtain rfl : fv = 0 := HFV.out
              by_cases hlt2 : e < e'
              · have HTN : Hid (T = findL B nh (2 - (k + 1)) (k + 1) (true, k, e', c', n')) := Lib.hid (by rw [HTT.out, if_neg (by decide), if_neg (by rintro (h | ⟨_, h⟩); exact h rfl; exact hne h), if_pos (.inr hlt2)])
                clear HTT her h2 HFV h3 hne
                go_wp2_with (first
            | (go_at_call 53; (with_reducible refine hblk.mono ?_); rintro _ w1 ⟨g1, rfl, hb1, hg1, hgr1⟩
               have hG1 := World.grownBy.andThen (row' := none) HG.out hgr1 (by simp)
               have hS1 := HBR.out.grown hgr1 (by simp))
            | (go_at_call 54; (with_reducible refine (kS.out w1 _ _ _ _ hG1 hS1).mono ?_); rintro _ _ ⟨rfl, rfl⟩)
            | (go_at_call 52; (with_reducible refine (kH.out _ g1 hb1).mono ?_); rintro _ w2 ⟨rfl, hgr2⟩
               have hG2 := World.grownBy.andThen (row' := none) hG1 hgr2 (by simp)
               have hS2 := hS1.grown hgr2 (by simp)
               have hbox := Blk.of_alloc w2 #[.int .u64 0, .int .u64 0, .int .u64 0] 73
               have hS3 := hS2.grown (World.grownBy_alloc w2 (.cells #[.int .u64 0, .int .u64 0, .int .u64 0] 73) none) (by simp)
               have hG3 := World.grownBy.andThen (row' := none) hG2 (World.grownBy_alloc w2 (.cells #[.int .u64 0, .int .u64 0, .int .u64 0] 73) none) (by simp))
            | (refine wpList_store_agg rfl 73 _ _ rfl w2.heap.size 0 (hcells e' c' n') rfl rfl (hcells_one _ _ _) size56 _ _ hbox (by simp [hcells]) ?_; intro w5 k5 r5
               have hS5 := hS3.keep (r5.out.block sp (by have := hS2.lt; omega))
               have hG5 := World.grownBy.andThen (row' := some w2.heap.size) hG3 r5.out.grown (by rintro j ⟨⟩; left; exact Nat.le_trans HG.out.size (Nat.le_trans hgr1.size hgr2.size))
               have K5 : Hid (Blk w5 w2.heap.size 73 (hcells e' c' n')) := Lib.hid (by have := k5.out; simpa [hcells] using this)
               have hh0 : w5.cell? ⟨w2.heap.size, 0, none⟩ = some (.int .u64 (e' : Int)) := K5.out.get 0 _ rfl
               have hs2 := hS5.get 2 _ rfl
               have HG5 := Lib.hid hG5
               have HS5 := Lib.hid hS5
               have hne2 : sp < w2.heap.size := hS2.lt
               clear hbox k5 r5 hS3 hG3 hS2 hG2 hS1 hG1 hgr1 hgr2 hb1 hg1 hS5 hG5)
            | fail)
                go_region
                go_wp2
                go_region
                have HNE : Hid (w2.heap.size ≠ sp) := Lib.hid (by omega)
                go_wp2
                refine wp_region_held_drew (S := fun _ => True) (by kernel_rfl) trivial (fun hHeld => ?_)
                refine' wpAnyH_take (i := 0) (oi := { dst := some 48, op := Op.move (Operand.tmp 0), type := 28, pos := "store.go:96", after := #[], guard := none }) (v := .pointer (some ⟨sp, 0, none⟩)) rfl (by kernel_rfl) (by kernel_rfl) (by kernel_rfl) (fun _ _ _ h => h) (Or.inl ⟨by rfl, fun w' hSw => by go_simp⟩) (by assumption) ?qy1
                try simp only [Act.put, List.setIfInBounds_toArray, List.set_cons_zero, List.set_cons_succ]
                refine' wpAnyH_take (i := 1) (oi := { dst := some 49, op := Op.move (Operand.tmp 0), type := 28, pos := "store.go:96", after := #[{ on := 6, ground := Ground.gcOnly Departure.lateStores }], guard := none }) (v := .pointer (some ⟨sp, 0, none⟩)) rfl (by kernel_rfl) (by kernel_rfl) (by kernel_rfl) (fun _ _ _ h => h) (Or.inl ⟨by rfl, fun w' hSw => by go_simp⟩) (by assumption) ?qy2
                try simp only [Act.put, List.setIfInBounds_toArray, List.set_cons_zero, List.set_cons_succ]
                refine' wpAnyH_take (i := 2) (oi := { dst := some 50, op := Op.move (Operand.tmp 4), type := 3, pos := "store.go:96", after := #[], guard := none }) (v := .int .i64 (k : Int)) rfl (by kernel_rfl) (by kernel_rfl) (by kernel_rfl) (fun _ _ _ h => h) (Or.inl ⟨by rfl, fun w' hSw => by go_simp⟩) (by assumption) ?qy3
                try simp only [Act.put, List.setIfInBounds_toArray, List.set_cons_zero, List.set_cons_succ]
                refine' wpAnyH_take (i := 4) (oi := { dst := some 52, op := Op.nilCheck (Operand.tmp 48), type := 0, pos := "store.go:96", after := #[{ on := 0, ground := Ground.data }, { on := 0, ground := Ground.phase }, { on := 1, ground := Ground.textOnly Departure.lateStores }, { on := 2, ground := Ground.phase }, { on := 3, ground := Ground.textOnly Departure.lateStores }], guard := none }) (v := .pointer (some ⟨sp, 0, none⟩)) rfl (by kernel_rfl) (by kernel_rfl) (by kernel_rfl) (fun _ _ _ h => h) (Or.inl ⟨by rfl, fun w' hSw => by go_simp⟩) (by assumption) ?qy4
                try simp only [Act.put, List.setIfInBounds_toArray, List.set_cons_zero, List.set_cons_succ]
                refine' wpAnyH_take (i := 5) (oi := { dst := some 53, op := Op.fieldAddr 75 (Operand.tmp 52) 1, type := 0, pos := "store.go:96", after := #[{ on := 4, ground := Ground.data }, { on := 0, ground := Ground.phase }, { on := 1, ground := Ground.textOnly Departure.lateStores }, { on := 2, ground := Ground.phase }, { on := 3, ground := Ground.textOnly Departure.lateStores }], guard := none }) (v := .pointer (some ⟨sp, 1, none⟩)) rfl (by kernel_rfl) (by kernel_rfl) (by kernel_rfl) (fun _ _ _ h => h) (Or.inl ⟨by rfl, fun w' hSw => by go_simp⟩) (by assumption) ?qy5
                try simp only [Act.put, List.setIfInBounds_toArray, List.set_cons_zero, List.set_cons_succ]
                refine wpAnyH_ready (rs := [3, 6]) (by kernel_rfl) (by simp) ?_
                refine AllReadyH.cons (o := { dst := some 51, op := Op.load 73 (Operand.tmp 5), type := 73, pos := "store.go:96", after := #[{ on := 6, ground := Ground.gcOnly Departure.lateStores }], guard := none }) rfl (fun K hK => ?_) (AllReadyH.cons (o := { dst := none, op := Op.store 3 (Operand.tmp 53) (Operand.tmp 50), type := 0, pos := "store.go:96", after := #[{ on := 5, ground := Ground.data }, { on := 2, ground := Ground.data }, { on := 0, ground := Ground.phase }, { on := 1, ground := Ground.textOnly Departure.lateStores }, { on := 2, ground := Ground.phase }, { on := 3, ground := Ground.textOnly Departure.lateStores }], guard := none }) rfl (fun K hK => ?_) AllReadyH.nil)
                · rw [if_pos (by rfl)]
                  refine wp_load_hdr _ rfl w2.heap.size e' c' n' rfl (K5.out) ?_
                  refine hK.out _ _ trivial (fun hHeld => ?_)
                  clear hK K
                  try simp only [Act.put, List.setIfInBounds_toArray, List.set_cons_zero, List.set_cons_succ]
                  refine wpAnyH_ready (rs := [6]) (by kernel_rfl) (by simp) ?_
                  refine AllReadyH.cons (o := { dst := none, op := Op.store 3 (Operand.tmp 53) (Operand.tmp 50), type := 0, pos := "store.go:96", after := #[{ on := 5, ground := Ground.data }, { on := 2, ground := Ground.data }, { on := 0, ground := Ground.phase }, { on := 1, ground := Ground.textOnly Departure.lateStores }, { on := 2, ground := Ground.phase }, { on := 3, ground := Ground.textOnly Departure.lateStores }], guard := none }) rfl (fun K hK => ?_) AllReadyH.nil
                  rw [if_pos (by rfl)]
                  refine wp_store_cell 3 _ _ rfl size3 sp 1 (.int .i64 (k : Int)) rfl rfl rfl _ _ HS5.out (by simp [scells]) (fun wz6 kz7 rz8 => ?_)
                  have hhz9 : Blk wz6 w2.heap.size 73 (hcells e' c' n') := K5.out.keep (rz8.out.block w2.heap.size HNE.out)
                  refine hK.out _ _ trivial (fun hHeld => ?_)
                  clear hK K
                  dsimp only [Act.put]
                  refine' wpAnyH_take (i := 7) (oi := { dst := some 54, op := Op.nilCheck (Operand.tmp 49), type := 0, pos := "store.go:96", after := #[{ on := 1, ground := Ground.data }, { on := 0, ground := Ground.phase }, { on := 1, ground := Ground.phase }, { on := 2, ground := Ground.phase }, { on := 3, ground := Ground.phase }, { on := 4, ground := Ground.phase }, { on := 5, ground := Ground.phase }, { on := 6, ground := Ground.phase }], guard := none }) (v := .pointer (some ⟨sp, 0, none⟩)) rfl (by kernel_rfl) (by kernel_rfl) (by kernel_rfl) (fun _ _ _ h => h) (Or.inl ⟨by rfl, fun w' hSw => by go_simp⟩) (by assumption) ?qy10
                  try simp only [Act.put, List.setIfInBounds_toArray, List.set_cons_zero, List.set_cons_succ]
                  refine' wpAnyH_take (i := 8) (oi := { dst := some 55, op := Op.fieldAddr 75 (Operand.tmp 54) 2, type := 0, pos := "store.go:96", after := #[{ on := 7, ground := Ground.data }, { on := 0, ground := Ground.phase }, { on := 1, ground := Ground.phase }, { on := 2, ground := Ground.phase }, { on := 3, ground := Ground.phase }, { on := 4, ground := Ground.phase }, { on := 5, ground := Ground.phase }, { on := 6, ground := Ground.phase }], guard := none }) (v := .pointer (some ⟨sp, 2, none⟩)) rfl (by kernel_rfl) (by kernel_rfl) (by kernel_rfl) (fun _ _ _ h => h) (Or.inl ⟨by rfl, fun w' hSw => by go_simp⟩) (by assumption) ?qy11
                  try simp only [Act.put, List.setIfInBounds_toArray, List.set_cons_zero, List.set_cons_succ]
                  refine wpAnyH_ready (rs := [9]) (by kernel_rfl) (by simp) ?_
                  refine AllReadyH.cons (o := { dst := none, op := Op.store 73 (Operand.tmp 55) (Operand.tmp 51), type := 0, pos := "store.go:96", after := #[{ on := 8, ground := Ground.data }, { on := 3, ground := Ground.data }, { on := 6, ground := Ground.chain }, { on := 0, ground := Ground.phase }, { on := 1, ground := Ground.phase }, { on := 2, ground := Ground.phase }, { on := 3, ground := Ground.phase }, { on := 4, ground := Ground.phase }, { on := 5, ground := Ground.phase }, { on := 6, ground := Ground.phase }], guard := none }) rfl (fun K hK => ?_) AllReadyH.nil
                  rw [if_pos (by rfl)]
                  refine wp_store_agg 73 _ _ rfl sp 2 (hcells e' c' n') rfl rfl (hcells_one _ _ _) size56 _ _ kz7.out (by simp [hcells, scells]) (fun wz12 kz13 rz14 => ?_)
                  refine hK.out _ _ trivial (fun hHeld => ?_)
                  clear hK K
                  dsimp only [Act.put]
                  refine wpAnyH_done (by kernel_rfl) ?_ _
                  have HK7 := kz13
                  have HR6 := rz8
                  have HR7 := rz14
                  go_wp2
                  go_roundw
                  case rel =>
                    have hg7 := World.grownBy.andThen (row' := some sp) (World.grownBy.andThen (row' := some sp) (World.grownBy.andThen (row' := none) HG5.out (grown_drewN 3 : w5.grownBy (w5.drewN 3) none) (by simp)) HR6.out.grown (by intro j hj; exact .inr hj)) HR7.out.grown (by intro j hj; exact .inr hj)
                    exact ⟨k + 1, k, e', c', n', 0, true, hlt, by simp, rfl, Lib.hid rfl, HTN.out, by simpa [scells, hcells] using HK7.out, hg7⟩
                  case measure => simp [intOf]; omega
                · rw [if_pos (by rfl)]
                  refine wp_store_cell 3 _ _ rfl size3 sp 1 (.int .i64 (k : Int)) rfl rfl rfl _ _ HS5.out (by simp [scells]) (fun wz15 kz16 rz17 => ?_)
                  have hhz18 : Blk wz15 w2.heap.size 73 (hcells e' c' n') := K5.out.keep (rz17.out.block w2.heap.size HNE.out)
                  refine hK.out _ _ trivial (fun hHeld => ?_)
                  clear hK K
                  dsimp only [Act.put]
                  refine wpAnyH_ready (rs := [3]) (by kernel_rfl) (by simp) ?_
                  refine AllReadyH.cons (o := { dst := some 51, op := Op.load 73 (Operand.tmp 5), type := 73, pos := "store.go:96", after := #[{ on := 6, ground := Ground.gcOnly Departure.lateStores }], guard := none }) rfl (fun K hK => ?_) AllReadyH.nil
                  rw [if_pos (by rfl)]
                  refine wp_load_hdr _ rfl w2.heap.size e' c' n' rfl (hhz18) ?_
                  refine hK.out _ _ trivial (fun hHeld => ?_)
                  clear hK K
                  try simp only [Act.put, List.setIfInBounds_toArray, List.set_cons_zero, List.set_cons_succ]
                  refine' wpAnyH_take (i := 7) (oi := { dst := some 54, op := Op.nilCheck (Operand.tmp 49), type := 0, pos := "store.go:96", after := #[{ on := 1, ground := Ground.data }, { on := 0, ground := Ground.phase }, { on := 1, ground := Ground.phase }, { on := 2, ground := Ground.phase }, { on := 3, ground := Ground.phase }, { on := 4, ground := Ground.phase }, { on := 5, ground := Ground.phase }, { on := 6, ground := Ground.phase }], guard := none }) (v := .pointer (some ⟨sp, 0, none⟩)) rfl (by kernel_rfl) (by kernel_rfl) (by kernel_rfl) (fun _ _ _ h => h) (Or.inl ⟨by rfl, fun w' hSw => by go_simp⟩) (by assumption) ?qy19
                  try simp only [Act.put, List.setIfInBounds_toArray, List.set_cons_zero, List.set_cons_succ]
                  refine' wpAnyH_take (i := 8) (oi := { dst := some 55, op := Op.fieldAddr 75 (Operand.tmp 54) 2, type := 0, pos := "store.go:96", after := #[{ on := 7, ground := Ground.data }, { on := 0, ground := Ground.phase }, { on := 1, ground := Ground.phase }, { on := 2, ground := Ground.phase }, { on := 3, ground := Ground.phase }, { on := 4, ground := Ground.phase }, { on := 5, ground := Ground.phase }, { on := 6, ground := Ground.phase }], guard := none }) (v := .pointer (some ⟨sp, 2, none⟩)) rfl (by kernel_rfl) (by kernel_rfl) (by kernel_rfl) (fun _ _ _ h => h) (Or.inl ⟨by rfl, fun w' hSw => by go_simp⟩) (by assumption) ?qy20
                  try simp only [Act.put, List.setIfInBounds_toArray, List.set_cons_zero, List.set_cons_succ]
                  refine wpAnyH_ready (rs := [9]) (by kernel_rfl) (by simp) ?_
                  refine AllReadyH.cons (o := { dst := none, op := Op.store 73 (Operand.tmp 55) (Operand.tmp 51), type := 0, pos := "store.go:96", after := #[{ on := 8, ground := Ground.data }, { on := 3, ground := Ground.data }, { on := 6, ground := Ground.chain }, { on := 0, ground := Ground.phase }, { on := 1, ground := Ground.phase }, { on := 2, ground := Ground.phase }, { on := 3, ground := Ground.phase }, { on := 4, ground := Ground.phase }, { on := 5, ground := Ground.phase }, { on := 6, ground := Ground.phase }], guard := none }) rfl (fun K hK => ?_) AllReadyH.nil
                  rw [if_pos (by rfl)]
                  refine wp_store_agg 73 _ _ rfl sp 2 (hcells e' c' n') rfl rfl (hcells_one _ _ _) size56 _ _ kz16.out (by simp [hcells, scells]) (fun wz21 kz22 rz23 => ?_)
                  refine hK.out _ _ trivial (fun hHeld => ?_)
                  clear hK K
                  dsimp only [Act.put]
                  refine wpAnyH_done (by kernel_rfl) ?_ _
                  have HK7 := kz22
                  have HR6 := rz17
                  have HR7 := rz23
                  go_wp2
                  go_roundw
                  case rel =>
                    have hg7 := World.grownBy.andThen (row' := some sp) (World.grownBy.andThen (row' := some sp) (World.grownBy.andThen (row' := none) HG5.out (grown_drewN 3 : w5.grownBy (w5.drewN 3) none) (by simp)) HR6.out.grown (by intro j hj; exact .inr hj)) HR7.out.grown (by intro j hj; exact .inr hj)
                    exact ⟨k + 1, k, e', c', n', 0, true, hlt, by simp, rfl, Lib.hid rfl, HTN.out, by simpa [scells, hcells] using HK7.out, hg7⟩
                  case measure => simp [intOf]; omega
              · have HTN : Hid (T = findL B nh (2 - (k + 1)) (k + 1) (true, hf, e, c, n)) := Lib.hid (by rw [HTT.out, if_neg (by decide), if_neg (by rintro (h | ⟨_, h⟩); exact h rfl; exact hne h), if_neg (by rintro (h | h); cases h; exact hlt2 h)])
                clear HTT her h2 HFV h3 hne
                go_wp2_with (first
            | (go_at_call 53; (with_reducible refine hblk.mono ?_); rintro _ w1 ⟨g1, rfl, hb1, hg1, hgr1⟩
               have hG1 := World.grownBy.andThen (row' := none) HG.out hgr1 (by simp)
               have hS1 := HBR.out.grown hgr1 (by simp))
            | (go_at_call 54; (with_reducible refine (kS.out w1 _ _ _ _ hG1 hS1).mono ?_); rintro _ _ ⟨rfl, rfl⟩)
            | (go_at_call 52; (with_reducible refine (kH.out _ g1 hb1).mono ?_); rintro _ w2 ⟨rfl, hgr2⟩
               have hG2 := World.grownBy.andThen (row' := none) hG1 hgr2 (by simp)
               have hS2 := hS1.grown hgr2 (by simp)
               have hbox := Blk.of_alloc w2 #[.int .u64 0, .int .u64 0, .int .u64 0] 73
               have hS3 := hS2.grown (World.grownBy_alloc w2 (.cells #[.int .u64 0, .int .u64 0, .int .u64 0] 73) none) (by simp)
               have hG3 := World.grownBy.andThen (row' := none) hG2 (World.grownBy_alloc w2 (.cells #[.int .u64 0, .int .u64 0, .int .u64 0] 73) none) (by simp))
            | (refine wpList_store_agg rfl 73 _ _ rfl w2.heap.size 0 (hcells e' c' n') rfl rfl (hcells_one _ _ _) size56 _ _ hbox (by simp [hcells]) ?_; intro w5 k5 r5
               have hS5 := hS3.keep (r5.out.block sp (by have := hS2.lt; omega))
               have hG5 := World.grownBy.andThen (row' := some w2.heap.size) hG3 r5.out.grown (by rintro j ⟨⟩; left; exact Nat.le_trans HG.out.size (Nat.le_trans hgr1.size hgr2.size))
               have K5 : Hid (Blk w5 w2.heap.size 73 (hcells e' c' n')) := Lib.hid (by have := k5.out; simpa [hcells] using this)
               have hh0 : w5.cell? ⟨w2.heap.size, 0, none⟩ = some (.int .u64 (e' : Int)) := K5.out.get 0 _ rfl
               have hs2 := hS5.get 2 _ rfl
               have HG5 := Lib.hid hG5
               have HS5 := Lib.hid hS5
               have hne2 : sp < w2.heap.size := hS2.lt
               clear hbox k5 r5 hS3 hG3 hS2 hG2 hS1 hG1 hgr1 hgr2 hb1 hg1 hS5 hG5)
            | fail)
                go_region
                go_wp2
                go_region
                go_wp2
                go_roundw
                case rel =>
                  exact ⟨k + 1, hf, e, c, n, 0, true, hlt, by simp, rfl, Lib.hid rfl, HTN.out, HS5.out, World.grownBy.andThen (row' := none) HG5.out (grown_drewN 2 : w5.grownBy (w5.drewN 2) none) (by simp)⟩
                case measure => simp [intOf]; omega
        · obtain rfl : er = 160 := by omega
          have HTN : Hid (T = none) := Lib.hid (by rw [HTT.out, if_neg (by decide), if_pos (.inl (by decide))])
          clear HTT her h2 h0
          go_wp2_with (first
          | (go_at_call 53; (with_reducible refine hblk.mono ?_); rintro _ w1 ⟨g1, rfl, hb1, hg1, hgr1⟩
             have hG1 := World.grownBy.andThen (row' := none) HG.out hgr1 (by simp)
             have hS1 := HBR.out.grown hgr1 (by simp))
          | (go_at_call 54; (with_reducible refine (kS.out w1 _ _ _ _ hG1 hS1).mono ?_); rintro _ _ ⟨rfl, rfl⟩)
          | (go_at_call 52; (with_reducible refine (kH.out _ g1 hb1).mono ?_); rintro _ w2 ⟨rfl, hgr2⟩
             have hG2 := World.grownBy.andThen (row' := none) hG1 hgr2 (by simp)
             have hS2 := hS1.grown hgr2 (by simp)
             have hbox := Blk.of_alloc w2 #[.int .u64 0, .int .u64 0, .int .u64 0] 73
             have hS3 := hS2.grown (World.grownBy_alloc w2 (.cells #[.int .u64 0, .int .u64 0, .int .u64 0] 73) none) (by simp)
             have hG3 := World.grownBy.andThen (row' := none) hG2 (World.grownBy_alloc w2 (.cells #[.int .u64 0, .int .u64 0, .int .u64 0] 73) none) (by simp))
          | (refine wpList_store_agg rfl 73 _ _ rfl w2.heap.size 0 (hcells e' c' n') rfl rfl (hcells_one _ _ _) size56 _ _ hbox (by simp [hcells]) ?_; intro w5 k5 r5
             have hS5 := hS3.keep (r5.out.block sp (by have := hS2.lt; omega))
             have hG5 := World.grownBy.andThen (row' := some w2.heap.size) hG3 r5.out.grown (by rintro j ⟨⟩; left; exact Nat.le_trans HG.out.size (Nat.le_trans hgr1.size hgr2.size))
             have K5 : Hid (Blk w5 w2.heap.size 73 (hcells e' c' n')) := Lib.hid (by have := k5.out; simpa [hcells] using this)
             have hh0 : w5.cell? ⟨w2.heap.size, 0, none⟩ = some (.int .u64 (e' : Int)) := K5.out.get 0 _ rfl
             have hs2 := hS5.get 2 _ rfl
             have HG5 := Lib.hid hG5
             have HS5 := Lib.hid hS5
             have hne2 : sp < w2.heap.size := hS2.lt
             clear hbox k5 r5 hS3 hG3 hS2 hG2 hS1 hG1 hgr1 hgr2 hb1 hg1 hS5 hG5)
          | fail)
          go_ret
          rw [HTN.out]
          exact ⟨HG5.out, rfl⟩
    · obtain rfl : k = 2 := by omega
      rw [Nat.sub_self, findL] at hTT
      have HTT := Lib.hid hTT
      have HG := Lib.hid hg
      have HBR := Lib.hid hbr
      clear hTT hg hbr
      go_wp2
      go_ret
      rw [HTT.out]
      refine ⟨HG.out, ?_, HBR.out⟩
      have hfv := HFV.out
      rw [show (if fd = true then (0 : Int) else 2) = (fv : Int) by rw [hfv]; cases fd <;> rfl]
      rfl
end Go.Proofs.YtonpcenjipigpaaGreat
