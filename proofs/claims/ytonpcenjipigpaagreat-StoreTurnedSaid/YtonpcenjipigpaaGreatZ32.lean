/- keep: all values written into the other half. Conditions: none of the changes is wrong, 64 at most; the record has no room behind the last one. -/
import Derived.Test.YtonpcenjipigpaaGreatZ30
import Derived.Test.YtonpcenjipigpaaGreatZ31
import Derived.StillTailTactics
namespace Go.Proofs.YtonpcenjipigpaaGreat
open Go.RowKit
set_option maxRecDepth 100000 in
set_option maxHeartbeats 4000000 in
theorem keep_turns {foot okl okv : Nat → Prop} {w : World} {sp dp hf e c n mb2 nv : Nat} {mv : Value} {s : St} {A : Option Addr} {cl : Nat} {l : List Chg} {L2 : List (List UInt8 × List UInt8)}
    (hb : Blk w sp 75 (scells dp hf e c n mv)) (hd : Dsk w foot dp s) (hsf : ¬ foot sp) (hhf : hf ≤ 1) (he : e < 18446744073709551616) (hc : c < n) (hn : n ≤ s.n / 2)
    (hx : Chs w okl A l) (hokl : ∀ b, okl b → b < w.heap.size) (hg : Good l) (h64 : l.length ≤ 64)
    (hv2 : Vals w okv mb2 nv L2) (hokv : ∀ b, okv b → b < w.heap.size ∧ b ≠ mb2) (hg2 : Gd L2) (hl2 : L2.length ≤ 64)
    (hL : s.L.length ≤ 900000) (hfit0 : ¬ n + nblk (recB e (c + 1) (payB l)).length ≤ s.n / 2) :
    Calls Tryz.prog 41 #[.pointer (some ⟨sp, 0, none⟩), .slice A l.length cl, .map (some mb2)] w (KeepE w foot sp dp (.map (some mb2)) (s.keepT ⟨hf, e, c, n, []⟩ l L2)) := by
  have hnn := hd.ok.2.1
  have hsl := hb.lt
  have kY : Hid (∀ W, w.grownBy W none → W.cell? ⟨sp, 0, none⟩ = some (.pointer (some ⟨dp, 0, none⟩)) ∧ W.cell? ⟨sp, 1, none⟩ = some (.int .i64 (hf : Int)) ∧ W.cell? ⟨sp, 2, none⟩ = some (.int .u64 (e : Int)) ∧ W.cell? ⟨sp, 3, none⟩ = some (.int .u64 (c : Int)) ∧ W.cell? ⟨sp, 4, none⟩ = some (.int .u64 (n : Int))) := Lib.hid fun W hW => by
    have := hb.grown hW (by simp)
    exact ⟨this.get 0 _ rfl, this.get 1 _ rfl, this.get 2 _ rfl, this.get 3 _ rfl, this.get 4 _ rfl⟩
  obtain ⟨y0, y1, y2, y3, y4⟩ := kY.out w (World.grownBy.refl _ _)
  have kP : Hid (∀ W, w.grownBy W none → Calls Tryz.prog 67 #[.slice A l.length cl] W (NewS W (payB l))) := Lib.hid fun W hW => payload_any (hx.keep fun b hb => hW.block b (hokl b hb) (by simp)) (fun b hb => Nat.lt_of_lt_of_le (hokl b hb) hW.size) rfl h64 hg
  have kS : Hid (∀ W, w.grownBy W none → Calls Tryz.prog 54 #[.pointer (some ⟨sp, 0, none⟩)] W fun r w' => r = .returned (.int .u64 (s.n / 2 : Nat)) ∧ W = w') := Lib.hid fun W hW => size_sto (half := hf) ⟨e, c, n, mv, hb.grown hW (by simp)⟩ (hd.grown hW)
  have hpl := payB_length hg h64
  have hc32 : c + 1 < 4294967296 := by omega
  obtain ⟨nh, hnh⟩ : ∃ nh, nh = s.n / 2 := ⟨_, rfl⟩
  rw [← hnh] at kS
  obtain ⟨P, hP⟩ : ∃ P, P = payB l := ⟨_, rfl⟩
  rw [← hP] at kP hpl
  obtain ⟨R, hR⟩ : ∃ R, R = recB e (c + 1) P := ⟨_, rfl⟩
  have hRl : R.length = 64 * nblk (8 + P.length) := by rw [hR]; exact recB_length _ _ _
  have hRm : R.length ≤ 600000 := by rw [hRl]; unfold nblk; omega
  have kR : Hid (∀ (W : World) (A3 : Option Addr) (c3 : Nat), w.grownBy W none → Byt W (fun b => b < W.heap.size) A3 P → P.length ≤ c3 → c3 ≤ maxLen → Calls Tryz.prog 66 #[.int .u64 (e : Int), .int .u64 ((c : Int) + 1), .slice A3 P.length c3] W (OwnB W R)) := Lib.hid fun W A3 c3 hW hy h1 h2 => by
    have := rec_any e (c + 1) hy (fun _ hb => hb) rfl h1 h2 (by omega) he hc32
    rw [hR]
    exact this
  obtain ⟨m, hm⟩ : ∃ m, m = nblk R.length := ⟨_, rfl⟩
  have hmm : m ≤ 10000 := by rw [hm]; unfold nblk; omega
  have kN : Hid (∀ W, Calls Tryz.prog 68 #[.int .u64 (R.length : Int)] W fun r w' => r = .returned (.int .u64 (m : Int)) ∧ W = w') := Lib.hid fun W => by rw [hm]; exact blocks_sto _ W (by omega)
  have kA : Hid (∀ W, w.grownBy W none → Calls Tryz.prog 44 #[.map (some mb2)] W (AllE W (chgs L2))) := Lib.hid fun W hW => all_any (hv2.keep (hW.block _ hv2.lt (by simp)) fun b hb => hW.block b (hokv b hb).1 (by simp)) (fun b hb => ⟨Nat.lt_of_lt_of_le (hokv b hb).1 hW.size, (hokv b hb).2⟩) (by omega) (fun x hx => Nat.le_trans (hv2.names x hx).1 (by decide))
  have hcl2 : (chgs L2).length = L2.length := chgs_length L2
  have kP2 : Hid (∀ (W : World) (ok2 : Nat → Prop) (A2 : Option Addr) (c2 : Nat), Chs W ok2 A2 (chgs L2) → (∀ b, ok2 b → b < W.heap.size) → Calls Tryz.prog 67 #[.slice A2 L2.length c2] W (NewS W (payB (chgs L2)))) := Lib.hid fun W ok2 A2 c2 h1 h2 => payload_any h1 h2 hcl2 (by omega) hg2
  have hpl2 := payB_length hg2 (by omega)
  obtain ⟨P2, hP2⟩ : ∃ P2, P2 = payB (chgs L2) := ⟨_, rfl⟩
  rw [← hP2] at kP2 hpl2
  obtain ⟨E, hE⟩ : ∃ E, E = e + 1 := ⟨_, rfl⟩
  obtain ⟨R2, hR2⟩ : ∃ R2, R2 = recB E 1 P2 := ⟨_, rfl⟩
  have hRl2 : R2.length = 64 * nblk (8 + P2.length) := by rw [hR2]; exact recB_length _ _ _
  have hRm2 : R2.length ≤ 600000 := by rw [hRl2]; unfold nblk; omega
  have kR2 : Hid (∀ (W : World) (A3 : Option Addr) (c3 : Nat), E < 18446744073709551616 → Byt W (fun b => b < W.heap.size) A3 P2 → P2.length ≤ c3 → c3 ≤ maxLen → Calls Tryz.prog 66 #[.int .u64 (E : Int), .int .u64 1, .slice A3 P2.length c3] W (OwnB W R2)) := Lib.hid fun W A3 c3 hEE hy h1 h2 => by
    have := rec_any E 1 hy (fun _ hb => hb) rfl h1 h2 (by omega) hEE (by decide)
    rw [hR2]
    exact this
  obtain ⟨m2, hm2⟩ : ∃ m2, m2 = nblk R2.length := ⟨_, rfl⟩
  have hmm2 : m2 ≤ 10000 := by rw [hm2]; unfold nblk; omega
  have kN2 : Hid (∀ W, Calls Tryz.prog 68 #[.int .u64 (R2.length : Int)] W fun r w' => r = .returned (.int .u64 (m2 : Int)) ∧ W = w') := Lib.hid fun W => by rw [hm2]; exact blocks_sto _ W (by omega)
  have HP2 := Lib.hid hP2
  have HR2 := Lib.hid hR2
  have HRL2 := Lib.hid hRl2
  have HM2 := Lib.hid hm2
  have HE := Lib.hid hE
  have HB := Lib.hid hb
  have HD := Lib.hid hd
  have HNH := Lib.hid hnh
  have HP := Lib.hid hP
  have HR := Lib.hid hR
  have HRL := Lib.hid hRl
  have HM := Lib.hid hm
  have HN := Lib.hid hn
  have hn2 : n ≤ 2048 := by omega
  have HFT := Lib.hid hfit0
  clear hfit0 hb hd hnh hP hR hRl hm hn hx hokl hg hP2 hR2 hRl2 hm2 hE hcl2 hv2 hokv hg2
  go_enter Tryz.func41, Tryz.ntmps41
  go_wp2
  go_region
  obtain ⟨w1, hw1⟩ : ∃ w1, w1 = (w.alloc (Obj.cells #[Value.int IntKind.u64 ↑e, Value.int IntKind.u64 ↑c, Value.int IntKind.u64 ↑n] 73)).drew := ⟨_, rfl⟩
  have hG1 : w.grownBy w1 none := by rw [hw1]; exact (World.grownBy_alloc w _ none).trans (grown_drewN 1)
  have hb1 : Blk w1 w.heap.size 73 (hcells e c n) := by rw [hw1]; exact Blk.of_alloc w #[Value.int IntKind.u64 ↑e, Value.int IntKind.u64 ↑c, Value.int IntKind.u64 ↑n] 73
  rw [← hw1]
  clear hw1
  have x1 : w1.cell? ⟨w.heap.size, 1, none⟩ = some (.int .u64 (c : Int)) := hb1.get 1 _ rfl
  go_wp2_with (first
    | (refine wpList_store_cell rfl 49 _ _ rfl (by kernel_rfl) w.heap.size 1 (.int .u64 ((c : Int) + 1)) rfl rfl rfl _ _ hb1 (by simp [hcells]) ?_; intro w2 k2 r2
       have hG2 := World.grownBy.andThen (row' := some w.heap.size) hG1 r2.out.grown (by rintro j ⟨⟩; left; omega))
    | fail)
  have hb2 : Blk w2 w.heap.size 73 (hcells e (c + 1) n) := k2.out
  clear k2 r2 hb1 x1 hG1
  have hK2 : ∀ W, Below w2.drew.heap.size w2.drew W → W.cell? ⟨w.heap.size, 0, none⟩ = some (.int .u64 (e : Int)) ∧ W.cell? ⟨w.heap.size, 1, none⟩ = some (.int .u64 ((c : Int) + 1)) := fun W hW => by
    have : Blk W w.heap.size 73 (hcells e (c + 1) n) := Blk.below (show Blk w2.drew w.heap.size 73 (hcells e (c + 1) n) from hb2) hW hb2.lt
    exact ⟨this.get 0 _ rfl, by have := this.get 1 _ rfl; simpa using this⟩
  have KK := Lib.hid hK2
  have hq0 : Below w2.drew.heap.size w2.drew w2.drew := Below.refl _ _
  have hGd : w.grownBy w2.drew none := hG2.trans (grown_drewN 1)
  clear hK2
  go_region_held3 (fun W => W.cell? ⟨w.heap.size, 0, none⟩ = some (.int .u64 (e : Int)) ∧ W.cell? ⟨w.heap.size, 1, none⟩ = some (.int .u64 ((c : Int) + 1))) (first | exact KK.out _ hq0 | exact KK.out _ hq3 | exact KK.out _ hq4) (first
    | (go_at_call 67; (with_reducible refine (kP.out _ hGd).mono ?_); rintro _ w3 ⟨A3, c3, rfl, l3, m3, z3, hq3⟩; have hG3 := hGd.trans (grown_of_below hq3))
    | (go_at_call 66; (with_reducible refine (kR.out _ A3 c3 hG3 (z3.imp fun _ h => h.2) l3 m3).mono ?_); rintro _ w4 ⟨v4, rfl, ho4, hb4⟩; have hq4 := hq3.trans (hb4.mono hq3.size))
    | fail)
  have hG4 : w.grownBy w4 none := hGd.trans (grown_of_below hq4)
  have hbx4 : Blk w4 w.heap.size 73 (hcells e (c + 1) n) := Blk.below (show Blk w2.drew w.heap.size 73 (hcells e (c + 1) n) from hb2) hq4 hb2.lt
  obtain ⟨g4, c4, rfl, l4, m4, z4⟩ := own_new ho4 (by rw [HRL.out]; unfold nblk; omega)
  have hs3 : w.heap.size + 1 ≤ w3.heap.size := Nat.le_trans hb2.lt (show w2.drew.heap.size ≤ w3.heap.size from hq3.size)
  have hz4 : Byt w4 (fun b => w.heap.size + 1 ≤ b ∧ b < w4.heap.size) (some ⟨g4, 0, none⟩) R := z4.imp fun b hb => ⟨Nat.le_trans hs3 hb.1, hb.2⟩
  have HZ4 := Lib.hid hz4
  have HC4 := Lib.hid (And.intro l4 m4)
  clear ho4 hb4 hq4 hq3 hG3 hGd hb2 z3 l3 m3 KK hq0 z4 hz4 hG2
  go_wp2_with (first
    | (go_at_call 68; (with_reducible refine (kN.out w4).mono ?_); rintro _ _ ⟨rfl, rfl⟩)
    | (refine wpList_store_cell rfl 49 _ _ rfl (by kernel_rfl) w.heap.size 2 (.int .u64 ((n : Int) + (m : Int))) rfl rfl rfl _ _ hbx4 (by simp [hcells]) ?_; intro w5 k5 r5
       have hG5 := World.grownBy.andThen (row' := some w.heap.size) hG4 r5.out.grown (by rintro j ⟨⟩; left; omega))
    | fail)
  have hb5 : Blk w5 w.heap.size 73 (hcells e (c + 1) (n + m)) := Blk.to (show Blk w5 w.heap.size 73 _ from k5.out) (by simp [hcells])
  have hz5 : Byt w5 (fun b => w.heap.size + 1 ≤ b ∧ b < w5.heap.size) (some ⟨g4, 0, none⟩) R := (HZ4.out.keep fun b hb => r5.out.block b (by omega)).imp fun b hb => ⟨hb.1, by rw [r5.out.size]; exact hb.2⟩
  have x2 : w5.cell? ⟨w.heap.size, 2, none⟩ = some (.int .u64 ((n : Int) + (m : Int))) := by have := hb5.get 2 _ rfl; simpa using this
  have hsz5 := kS.out w5.drew (hG5.trans (grown_drewN 1))
  clear k5 hbx4 hG4
  refine wp_region_still_lit (by kernel_rfl) (by kernel_rfl) ?_
  repeat still_step
  still_call (hsz5.mono fun e W ⟨he, hW⟩ => ⟨he, hW.symm⟩)
  repeat still_step
  refine wpStill_nil ?_
  change Exit.then _ (Exit.then _ _) Exit.normal _ w5.drew
  obtain ⟨w6, hw6⟩ : ∃ w6, w6 = w5.drew := ⟨_, rfl⟩
  rw [← hw6] at hsz5 ⊢
  have hG6 : w.grownBy w6 none := by rw [hw6]; exact hG5.trans (grown_drewN 1)
  have hb6 : Blk w6 w.heap.size 73 (hcells e (c + 1) (n + m)) := by rw [hw6]; exact hb5
  have hz6 : Byt w6 (fun b => w.heap.size + 1 ≤ b ∧ b < w6.heap.size) (some ⟨g4, 0, none⟩) R := by rw [hw6]; exact hz5
  have x6 : w6.cell? ⟨w.heap.size, 2, none⟩ = some (.int .u64 ((n : Int) + (m : Int))) := by rw [hw6]; exact x2
  clear hw6 hb5 hz5 x2 hG5 r5
  by_cases hfit : n + m ≤ nh
  · exact absurd (by rw [HM.out, HR.out, HP.out, HNH.out] at hfit; exact hfit) HFT.out
  have hfI : decide ((nh : Int) < (n : Int) + (m : Int)) = true := decide_eq_true (by omega)
  have x60 : w6.cell? ⟨w.heap.size, 0, none⟩ = some (.int .u64 (e : Int)) := hb6.get 0 _ rfl
  have HFIT := Lib.hid hfit
  have hnh2 : nh = s.n / 2 := HNH.out
  have HK1 : Hid (¬ n + nblk (recB e (c + 1) (payB l)).length ≤ s.n / 2) := HFT
  by_cases hmx : e = 18446744073709551615
  · have hT : Hid (s.keepT ⟨hf, e, c, n, []⟩ l L2 = (7, s, none)) := by
      refine Lib.hid ?_
      rw [St.keepT, if_neg HK1.out, if_pos hmx]
    have hdI : decide ((e : Int) = 18446744073709551615) = true := decide_eq_true (by omega)
    have hmI : (e : Int) = 18446744073709551615 := by omega
    clear hmx
    go_wp2
    go_ret
    rw [hT.out]
    exact ⟨foot, HD.out.grown hG6, fun _ hk => .inl hk, rfl, Md.of_grown hG6 (by simp)⟩
  have hmI : ¬ (e : Int) = 18446744073709551615 := by omega
  have hEE : E < 18446744073709551616 := by have := HE.out; omega
  obtain ⟨H, hH⟩ : ∃ H, H = 1 - hf := ⟨_, rfl⟩
  have HH := Lib.hid hH
  have hH1 : H ≤ 1 := by omega
  have hHI : IntKind.i64.wrap (1 - (hf : Int)) = (H : Int) := by
    rcases (show hf = 0 ∨ hf = 1 by omega) with rfl | rfl <;> subst hH <;> rfl
  have hEI : IntKind.u64.wrap ((e : Int) + 1) = (E : Int) := by have := HE.out; subst this; simp [IntKind.wrap, IntKind.bits, IntKind.signed]; omega
  clear hH
  go_wp2
  refine wp_region_held_drew (S := fun _ => True) (by kernel_rfl) trivial (fun hHeld => ?_)
  refine' wpAnyH_take (i := 0) (oi := { dst := some 51, op := Op.move (Operand.tmp 7), type := 3, pos := "store.go:156", after := #[], guard := none }) (v := .int .i64 (hf : Int)) rfl (by kernel_rfl) (by kernel_rfl) (by kernel_rfl) (fun _ _ _ h => h) (Or.inl ⟨by rfl, fun w' hSw => by go_simp⟩) (by assumption) ?qz1
  try simp only [Act.put, List.setIfInBounds_toArray, List.set_cons_zero, List.set_cons_succ]
  refine' wpAnyH_take (i := 1) (oi := { dst := some 52, op := Op.binOp BinOp.sub 3 (Operand.const (Value.int IntKind.i64 1)) (Operand.tmp 51) 3, type := 3, pos := "store.go:156", after := #[{ on := 0, ground := Ground.data }], guard := none }) (v := .int .i64 (H : Int)) rfl (by kernel_rfl) (by kernel_rfl) (by kernel_rfl) (fun _ _ _ h => h) (Or.inl ⟨by rfl, fun w' hSw => by go_simp⟩) (by assumption) ?qz2
  try simp only [Act.put, List.setIfInBounds_toArray, List.set_cons_zero, List.set_cons_succ]
  refine' wpAnyH_take (i := 2) (oi := { dst := some 53, op := Op.fieldAddr 73 (Operand.tmp 9) 0, type := 0, pos := "store.go:156", after := #[{ on := 7, ground := Ground.gcOnly Departure.lateStores }], guard := none }) (v := .pointer (some ⟨w.heap.size, 0, none⟩)) rfl (by kernel_rfl) (by kernel_rfl) (by kernel_rfl) (fun _ _ _ h => h) (Or.inl ⟨by rfl, fun w' hSw => by go_simp⟩) (by assumption) ?qz3
  try simp only [Act.put, List.setIfInBounds_toArray, List.set_cons_zero, List.set_cons_succ]
  refine' wpAnyH_take (i := 6) (oi := { dst := some 7, op := Op.assign (Operand.tmp 52), type := 3, pos := "store.go:156", after := #[{ on := 1, ground := Ground.data }, { on := 0, ground := Ground.phase }, { on := 1, ground := Ground.phase }, { on := 2, ground := Ground.textOnly Departure.lateStores }, { on := 3, ground := Ground.textOnly Departure.lateStores }, { on := 4, ground := Ground.textOnly Departure.lateStores }, { on := 5, ground := Ground.textOnly Departure.lateStores }], guard := none }) (v := .int .i64 (H : Int)) rfl (by kernel_rfl) (by kernel_rfl) (by kernel_rfl) (fun _ _ _ h => h) (Or.inl ⟨by rfl, fun w' hSw => by go_simp⟩) (by assumption) ?qz4
  try simp only [Act.put, List.setIfInBounds_toArray, List.set_cons_zero, List.set_cons_succ]
  refine' wpAnyH_take (i := 7) (oi := { dst := some 8, op := Op.assign (Operand.const (Value.int IntKind.u64 1)), type := 49, pos := "store.go:156", after := #[{ on := 6, ground := Ground.chain }, { on := 0, ground := Ground.phase }, { on := 1, ground := Ground.phase }, { on := 2, ground := Ground.textOnly Departure.lateStores }, { on := 3, ground := Ground.textOnly Departure.lateStores }, { on := 4, ground := Ground.textOnly Departure.lateStores }, { on := 5, ground := Ground.textOnly Departure.lateStores }, { on := 6, ground := Ground.phase }], guard := none }) (v := .int .u64 1) rfl (by kernel_rfl) (by kernel_rfl) (by kernel_rfl) (fun _ _ _ h => h) (Or.inl ⟨by rfl, fun w' hSw => by go_simp⟩) (by assumption) ?qz5
  try simp only [Act.put, List.setIfInBounds_toArray, List.set_cons_zero, List.set_cons_succ]
  refine wpAnyH_ready (rs := [3]) (by kernel_rfl) (by simp) ?_
  refine AllReadyH.cons (o := { dst := some 54, op := Op.load 49 (Operand.tmp 53), type := 49, pos := "store.go:156", after := #[{ on := 2, ground := Ground.data }, { on := 7, ground := Ground.gcOnly Departure.lateStores }], guard := none }) rfl (fun K hK => ?_) AllReadyH.nil
  rw [if_pos (by rfl)]
  go_simp
  refine hK.out _ _ trivial (fun hHeld => ?_)
  clear hK K
  try simp only [Act.put, List.setIfInBounds_toArray, List.set_cons_zero, List.set_cons_succ]
  refine' wpAnyH_take (i := 4) (oi := { dst := some 55, op := Op.binOp BinOp.add 49 (Operand.tmp 54) (Operand.const (Value.int IntKind.u64 1)) 49, type := 49, pos := "store.go:156", after := #[{ on := 3, ground := Ground.data }, { on := 7, ground := Ground.gcOnly Departure.lateStores }], guard := none }) (v := .int .u64 (E : Int)) rfl (by kernel_rfl) (by kernel_rfl) (by kernel_rfl) (fun _ _ _ h => h) (Or.inl ⟨by rfl, fun w' hSw => by go_simp⟩) (by assumption) ?qz6
  try simp only [Act.put, List.setIfInBounds_toArray, List.set_cons_zero, List.set_cons_succ]
  refine' wpAnyH_take (i := 5) (oi := { dst := some 56, op := Op.build 73 #[(0, Operand.tmp 55), (1, Operand.const (Value.int IntKind.u64 1))], type := 73, pos := "store.go:156", after := #[{ on := 4, ground := Ground.data }, { on := 7, ground := Ground.gcOnly Departure.lateStores }], guard := none }) (v := .agg (hcells E 1 0).toArray) rfl (by kernel_rfl) (by kernel_rfl) (by kernel_rfl) (fun _ _ _ h => h) (Or.inl ⟨by rfl, fun w' hSw => by go_simp; rfl⟩) (by assumption) ?qz7
  try simp only [Act.put, List.setIfInBounds_toArray, List.set_cons_zero, List.set_cons_succ]
  refine wpAnyH_ready (rs := [8]) (by kernel_rfl) (by simp) ?_
  refine AllReadyH.cons (o := { dst := none, op := Op.store 73 (Operand.tmp 9) (Operand.tmp 56), type := 0, pos := "store.go:156", after := #[{ on := 5, ground := Ground.data }, { on := 7, ground := Ground.chain }, { on := 0, ground := Ground.phase }, { on := 1, ground := Ground.phase }, { on := 2, ground := Ground.phase }, { on := 3, ground := Ground.phase }, { on := 4, ground := Ground.phase }, { on := 5, ground := Ground.phase }, { on := 6, ground := Ground.phase }, { on := 7, ground := Ground.phase }], guard := none }) rfl (fun K hK => ?_) AllReadyH.nil
  rw [if_pos (by rfl)]
  refine wp_store_agg 73 _ _ rfl w.heap.size 0 (hcells E 1 0) rfl rfl (hcells_one _ _ _) size56 _ _ hb6 (by simp [hcells]) (fun w7 k7 r7 => ?_)
  refine hK.out _ _ trivial (fun hHeld => ?_)
  clear hK K
  dsimp only [Act.put]
  refine wpAnyH_done (by kernel_rfl) ?_ _
  have hb7 : Blk w7 w.heap.size 73 (hcells E 1 0) := Blk.to (show Blk w7 w.heap.size 73 _ from k7.out) (by simp [hcells])
  have hG7 : w.grownBy w7 none := World.grownBy.andThen (row' := some w.heap.size) (hG6.trans (grown_drewN 1)) r7.out.grown (by rintro j ⟨⟩; left; omega)
  have HCL2 : Hid ((chgs L2).length = L2.length) := Lib.hid (chgs_length L2)
  clear k7 r7 hb6 hz6 x6 x60 HZ4 HC4 hsz5 l4 m4 hs3
  have hK7 : ∀ W, Below w7.drew.heap.size w7.drew W → W.cell? ⟨w.heap.size, 0, none⟩ = some (.int .u64 (E : Int)) ∧ W.cell? ⟨w.heap.size, 1, none⟩ = some (.int .u64 1) := fun W hW => by
    have : Blk W w.heap.size 73 (hcells E 1 0) := Blk.below (show Blk w7.drew w.heap.size 73 (hcells E 1 0) from hb7) hW hb7.lt
    exact ⟨this.get 0 _ rfl, this.get 1 _ rfl⟩
  have KK := Lib.hid hK7
  have hq7 : Below w7.drew.heap.size w7.drew w7.drew := Below.refl _ _
  have hGd : w.grownBy w7.drew none := hG7.trans (grown_drewN 1)
  clear hK7
  go_wp2
  go_region_held3 (fun W => W.cell? ⟨w.heap.size, 0, none⟩ = some (.int .u64 (E : Int)) ∧ W.cell? ⟨w.heap.size, 1, none⟩ = some (.int .u64 1)) (first | exact KK.out _ hq7 | exact KK.out _ hq8 | exact KK.out _ hq9 | exact KK.out _ hqa) (first
    | (go_at_call 44; (with_reducible refine (kA.out _ hGd).mono ?_); rintro _ w8 ⟨g8, c8, rfl, -, -, x8, hg8⟩; have hq8 : Below w7.drew.heap.size w7.drew w8 := below_of_grown hg8; (try rw [HCL2.out]))
    | (go_at_call 67; (with_reducible refine (kP2.out _ _ _ c8 x8 (fun b hb => hb.2)).mono ?_); rintro _ w9 ⟨A9, c9, rfl, l9, m9, z9, hb9⟩; have hq9 := hq8.trans (hb9.mono hq8.size))
    | (go_at_call 66; (with_reducible refine (kR2.out _ A9 c9 hEE (z9.imp fun _ h => h.2) l9 m9).mono ?_); rintro _ wa ⟨va, rfl, hoa, hba⟩; have hqa := hq9.trans (hba.mono hq9.size))
    | fail)
  have hGa : w.grownBy wa none := hGd.trans (grown_of_below hqa)
  have hbxa : Blk wa w.heap.size 73 (hcells E 1 0) := Blk.below (show Blk w7.drew w.heap.size 73 (hcells E 1 0) from hb7) hqa hb7.lt
  obtain ⟨ga, ca, rfl, la, ma, za⟩ := own_new hoa (by rw [HRL2.out]; unfold nblk; omega)
  have hs9 : w.heap.size + 1 ≤ w9.heap.size := Nat.le_trans hb7.lt (show w7.drew.heap.size ≤ w9.heap.size from hq9.size)
  have hza : Byt wa (fun b => w.heap.size + 1 ≤ b ∧ b < wa.heap.size) (some ⟨ga, 0, none⟩) R2 := za.imp fun b hb => ⟨Nat.le_trans hs9 hb.1, hb.2⟩
  have HZA := Lib.hid hza
  have HCA := Lib.hid (And.intro la ma)
  clear hoa hba hqa hq9 hq8 hGd hb7 z9 l9 m9 KK hq7 za hza hG7 x8 hg8
  go_wp2_with (first
    | (go_at_call 68; (with_reducible refine (kN2.out wa).mono ?_); rintro _ _ ⟨rfl, rfl⟩)
    | (refine wpList_store_cell rfl 49 _ _ rfl (by kernel_rfl) w.heap.size 2 (.int .u64 (1 + (m2 : Int))) rfl rfl rfl _ _ hbxa (by simp [hcells]) ?_; intro wb kb rb
       have hGb := World.grownBy.andThen (row' := some w.heap.size) hGa rb.out.grown (by rintro j ⟨⟩; left; omega))
    | fail)
  have hbb : Blk wb w.heap.size 73 (hcells E 1 (1 + m2)) := Blk.to (show Blk wb w.heap.size 73 _ from kb.out) (by simp [hcells])
  have hzb : Byt wb (fun b => w.heap.size + 1 ≤ b ∧ b < wb.heap.size) (some ⟨ga, 0, none⟩) R2 := (HZA.out.keep fun b hb => rb.out.block b (by omega)).imp fun b hb => ⟨hb.1, by rw [rb.out.size]; exact hb.2⟩
  have xb2 : wb.cell? ⟨w.heap.size, 2, none⟩ = some (.int .u64 (1 + (m2 : Int))) := by have := hbb.get 2 _ rfl; simpa using this
  clear kb hbxa hGa rb
  by_cases hfit2 : 1 + m2 ≤ nh
  · have hfI2 : decide ((nh : Int) < 1 + (m2 : Int)) = false := decide_eq_false (by omega)
    have hszb := kS.out wb.drew (hGb.trans (grown_drewN 1))
    go_wp2
    refine wp_region_still_lit (by kernel_rfl) (by kernel_rfl) ?_
    repeat still_step
    still_call (hszb.mono fun e W ⟨he, hW⟩ => ⟨he, hW.symm⟩)
    repeat still_step
    refine wpStill_nil ?_
    change Exit.then _ _ Exit.normal _ wb.drew
    obtain ⟨C, hC⟩ : ∃ C, C = 1 := ⟨_, rfl⟩
    obtain ⟨N, hN⟩ : ∃ N, N = 1 + m2 := ⟨_, rfl⟩
    have hbC : Blk wb w.heap.size 73 (hcells E C N) := by rw [hC, hN]; exact hbb
    obtain ⟨Wl, hWl⟩ : ∃ Wl, Wl = wb.drew := ⟨_, rfl⟩
    rw [← hWl]
    have hGl : w.grownBy Wl none := by rw [hWl]; exact hGb.trans (grown_drewN 1)
    have hbl : Blk Wl w.heap.size 73 (hcells E C N) := by rw [hWl]; exact hbC
    have hzl : Byt Wl (fun b => w.heap.size + 1 ≤ b ∧ b < Wl.heap.size) (some ⟨ga, 0, none⟩) R2 := by rw [hWl]; exact hzb
    have hRM : R2.length = 64 * m2 := by rw [HM2.out, HRL2.out]; unfold nblk; omega
    have HKT : Hid (s.keepT ⟨hf, e, c, n, []⟩ l L2 = s.lays H 1 R2 E C N) := by
      refine Lib.hid ?_
      subst hC hN
      rw [St.keepT, if_neg HK1.out, if_neg hmx]
      dsimp only
      rw [← HE.out, ← HP2.out, ← HR2.out, ← HM2.out, ← hnh2, if_pos hfit2, ← HH.out]
    have hHn : H * (s.n / 2) + s.n / 2 ≤ s.n := by
      have := Nat.mul_le_mul hH1 (Nat.le_refl (s.n / 2))
      omega
    have hlay := lay_any (hf := H) (a := 1) (M := m2) (cp := ca) (i0 := H * (s.n / 2) + 1) ⟨e, c, n, mv, HB.out.grown hGl (by simp)⟩ hsf (HD.out.grown hGl) hH1 (by omega) rfl (by omega) hzl hRM (by rw [← hRM]; exact HCA.out.1) (fun k hk => ⟨hk.2, fun h0 => by have := HD.out.lt k h0; omega⟩) (by omega)
    rw [← hRM] at hlay
    have hlay : Calls Tryz.prog 69 #[.pointer (some ⟨sp, 0, none⟩), .int .i64 (H : Int), .int .u64 1, .slice (some ⟨ga, 0, none⟩) R2.length ca] Wl _ := hlay
    have HLT := St.laid_n (cuts R2 m2) s (H * (s.n / 2) + 1)
    have hcl : (cuts R2 m2).length = m2 := by simp [cuts]
    rw [hcl] at HLT
    obtain ⟨q, hq⟩ : ∃ q, q = (s.laid (H * (s.n / 2) + 1) (cuts R2 m2)).1 := ⟨_, rfl⟩
    obtain ⟨s1, hs1⟩ : ∃ s1, s1 = (s.laid (H * (s.n / 2) + 1) (cuts R2 m2)).2 := ⟨_, rfl⟩
    have HLY : Hid (s.lays H 1 R2 E C N = if q ≠ 0 then (q, s1, none) else if (s1.sealed (H * (s.n / 2)) (hdrB E C N)).1 ≠ 0 then ((s1.sealed (H * (s.n / 2)) (hdrB E C N)).1, (s1.sealed (H * (s.n / 2)) (hdrB E C N)).2, none) else (0, (s1.sealed (H * (s.n / 2)) (hdrB E C N)).2, some (H, E, C, N))) := by
      refine Lib.hid ?_
      rw [hq, hs1, St.lays, ← HM2.out]
    rw [← hq, ← hs1] at hlay
    rw [← hs1] at HLT
    have hGs := hGl.size
    have hC32 : C < 4294967296 := by omega
    have hN32 : N < 4294967296 := by omega
    clear hq hs1 hWl hcl hRM hbb hbC hzb hGb xb2 hC hN
    by_cases hq0 : q = 0
    · subst hq0
      obtain ⟨q2, hq2⟩ : ∃ q2, q2 = (s1.sealed (H * (s.n / 2)) (hdrB E C N)).1 := ⟨_, rfl⟩
      obtain ⟨s2, hs2⟩ : ∃ s2, s2 = (s1.sealed (H * (s.n / 2)) (hdrB E C N)).2 := ⟨_, rfl⟩
      rw [← hq2, ← hs2] at HLY
      have kSe : Hid (∀ (W : World) (f7 : Nat → Prop), Beg W sp dp hf → Dsk W f7 dp s1 → ¬ f7 sp → Calls Tryz.prog 31 #[.pointer (some ⟨sp, 0, none⟩), .int .i64 (H : Int), .agg #[.int .u64 (E : Int), .int .u64 (C : Int), .int .u64 (N : Int)]] W fun r w' => r = .returned (.int .i64 (q2 : Nat)) ∧ Nxt W f7 dp s2 w') := Lib.hid fun W f7 h1 h2 h3 => by
        have := seal_any h1 h2 h3 H E C N hH1 (by omega) hEE hC32 hN32 (by omega)
        rw [HLT.1, ← hq2, ← hs2] at this
        exact this
      clear hq2 hs2
      have hsf7 : ∀ f7 : Nat → Prop, (∀ k, f7 k → foot k ∨ (Wl.heap.size ≤ k ∧ k < Wl.heap.size + 0) ∨ Wl.heap.size ≤ k) → ¬ f7 sp := fun f7 hf7 h => by
        rcases hf7 sp h with h1 | h1 | h1
        · exact hsf h1
        · omega
        · omega
      have kB7 : Hid (∀ (w7 : World) (f7 : Nat → Prop), (∀ k, f7 k → foot k ∨ (Wl.heap.size ≤ k ∧ k < w7.heap.size)) → Md foot Wl w7 → Blk w7 w.heap.size 73 (hcells E C N) ∧ Blk w7 sp 75 (scells dp hf e c n mv) ∧ ¬ f7 sp ∧ ¬ f7 w.heap.size) := Lib.hid fun w7 f7 hf7 hm7 => by
        have hbx : w.heap.size < Wl.heap.size := hbl.lt
        refine ⟨hbl.keep (hm7.block _ hbx fun h => by have := HD.out.lt _ h; omega), (HB.out.grown hGl (by simp)).keep (hm7.block _ (by omega) hsf), hsf7 f7 fun k hk => (hf7 k hk).imp id fun h => .inr h.1, fun h => ?_⟩
        rcases hf7 _ h with h1 | h1
        · have := HD.out.lt _ h1; omega
        · omega
      clear hsf7
      by_cases hq2 : q2 = 0
      · subst hq2
        go_wp2_with (first
        | (go_at_call 69; (refine hlay.mono ?_); rintro _ w7 ⟨rfl, f7, hd7, hf7, hm7⟩
           obtain ⟨hb7, hp7, ns7, nb7⟩ := kB7.out w7 f7 hf7 hm7
           have x70 : w7.cell? ⟨w.heap.size, 0, none⟩ = some (.int .u64 (E : Int)) := hb7.get 0 _ rfl
           have x71 : w7.cell? ⟨w.heap.size, 1, none⟩ = some (.int .u64 (C : Int)) := hb7.get 1 _ rfl
           have x72 : w7.cell? ⟨w.heap.size, 2, none⟩ = some (.int .u64 (N : Int)) := hb7.get 2 _ rfl
           have hse := kSe.out w7 f7 ⟨e, c, n, mv, hp7⟩ hd7 ns7
           have HM7 := Lib.hid hm7
           have HF7 := Lib.hid hf7
           clear hd7 hf7 hm7)
        | (go_at_call 31; (refine hse.mono ?_); rintro _ w8 ⟨rfl, hn8⟩)
        | fail)
        obtain ⟨f8, hd8, hf8, hm8⟩ := hn8
        have hs8 := hm8.size
        have hs7 := HM7.out.size
        have hm9 := HM7.out.trans_ext hm8 HF7.out
        have hf9 : ∀ k, f8 k → foot k ∨ (Wl.heap.size ≤ k ∧ k < w8.heap.size) := fun k hk => by
          rcases hf8 k hk with h | h
          · exact (HF7.out k h).imp id fun ⟨h1, h2⟩ => ⟨h1, Nat.lt_of_lt_of_le h2 hs8⟩
          · exact .inr ⟨Nat.le_trans hs7 h.1, h.2⟩
        have ns8 : ¬ f8 sp := fun h => by
          rcases hf9 sp h with h1 | h1
          · exact hsf h1
          · omega
        have hp8 : Blk w8 sp 75 (scells dp hf e c n mv) := hp7.keep (hm8.block _ hp7.lt ns7)
        have hb8 : Blk w8 w.heap.size 73 (hcells E C N) := hb7.keep (hm8.block _ hb7.lt nb7)
        have HNE : Hid (w.heap.size ≠ sp) := Lib.hid (by omega)
        refine wp_region_held_drew (S := fun _ => True) (by kernel_rfl) trivial (fun hHeld => ?_)
        refine' wpAnyH_take (i := 0) (oi := { dst := some 90, op := Op.move (Operand.tmp 0), type := 28, pos := "store.go:168", after := #[], guard := none }) (v := .pointer (some ⟨sp, 0, none⟩)) rfl (by kernel_rfl) (by kernel_rfl) (by kernel_rfl) (fun _ _ _ h => h) (Or.inl ⟨by rfl, fun w' hSw => by go_simp⟩) (by assumption) ?qy1
        try simp only [Act.put, List.setIfInBounds_toArray, List.set_cons_zero, List.set_cons_succ]
        refine' wpAnyH_take (i := 1) (oi := { dst := some 91, op := Op.move (Operand.tmp 0), type := 28, pos := "store.go:168", after := #[{ on := 8, ground := Ground.gcOnly Departure.lateStores }], guard := none }) (v := .pointer (some ⟨sp, 0, none⟩)) rfl (by kernel_rfl) (by kernel_rfl) (by kernel_rfl) (fun _ _ _ h => h) (Or.inl ⟨by rfl, fun w' hSw => by go_simp⟩) (by assumption) ?qy2
        try simp only [Act.put, List.setIfInBounds_toArray, List.set_cons_zero, List.set_cons_succ]
        refine' wpAnyH_take (i := 2) (oi := { dst := some 92, op := Op.move (Operand.tmp 0), type := 28, pos := "store.go:168", after := #[{ on := 11, ground := Ground.gcOnly Departure.lateStores }], guard := none }) (v := .pointer (some ⟨sp, 0, none⟩)) rfl (by kernel_rfl) (by kernel_rfl) (by kernel_rfl) (fun _ _ _ h => h) (Or.inl ⟨by rfl, fun w' hSw => by go_simp⟩) (by assumption) ?qy3
        try simp only [Act.put, List.setIfInBounds_toArray, List.set_cons_zero, List.set_cons_succ]
        refine' wpAnyH_take (i := 3) (oi := { dst := some 93, op := Op.move (Operand.tmp 7), type := 3, pos := "store.go:168", after := #[], guard := none }) (v := .int .i64 (H : Int)) rfl (by kernel_rfl) (by kernel_rfl) (by kernel_rfl) (fun _ _ _ h => h) (Or.inl ⟨by rfl, fun w' hSw => by go_simp⟩) (by assumption) ?qy4
        try simp only [Act.put, List.setIfInBounds_toArray, List.set_cons_zero, List.set_cons_succ]
        refine' wpAnyH_take (i := 5) (oi := { dst := some 95, op := Op.move (Operand.tmp 2), type := 71, pos := "store.go:168", after := #[{ on := 11, ground := Ground.gcOnly Departure.lateStores }], guard := none }) (v := .map (some mb2)) rfl (by kernel_rfl) (by kernel_rfl) (by kernel_rfl) (fun _ _ _ h => h) (Or.inl ⟨by rfl, fun w' hSw => by go_simp⟩) (by assumption) ?qy5
        try simp only [Act.put, List.setIfInBounds_toArray, List.set_cons_zero, List.set_cons_succ]
        refine' wpAnyH_take (i := 6) (oi := { dst := some 96, op := Op.nilCheck (Operand.tmp 90), type := 0, pos := "store.go:168", after := #[{ on := 0, ground := Ground.data }, { on := 0, ground := Ground.phase }, { on := 1, ground := Ground.textOnly Departure.lateStores }, { on := 2, ground := Ground.textOnly Departure.lateStores }, { on := 3, ground := Ground.phase }, { on := 4, ground := Ground.textOnly Departure.lateStores }, { on := 5, ground := Ground.textOnly Departure.lateStores }], guard := none }) (v := .pointer (some ⟨sp, 0, none⟩)) rfl (by kernel_rfl) (by kernel_rfl) (by kernel_rfl) (fun _ _ _ h => h) (Or.inl ⟨by rfl, fun w' hSw => by go_simp⟩) (by assumption) ?qy6
        try simp only [Act.put, List.setIfInBounds_toArray, List.set_cons_zero, List.set_cons_succ]
        refine' wpAnyH_take (i := 7) (oi := { dst := some 97, op := Op.fieldAddr 75 (Operand.tmp 96) 1, type := 0, pos := "store.go:168", after := #[{ on := 6, ground := Ground.data }, { on := 0, ground := Ground.phase }, { on := 1, ground := Ground.textOnly Departure.lateStores }, { on := 2, ground := Ground.textOnly Departure.lateStores }, { on := 3, ground := Ground.phase }, { on := 4, ground := Ground.textOnly Departure.lateStores }, { on := 5, ground := Ground.textOnly Departure.lateStores }], guard := none }) (v := .pointer (some ⟨sp, 1, none⟩)) rfl (by kernel_rfl) (by kernel_rfl) (by kernel_rfl) (fun _ _ _ h => h) (Or.inl ⟨by rfl, fun w' hSw => by go_simp⟩) (by assumption) ?qy7
        try simp only [Act.put, List.setIfInBounds_toArray, List.set_cons_zero, List.set_cons_succ]
        refine wpAnyH_ready (rs := [4, 8]) (by kernel_rfl) (by simp) ?_
        refine AllReadyH.cons (o := { dst := some 94, op := Op.load 73 (Operand.tmp 9), type := 73, pos := "store.go:168", after := #[{ on := 8, ground := Ground.gcOnly Departure.lateStores }], guard := none }) rfl (fun K hK => ?_) (AllReadyH.cons (o := { dst := none, op := Op.store 3 (Operand.tmp 97) (Operand.tmp 93), type := 0, pos := "store.go:168", after := #[{ on := 7, ground := Ground.data }, { on := 3, ground := Ground.data }, { on := 0, ground := Ground.phase }, { on := 1, ground := Ground.textOnly Departure.lateStores }, { on := 2, ground := Ground.textOnly Departure.lateStores }, { on := 3, ground := Ground.phase }, { on := 4, ground := Ground.textOnly Departure.lateStores }, { on := 5, ground := Ground.textOnly Departure.lateStores }], guard := none }) rfl (fun K hK => ?_) AllReadyH.nil)
        · rw [if_pos (by rfl)]
          refine wp_load_hdr _ rfl w.heap.size E C N rfl (hb8) ?_
          refine hK.out _ _ trivial (fun hHeld => ?_)
          clear hK K
          try simp only [Act.put, List.setIfInBounds_toArray, List.set_cons_zero, List.set_cons_succ]
          refine wpAnyH_ready (rs := [8]) (by kernel_rfl) (by simp) ?_
          refine AllReadyH.cons (o := { dst := none, op := Op.store 3 (Operand.tmp 97) (Operand.tmp 93), type := 0, pos := "store.go:168", after := #[{ on := 7, ground := Ground.data }, { on := 3, ground := Ground.data }, { on := 0, ground := Ground.phase }, { on := 1, ground := Ground.textOnly Departure.lateStores }, { on := 2, ground := Ground.textOnly Departure.lateStores }, { on := 3, ground := Ground.phase }, { on := 4, ground := Ground.textOnly Departure.lateStores }, { on := 5, ground := Ground.textOnly Departure.lateStores }], guard := none }) rfl (fun K hK => ?_) AllReadyH.nil
          rw [if_pos (by rfl)]
          refine wp_store_cell 3 _ _ rfl size3 sp 1 (.int .i64 (H : Int)) rfl rfl rfl _ _ hp8 (by simp [scells]) (fun wz8 kz9 rz10 => ?_)
          have hhz11 : Blk _ w.heap.size 73 (hcells E C N) := Blk.keep (hb8) (rz10.out.block w.heap.size HNE.out)
          refine hK.out _ _ trivial (fun hHeld => ?_)
          clear hK K
          dsimp only [Act.put]
          refine' wpAnyH_take (i := 9) (oi := { dst := some 98, op := Op.nilCheck (Operand.tmp 91), type := 0, pos := "store.go:168", after := #[{ on := 1, ground := Ground.data }, { on := 0, ground := Ground.phase }, { on := 1, ground := Ground.phase }, { on := 2, ground := Ground.textOnly Departure.lateStores }, { on := 3, ground := Ground.phase }, { on := 4, ground := Ground.phase }, { on := 5, ground := Ground.textOnly Departure.lateStores }, { on := 6, ground := Ground.phase }, { on := 7, ground := Ground.phase }, { on := 8, ground := Ground.phase }], guard := none }) (v := .pointer (some ⟨sp, 0, none⟩)) rfl (by kernel_rfl) (by kernel_rfl) (by kernel_rfl) (fun _ _ _ h => h) (Or.inl ⟨by rfl, fun w' hSw => by go_simp⟩) (by assumption) ?qy12
          try simp only [Act.put, List.setIfInBounds_toArray, List.set_cons_zero, List.set_cons_succ]
          refine' wpAnyH_take (i := 10) (oi := { dst := some 99, op := Op.fieldAddr 75 (Operand.tmp 98) 2, type := 0, pos := "store.go:168", after := #[{ on := 9, ground := Ground.data }, { on := 0, ground := Ground.phase }, { on := 1, ground := Ground.phase }, { on := 2, ground := Ground.textOnly Departure.lateStores }, { on := 3, ground := Ground.phase }, { on := 4, ground := Ground.phase }, { on := 5, ground := Ground.textOnly Departure.lateStores }, { on := 6, ground := Ground.phase }, { on := 7, ground := Ground.phase }, { on := 8, ground := Ground.phase }], guard := none }) (v := .pointer (some ⟨sp, 2, none⟩)) rfl (by kernel_rfl) (by kernel_rfl) (by kernel_rfl) (fun _ _ _ h => h) (Or.inl ⟨by rfl, fun w' hSw => by go_simp⟩) (by assumption) ?qy13
          try simp only [Act.put, List.setIfInBounds_toArray, List.set_cons_zero, List.set_cons_succ]
          refine wpAnyH_ready (rs := [11]) (by kernel_rfl) (by simp) ?_
          refine AllReadyH.cons (o := { dst := none, op := Op.store 73 (Operand.tmp 99) (Operand.tmp 94), type := 0, pos := "store.go:168", after := #[{ on := 10, ground := Ground.data }, { on := 4, ground := Ground.data }, { on := 8, ground := Ground.chain }, { on := 0, ground := Ground.phase }, { on := 1, ground := Ground.phase }, { on := 2, ground := Ground.textOnly Departure.lateStores }, { on := 3, ground := Ground.phase }, { on := 4, ground := Ground.phase }, { on := 5, ground := Ground.textOnly Departure.lateStores }, { on := 6, ground := Ground.phase }, { on := 7, ground := Ground.phase }, { on := 8, ground := Ground.phase }], guard := none }) rfl (fun K hK => ?_) AllReadyH.nil
          rw [if_pos (by rfl)]
          refine wp_store_agg 73 _ _ rfl sp 2 (hcells E C N) rfl rfl (hcells_one _ _ _) size56 _ _ kz9.out (by simp [hcells, scells]) (fun wz14 kz15 rz16 => ?_)
          have hhz17 : Blk _ w.heap.size 73 (hcells E C N) := Blk.keep (hhz11) (rz16.out.block w.heap.size HNE.out)
          refine hK.out _ _ trivial (fun hHeld => ?_)
          clear hK K
          dsimp only [Act.put]
          refine' wpAnyH_take (i := 12) (oi := { dst := some 100, op := Op.nilCheck (Operand.tmp 92), type := 0, pos := "store.go:168", after := #[{ on := 2, ground := Ground.data }, { on := 0, ground := Ground.phase }, { on := 1, ground := Ground.phase }, { on := 2, ground := Ground.phase }, { on := 3, ground := Ground.phase }, { on := 4, ground := Ground.phase }, { on := 5, ground := Ground.phase }, { on := 6, ground := Ground.phase }, { on := 7, ground := Ground.phase }, { on := 8, ground := Ground.phase }, { on := 9, ground := Ground.phase }, { on := 10, ground := Ground.phase }, { on := 11, ground := Ground.phase }], guard := none }) (v := .pointer (some ⟨sp, 0, none⟩)) rfl (by kernel_rfl) (by kernel_rfl) (by kernel_rfl) (fun _ _ _ h => h) (Or.inl ⟨by rfl, fun w' hSw => by go_simp⟩) (by assumption) ?qy18
          try simp only [Act.put, List.setIfInBounds_toArray, List.set_cons_zero, List.set_cons_succ]
          refine' wpAnyH_take (i := 13) (oi := { dst := some 101, op := Op.fieldAddr 75 (Operand.tmp 100) 3, type := 0, pos := "store.go:168", after := #[{ on := 12, ground := Ground.data }, { on := 0, ground := Ground.phase }, { on := 1, ground := Ground.phase }, { on := 2, ground := Ground.phase }, { on := 3, ground := Ground.phase }, { on := 4, ground := Ground.phase }, { on := 5, ground := Ground.phase }, { on := 6, ground := Ground.phase }, { on := 7, ground := Ground.phase }, { on := 8, ground := Ground.phase }, { on := 9, ground := Ground.phase }, { on := 10, ground := Ground.phase }, { on := 11, ground := Ground.phase }], guard := none }) (v := .pointer (some ⟨sp, 5, none⟩)) rfl (by kernel_rfl) (by kernel_rfl) (by kernel_rfl) (fun _ _ _ h => h) (Or.inl ⟨by rfl, fun w' hSw => by go_simp⟩) (by assumption) ?qy19
          try simp only [Act.put, List.setIfInBounds_toArray, List.set_cons_zero, List.set_cons_succ]
          refine wpAnyH_ready (rs := [14]) (by kernel_rfl) (by simp) ?_
          refine AllReadyH.cons (o := { dst := none, op := Op.store 71 (Operand.tmp 101) (Operand.tmp 95), type := 0, pos := "store.go:168", after := #[{ on := 13, ground := Ground.data }, { on := 5, ground := Ground.data }, { on := 11, ground := Ground.chain }, { on := 0, ground := Ground.phase }, { on := 1, ground := Ground.phase }, { on := 2, ground := Ground.phase }, { on := 3, ground := Ground.phase }, { on := 4, ground := Ground.phase }, { on := 5, ground := Ground.phase }, { on := 6, ground := Ground.phase }, { on := 7, ground := Ground.phase }, { on := 8, ground := Ground.phase }, { on := 9, ground := Ground.phase }, { on := 10, ground := Ground.phase }, { on := 11, ground := Ground.phase }], guard := none }) rfl (fun K hK => ?_) AllReadyH.nil
          rw [if_pos (by rfl)]
          refine wp_store_cell 71 _ _ rfl (by kernel_rfl) sp 5 (.map (some mb2)) rfl rfl rfl _ _ kz15.out (by simp [hcells, scells]) (fun wz20 kz21 rz22 => ?_)
          refine hK.out _ _ trivial (fun hHeld => ?_)
          clear hK K
          dsimp only [Act.put]
          refine wpAnyH_done (by kernel_rfl) ?_ _
          have HK9 := kz21
          have HR1 := rz10
          have HR2 := rz16
          have HR3 := rz22
          go_wp2
          go_ret
          have hkk : ∀ k, k ≠ sp → _ = w8.heap[k]? := fun k hk => (HR3.out.block k hk).trans ((HR2.out.block k hk).trans (HR1.out.block k hk))
          have hss := HR3.out.size.trans (HR2.out.size.trans HR1.out.size)
          have hss8 : _ = w8.heap.size := hss
          rw [HKT.out, HLY.out, if_neg (by simp), if_neg (by simp)]
          have hmw : Md (fun k => foot k ∨ k = sp) w w8 := ((Md.of_grown hGl (by simp)).trans hm9).mono fun k hk => .inl hk
          refine ⟨f8, hd8.keep (Nat.le_of_eq hss8.symm) fun k hk => hkk k (fun E => ns8 (E ▸ hk)), fun k hk => (hf9 k hk).imp id fun ⟨h1, h2⟩ => ⟨Nat.le_trans hGs h1, by rw [hss8]; exact h2⟩, rfl, ((hmw.trans (Md.of_grown (grown_drewN 1 : w8.grownBy w8.drew none) (by simp))).trans (Md.of_wr HR1.out (.inr rfl))).trans ((Md.of_wr HR2.out (.inr rfl)).trans (Md.of_wr HR3.out (.inr rfl))), ?_⟩
          exact Blk.to HK9.out (by simp [scells, hcells])
        · rw [if_pos (by rfl)]
          refine wp_store_cell 3 _ _ rfl size3 sp 1 (.int .i64 (H : Int)) rfl rfl rfl _ _ hp8 (by simp [scells]) (fun wz23 kz24 rz25 => ?_)
          have hhz26 : Blk _ w.heap.size 73 (hcells E C N) := Blk.keep (hb8) (rz25.out.block w.heap.size HNE.out)
          refine hK.out _ _ trivial (fun hHeld => ?_)
          clear hK K
          dsimp only [Act.put]
          refine wpAnyH_ready (rs := [4]) (by kernel_rfl) (by simp) ?_
          refine AllReadyH.cons (o := { dst := some 94, op := Op.load 73 (Operand.tmp 9), type := 73, pos := "store.go:168", after := #[{ on := 8, ground := Ground.gcOnly Departure.lateStores }], guard := none }) rfl (fun K hK => ?_) AllReadyH.nil
          rw [if_pos (by rfl)]
          refine wp_load_hdr _ rfl w.heap.size E C N rfl (hhz26) ?_
          refine hK.out _ _ trivial (fun hHeld => ?_)
          clear hK K
          try simp only [Act.put, List.setIfInBounds_toArray, List.set_cons_zero, List.set_cons_succ]
          refine' wpAnyH_take (i := 9) (oi := { dst := some 98, op := Op.nilCheck (Operand.tmp 91), type := 0, pos := "store.go:168", after := #[{ on := 1, ground := Ground.data }, { on := 0, ground := Ground.phase }, { on := 1, ground := Ground.phase }, { on := 2, ground := Ground.textOnly Departure.lateStores }, { on := 3, ground := Ground.phase }, { on := 4, ground := Ground.phase }, { on := 5, ground := Ground.textOnly Departure.lateStores }, { on := 6, ground := Ground.phase }, { on := 7, ground := Ground.phase }, { on := 8, ground := Ground.phase }], guard := none }) (v := .pointer (some ⟨sp, 0, none⟩)) rfl (by kernel_rfl) (by kernel_rfl) (by kernel_rfl) (fun _ _ _ h => h) (Or.inl ⟨by rfl, fun w' hSw => by go_simp⟩) (by assumption) ?qy27
          try simp only [Act.put, List.setIfInBounds_toArray, List.set_cons_zero, List.set_cons_succ]
          refine' wpAnyH_take (i := 10) (oi := { dst := some 99, op := Op.fieldAddr 75 (Operand.tmp 98) 2, type := 0, pos := "store.go:168", after := #[{ on := 9, ground := Ground.data }, { on := 0, ground := Ground.phase }, { on := 1, ground := Ground.phase }, { on := 2, ground := Ground.textOnly Departure.lateStores }, { on := 3, ground := Ground.phase }, { on := 4, ground := Ground.phase }, { on := 5, ground := Ground.textOnly Departure.lateStores }, { on := 6, ground := Ground.phase }, { on := 7, ground := Ground.phase }, { on := 8, ground := Ground.phase }], guard := none }) (v := .pointer (some ⟨sp, 2, none⟩)) rfl (by kernel_rfl) (by kernel_rfl) (by kernel_rfl) (fun _ _ _ h => h) (Or.inl ⟨by rfl, fun w' hSw => by go_simp⟩) (by assumption) ?qy28
          try simp only [Act.put, List.setIfInBounds_toArray, List.set_cons_zero, List.set_cons_succ]
          refine wpAnyH_ready (rs := [11]) (by kernel_rfl) (by simp) ?_
          refine AllReadyH.cons (o := { dst := none, op := Op.store 73 (Operand.tmp 99) (Operand.tmp 94), type := 0, pos := "store.go:168", after := #[{ on := 10, ground := Ground.data }, { on := 4, ground := Ground.data }, { on := 8, ground := Ground.chain }, { on := 0, ground := Ground.phase }, { on := 1, ground := Ground.phase }, { on := 2, ground := Ground.textOnly Departure.lateStores }, { on := 3, ground := Ground.phase }, { on := 4, ground := Ground.phase }, { on := 5, ground := Ground.textOnly Departure.lateStores }, { on := 6, ground := Ground.phase }, { on := 7, ground := Ground.phase }, { on := 8, ground := Ground.phase }], guard := none }) rfl (fun K hK => ?_) AllReadyH.nil
          rw [if_pos (by rfl)]
          refine wp_store_agg 73 _ _ rfl sp 2 (hcells E C N) rfl rfl (hcells_one _ _ _) size56 _ _ kz24.out (by simp [hcells, scells]) (fun wz29 kz30 rz31 => ?_)
          have hhz32 : Blk _ w.heap.size 73 (hcells E C N) := Blk.keep (hhz26) (rz31.out.block w.heap.size HNE.out)
          refine hK.out _ _ trivial (fun hHeld => ?_)
          clear hK K
          dsimp only [Act.put]
          refine' wpAnyH_take (i := 12) (oi := { dst := some 100, op := Op.nilCheck (Operand.tmp 92), type := 0, pos := "store.go:168", after := #[{ on := 2, ground := Ground.data }, { on := 0, ground := Ground.phase }, { on := 1, ground := Ground.phase }, { on := 2, ground := Ground.phase }, { on := 3, ground := Ground.phase }, { on := 4, ground := Ground.phase }, { on := 5, ground := Ground.phase }, { on := 6, ground := Ground.phase }, { on := 7, ground := Ground.phase }, { on := 8, ground := Ground.phase }, { on := 9, ground := Ground.phase }, { on := 10, ground := Ground.phase }, { on := 11, ground := Ground.phase }], guard := none }) (v := .pointer (some ⟨sp, 0, none⟩)) rfl (by kernel_rfl) (by kernel_rfl) (by kernel_rfl) (fun _ _ _ h => h) (Or.inl ⟨by rfl, fun w' hSw => by go_simp⟩) (by assumption) ?qy33
          try simp only [Act.put, List.setIfInBounds_toArray, List.set_cons_zero, List.set_cons_succ]
          refine' wpAnyH_take (i := 13) (oi := { dst := some 101, op := Op.fieldAddr 75 (Operand.tmp 100) 3, type := 0, pos := "store.go:168", after := #[{ on := 12, ground := Ground.data }, { on := 0, ground := Ground.phase }, { on := 1, ground := Ground.phase }, { on := 2, ground := Ground.phase }, { on := 3, ground := Ground.phase }, { on := 4, ground := Ground.phase }, { on := 5, ground := Ground.phase }, { on := 6, ground := Ground.phase }, { on := 7, ground := Ground.phase }, { on := 8, ground := Ground.phase }, { on := 9, ground := Ground.phase }, { on := 10, ground := Ground.phase }, { on := 11, ground := Ground.phase }], guard := none }) (v := .pointer (some ⟨sp, 5, none⟩)) rfl (by kernel_rfl) (by kernel_rfl) (by kernel_rfl) (fun _ _ _ h => h) (Or.inl ⟨by rfl, fun w' hSw => by go_simp⟩) (by assumption) ?qy34
          try simp only [Act.put, List.setIfInBounds_toArray, List.set_cons_zero, List.set_cons_succ]
          refine wpAnyH_ready (rs := [14]) (by kernel_rfl) (by simp) ?_
          refine AllReadyH.cons (o := { dst := none, op := Op.store 71 (Operand.tmp 101) (Operand.tmp 95), type := 0, pos := "store.go:168", after := #[{ on := 13, ground := Ground.data }, { on := 5, ground := Ground.data }, { on := 11, ground := Ground.chain }, { on := 0, ground := Ground.phase }, { on := 1, ground := Ground.phase }, { on := 2, ground := Ground.phase }, { on := 3, ground := Ground.phase }, { on := 4, ground := Ground.phase }, { on := 5, ground := Ground.phase }, { on := 6, ground := Ground.phase }, { on := 7, ground := Ground.phase }, { on := 8, ground := Ground.phase }, { on := 9, ground := Ground.phase }, { on := 10, ground := Ground.phase }, { on := 11, ground := Ground.phase }], guard := none }) rfl (fun K hK => ?_) AllReadyH.nil
          rw [if_pos (by rfl)]
          refine wp_store_cell 71 _ _ rfl (by kernel_rfl) sp 5 (.map (some mb2)) rfl rfl rfl _ _ kz30.out (by simp [hcells, scells]) (fun wz35 kz36 rz37 => ?_)
          refine hK.out _ _ trivial (fun hHeld => ?_)
          clear hK K
          dsimp only [Act.put]
          refine wpAnyH_done (by kernel_rfl) ?_ _
          have HK9 := kz36
          have HR1 := rz25
          have HR2 := rz31
          have HR3 := rz37
          go_wp2
          go_ret
          have hkk : ∀ k, k ≠ sp → _ = w8.heap[k]? := fun k hk => (HR3.out.block k hk).trans ((HR2.out.block k hk).trans (HR1.out.block k hk))
          have hss := HR3.out.size.trans (HR2.out.size.trans HR1.out.size)
          have hss8 : _ = w8.heap.size := hss
          rw [HKT.out, HLY.out, if_neg (by simp), if_neg (by simp)]
          have hmw : Md (fun k => foot k ∨ k = sp) w w8 := ((Md.of_grown hGl (by simp)).trans hm9).mono fun k hk => .inl hk
          refine ⟨f8, hd8.keep (Nat.le_of_eq hss8.symm) fun k hk => hkk k (fun E => ns8 (E ▸ hk)), fun k hk => (hf9 k hk).imp id fun ⟨h1, h2⟩ => ⟨Nat.le_trans hGs h1, by rw [hss8]; exact h2⟩, rfl, ((hmw.trans (Md.of_grown (grown_drewN 1 : w8.grownBy w8.drew none) (by simp))).trans (Md.of_wr HR1.out (.inr rfl))).trans ((Md.of_wr HR2.out (.inr rfl)).trans (Md.of_wr HR3.out (.inr rfl))), ?_⟩
          exact Blk.to HK9.out (by simp [scells, hcells])
      · have hqI : ¬ (q2 : Int) = 0 := by omega
        go_wp2_with (first
        | (go_at_call 69; (refine hlay.mono ?_); rintro _ w7 ⟨rfl, f7, hd7, hf7, hm7⟩
           obtain ⟨hb7, hp7, ns7, nb7⟩ := kB7.out w7 f7 hf7 hm7
           have x70 : w7.cell? ⟨w.heap.size, 0, none⟩ = some (.int .u64 (E : Int)) := hb7.get 0 _ rfl
           have x71 : w7.cell? ⟨w.heap.size, 1, none⟩ = some (.int .u64 (C : Int)) := hb7.get 1 _ rfl
           have x72 : w7.cell? ⟨w.heap.size, 2, none⟩ = some (.int .u64 (N : Int)) := hb7.get 2 _ rfl
           have hse := kSe.out w7 f7 ⟨e, c, n, mv, hp7⟩ hd7 ns7
           have HM7 := Lib.hid hm7
           have HF7 := Lib.hid hf7
           clear hd7 hf7 hm7)
        | (go_at_call 31; (refine hse.mono ?_); rintro _ w8 ⟨rfl, hn8⟩)
        | fail)
        go_ret
        obtain ⟨f8, hd8, hf8, hm8⟩ := hn8
        have hs8 := hm8.size
        have hs7 := HM7.out.size
        have hm9 := HM7.out.trans_ext hm8 HF7.out
        have hf9 : ∀ k, f8 k → foot k ∨ (Wl.heap.size ≤ k ∧ k < w8.heap.size) := fun k hk => by
          rcases hf8 k hk with h | h
          · exact (HF7.out k h).imp id fun ⟨h1, h2⟩ => ⟨h1, Nat.lt_of_lt_of_le h2 hs8⟩
          · exact .inr ⟨Nat.le_trans hs7 h.1, h.2⟩
        obtain ⟨f10, hd10, hf10, hm10⟩ := Nxt.left hGl ⟨f8, hd8, hf9, hm9⟩
        rw [HKT.out, HLY.out, if_neg (by simp), if_pos hq2]
        exact ⟨f10, hd10, hf10, rfl, hm10⟩
    · have hqI : ¬ (q : Int) = 0 := by omega
      go_wp2_with (first
        | (go_at_call 69; (refine hlay.mono ?_); rintro _ w7 ⟨rfl, hn7⟩)
        | fail)
      go_ret
      obtain ⟨f7, hd7, hf7, hm7⟩ := Nxt.left hGl hn7
      rw [HKT.out, HLY.out, if_pos hq0]
      exact ⟨f7, hd7, hf7, rfl, hm7⟩
  · have hfI2 : decide ((nh : Int) < 1 + (m2 : Int)) = true := decide_eq_true (by omega)
    have hszb := kS.out wb.drew (hGb.trans (grown_drewN 1))
    have HKT : Hid (s.keepT ⟨hf, e, c, n, []⟩ l L2 = (4, s, none)) := by
      refine Lib.hid ?_
      rw [St.keepT, if_neg HK1.out, if_neg hmx]
      dsimp only
      rw [← HE.out, ← HP2.out, ← HR2.out, ← HM2.out, ← hnh2, if_neg hfit2]
    go_wp2
    refine wp_region_still_lit (by kernel_rfl) (by kernel_rfl) ?_
    repeat still_step
    still_call (hszb.mono fun e W ⟨he, hW⟩ => ⟨he, hW.symm⟩)
    repeat still_step
    refine wpStill_nil ?_
    change Exit.then _ _ Exit.normal _ wb.drew
    go_wp2
    go_ret
    rw [HKT.out]
    have hGl := hGb.trans (grown_drewN 1 : wb.grownBy wb.drew none)
    exact ⟨foot, HD.out.grown hGl, fun _ hk => .inl hk, rfl, Md.of_grown hGl (by simp)⟩
end Go.Proofs.YtonpcenjipigpaaGreat
