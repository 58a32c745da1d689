/- The example of five items. Conditions: none. -/
import Derived.Test.YtklcjjmeknajlaaN1
import Derived.Test.YtklcjjmeknajlaaN2
import Derived.Test.YtklcjjmeknajlaaN3
import Derived.Test.YtklcjjmeknajlaaO
import Derived.Test.YtklcjjmeknajlaaP
namespace Go.Proofs.Ytklcjjmeknajlaa
open Go.RowKit
/-- A queue in block q, its items in memory of the call's own. -/
def Que (w0 w : World) (q n : Nat) (s i wa ba : Int) : Prop := ∃ A c L, Blk w q 29 (qv (.slice A n c) s i wa ba) ∧ KRow (q + 1) w (.slice A n c) n L ∧ w0.grownBy w none ∧ w0.heap.size ≤ q
/-- A transaction in block t, with so many items. -/
def Tra (w0 w : World) (t : Nat) (i : Int) (k : Nat) : Prop := ∃ A c, Blk w t 52 (tv i (.slice A k c)) ∧ w0.heap.size ≤ t
set_option maxRecDepth 100000 in
set_option maxHeartbeats 8000000 in
theorem alive_any (w : World) : Calls Try.prog 4 #[] w fun e w' => e = .returned (.bool true) ∧ w.grownBy w' none := by
  go_enter Try.func4, Try.ntmps4
  go_wp2_with (first | (refine wpList_allocG zeQ rfl rfl ?_) | fail)
  intro gq w1 e1 b1 q1
  have hq1 : Que w w1 gq 0 0 0 0 0 := ⟨none, 0, [], b1.out, KRow.mk0 _ _ none, q1.out, by rw [e1.out]; exact Nat.le_refl _⟩
  clear e1 b1 q1
  go_wp2_with fail
  go_loopw [2] (fun u wr => ∃ k : Nat, k ≤ 5 ∧ u = .int .i64 (k : Int) ∧ Hid (Que w wr gq k 0 0 0 0)) (fun u _ => 5 - (intOf u).toNat)
  case atStart => exact ⟨0, by omega, rfl, hq1⟩
  case round =>
    clear hq1
    obtain ⟨k, hk, rfl, hq⟩ := hrel
    by_cases hlt : k < 5
    · have d1 : (k : Int) < 5 := by omega
      obtain ⟨A, c, L, hb, hr, hg, hl⟩ := hq.out
      have HB := Lib.hid hb
      have HR := Lib.hid hr
      have HG := Lib.hid hg
      have HL := Lib.hid hl
      have HK := Lib.hid hlt
      clear hb hr hg hl hlt hq
      go_wp2_with fail
      refine wp_region_held_drew (S := fun _ => True) (by kernel_rfl) trivial (fun hHeld => ?_)
      obtain ⟨V, hV⟩ : ∃ V, V = wr.drew := ⟨_, rfl⟩
      have VB : Hid (Blk V gq 29 (qv (.slice A k c) 0 0 0 0)) := by rw [hV]; exact HB.out
      have VR : Hid (KRow (gq + 1) V (.slice A k c) k L) := HR.out.at (Nat.le_refl _) fun b _ _ => by rw [hV]; rfl
      have VL : Hid (w.grownBy V none) := by rw [hV]; exact HG.out.trans (grown_drew wr)
      rw [← hV]
      clear hV
      refine' wpAnyH_take (i := 1) (oi := { dst := some 23, op := Op.move (Operand.tmp 2), type := 3, pos := "law.go:21", after := #[], guard := none }) (v := .int .i64 (k : Int)) rfl (by kernel_rfl) (by kernel_rfl) (by kernel_rfl) (fun _ _ _ h => h) (Or.inl ⟨by rfl, fun w' hSw => by go_simp⟩) (by assumption) ?qz1
      try simp only [Act.put, List.setIfInBounds_toArray, List.set_cons_zero, List.set_cons_succ]
      refine wpAnyH_ready (rs := [0, 2]) (by kernel_rfl) (by simp) ?_
      refine AllReadyH.cons (o := { dst := some 22, op := Op.load 29 (Operand.tmp 1), type := 29, pos := "law.go:21", after := #[], guard := none }) rfl (fun K hK => ?_) (AllReadyH.cons (o := { dst := some 24, op := Op.call { callee := Callee.value (Operand.func 8), args := #[Operand.tmp 23], argTypes := #[3] }, type := 49, pos := "law.go:21", after := #[{ on := 1, ground := Ground.data }], guard := none }) rfl (fun K hK => ?_) AllReadyH.nil)
      · rw [if_pos (by rfl)]
        refine wp_loadG agQ (.tmp 1) rfl gq rfl VB.out (qv_length _ _ _ _ _) ?_
        refine hK.out _ _ trivial (fun hHeld => ?_)
        clear hK K
        try simp only [Act.put, List.setIfInBounds_toArray, List.set_cons_zero, List.set_cons_succ]
        refine wpAnyH_ready (rs := [2]) (by kernel_rfl) (by simp) ?_
        refine AllReadyH.cons (o := { dst := some 24, op := Op.call { callee := Callee.value (Operand.func 8), args := #[Operand.tmp 23], argTypes := #[3] }, type := 49, pos := "law.go:21", after := #[{ on := 1, ground := Ground.data }], guard := none }) rfl (fun K hK => ?_) AllReadyH.nil
        rw [if_pos (by rfl)]
        go_simp
        with_reducible refine (ask_any _ k (by have := HK.out; omega)).mono ?_
        rintro _ vz2 ⟨rfl, qz3⟩
        have bz4 := VB.out.grown qz3 (by simp)
        have lz5 := VL.out.trans qz3
        have rz6 : KRow (gq + 1) vz2 (.slice A k c) k L := VR.out.at (Nat.le_refl _) fun b _ hb2 => World.grownBy.block qz3 b hb2 (by simp)
        refine hK.out _ _ trivial (fun hHeld => ?_)
        clear hK K
        try simp only [Act.put, List.setIfInBounds_toArray, List.set_cons_zero, List.set_cons_succ]
        refine wpAnyH_ready (rs := [3]) (by kernel_rfl) (by simp) ?_
        refine AllReadyH.cons (o := { dst := some 25, op := Op.call { callee := Callee.value (Operand.func 7), args := #[Operand.tmp 22, Operand.tmp 24], argTypes := #[29, 49] }, type := 31, pos := "law.go:21", after := #[{ on := 0, ground := Ground.data }, { on := 2, ground := Ground.data }, { on := 2, ground := Ground.chain }], guard := none }) rfl (fun K hK => ?_) AllReadyH.nil
        rw [if_pos (by rfl)]
        go_simp
        obtain ⟨Ak, ck, ek, _, _, kk⟩ := rz6.kps
        cases ek
        have hput := qput_any (c := c) 0 0 0 0 kk rz6.1.2 (by have := HK.out; omega) HK.out
        with_reducible refine hput.mono ?_
        rintro _ v3 ⟨_, rfl, Aq, cq, rfl, rq, gq3⟩
        have bq3 := bz4.grown gq3 (by simp)
        have lq3 := lz5.trans gq3
        have sg := bz4.lt
        have rq3 : KRow (gq + 1) v3 (.slice Aq (k + 1) cq) (k + 1) (L ++ [k]) := rq.at sg fun _ _ _ => rfl
        refine hK.out _ _ trivial (fun hHeld => ?_)
        clear hK K
        try simp only [Act.put, List.setIfInBounds_toArray, List.set_cons_zero, List.set_cons_succ]
        refine' wpAnyH_take (i := 4) (oi := { dst := some 21, op := Op.move (Operand.tmp 25), type := 31, pos := "law.go:21", after := #[{ on := 3, ground := Ground.data }], guard := none }) (v := .tuple #[(.agg (qv (.slice Aq (k + 1) cq) 0 0 0 0).toArray), .int .i64 0]) rfl (by kernel_rfl) (by kernel_rfl) (by kernel_rfl) (fun _ _ _ h => h) (Or.inl ⟨by rfl, fun w' hSw => by go_simp⟩) (by assumption) ?qz7
        try simp only [Act.put, List.setIfInBounds_toArray, List.set_cons_zero, List.set_cons_succ]
        refine' wpAnyH_take (i := 5) (oi := { dst := some 26, op := Op.extract (Operand.tmp 21) 0, type := 29, pos := "law.go:21", after := #[{ on := 4, ground := Ground.data }], guard := none }) (v := (.agg (qv (.slice Aq (k + 1) cq) 0 0 0 0).toArray)) rfl (by kernel_rfl) (by kernel_rfl) (by kernel_rfl) (fun _ _ _ h => h) (Or.inl ⟨by rfl, fun w' hSw => by go_simp⟩) (by assumption) ?qz8
        try simp only [Act.put, List.setIfInBounds_toArray, List.set_cons_zero, List.set_cons_succ]
        refine' wpAnyH_take (i := 6) (oi := { dst := some 27, op := Op.extract (Operand.tmp 21) 1, type := 30, pos := "law.go:21", after := #[{ on := 4, ground := Ground.data }, { on := 7, ground := Ground.gcOnly Departure.lateStores }], guard := none }) (v := .int .i64 0) rfl (by kernel_rfl) (by kernel_rfl) (by kernel_rfl) (fun _ _ _ h => h) (Or.inl ⟨by rfl, fun w' hSw => by go_simp⟩) (by assumption) ?qz9
        try simp only [Act.put, List.setIfInBounds_toArray, List.set_cons_zero, List.set_cons_succ]
        refine wpAnyH_ready (rs := [7]) (by kernel_rfl) (by simp) ?_
        refine AllReadyH.cons (o := { dst := none, op := Op.store 29 (Operand.tmp 1) (Operand.tmp 26), type := 0, pos := "law.go:21", after := #[{ on := 5, ground := Ground.data }, { on := 3, ground := Ground.chain }, { on := 0, ground := Ground.phase }, { on := 1, ground := Ground.phase }, { on := 2, ground := Ground.phase }, { on := 3, ground := Ground.phase }, { on := 4, ground := Ground.phase }, { on := 5, ground := Ground.phase }, { on := 6, ground := Ground.textOnly Departure.lateStores }], guard := none }) rfl (fun K hK => ?_) AllReadyH.nil
        rw [if_pos (by rfl)]
        refine wp_storeG agQ _ _ rfl gq rfl rfl bq3 (qv_length _ _ _ _ _) (qv_length _ _ _ _ _) (qv_one _ _ _ _ _ _ _) (fun v4 b4 g4 z4 => ?_)
        refine hK.out _ _ trivial (fun hHeld => ?_)
        clear hK K
        dsimp only [Act.put]
        refine wpAnyH_done (by kernel_rfl) ?_ _
        have hq4 : Que w v4 gq (k + 1) 0 0 0 0 := ⟨Aq, cq, _, b4.out, rq3.at (Nat.le_refl _) fun b hb1 hb2 => g4.out.block b hb2 (by simp; omega), grown_in lq3 g4.out HL.out, HL.out⟩
        have HQ4 := Lib.hid hq4
        clear hq4
        go_wp2_with fail
        go_roundw
        case rel => exact ⟨k + 1, by omega, by go_num, HQ4⟩
        case measure => simp [intOf]; omega
      · rw [if_pos (by rfl)]
        go_simp
        with_reducible refine (ask_any _ k (by have := HK.out; omega)).mono ?_
        rintro _ vz10 ⟨rfl, qz11⟩
        have bz12 := VB.out.grown qz11 (by simp)
        have lz13 := VL.out.trans qz11
        have rz14 : KRow (gq + 1) vz10 (.slice A k c) k L := VR.out.at (Nat.le_refl _) fun b _ hb2 => World.grownBy.block qz11 b hb2 (by simp)
        refine hK.out _ _ trivial (fun hHeld => ?_)
        clear hK K
        try simp only [Act.put, List.setIfInBounds_toArray, List.set_cons_zero, List.set_cons_succ]
        refine wpAnyH_ready (rs := [0]) (by kernel_rfl) (by simp) ?_
        refine AllReadyH.cons (o := { dst := some 22, op := Op.load 29 (Operand.tmp 1), type := 29, pos := "law.go:21", after := #[], guard := none }) rfl (fun K hK => ?_) AllReadyH.nil
        rw [if_pos (by rfl)]
        refine wp_loadG agQ (.tmp 1) rfl gq rfl bz12 (qv_length _ _ _ _ _) ?_
        refine hK.out _ _ trivial (fun hHeld => ?_)
        clear hK K
        try simp only [Act.put, List.setIfInBounds_toArray, List.set_cons_zero, List.set_cons_succ]
        refine wpAnyH_ready (rs := [3]) (by kernel_rfl) (by simp) ?_
        refine AllReadyH.cons (o := { dst := some 25, op := Op.call { callee := Callee.value (Operand.func 7), args := #[Operand.tmp 22, Operand.tmp 24], argTypes := #[29, 49] }, type := 31, pos := "law.go:21", after := #[{ on := 0, ground := Ground.data }, { on := 2, ground := Ground.data }, { on := 2, ground := Ground.chain }], guard := none }) rfl (fun K hK => ?_) AllReadyH.nil
        rw [if_pos (by rfl)]
        go_simp
        obtain ⟨Ak, ck, ek, _, _, kk⟩ := rz14.kps
        cases ek
        have hput := qput_any (c := c) 0 0 0 0 kk rz14.1.2 (by have := HK.out; omega) HK.out
        with_reducible refine hput.mono ?_
        rintro _ v3 ⟨_, rfl, Aq, cq, rfl, rq, gq3⟩
        have bq3 := bz12.grown gq3 (by simp)
        have lq3 := lz13.trans gq3
        have sg := bz12.lt
        have rq3 : KRow (gq + 1) v3 (.slice Aq (k + 1) cq) (k + 1) (L ++ [k]) := rq.at sg fun _ _ _ => rfl
        refine hK.out _ _ trivial (fun hHeld => ?_)
        clear hK K
        try simp only [Act.put, List.setIfInBounds_toArray, List.set_cons_zero, List.set_cons_succ]
        refine' wpAnyH_take (i := 4) (oi := { dst := some 21, op := Op.move (Operand.tmp 25), type := 31, pos := "law.go:21", after := #[{ on := 3, ground := Ground.data }], guard := none }) (v := .tuple #[(.agg (qv (.slice Aq (k + 1) cq) 0 0 0 0).toArray), .int .i64 0]) rfl (by kernel_rfl) (by kernel_rfl) (by kernel_rfl) (fun _ _ _ h => h) (Or.inl ⟨by rfl, fun w' hSw => by go_simp⟩) (by assumption) ?qz15
        try simp only [Act.put, List.setIfInBounds_toArray, List.set_cons_zero, List.set_cons_succ]
        refine' wpAnyH_take (i := 5) (oi := { dst := some 26, op := Op.extract (Operand.tmp 21) 0, type := 29, pos := "law.go:21", after := #[{ on := 4, ground := Ground.data }], guard := none }) (v := (.agg (qv (.slice Aq (k + 1) cq) 0 0 0 0).toArray)) rfl (by kernel_rfl) (by kernel_rfl) (by kernel_rfl) (fun _ _ _ h => h) (Or.inl ⟨by rfl, fun w' hSw => by go_simp⟩) (by assumption) ?qz16
        try simp only [Act.put, List.setIfInBounds_toArray, List.set_cons_zero, List.set_cons_succ]
        refine' wpAnyH_take (i := 6) (oi := { dst := some 27, op := Op.extract (Operand.tmp 21) 1, type := 30, pos := "law.go:21", after := #[{ on := 4, ground := Ground.data }, { on := 7, ground := Ground.gcOnly Departure.lateStores }], guard := none }) (v := .int .i64 0) rfl (by kernel_rfl) (by kernel_rfl) (by kernel_rfl) (fun _ _ _ h => h) (Or.inl ⟨by rfl, fun w' hSw => by go_simp⟩) (by assumption) ?qz17
        try simp only [Act.put, List.setIfInBounds_toArray, List.set_cons_zero, List.set_cons_succ]
        refine wpAnyH_ready (rs := [7]) (by kernel_rfl) (by simp) ?_
        refine AllReadyH.cons (o := { dst := none, op := Op.store 29 (Operand.tmp 1) (Operand.tmp 26), type := 0, pos := "law.go:21", after := #[{ on := 5, ground := Ground.data }, { on := 3, ground := Ground.chain }, { on := 0, ground := Ground.phase }, { on := 1, ground := Ground.phase }, { on := 2, ground := Ground.phase }, { on := 3, ground := Ground.phase }, { on := 4, ground := Ground.phase }, { on := 5, ground := Ground.phase }, { on := 6, ground := Ground.textOnly Departure.lateStores }], guard := none }) rfl (fun K hK => ?_) AllReadyH.nil
        rw [if_pos (by rfl)]
        refine wp_storeG agQ _ _ rfl gq rfl rfl bq3 (qv_length _ _ _ _ _) (qv_length _ _ _ _ _) (qv_one _ _ _ _ _ _ _) (fun v4 b4 g4 z4 => ?_)
        refine hK.out _ _ trivial (fun hHeld => ?_)
        clear hK K
        dsimp only [Act.put]
        refine wpAnyH_done (by kernel_rfl) ?_ _
        have hq4 : Que w v4 gq (k + 1) 0 0 0 0 := ⟨Aq, cq, _, b4.out, rq3.at (Nat.le_refl _) fun b hb1 hb2 => g4.out.block b hb2 (by simp; omega), grown_in lq3 g4.out HL.out, HL.out⟩
        have HQ4 := Lib.hid hq4
        clear hq4
        go_wp2_with fail
        go_roundw
        case rel => exact ⟨k + 1, by omega, by go_num, HQ4⟩
        case measure => simp [intOf]; omega
    · have d1 : ¬ (k : Int) < 5 := by omega
      obtain rfl : k = 5 := by omega
      clear hk
      have HQ := hq
      clear hq
      have HQa := HQ
      clear HQ
      obtain ⟨Aa, ca, La, hba, hra, hga, hla⟩ := HQa.out
      obtain ⟨_, _, ea, la, _, ka⟩ := hra.kps
      cases ea
      have Ba := Lib.hid hba
      have Ra := Lib.hid hra
      have Ga := Lib.hid hga
      have HLa := Lib.hid hla
      have Ka := Lib.hid ka
      have Ca := Lib.hid la
      clear hba hra hga hla ka HQa la
      have Pa := Lib.hid (poll_first (c := ca) Ka.out Ra.out.1.2)
      go_wp2_with (first | (refine wpList_loadG agQ rfl (.tmp 1) rfl gq rfl Ba.out (qv_length _ _ _ _ _) ?_) | (go_at_call 9; refine Pa.out.mono ?_; rintro _ waa ⟨_, Ata, cta, rfl, Ab, cb, rfl, ra, qa⟩; have RAa := Lib.hid ra; have QAa := Lib.hid qa; clear ra qa) | (refine wpList_allocG zeT rfl rfl ?_) | fail)
      intro g3 wba eba bba qba
      have hqa := (Ba.out.grown QAa.out (by simp))
      have EBa := Lib.hid eba.out
      have Ng3 : Hid (gq ≠ g3) := by rw [EBa.out]; exact Nat.ne_of_lt hqa.lt
      have BQa := Lib.hid (hqa.grown qba.out (by simp))
      have BBa := Lib.hid bba.out
      have QBa := Lib.hid qba.out
      clear eba bba qba hqa
      go_wp2_with (first | (refine wpList_storeG agQ rfl (.tmp 1) (.tmp 31) rfl gq rfl rfl BQa.out (qv_length _ _ _ _ _) (qv_length _ _ _ _ _) (qv_one _ _ _ _ _ _ _) ?_) | fail)
      intro wca bca qca _
      have BCa := Lib.hid bca.out
      have QCa := Lib.hid qca.out
      have BDa := Lib.hid (BBa.out.grown qca.out (by simpa using Ng3.out.symm))
      clear bca qca
      go_wp2_with (first | (refine wpList_storeG agT rfl (.tmp 3) (.tmp 32) rfl g3 rfl rfl BDa.out (tv_length _ _) (tv_length _ _) (tv_one _ _ _ _) ?_) | fail)
      intro wda bda qda _
      have hBb := BCa.out.grown qda.out (by simpa using Ng3.out)
      have hGb : w.grownBy wda none := grown_in (grown_in ((Ga.out.trans QAa.out).trans QBa.out) QCa.out HLa.out) qda.out (by rw [EBa.out]; exact (Ga.out.trans QAa.out).size)
      have hRb : KRow (gq + 1) wda (.slice Ab 5 cb) 5 La := RAa.out.at Ba.out.lt fun b hb1 hb2 => (qda.out.block b (Nat.lt_of_lt_of_le hb2 (Nat.le_trans QBa.out.size QCa.out.size)) (by have := EBa.out; simp; omega)).trans ((QCa.out.block b (Nat.lt_of_lt_of_le hb2 QBa.out.size) (by have := Ba.out.lt; simp; omega)).trans (QBa.out.block b hb2 (by simp)))
      have HQb : Hid (Que w wda gq 5 4 1 1 1) := ⟨Ab, cb, La, hBb, hRb, hGb, HLa.out⟩
      have Tg3b := Lib.hid bda.out
      clear bda qda hBb hGb hRb Ba Ra Ga HLa Ka Ca RAa QAa BQa BBa QBa BCa QCa BDa
      obtain ⟨Ab, cb, Lb, hbb, hrb, hgb, hlb⟩ := HQb.out
      obtain ⟨_, _, eb, lb, _, kb⟩ := hrb.kps
      cases eb
      have Bb := Lib.hid hbb
      have Rb := Lib.hid hrb
      have Gb := Lib.hid hgb
      have HLb := Lib.hid hlb
      have Kb := Lib.hid kb
      have Cb := Lib.hid lb
      clear hbb hrb hgb hlb kb HQb lb
      have Pb := Lib.hid (poll_wait (c := cb) Kb.out Rb.out.1.2)
      go_wp2_with (first | (refine wpList_loadG agQ rfl (.tmp 1) rfl gq rfl Bb.out (qv_length _ _ _ _ _) ?_) | (go_at_call 9; refine Pb.out.mono ?_; rintro _ wab ⟨_, Atb, ctb, rfl, Ac, cc, rfl, ra, qa⟩; have QAb := Lib.hid qa; clear ra qa) | (refine wpList_allocG zeQ rfl rfl ?_) | fail)
      intro g5 wbb ebb bbb qbb
      have QBb := Lib.hid (QAb.out.trans qbb.out)
      have S5 : Hid (wda.heap.size ≤ g5) := by rw [ebb.out]; exact QAb.out.size
      have BBb := Lib.hid bbb.out
      clear ebb bbb qbb
      go_wp2_with (first | (refine wpList_allocG zeT rfl rfl ?_) | fail)
      intro g6 web eeb beb qeb
      have QEb := Lib.hid (QBb.out.trans qeb.out)
      have S6 : Hid (wda.heap.size ≤ g6) := by rw [eeb.out]; exact QBb.out.size
      have NEb : Hid (g5 ≠ g6) := by rw [eeb.out]; exact Nat.ne_of_lt BBb.out.lt
      have BEb := Lib.hid beb.out
      have BFb := Lib.hid (BBb.out.grown qeb.out (by simp))
      clear eeb beb qeb
      go_wp2_with (first | (refine wpList_storeG agQ rfl (.tmp 5) (.tmp 37) rfl g5 rfl rfl BFb.out (qv_length _ _ _ _ _) (qv_length _ _ _ _ _) (qv_one _ _ _ _ _ _ _) ?_) | fail)
      intro wcb bcb qcb _
      have QCb := Lib.hid (grown_in QEb.out qcb.out S5.out)
      have BGb := Lib.hid (BEb.out.grown qcb.out (by simpa using NEb.out.symm))
      clear bcb qcb
      go_wp2_with (first | (refine wpList_storeG agT rfl (.tmp 6) (.tmp 38) rfl g6 rfl rfl BGb.out (tv_length _ _) (tv_length _ _) (tv_one _ _ _ _) ?_) | fail)
      intro wdb bdb qdb _
      have hQ : wda.grownBy wdb none := grown_in QCb.out qdb.out S6.out
      have HQc : Hid (Que w wdb gq 5 4 1 1 1) := ⟨Ab, cb, Lb, Bb.out.grown hQ (by simp), Rb.out.at (Nat.le_refl _) fun b _ hb2 => hQ.block b hb2 (by simp), Gb.out.trans hQ, HLb.out⟩
      have Tg3c := Lib.hid (Tg3b.out.grown hQ (by simp))
      clear bdb qdb hQ Bb Rb Gb HLb Kb Cb QAb BBb QBb QEb BEb BFb QCb BGb S5 S6 NEb
      obtain ⟨Ac, cc, Lc, hbc, hrc, hgc, hlc⟩ := HQc.out
      obtain ⟨_, _, ec, lc, _, kc⟩ := hrc.kps
      cases ec
      have Bc := Lib.hid hbc
      have Rc := Lib.hid hrc
      have Gc := Lib.hid hgc
      have HLc := Lib.hid hlc
      have Kc := Lib.hid kc
      have Cc := Lib.hid lc
      clear hbc hrc hgc hlc kc HQc lc
      have Pc := Lib.hid (tick_any (c := cc) 4 1 1 Kc.out Rc.out.1.2 (by omega))
      go_wp2_with (first | (refine wpList_loadG agQ rfl (.tmp 1) rfl gq rfl Bc.out (qv_length _ _ _ _ _) ?_) | (go_at_call 10; refine Pc.out.mono ?_; rintro _ wtc ⟨_, rfl, Amc, cmc, rfl, rt, qt⟩; obtain ⟨_, _, et, _, _, kt⟩ := rt.kps; cases et; have QTc := Lib.hid qt; have P2c := Lib.hid (poll_again (c := cmc) kt rt.1.2); clear rt qt kt Pc) | (go_at_call 9; refine P2c.out.mono ?_; rintro _ wac ⟨_, Atc, ctc, rfl, Ad, cd, rfl, ra, qa⟩; have RAc := Lib.hid (ra.at (B' := wdb.heap.size) QTc.out.size fun _ _ _ => rfl); have QAc := Lib.hid (QTc.out.trans qa); clear ra qa) | (refine wpList_allocG zeT rfl rfl ?_) | fail)
      intro g8 wbc ebc bbc qbc
      have hqc := (Bc.out.grown QAc.out (by simp))
      have EBc := Lib.hid ebc.out
      have Ng8 : Hid (gq ≠ g8) := by rw [EBc.out]; exact Nat.ne_of_lt hqc.lt
      have BQc := Lib.hid (hqc.grown qbc.out (by simp))
      have BBc := Lib.hid bbc.out
      have QBc := Lib.hid qbc.out
      have Tg3Ng8 : Hid (g3 ≠ g8) := by rw [EBc.out]; exact Nat.ne_of_lt (Tg3c.out.grown QAc.out (by simp)).lt
      have Tg3bc := Lib.hid ((Tg3c.out.grown QAc.out (by simp)).grown qbc.out (by simp))
      clear ebc bbc qbc hqc
      go_wp2_with (first | (refine wpList_storeG agQ rfl (.tmp 1) (.tmp 44) rfl gq rfl rfl BQc.out (qv_length _ _ _ _ _) (qv_length _ _ _ _ _) (qv_one _ _ _ _ _ _ _) ?_) | fail)
      intro wcc bcc qcc _
      have BCc := Lib.hid bcc.out
      have QCc := Lib.hid qcc.out
      have BDc := Lib.hid (BBc.out.grown qcc.out (by simpa using Ng8.out.symm))
      have Tg3cc := Lib.hid (Tg3bc.out.grown qcc.out (by simpa using Ng3.out.symm))
      clear bcc qcc
      go_wp2_with (first | (refine wpList_storeG agT rfl (.tmp 8) (.tmp 45) rfl g8 rfl rfl BDc.out (tv_length _ _) (tv_length _ _) (tv_one _ _ _ _) ?_) | fail)
      intro wdc bdc qdc _
      have hBd := BCc.out.grown qdc.out (by simpa using Ng8.out)
      have hGd : w.grownBy wdc none := grown_in (grown_in ((Gc.out.trans QAc.out).trans QBc.out) QCc.out HLc.out) qdc.out (by rw [EBc.out]; exact (Gc.out.trans QAc.out).size)
      have hRd : KRow (gq + 1) wdc (.slice Ad 5 cd) 5 Lc := RAc.out.at Bc.out.lt fun b hb1 hb2 => (qdc.out.block b (Nat.lt_of_lt_of_le hb2 (Nat.le_trans QBc.out.size QCc.out.size)) (by have := EBc.out; simp; omega)).trans ((QCc.out.block b (Nat.lt_of_lt_of_le hb2 QBc.out.size) (by have := Bc.out.lt; simp; omega)).trans (QBc.out.block b hb2 (by simp)))
      have HQd : Hid (Que w wdc gq 5 4 1 2 2) := ⟨Ad, cd, Lc, hBd, hRd, hGd, HLc.out⟩
      have Tg8d := Lib.hid bdc.out
      have Tg3d := Lib.hid (Tg3cc.out.grown qdc.out (by simpa using Tg3Ng8.out))
      clear bdc qdc hBd hGd hRd Bc Rc Gc HLc Kc Cc RAc QAc BQc BBc QBc BCc QCc BDc
      obtain ⟨Ad, cd, Ld, hbd, hrd, hgd, hld⟩ := HQd.out
      obtain ⟨_, _, ed, ld, _, kd⟩ := hrd.kps
      cases ed
      have Bd := Lib.hid hbd
      have Rd := Lib.hid hrd
      have Gd := Lib.hid hgd
      have HLd := Lib.hid hld
      have Kd := Lib.hid kd
      have Cd := Lib.hid ld
      clear hbd hrd hgd hld kd HQd ld
      have Pd := Lib.hid (acked_any (c := cd) Kd.out Rd.out.1.2 Cd.out)
      have c9 : wdc.cell? ⟨gq, 3, none⟩ = some (.int .u8 2) := Bd.out.get 3 _ rfl
      go_wp2_with (first | (refine wpList_loadG agQ rfl (.tmp 1) rfl gq rfl Bd.out (qv_length _ _ _ _ _) ?_) | (go_at_call 11; refine Pd.out.mono ?_; rintro _ wad ⟨_, rfl, Ae, ce, rfl, ra, qa⟩; have RAd := Lib.hid ra; have QAd := Lib.hid qa; have BQd := Lib.hid (Bd.out.grown qa (by simp)); clear ra qa) | (refine wpList_storeG agQ rfl (.tmp 1) (.tmp 52) rfl gq rfl rfl BQd.out (qv_length _ _ _ _ _) (qv_length _ _ _ _ _) (qv_one _ _ _ _ _ _ _) ?_) | fail)
      intro wdd bdd qdd _
      have hGe : w.grownBy wdd none := grown_in (Gd.out.trans QAd.out) qdd.out HLd.out
      have hRe : KRow (gq + 1) wdd (.slice Ae 1 ce) 1 (Ld.drop 4) := RAd.out.at Bd.out.lt fun b hb1 hb2 => qdd.out.block b hb2 (by have := Bd.out.lt; simp; omega)
      have HQe : Hid (Que w wdd gq 1 0 1 0 0) := ⟨Ae, ce, Ld.drop 4, bdd.out, hRe, hGe, HLd.out⟩
      have Tg3e := Lib.hid ((Tg3d.out.grown QAd.out (by simp)).grown qdd.out (by simpa using Ng3.out.symm))
      have Tg8e := Lib.hid ((Tg8d.out.grown QAd.out (by simp)).grown qdd.out (by simpa using Ng8.out.symm))
      clear bdd qdd hGe hRe Bd Rd Gd HLd Kd Cd RAd QAd BQd c9 Pd
      obtain ⟨Ae, ce, Le, hbe, hre, hge, hle⟩ := HQe.out
      obtain ⟨_, _, ee, le, _, ke⟩ := hre.kps
      cases ee
      have Be := Lib.hid hbe
      have Re := Lib.hid hre
      have Ge := Lib.hid hge
      have HLe := Lib.hid hle
      have Ke := Lib.hid ke
      have Ce := Lib.hid le
      clear hbe hre hge hle ke HQe le
      have Pe := Lib.hid (poll_second (c := ce) Ke.out Re.out.1.2)
      go_wp2_with (first | (refine wpList_loadG agQ rfl (.tmp 1) rfl gq rfl Be.out (qv_length _ _ _ _ _) ?_) | (go_at_call 9; refine Pe.out.mono ?_; rintro _ wae ⟨_, Ate, cte, rfl, Af, cf, rfl, ra, qa⟩; have RAe := Lib.hid ra; have QAe := Lib.hid qa; clear ra qa) | (refine wpList_allocG zeT rfl rfl ?_) | fail)
      intro g12 wbe ebe bbe qbe
      have hqe := (Be.out.grown QAe.out (by simp))
      have EBe := Lib.hid ebe.out
      have Ng12 : Hid (gq ≠ g12) := by rw [EBe.out]; exact Nat.ne_of_lt hqe.lt
      have BQe := Lib.hid (hqe.grown qbe.out (by simp))
      have BBe := Lib.hid bbe.out
      have QBe := Lib.hid qbe.out
      have Tg3Ng12 : Hid (g3 ≠ g12) := by rw [EBe.out]; exact Nat.ne_of_lt (Tg3e.out.grown QAe.out (by simp)).lt
      have Tg3be := Lib.hid ((Tg3e.out.grown QAe.out (by simp)).grown qbe.out (by simp))
      have Tg8Ng12 : Hid (g8 ≠ g12) := by rw [EBe.out]; exact Nat.ne_of_lt (Tg8e.out.grown QAe.out (by simp)).lt
      have Tg8be := Lib.hid ((Tg8e.out.grown QAe.out (by simp)).grown qbe.out (by simp))
      clear ebe bbe qbe hqe
      go_wp2_with (first | (refine wpList_storeG agQ rfl (.tmp 1) (.tmp 57) rfl gq rfl rfl BQe.out (qv_length _ _ _ _ _) (qv_length _ _ _ _ _) (qv_one _ _ _ _ _ _ _) ?_) | fail)
      intro wce bce qce _
      have BCe := Lib.hid bce.out
      have QCe := Lib.hid qce.out
      have BDe := Lib.hid (BBe.out.grown qce.out (by simpa using Ng12.out.symm))
      have Tg3ce := Lib.hid (Tg3be.out.grown qce.out (by simpa using Ng3.out.symm))
      have Tg8ce := Lib.hid (Tg8be.out.grown qce.out (by simpa using Ng8.out.symm))
      clear bce qce
      go_wp2_with (first | (refine wpList_storeG agT rfl (.tmp 12) (.tmp 58) rfl g12 rfl rfl BDe.out (tv_length _ _) (tv_length _ _) (tv_one _ _ _ _) ?_) | fail)
      intro wde bde qde _
      have hBf := BCe.out.grown qde.out (by simpa using Ng12.out)
      have hGf : w.grownBy wde none := grown_in (grown_in ((Ge.out.trans QAe.out).trans QBe.out) QCe.out HLe.out) qde.out (by rw [EBe.out]; exact (Ge.out.trans QAe.out).size)
      have hRf : KRow (gq + 1) wde (.slice Af 1 cf) 1 Le := RAe.out.at Be.out.lt fun b hb1 hb2 => (qde.out.block b (Nat.lt_of_lt_of_le hb2 (Nat.le_trans QBe.out.size QCe.out.size)) (by have := EBe.out; simp; omega)).trans ((QCe.out.block b (Nat.lt_of_lt_of_le hb2 QBe.out.size) (by have := Be.out.lt; simp; omega)).trans (QBe.out.block b hb2 (by simp)))
      have HQf : Hid (Que w wde gq 1 1 2 1 1) := ⟨Af, cf, Le, hBf, hRf, hGf, HLe.out⟩
      have Tg12f := Lib.hid bde.out
      have Tg3f := Lib.hid (Tg3ce.out.grown qde.out (by simpa using Tg3Ng12.out))
      have Tg8f := Lib.hid (Tg8ce.out.grown qde.out (by simpa using Tg8Ng12.out))
      clear bde qde hBf hGf hRf Be Re Ge HLe Ke Ce RAe QAe BQe BBe QBe BCe QCe BDe
      have htk : Calls Try.prog 5 #[.int .u16 1, .int .u16 1] wde fun e w' => e = .returned (.tuple #[.int .u16 1, .bool false, .bool true]) ∧ wde = w' := take_any wde 1 1 (by omega) (by omega)
      have TK := Lib.hid htk
      clear htk
      obtain ⟨Af2, cf2, Lf, hbf, hrf, hgf, hlf⟩ := HQf.out
      have m1 : wde.cell? ⟨g3, 0, none⟩ = some (.int .u16 1) := Tg3f.out.get 0 _ rfl
      have m2 := Tg3f.out.get 1 _ rfl
      have m3 : wde.cell? ⟨g8, 0, none⟩ = some (.int .u16 1) := Tg8f.out.get 0 _ rfl
      have m4 : wde.cell? ⟨g12, 0, none⟩ = some (.int .u16 2) := Tg12f.out.get 0 _ rfl
      have m5 := Tg12f.out.get 1 _ rfl
      have m6 : wde.cell? ⟨gq, 0, none⟩ = some (.slice Af2 1 cf2) := hbf.get 0 _ rfl
      have GF := Lib.hid hgf
      clear hbf hrf hgf hlf HQf Tg3f Tg8f Tg12f
      go_wp2_with (first | (go_at_call 5; refine TK.out.mono ?_; rintro _ _ ⟨rfl, rfl⟩) | fail)
      go_ret
      exact ⟨rfl, GF.out⟩
end Go.Proofs.Ytklcjjmeknajlaa
