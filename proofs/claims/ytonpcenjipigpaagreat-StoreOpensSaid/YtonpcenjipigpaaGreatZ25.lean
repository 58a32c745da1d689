/- The reference's head: what a block says of a half. Conditions: a block's bytes. -/
import Derived.Test.YtonpcenjipigpaaGreatZ16
import Derived.Test.YtonpcenjipigpaaGreatZ24
import Derived.BigQuiet
namespace Go.Proofs.YtonpcenjipigpaaGreat
open Go.RowKit
theorem results_tmp4 {fn : Func} {t u v x : Tmp} (h : fn.results = #[.tmp t, .tmp u, .tmp v, .tmp x]) (tmps : Array Value) (P : Program) (w : World) :
    (results fn tmps).run P w = .ok (.tuple #[tmps.getD t undef, tmps.getD u undef, tmps.getD v undef, tmps.getD x undef]) w := by
  simp [results, h]
theorem zb_take (k : Nat) (h : k ≤ 64) : (zb 64).take k = zb k := by unfold zb; rw [List.take_replicate]; congr 1; omega
theorem take_zero_succ {b : List UInt8} {k : Nat} (hk : k < b.length) : b.take (k + 1) = zb (k + 1) ↔ b.take k = zb k ∧ b[k] = 0 := by
  rw [← List.take_append_getElem hk, zb_snoc]
  constructor
  · intro h
    have := List.append_inj' h rfl
    exact ⟨this.1, by simpa using this.2⟩
  · rintro ⟨h1, h2⟩
    rw [h1, h2]
/-- How the reference's head tells what a block says. -/
def headK (t : Nat) : Int := if t = 0 then 1 else if t = 2 then 0 else -1
def RHeadE (w : World) (t : Nat × Nat × Nat × Nat) (e : Ending) (w' : World) : Prop := e = .returned (.tuple #[.int .u64 (t.2.1 : Int), .int .i64 (t.2.2.1 : Int), .int .i64 (t.2.2.2 : Int), .int .i64 (headK t.1)]) ∧ Below w.heap.size w w'
set_option maxRecDepth 100000 in
set_option maxHeartbeats 4000000 in
theorem rhead_any {w : World} {g h cp : Nat} {b : List UInt8} (hbt : Byt w (fun k => k = g) (some ⟨g, 0, none⟩) b) (hlt0 : g < w.heap.size) (hl : b.length = 64) (hcp : 64 ≤ cp) (hcm : cp ≤ maxLen) (hh : h ≤ 4096) :
    Calls Tryz.prog 33 #[.slice (some ⟨g, 0, none⟩) 64 cp, .int .i64 (h : Int)] w (RHeadE w (headT b h)) := by
  unfold maxLen at hcm
  go_enter Tryz.func33, Tryz.ntmps33
  go_wp2
  go_loop [8, 9] (fun z i => ∃ (k : Nat) (zz : Bool), k ≤ 64 ∧ i = .int .i64 (k : Int) ∧ z = .bool zz ∧ Hid (zz = true ↔ b.take k = zb k)) (fun _ i => 64 - (intOf i).toNat)
  case atStart => exact ⟨0, true, by omega, rfl, rfl, ⟨fun _ => rfl, fun _ => rfl⟩⟩
  case round =>
    obtain ⟨k, zz, hk, rfl, rfl, hz⟩ := hrel
    by_cases hlt : k < 64
    · obtain ⟨ad, had, _, hc⟩ := hbt k (by omega)
      cases had
      rw [Addr.add_lit, Nat.zero_add] at hc
      have ht := take_zero_succ (b := b) (k := k) (by omega)
      obtain ⟨x, hx⟩ : ∃ x, x = b[k] := ⟨_, rfl⟩
      rw [← hx] at hc ht
      have HT := Lib.hid ht
      clear ht hx hbt
      cases zz with
      | true =>
        by_cases hx0 : x = 0
        · subst hx0
          go_wp2
          go_round
          case rel => exact ⟨k + 1, true, by omega, by go_num, rfl, ⟨fun _ => HT.out.2 ⟨hz.out.1 rfl, rfl⟩, fun _ => rfl⟩⟩
          case measure => simp [intOf]; omega
        · have hxn : ¬ ((x.toNat : Int) = 0) := fun e => hx0 (UInt8.toNat_inj.1 (by simpa using e))
          go_wp2
          go_round
          case rel => exact ⟨k + 1, false, by omega, by go_num, by rw [beq_eq_false_iff_ne.2 hxn], ⟨fun h => (by cases h), fun h => absurd (HT.out.1 h).2 hx0⟩⟩
          case measure => simp [intOf]; omega
      | false =>
        go_wp2
        go_round
        case rel => exact ⟨k + 1, false, by omega, by go_num, rfl, ⟨fun h => (by cases h), fun h => (hz.out.2 (HT.out.1 h).1)⟩⟩
        case measure => simp [intOf]; omega
    · obtain rfl : k = 64 := by omega
      have hz64 : Hid (zz = true ↔ b = zb 64) := by
        have := hz.out
        rwa [List.take_of_length_le (by omega)] at this
      cases zz with
      | true =>
        have hT : headT b h = (2, 0, 0, 0) := by rw [headT, if_pos (hz64.out.1 rfl)]
        have HTT := Lib.hid hT
        clear hT hz hz64 hbt
        go_wp2
        try simp only [Exit.inBlock, Exit.then]
        refine bodyPost_ret (results_tmp4 rfl _ _ _) rfl ?_
        exact ⟨by rw [HTT.out]; rfl, Below.refl _ _⟩
      | false =>
        have hnz : b ≠ zb 64 := fun e => by have := hz64.out.2 e; cases this
        obtain ⟨e, he⟩ : ∃ e, e = nb ((b.drop 4).take 8) := ⟨_, rfl⟩
        obtain ⟨c, hc⟩ : ∃ c, c = nb ((b.drop 12).take 4) := ⟨_, rfl⟩
        obtain ⟨n, hn⟩ : ∃ n, n = nb ((b.drop 16).take 4) := ⟨_, rfl⟩
        have hel : e < 18446744073709551616 := by rw [he]; exact nb_lt 8 _ (by rw [List.length_take, List.length_drop]; omega)
        have hcl : c < 4294967296 := by rw [hc]; exact nb_lt 4 _ (by rw [List.length_take, List.length_drop]; omega)
        have hnl : n < 4294967296 := by rw [hn]; exact nb_lt 4 _ (by rw [List.length_take, List.length_drop]; omega)
        have hT : headT b h = if hdr1 e c n = b.take 24 ∧ 1 ≤ n ∧ n ≤ h then (0, e, c, n) else (160, 0, 0, 0) := by rw [headT, if_neg hnz, he, hc, hn]
        have kE : ∀ cc, Calls Tryz.prog 58 #[.slice (some ⟨g, 4, none⟩) 8 cc] w fun r w' => r = .returned (.tuple #[.int .u64 (e : Int), .bool true]) ∧ w = w' := fun cc => by
          have hlen : ((b.drop 4).take 8).length = 8 := by rw [List.length_take, List.length_drop]; omega
          have := refget_any (c := cc) (hbt.mid (o := 4) (n := 8)) (by rw [hlen]; unfold maxLen; omega)
          rw [hlen, getV, if_pos (by omega), ← he] at this
          exact this
        have kC : ∀ cc, Calls Tryz.prog 58 #[.slice (some ⟨g, 12, none⟩) 4 cc] w fun r w' => r = .returned (.tuple #[.int .u64 (c : Int), .bool true]) ∧ w = w' := fun cc => by
          have hlen : ((b.drop 12).take 4).length = 4 := by rw [List.length_take, List.length_drop]; omega
          have := refget_any (c := cc) (hbt.mid (o := 12) (n := 4)) (by rw [hlen]; unfold maxLen; omega)
          rw [hlen, getV, if_pos (by omega), ← hc] at this
          exact this
        have kN : ∀ cc, Calls Tryz.prog 58 #[.slice (some ⟨g, 16, none⟩) 4 cc] w fun r w' => r = .returned (.tuple #[.int .u64 (n : Int), .bool true]) ∧ w = w' := fun cc => by
          have hlen : ((b.drop 16).take 4).length = 4 := by rw [List.length_take, List.length_drop]; omega
          have := refget_any (c := cc) (hbt.mid (o := 16) (n := 4)) (by rw [hlen]; unfold maxLen; omega)
          rw [hlen, getV, if_pos (by omega), ← hn] at this
          exact this
        have HT := Lib.hid hT
        have kH := fun W => refHead_any e c n W hel hcl hnl
        clear hT hz hz64 hnz he hc hn
        go_wp2_with (first
          | (go_at_call 58; with_reducible refine (kE _).mono ?_; rintro _ _ ⟨rfl, rfl⟩)
          | (go_at_call 58; with_reducible refine (kC _).mono ?_; rintro _ _ ⟨rfl, rfl⟩)
          | (go_at_call 58; with_reducible refine (kN _).mono ?_; rintro _ _ ⟨rfl, rfl⟩)
          | fail)
        have hlB := hdrB_length e c n
        have wc : IntKind.i64.wrap (c : Int) = (c : Int) := IntWalk.i64_in _ (by omega)
        have wn : IntKind.i64.wrap (n : Int) = (n : Int) := IntWalk.i64_in _ (by omega)
        have wh : IntKind.u64.wrap (h : Int) = (h : Int) := by rw [IntKind.wrap_u64]; omega
        have HKB : Hid (∀ W, Below w.heap.size w W → Byt W (fun k => k = g) (some ⟨g, 0, none⟩) b) := fun W hW => hbt.below hW fun k hk => by rw [hk]; exact hlt0
        have HS24 : Hid (∀ W, Byt W (fun k => k = g) (some ⟨g, 0, none⟩) b → (convert 40 9 (.slice (some ⟨g, 0, none⟩) 24 cp)).run Tryz.prog W = .ok (.string ⟨(b.take 24).toArray⟩) W) := fun W hW => by
          have := (hW.take 24).str cp
          rwa [List.length_take, hl] at this
        have HDS : ∀ (W : World) (A : Option Addr) (cc : Nat), Byt W (fun b => b < W.heap.size) A (hdrB e c n) → (convert 40 9 (.slice A 24 cc)).run Tryz.prog W = .ok (.string ⟨(hdr1 e c n).toArray⟩) W := fun W A cc hW => by
          have := (hW.take 24).str cc
          rw [hdrB_eq, List.take_left' (hdr1_length e c n), hdr1_length] at this
          exact this
        have hq0 : Below w.heap.size w w.drew := below_of_grown (grown_drewN 1)
        by_cases hP : hdr1 e c n = b.take 24
        · rw [hP] at HDS
          by_cases hn1 : n < 1
          · have hT : headT b h = (160, 0, 0, 0) := by rw [HT.out, if_neg (fun hc => by omega)]
            have HTT := Lib.hid hT
            clear hT HT
            refine wp_region_held_drew (S := fun W => Byt W (fun k => k = g) (some ⟨g, 0, none⟩) b) (by kernel_rfl) (HKB.out _ hq0) (fun hHeld => ?_)
            refine' wpAnyH_take (i := 0) (oi := { dst := some 47, op := Op.move (Operand.tmp 10), type := 49, pos := "ref.go:129", after := #[], guard := none }) (v := .int .u64 (e : Int)) rfl (by kernel_rfl) (by kernel_rfl) (by kernel_rfl) (fun _ _ _ h => h) (Or.inl ⟨by rfl, fun w' hSw => by go_simp⟩) (by assumption) ?qz1
            try simp only [Act.put, List.setIfInBounds_toArray, List.set_cons_zero, List.set_cons_succ]
            refine' wpAnyH_take (i := 1) (oi := { dst := some 48, op := Op.move (Operand.tmp 12), type := 49, pos := "ref.go:129", after := #[], guard := none }) (v := .int .u64 (c : Int)) rfl (by kernel_rfl) (by kernel_rfl) (by kernel_rfl) (fun _ _ _ h => h) (Or.inl ⟨by rfl, fun w' hSw => by go_simp⟩) (by assumption) ?qz2
            try simp only [Act.put, List.setIfInBounds_toArray, List.set_cons_zero, List.set_cons_succ]
            refine' wpAnyH_take (i := 2) (oi := { dst := some 49, op := Op.convert 49 3 (Operand.tmp 48), type := 3, pos := "ref.go:129", after := #[{ on := 1, ground := Ground.data }], guard := none }) (v := .int .i64 (c : Int)) rfl (by kernel_rfl) (by kernel_rfl) (by kernel_rfl) (fun _ _ _ h => h) (Or.inl ⟨by rfl, fun w' hSw => by go_simp⟩) (by assumption) ?qz3
            try simp only [Act.put, List.setIfInBounds_toArray, List.set_cons_zero, List.set_cons_succ]
            refine' wpAnyH_take (i := 3) (oi := { dst := some 50, op := Op.move (Operand.tmp 14), type := 49, pos := "ref.go:129", after := #[], guard := none }) (v := .int .u64 (n : Int)) rfl (by kernel_rfl) (by kernel_rfl) (by kernel_rfl) (fun _ _ _ h => h) (Or.inl ⟨by rfl, fun w' hSw => by go_simp⟩) (by assumption) ?qz4
            try simp only [Act.put, List.setIfInBounds_toArray, List.set_cons_zero, List.set_cons_succ]
            refine' wpAnyH_take (i := 4) (oi := { dst := some 51, op := Op.convert 49 3 (Operand.tmp 50), type := 3, pos := "ref.go:129", after := #[{ on := 3, ground := Ground.data }], guard := none }) (v := .int .i64 (n : Int)) rfl (by kernel_rfl) (by kernel_rfl) (by kernel_rfl) (fun _ _ _ h => h) (Or.inl ⟨by rfl, fun w' hSw => by go_simp⟩) (by assumption) ?qz5
            try simp only [Act.put, List.setIfInBounds_toArray, List.set_cons_zero, List.set_cons_succ]
            refine' wpAnyH_take (i := 8) (oi := { dst := some 55, op := Op.move (Operand.tmp 0), type := 40, pos := "ref.go:129", after := #[], guard := none }) (v := .slice (some ⟨g, 0, none⟩) 64 cp) rfl (by kernel_rfl) (by kernel_rfl) (by kernel_rfl) (fun _ _ _ h => h) (Or.inl ⟨by rfl, fun w' hSw => by go_simp⟩) (by assumption) ?qz6
            try simp only [Act.put, List.setIfInBounds_toArray, List.set_cons_zero, List.set_cons_succ]
            refine' wpAnyH_take (i := 9) (oi := { dst := some 56, op := Op.slice 40 (Operand.tmp 55) none (some (Operand.const (Value.int IntKind.i64 24))) none, type := 40, pos := "ref.go:129", after := #[{ on := 8, ground := Ground.data }], guard := none }) (v := .slice (some ⟨g, 0, none⟩) 24 cp) rfl (by kernel_rfl) (by kernel_rfl) (by kernel_rfl) (fun _ _ _ h => h) (Or.inl ⟨by rfl, fun w' hSw => by (go_simp; intro hx; omega)⟩) (by assumption) ?qz7
            try simp only [Act.put, List.setIfInBounds_toArray, List.set_cons_zero, List.set_cons_succ]
            refine' wpAnyH_take (i := 10) (oi := { dst := some 57, op := Op.convert 40 9 (Operand.tmp 56), type := 9, pos := "ref.go:129", after := #[{ on := 9, ground := Ground.data }], guard := none }) (v := .string ⟨(b.take 24).toArray⟩) rfl (by kernel_rfl) (by kernel_rfl) (by kernel_rfl) (fun _ _ _ h => h) (Or.inl ⟨by rfl, fun w' hSw => by (have hs := HS24.out w' hSw; go_simp)⟩) (by assumption) ?qz8
            try simp only [Act.put, List.setIfInBounds_toArray, List.set_cons_zero, List.set_cons_succ]
            refine wpAnyH_ready (rs := [5]) (by kernel_rfl) (by simp) ?_
            refine AllReadyH.cons (o := { dst := some 52, op := Op.call { callee := Callee.value (Operand.func 34), args := #[Operand.tmp 47, Operand.tmp 49, Operand.tmp 51], argTypes := #[49, 3, 3] }, type := 40, pos := "ref.go:129", after := #[{ on := 0, ground := Ground.data }, { on := 2, ground := Ground.data }, { on := 4, ground := Ground.data }], guard := none }) rfl (fun K hK => ?_) AllReadyH.nil
            rw [if_pos (by rfl)]
            go_simp
            with_reducible refine (kH _).mono ?_
            rintro _ w4 ⟨v4, rfl, ho4, hb4⟩
            obtain ⟨A4, c4, rfl, -, l4, m4, y4⟩ := own_byt ho4
            rw [hdrB_length] at l4
            rw [hlB]
            have hst := HDS w4 A4 c4 y4
            have hq4 : Below w.heap.size w w4 := below_then hq0 hb4
            refine hK.out _ _ (HKB.out _ hq4) (fun hHeld => ?_)
            clear hK K
            try simp only [Act.put, List.setIfInBounds_toArray, List.set_cons_zero, List.set_cons_succ]
            refine' wpAnyH_take (i := 6) (oi := { dst := some 53, op := Op.slice 40 (Operand.tmp 52) none (some (Operand.const (Value.int IntKind.i64 24))) none, type := 40, pos := "ref.go:129", after := #[{ on := 5, ground := Ground.data }], guard := none }) (v := .slice A4 24 c4) rfl (by kernel_rfl) (by kernel_rfl) (by kernel_rfl) (fun _ _ _ h => h) (Or.inl ⟨by rfl, fun w' hSw => by (go_simp; intro hx; omega)⟩) (by assumption) ?qz9
            try simp only [Act.put, List.setIfInBounds_toArray, List.set_cons_zero, List.set_cons_succ]
            refine wpAnyH_ready (rs := [7]) (by kernel_rfl) (by simp) ?_
            refine AllReadyH.cons (o := { dst := some 54, op := Op.convert 40 9 (Operand.tmp 53), type := 9, pos := "ref.go:129", after := #[{ on := 6, ground := Ground.data }], guard := none }) rfl (fun K hK => ?_) AllReadyH.nil
            rw [if_pos (by rfl)]
            go_simp
            refine hK.out _ _ (HKB.out _ hq4) (fun hHeld => ?_)
            clear hK K
            try simp only [Act.put, List.setIfInBounds_toArray, List.set_cons_zero, List.set_cons_succ]
            refine' wpAnyH_take (i := 11) (oi := { dst := some 58, op := Op.binOp BinOp.neq 9 (Operand.tmp 54) (Operand.tmp 57) 9, type := 4, pos := "ref.go:129", after := #[{ on := 7, ground := Ground.data }, { on := 10, ground := Ground.data }], guard := none }) (v := .bool false) rfl (by kernel_rfl) (by kernel_rfl) (by kernel_rfl) (fun _ _ _ h => h) (Or.inl ⟨by rfl, fun w' hSw => by go_simp⟩) (by assumption) ?qz10
            try simp only [Act.put, List.setIfInBounds_toArray, List.set_cons_zero, List.set_cons_succ]
            refine' wpAnyH_take (i := 12) (oi := { dst := some 59, op := Op.move (Operand.tmp 58), type := 4, pos := "ref.go:129", after := #[{ on := 11, ground := Ground.data }, { on := 5, ground := Ground.chain }], guard := none }) (v := .bool false) rfl (by kernel_rfl) (by kernel_rfl) (by kernel_rfl) (fun _ _ _ h => h) (Or.inl ⟨by rfl, fun w' hSw => by go_simp⟩) (by assumption) ?qz11
            try simp only [Act.put, List.setIfInBounds_toArray, List.set_cons_zero, List.set_cons_succ]
            refine' wpAnyH_take (i := 13) (oi := { dst := some 60, op := Op.move (Operand.tmp 14), type := 49, pos := "ref.go:129", after := #[{ on := 12, ground := Ground.guard }], guard := some (12, false) }) (v := .int .u64 (n : Int)) rfl (by kernel_rfl) (by kernel_rfl) (by kernel_rfl) (fun _ _ _ h => h) (Or.inl ⟨by rfl, fun w' hSw => by go_simp⟩) (by assumption) ?qz12
            try simp only [Act.put, List.setIfInBounds_toArray, List.set_cons_zero, List.set_cons_succ]
            refine' wpAnyH_take (i := 14) (oi := { dst := some 61, op := Op.binOp BinOp.lss 49 (Operand.tmp 60) (Operand.const (Value.int IntKind.u64 1)) 49, type := 4, pos := "ref.go:129", after := #[{ on := 13, ground := Ground.data }, { on := 12, ground := Ground.guard }], guard := some (12, false) }) (v := .bool true) rfl (by kernel_rfl) (by kernel_rfl) (by kernel_rfl) (fun _ _ _ h => h) (Or.inl ⟨by rfl, fun w' hSw => by (go_simp <;> omega)⟩) (by assumption) ?qz13
            try simp only [Act.put, List.setIfInBounds_toArray, List.set_cons_zero, List.set_cons_succ]
            refine' wpAnyH_take (i := 15) (oi := { dst := some 62, op := Op.pick (Operand.tmp 59) (Operand.const (Value.bool true)) (Operand.tmp 61), type := 4, pos := "ref.go:129", after := #[{ on := 12, ground := Ground.data }, { on := 14, ground := Ground.data }], guard := none }) (v := .bool true) rfl (by kernel_rfl) (by kernel_rfl) (by kernel_rfl) (fun _ _ _ h => h) (Or.inl ⟨by rfl, fun w' hSw => by go_simp⟩) (by assumption) ?qz14
            try simp only [Act.put, List.setIfInBounds_toArray, List.set_cons_zero, List.set_cons_succ]
            refine' wpAnyH_take (i := 16) (oi := { dst := some 63, op := Op.move (Operand.tmp 62), type := 4, pos := "ref.go:129", after := #[{ on := 15, ground := Ground.data }, { on := 12, ground := Ground.chain }], guard := none }) (v := .bool true) rfl (by kernel_rfl) (by kernel_rfl) (by kernel_rfl) (fun _ _ _ h => h) (Or.inl ⟨by rfl, fun w' hSw => by go_simp⟩) (by assumption) ?qz15
            try simp only [Act.put, List.setIfInBounds_toArray, List.set_cons_zero, List.set_cons_succ]
            refine' wpAnyH_take (i := 17) (oi := { dst := some 64, op := Op.move (Operand.tmp 14), type := 49, pos := "ref.go:129", after := #[{ on := 16, ground := Ground.guard }], guard := some (16, false) }) (v := undef) rfl (by kernel_rfl) (by kernel_rfl) (by kernel_rfl) (fun _ _ _ h => h) (.inr ⟨by rfl, rfl⟩) (by assumption) ?qz16
            try simp only [Act.put, List.setIfInBounds_toArray, List.set_cons_zero, List.set_cons_succ]
            refine' wpAnyH_take (i := 18) (oi := { dst := some 65, op := Op.move (Operand.tmp 1), type := 3, pos := "ref.go:129", after := #[{ on := 16, ground := Ground.guard }], guard := some (16, false) }) (v := undef) rfl (by kernel_rfl) (by kernel_rfl) (by kernel_rfl) (fun _ _ _ h => h) (.inr ⟨by rfl, rfl⟩) (by assumption) ?qz17
            try simp only [Act.put, List.setIfInBounds_toArray, List.set_cons_zero, List.set_cons_succ]
            refine' wpAnyH_take (i := 19) (oi := { dst := some 66, op := Op.convert 3 49 (Operand.tmp 65), type := 49, pos := "ref.go:129", after := #[{ on := 18, ground := Ground.data }, { on := 16, ground := Ground.guard }], guard := some (16, false) }) (v := undef) rfl (by kernel_rfl) (by kernel_rfl) (by kernel_rfl) (fun _ _ _ h => h) (.inr ⟨by rfl, rfl⟩) (by assumption) ?qz18
            try simp only [Act.put, List.setIfInBounds_toArray, List.set_cons_zero, List.set_cons_succ]
            refine' wpAnyH_take (i := 20) (oi := { dst := some 67, op := Op.binOp BinOp.gtr 49 (Operand.tmp 64) (Operand.tmp 66) 49, type := 4, pos := "ref.go:129", after := #[{ on := 17, ground := Ground.data }, { on := 19, ground := Ground.data }, { on := 16, ground := Ground.guard }], guard := some (16, false) }) (v := undef) rfl (by kernel_rfl) (by kernel_rfl) (by kernel_rfl) (fun _ _ _ h => h) (.inr ⟨by rfl, rfl⟩) (by assumption) ?qz19
            try simp only [Act.put, List.setIfInBounds_toArray, List.set_cons_zero, List.set_cons_succ]
            refine' wpAnyH_take (i := 21) (oi := { dst := some 68, op := Op.pick (Operand.tmp 63) (Operand.const (Value.bool true)) (Operand.tmp 67), type := 4, pos := "ref.go:129", after := #[{ on := 16, ground := Ground.data }, { on := 20, ground := Ground.data }], guard := none }) (v := .bool true) rfl (by kernel_rfl) (by kernel_rfl) (by kernel_rfl) (fun _ _ _ h => h) (Or.inl ⟨by rfl, fun w' hSw => by go_simp⟩) (by assumption) ?qz20
            try simp only [Act.put, List.setIfInBounds_toArray, List.set_cons_zero, List.set_cons_succ]
            refine wpAnyH_done (by kernel_rfl) ?_ _
            go_wp2_with fail
            try simp only [Exit.inBlock, Exit.then]
            refine bodyPost_ret (results_tmp4 rfl _ _ _) rfl ?_
            exact ⟨by rw [HTT.out]; rfl, hq4⟩
          · by_cases hnh : h < n
            · have hT : headT b h = (160, 0, 0, 0) := by rw [HT.out, if_neg (fun hc => by omega)]
              have HTT := Lib.hid hT
              clear hT HT
              refine wp_region_held_drew (S := fun W => Byt W (fun k => k = g) (some ⟨g, 0, none⟩) b) (by kernel_rfl) (HKB.out _ hq0) (fun hHeld => ?_)
              refine' wpAnyH_take (i := 0) (oi := { dst := some 47, op := Op.move (Operand.tmp 10), type := 49, pos := "ref.go:129", after := #[], guard := none }) (v := .int .u64 (e : Int)) rfl (by kernel_rfl) (by kernel_rfl) (by kernel_rfl) (fun _ _ _ h => h) (Or.inl ⟨by rfl, fun w' hSw => by go_simp⟩) (by assumption) ?qz21
              try simp only [Act.put, List.setIfInBounds_toArray, List.set_cons_zero, List.set_cons_succ]
              refine' wpAnyH_take (i := 1) (oi := { dst := some 48, op := Op.move (Operand.tmp 12), type := 49, pos := "ref.go:129", after := #[], guard := none }) (v := .int .u64 (c : Int)) rfl (by kernel_rfl) (by kernel_rfl) (by kernel_rfl) (fun _ _ _ h => h) (Or.inl ⟨by rfl, fun w' hSw => by go_simp⟩) (by assumption) ?qz22
              try simp only [Act.put, List.setIfInBounds_toArray, List.set_cons_zero, List.set_cons_succ]
              refine' wpAnyH_take (i := 2) (oi := { dst := some 49, op := Op.convert 49 3 (Operand.tmp 48), type := 3, pos := "ref.go:129", after := #[{ on := 1, ground := Ground.data }], guard := none }) (v := .int .i64 (c : Int)) rfl (by kernel_rfl) (by kernel_rfl) (by kernel_rfl) (fun _ _ _ h => h) (Or.inl ⟨by rfl, fun w' hSw => by go_simp⟩) (by assumption) ?qz23
              try simp only [Act.put, List.setIfInBounds_toArray, List.set_cons_zero, List.set_cons_succ]
              refine' wpAnyH_take (i := 3) (oi := { dst := some 50, op := Op.move (Operand.tmp 14), type := 49, pos := "ref.go:129", after := #[], guard := none }) (v := .int .u64 (n : Int)) rfl (by kernel_rfl) (by kernel_rfl) (by kernel_rfl) (fun _ _ _ h => h) (Or.inl ⟨by rfl, fun w' hSw => by go_simp⟩) (by assumption) ?qz24
              try simp only [Act.put, List.setIfInBounds_toArray, List.set_cons_zero, List.set_cons_succ]
              refine' wpAnyH_take (i := 4) (oi := { dst := some 51, op := Op.convert 49 3 (Operand.tmp 50), type := 3, pos := "ref.go:129", after := #[{ on := 3, ground := Ground.data }], guard := none }) (v := .int .i64 (n : Int)) rfl (by kernel_rfl) (by kernel_rfl) (by kernel_rfl) (fun _ _ _ h => h) (Or.inl ⟨by rfl, fun w' hSw => by go_simp⟩) (by assumption) ?qz25
              try simp only [Act.put, List.setIfInBounds_toArray, List.set_cons_zero, List.set_cons_succ]
              refine' wpAnyH_take (i := 8) (oi := { dst := some 55, op := Op.move (Operand.tmp 0), type := 40, pos := "ref.go:129", after := #[], guard := none }) (v := .slice (some ⟨g, 0, none⟩) 64 cp) rfl (by kernel_rfl) (by kernel_rfl) (by kernel_rfl) (fun _ _ _ h => h) (Or.inl ⟨by rfl, fun w' hSw => by go_simp⟩) (by assumption) ?qz26
              try simp only [Act.put, List.setIfInBounds_toArray, List.set_cons_zero, List.set_cons_succ]
              refine' wpAnyH_take (i := 9) (oi := { dst := some 56, op := Op.slice 40 (Operand.tmp 55) none (some (Operand.const (Value.int IntKind.i64 24))) none, type := 40, pos := "ref.go:129", after := #[{ on := 8, ground := Ground.data }], guard := none }) (v := .slice (some ⟨g, 0, none⟩) 24 cp) rfl (by kernel_rfl) (by kernel_rfl) (by kernel_rfl) (fun _ _ _ h => h) (Or.inl ⟨by rfl, fun w' hSw => by (go_simp; intro hx; omega)⟩) (by assumption) ?qz27
              try simp only [Act.put, List.setIfInBounds_toArray, List.set_cons_zero, List.set_cons_succ]
              refine' wpAnyH_take (i := 10) (oi := { dst := some 57, op := Op.convert 40 9 (Operand.tmp 56), type := 9, pos := "ref.go:129", after := #[{ on := 9, ground := Ground.data }], guard := none }) (v := .string ⟨(b.take 24).toArray⟩) rfl (by kernel_rfl) (by kernel_rfl) (by kernel_rfl) (fun _ _ _ h => h) (Or.inl ⟨by rfl, fun w' hSw => by (have hs := HS24.out w' hSw; go_simp)⟩) (by assumption) ?qz28
              try simp only [Act.put, List.setIfInBounds_toArray, List.set_cons_zero, List.set_cons_succ]
              refine wpAnyH_ready (rs := [5]) (by kernel_rfl) (by simp) ?_
              refine AllReadyH.cons (o := { dst := some 52, op := Op.call { callee := Callee.value (Operand.func 34), args := #[Operand.tmp 47, Operand.tmp 49, Operand.tmp 51], argTypes := #[49, 3, 3] }, type := 40, pos := "ref.go:129", after := #[{ on := 0, ground := Ground.data }, { on := 2, ground := Ground.data }, { on := 4, ground := Ground.data }], guard := none }) rfl (fun K hK => ?_) AllReadyH.nil
              rw [if_pos (by rfl)]
              go_simp
              with_reducible refine (kH _).mono ?_
              rintro _ w4 ⟨v4, rfl, ho4, hb4⟩
              obtain ⟨A4, c4, rfl, -, l4, m4, y4⟩ := own_byt ho4
              rw [hdrB_length] at l4
              rw [hlB]
              have hst := HDS w4 A4 c4 y4
              have hq4 : Below w.heap.size w w4 := below_then hq0 hb4
              refine hK.out _ _ (HKB.out _ hq4) (fun hHeld => ?_)
              clear hK K
              try simp only [Act.put, List.setIfInBounds_toArray, List.set_cons_zero, List.set_cons_succ]
              refine' wpAnyH_take (i := 6) (oi := { dst := some 53, op := Op.slice 40 (Operand.tmp 52) none (some (Operand.const (Value.int IntKind.i64 24))) none, type := 40, pos := "ref.go:129", after := #[{ on := 5, ground := Ground.data }], guard := none }) (v := .slice A4 24 c4) rfl (by kernel_rfl) (by kernel_rfl) (by kernel_rfl) (fun _ _ _ h => h) (Or.inl ⟨by rfl, fun w' hSw => by (go_simp; intro hx; omega)⟩) (by assumption) ?qz29
              try simp only [Act.put, List.setIfInBounds_toArray, List.set_cons_zero, List.set_cons_succ]
              refine wpAnyH_ready (rs := [7]) (by kernel_rfl) (by simp) ?_
              refine AllReadyH.cons (o := { dst := some 54, op := Op.convert 40 9 (Operand.tmp 53), type := 9, pos := "ref.go:129", after := #[{ on := 6, ground := Ground.data }], guard := none }) rfl (fun K hK => ?_) AllReadyH.nil
              rw [if_pos (by rfl)]
              go_simp
              refine hK.out _ _ (HKB.out _ hq4) (fun hHeld => ?_)
              clear hK K
              try simp only [Act.put, List.setIfInBounds_toArray, List.set_cons_zero, List.set_cons_succ]
              refine' wpAnyH_take (i := 11) (oi := { dst := some 58, op := Op.binOp BinOp.neq 9 (Operand.tmp 54) (Operand.tmp 57) 9, type := 4, pos := "ref.go:129", after := #[{ on := 7, ground := Ground.data }, { on := 10, ground := Ground.data }], guard := none }) (v := .bool false) rfl (by kernel_rfl) (by kernel_rfl) (by kernel_rfl) (fun _ _ _ h => h) (Or.inl ⟨by rfl, fun w' hSw => by go_simp⟩) (by assumption) ?qz30
              try simp only [Act.put, List.setIfInBounds_toArray, List.set_cons_zero, List.set_cons_succ]
              refine' wpAnyH_take (i := 12) (oi := { dst := some 59, op := Op.move (Operand.tmp 58), type := 4, pos := "ref.go:129", after := #[{ on := 11, ground := Ground.data }, { on := 5, ground := Ground.chain }], guard := none }) (v := .bool false) rfl (by kernel_rfl) (by kernel_rfl) (by kernel_rfl) (fun _ _ _ h => h) (Or.inl ⟨by rfl, fun w' hSw => by go_simp⟩) (by assumption) ?qz31
              try simp only [Act.put, List.setIfInBounds_toArray, List.set_cons_zero, List.set_cons_succ]
              refine' wpAnyH_take (i := 13) (oi := { dst := some 60, op := Op.move (Operand.tmp 14), type := 49, pos := "ref.go:129", after := #[{ on := 12, ground := Ground.guard }], guard := some (12, false) }) (v := .int .u64 (n : Int)) rfl (by kernel_rfl) (by kernel_rfl) (by kernel_rfl) (fun _ _ _ h => h) (Or.inl ⟨by rfl, fun w' hSw => by go_simp⟩) (by assumption) ?qz32
              try simp only [Act.put, List.setIfInBounds_toArray, List.set_cons_zero, List.set_cons_succ]
              refine' wpAnyH_take (i := 14) (oi := { dst := some 61, op := Op.binOp BinOp.lss 49 (Operand.tmp 60) (Operand.const (Value.int IntKind.u64 1)) 49, type := 4, pos := "ref.go:129", after := #[{ on := 13, ground := Ground.data }, { on := 12, ground := Ground.guard }], guard := some (12, false) }) (v := .bool false) rfl (by kernel_rfl) (by kernel_rfl) (by kernel_rfl) (fun _ _ _ h => h) (Or.inl ⟨by rfl, fun w' hSw => by (go_simp <;> omega)⟩) (by assumption) ?qz33
              try simp only [Act.put, List.setIfInBounds_toArray, List.set_cons_zero, List.set_cons_succ]
              refine' wpAnyH_take (i := 15) (oi := { dst := some 62, op := Op.pick (Operand.tmp 59) (Operand.const (Value.bool true)) (Operand.tmp 61), type := 4, pos := "ref.go:129", after := #[{ on := 12, ground := Ground.data }, { on := 14, ground := Ground.data }], guard := none }) (v := .bool false) rfl (by kernel_rfl) (by kernel_rfl) (by kernel_rfl) (fun _ _ _ h => h) (Or.inl ⟨by rfl, fun w' hSw => by go_simp⟩) (by assumption) ?qz34
              try simp only [Act.put, List.setIfInBounds_toArray, List.set_cons_zero, List.set_cons_succ]
              refine' wpAnyH_take (i := 16) (oi := { dst := some 63, op := Op.move (Operand.tmp 62), type := 4, pos := "ref.go:129", after := #[{ on := 15, ground := Ground.data }, { on := 12, ground := Ground.chain }], guard := none }) (v := .bool false) rfl (by kernel_rfl) (by kernel_rfl) (by kernel_rfl) (fun _ _ _ h => h) (Or.inl ⟨by rfl, fun w' hSw => by go_simp⟩) (by assumption) ?qz35
              try simp only [Act.put, List.setIfInBounds_toArray, List.set_cons_zero, List.set_cons_succ]
              refine' wpAnyH_take (i := 17) (oi := { dst := some 64, op := Op.move (Operand.tmp 14), type := 49, pos := "ref.go:129", after := #[{ on := 16, ground := Ground.guard }], guard := some (16, false) }) (v := .int .u64 (n : Int)) rfl (by kernel_rfl) (by kernel_rfl) (by kernel_rfl) (fun _ _ _ h => h) (Or.inl ⟨by rfl, fun w' hSw => by go_simp⟩) (by assumption) ?qz36
              try simp only [Act.put, List.setIfInBounds_toArray, List.set_cons_zero, List.set_cons_succ]
              refine' wpAnyH_take (i := 18) (oi := { dst := some 65, op := Op.move (Operand.tmp 1), type := 3, pos := "ref.go:129", after := #[{ on := 16, ground := Ground.guard }], guard := some (16, false) }) (v := .int .i64 (h : Int)) rfl (by kernel_rfl) (by kernel_rfl) (by kernel_rfl) (fun _ _ _ h => h) (Or.inl ⟨by rfl, fun w' hSw => by go_simp⟩) (by assumption) ?qz37
              try simp only [Act.put, List.setIfInBounds_toArray, List.set_cons_zero, List.set_cons_succ]
              refine' wpAnyH_take (i := 19) (oi := { dst := some 66, op := Op.convert 3 49 (Operand.tmp 65), type := 49, pos := "ref.go:129", after := #[{ on := 18, ground := Ground.data }, { on := 16, ground := Ground.guard }], guard := some (16, false) }) (v := .int .u64 (h : Int)) rfl (by kernel_rfl) (by kernel_rfl) (by kernel_rfl) (fun _ _ _ h => h) (Or.inl ⟨by rfl, fun w' hSw => by go_simp⟩) (by assumption) ?qz38
              try simp only [Act.put, List.setIfInBounds_toArray, List.set_cons_zero, List.set_cons_succ]
              refine' wpAnyH_take (i := 20) (oi := { dst := some 67, op := Op.binOp BinOp.gtr 49 (Operand.tmp 64) (Operand.tmp 66) 49, type := 4, pos := "ref.go:129", after := #[{ on := 17, ground := Ground.data }, { on := 19, ground := Ground.data }, { on := 16, ground := Ground.guard }], guard := some (16, false) }) (v := .bool true) rfl (by kernel_rfl) (by kernel_rfl) (by kernel_rfl) (fun _ _ _ h => h) (Or.inl ⟨by rfl, fun w' hSw => by go_simp⟩) (by assumption) ?qz39
              try simp only [Act.put, List.setIfInBounds_toArray, List.set_cons_zero, List.set_cons_succ]
              refine' wpAnyH_take (i := 21) (oi := { dst := some 68, op := Op.pick (Operand.tmp 63) (Operand.const (Value.bool true)) (Operand.tmp 67), type := 4, pos := "ref.go:129", after := #[{ on := 16, ground := Ground.data }, { on := 20, ground := Ground.data }], guard := none }) (v := .bool true) rfl (by kernel_rfl) (by kernel_rfl) (by kernel_rfl) (fun _ _ _ h => h) (Or.inl ⟨by rfl, fun w' hSw => by go_simp⟩) (by assumption) ?qz40
              try simp only [Act.put, List.setIfInBounds_toArray, List.set_cons_zero, List.set_cons_succ]
              refine wpAnyH_done (by kernel_rfl) ?_ _
              go_wp2_with fail
              try simp only [Exit.inBlock, Exit.then]
              refine bodyPost_ret (results_tmp4 rfl _ _ _) rfl ?_
              exact ⟨by rw [HTT.out]; rfl, hq4⟩
            · have hT : headT b h = (0, e, c, n) := by rw [HT.out, if_pos ⟨hP, by omega, by omega⟩]
              have HTT := Lib.hid hT
              clear hT HT
              refine wp_region_held_drew (S := fun W => Byt W (fun k => k = g) (some ⟨g, 0, none⟩) b) (by kernel_rfl) (HKB.out _ hq0) (fun hHeld => ?_)
              refine' wpAnyH_take (i := 0) (oi := { dst := some 47, op := Op.move (Operand.tmp 10), type := 49, pos := "ref.go:129", after := #[], guard := none }) (v := .int .u64 (e : Int)) rfl (by kernel_rfl) (by kernel_rfl) (by kernel_rfl) (fun _ _ _ h => h) (Or.inl ⟨by rfl, fun w' hSw => by go_simp⟩) (by assumption) ?qz41
              try simp only [Act.put, List.setIfInBounds_toArray, List.set_cons_zero, List.set_cons_succ]
              refine' wpAnyH_take (i := 1) (oi := { dst := some 48, op := Op.move (Operand.tmp 12), type := 49, pos := "ref.go:129", after := #[], guard := none }) (v := .int .u64 (c : Int)) rfl (by kernel_rfl) (by kernel_rfl) (by kernel_rfl) (fun _ _ _ h => h) (Or.inl ⟨by rfl, fun w' hSw => by go_simp⟩) (by assumption) ?qz42
              try simp only [Act.put, List.setIfInBounds_toArray, List.set_cons_zero, List.set_cons_succ]
              refine' wpAnyH_take (i := 2) (oi := { dst := some 49, op := Op.convert 49 3 (Operand.tmp 48), type := 3, pos := "ref.go:129", after := #[{ on := 1, ground := Ground.data }], guard := none }) (v := .int .i64 (c : Int)) rfl (by kernel_rfl) (by kernel_rfl) (by kernel_rfl) (fun _ _ _ h => h) (Or.inl ⟨by rfl, fun w' hSw => by go_simp⟩) (by assumption) ?qz43
              try simp only [Act.put, List.setIfInBounds_toArray, List.set_cons_zero, List.set_cons_succ]
              refine' wpAnyH_take (i := 3) (oi := { dst := some 50, op := Op.move (Operand.tmp 14), type := 49, pos := "ref.go:129", after := #[], guard := none }) (v := .int .u64 (n : Int)) rfl (by kernel_rfl) (by kernel_rfl) (by kernel_rfl) (fun _ _ _ h => h) (Or.inl ⟨by rfl, fun w' hSw => by go_simp⟩) (by assumption) ?qz44
              try simp only [Act.put, List.setIfInBounds_toArray, List.set_cons_zero, List.set_cons_succ]
              refine' wpAnyH_take (i := 4) (oi := { dst := some 51, op := Op.convert 49 3 (Operand.tmp 50), type := 3, pos := "ref.go:129", after := #[{ on := 3, ground := Ground.data }], guard := none }) (v := .int .i64 (n : Int)) rfl (by kernel_rfl) (by kernel_rfl) (by kernel_rfl) (fun _ _ _ h => h) (Or.inl ⟨by rfl, fun w' hSw => by go_simp⟩) (by assumption) ?qz45
              try simp only [Act.put, List.setIfInBounds_toArray, List.set_cons_zero, List.set_cons_succ]
              refine' wpAnyH_take (i := 8) (oi := { dst := some 55, op := Op.move (Operand.tmp 0), type := 40, pos := "ref.go:129", after := #[], guard := none }) (v := .slice (some ⟨g, 0, none⟩) 64 cp) rfl (by kernel_rfl) (by kernel_rfl) (by kernel_rfl) (fun _ _ _ h => h) (Or.inl ⟨by rfl, fun w' hSw => by go_simp⟩) (by assumption) ?qz46
              try simp only [Act.put, List.setIfInBounds_toArray, List.set_cons_zero, List.set_cons_succ]
              refine' wpAnyH_take (i := 9) (oi := { dst := some 56, op := Op.slice 40 (Operand.tmp 55) none (some (Operand.const (Value.int IntKind.i64 24))) none, type := 40, pos := "ref.go:129", after := #[{ on := 8, ground := Ground.data }], guard := none }) (v := .slice (some ⟨g, 0, none⟩) 24 cp) rfl (by kernel_rfl) (by kernel_rfl) (by kernel_rfl) (fun _ _ _ h => h) (Or.inl ⟨by rfl, fun w' hSw => by (go_simp; intro hx; omega)⟩) (by assumption) ?qz47
              try simp only [Act.put, List.setIfInBounds_toArray, List.set_cons_zero, List.set_cons_succ]
              refine' wpAnyH_take (i := 10) (oi := { dst := some 57, op := Op.convert 40 9 (Operand.tmp 56), type := 9, pos := "ref.go:129", after := #[{ on := 9, ground := Ground.data }], guard := none }) (v := .string ⟨(b.take 24).toArray⟩) rfl (by kernel_rfl) (by kernel_rfl) (by kernel_rfl) (fun _ _ _ h => h) (Or.inl ⟨by rfl, fun w' hSw => by (have hs := HS24.out w' hSw; go_simp)⟩) (by assumption) ?qz48
              try simp only [Act.put, List.setIfInBounds_toArray, List.set_cons_zero, List.set_cons_succ]
              refine wpAnyH_ready (rs := [5]) (by kernel_rfl) (by simp) ?_
              refine AllReadyH.cons (o := { dst := some 52, op := Op.call { callee := Callee.value (Operand.func 34), args := #[Operand.tmp 47, Operand.tmp 49, Operand.tmp 51], argTypes := #[49, 3, 3] }, type := 40, pos := "ref.go:129", after := #[{ on := 0, ground := Ground.data }, { on := 2, ground := Ground.data }, { on := 4, ground := Ground.data }], guard := none }) rfl (fun K hK => ?_) AllReadyH.nil
              rw [if_pos (by rfl)]
              go_simp
              with_reducible refine (kH _).mono ?_
              rintro _ w4 ⟨v4, rfl, ho4, hb4⟩
              obtain ⟨A4, c4, rfl, -, l4, m4, y4⟩ := own_byt ho4
              rw [hdrB_length] at l4
              rw [hlB]
              have hst := HDS w4 A4 c4 y4
              have hq4 : Below w.heap.size w w4 := below_then hq0 hb4
              refine hK.out _ _ (HKB.out _ hq4) (fun hHeld => ?_)
              clear hK K
              try simp only [Act.put, List.setIfInBounds_toArray, List.set_cons_zero, List.set_cons_succ]
              refine' wpAnyH_take (i := 6) (oi := { dst := some 53, op := Op.slice 40 (Operand.tmp 52) none (some (Operand.const (Value.int IntKind.i64 24))) none, type := 40, pos := "ref.go:129", after := #[{ on := 5, ground := Ground.data }], guard := none }) (v := .slice A4 24 c4) rfl (by kernel_rfl) (by kernel_rfl) (by kernel_rfl) (fun _ _ _ h => h) (Or.inl ⟨by rfl, fun w' hSw => by (go_simp; intro hx; omega)⟩) (by assumption) ?qz49
              try simp only [Act.put, List.setIfInBounds_toArray, List.set_cons_zero, List.set_cons_succ]
              refine wpAnyH_ready (rs := [7]) (by kernel_rfl) (by simp) ?_
              refine AllReadyH.cons (o := { dst := some 54, op := Op.convert 40 9 (Operand.tmp 53), type := 9, pos := "ref.go:129", after := #[{ on := 6, ground := Ground.data }], guard := none }) rfl (fun K hK => ?_) AllReadyH.nil
              rw [if_pos (by rfl)]
              go_simp
              refine hK.out _ _ (HKB.out _ hq4) (fun hHeld => ?_)
              clear hK K
              try simp only [Act.put, List.setIfInBounds_toArray, List.set_cons_zero, List.set_cons_succ]
              refine' wpAnyH_take (i := 11) (oi := { dst := some 58, op := Op.binOp BinOp.neq 9 (Operand.tmp 54) (Operand.tmp 57) 9, type := 4, pos := "ref.go:129", after := #[{ on := 7, ground := Ground.data }, { on := 10, ground := Ground.data }], guard := none }) (v := .bool false) rfl (by kernel_rfl) (by kernel_rfl) (by kernel_rfl) (fun _ _ _ h => h) (Or.inl ⟨by rfl, fun w' hSw => by go_simp⟩) (by assumption) ?qz50
              try simp only [Act.put, List.setIfInBounds_toArray, List.set_cons_zero, List.set_cons_succ]
              refine' wpAnyH_take (i := 12) (oi := { dst := some 59, op := Op.move (Operand.tmp 58), type := 4, pos := "ref.go:129", after := #[{ on := 11, ground := Ground.data }, { on := 5, ground := Ground.chain }], guard := none }) (v := .bool false) rfl (by kernel_rfl) (by kernel_rfl) (by kernel_rfl) (fun _ _ _ h => h) (Or.inl ⟨by rfl, fun w' hSw => by go_simp⟩) (by assumption) ?qz51
              try simp only [Act.put, List.setIfInBounds_toArray, List.set_cons_zero, List.set_cons_succ]
              refine' wpAnyH_take (i := 13) (oi := { dst := some 60, op := Op.move (Operand.tmp 14), type := 49, pos := "ref.go:129", after := #[{ on := 12, ground := Ground.guard }], guard := some (12, false) }) (v := .int .u64 (n : Int)) rfl (by kernel_rfl) (by kernel_rfl) (by kernel_rfl) (fun _ _ _ h => h) (Or.inl ⟨by rfl, fun w' hSw => by go_simp⟩) (by assumption) ?qz52
              try simp only [Act.put, List.setIfInBounds_toArray, List.set_cons_zero, List.set_cons_succ]
              refine' wpAnyH_take (i := 14) (oi := { dst := some 61, op := Op.binOp BinOp.lss 49 (Operand.tmp 60) (Operand.const (Value.int IntKind.u64 1)) 49, type := 4, pos := "ref.go:129", after := #[{ on := 13, ground := Ground.data }, { on := 12, ground := Ground.guard }], guard := some (12, false) }) (v := .bool false) rfl (by kernel_rfl) (by kernel_rfl) (by kernel_rfl) (fun _ _ _ h => h) (Or.inl ⟨by rfl, fun w' hSw => by (go_simp <;> omega)⟩) (by assumption) ?qz53
              try simp only [Act.put, List.setIfInBounds_toArray, List.set_cons_zero, List.set_cons_succ]
              refine' wpAnyH_take (i := 15) (oi := { dst := some 62, op := Op.pick (Operand.tmp 59) (Operand.const (Value.bool true)) (Operand.tmp 61), type := 4, pos := "ref.go:129", after := #[{ on := 12, ground := Ground.data }, { on := 14, ground := Ground.data }], guard := none }) (v := .bool false) rfl (by kernel_rfl) (by kernel_rfl) (by kernel_rfl) (fun _ _ _ h => h) (Or.inl ⟨by rfl, fun w' hSw => by go_simp⟩) (by assumption) ?qz54
              try simp only [Act.put, List.setIfInBounds_toArray, List.set_cons_zero, List.set_cons_succ]
              refine' wpAnyH_take (i := 16) (oi := { dst := some 63, op := Op.move (Operand.tmp 62), type := 4, pos := "ref.go:129", after := #[{ on := 15, ground := Ground.data }, { on := 12, ground := Ground.chain }], guard := none }) (v := .bool false) rfl (by kernel_rfl) (by kernel_rfl) (by kernel_rfl) (fun _ _ _ h => h) (Or.inl ⟨by rfl, fun w' hSw => by go_simp⟩) (by assumption) ?qz55
              try simp only [Act.put, List.setIfInBounds_toArray, List.set_cons_zero, List.set_cons_succ]
              refine' wpAnyH_take (i := 17) (oi := { dst := some 64, op := Op.move (Operand.tmp 14), type := 49, pos := "ref.go:129", after := #[{ on := 16, ground := Ground.guard }], guard := some (16, false) }) (v := .int .u64 (n : Int)) rfl (by kernel_rfl) (by kernel_rfl) (by kernel_rfl) (fun _ _ _ h => h) (Or.inl ⟨by rfl, fun w' hSw => by go_simp⟩) (by assumption) ?qz56
              try simp only [Act.put, List.setIfInBounds_toArray, List.set_cons_zero, List.set_cons_succ]
              refine' wpAnyH_take (i := 18) (oi := { dst := some 65, op := Op.move (Operand.tmp 1), type := 3, pos := "ref.go:129", after := #[{ on := 16, ground := Ground.guard }], guard := some (16, false) }) (v := .int .i64 (h : Int)) rfl (by kernel_rfl) (by kernel_rfl) (by kernel_rfl) (fun _ _ _ h => h) (Or.inl ⟨by rfl, fun w' hSw => by go_simp⟩) (by assumption) ?qz57
              try simp only [Act.put, List.setIfInBounds_toArray, List.set_cons_zero, List.set_cons_succ]
              refine' wpAnyH_take (i := 19) (oi := { dst := some 66, op := Op.convert 3 49 (Operand.tmp 65), type := 49, pos := "ref.go:129", after := #[{ on := 18, ground := Ground.data }, { on := 16, ground := Ground.guard }], guard := some (16, false) }) (v := .int .u64 (h : Int)) rfl (by kernel_rfl) (by kernel_rfl) (by kernel_rfl) (fun _ _ _ h => h) (Or.inl ⟨by rfl, fun w' hSw => by go_simp⟩) (by assumption) ?qz58
              try simp only [Act.put, List.setIfInBounds_toArray, List.set_cons_zero, List.set_cons_succ]
              refine' wpAnyH_take (i := 20) (oi := { dst := some 67, op := Op.binOp BinOp.gtr 49 (Operand.tmp 64) (Operand.tmp 66) 49, type := 4, pos := "ref.go:129", after := #[{ on := 17, ground := Ground.data }, { on := 19, ground := Ground.data }, { on := 16, ground := Ground.guard }], guard := some (16, false) }) (v := .bool false) rfl (by kernel_rfl) (by kernel_rfl) (by kernel_rfl) (fun _ _ _ h => h) (Or.inl ⟨by rfl, fun w' hSw => by go_simp⟩) (by assumption) ?qz59
              try simp only [Act.put, List.setIfInBounds_toArray, List.set_cons_zero, List.set_cons_succ]
              refine' wpAnyH_take (i := 21) (oi := { dst := some 68, op := Op.pick (Operand.tmp 63) (Operand.const (Value.bool true)) (Operand.tmp 67), type := 4, pos := "ref.go:129", after := #[{ on := 16, ground := Ground.data }, { on := 20, ground := Ground.data }], guard := none }) (v := .bool false) rfl (by kernel_rfl) (by kernel_rfl) (by kernel_rfl) (fun _ _ _ h => h) (Or.inl ⟨by rfl, fun w' hSw => by go_simp⟩) (by assumption) ?qz60
              try simp only [Act.put, List.setIfInBounds_toArray, List.set_cons_zero, List.set_cons_succ]
              refine wpAnyH_done (by kernel_rfl) ?_ _
              go_wp2_with fail
              try simp only [Exit.inBlock, Exit.then]
              refine bodyPost_ret (results_tmp4 rfl _ _ _) rfl ?_
              exact ⟨by rw [HTT.out]; rfl, hq4⟩
        · have hne : ¬ ((⟨(hdr1 e c n).toArray⟩ : ByteArray) = ⟨(b.take 24).toArray⟩) := fun he => hP (by simpa using he)
          have hT : headT b h = (160, 0, 0, 0) := by rw [HT.out, if_neg (fun hc => hP hc.1)]
          have HTT := Lib.hid hT
          clear hT HT
          refine wp_region_held_drew (S := fun W => Byt W (fun k => k = g) (some ⟨g, 0, none⟩) b) (by kernel_rfl) (HKB.out _ hq0) (fun hHeld => ?_)
          refine' wpAnyH_take (i := 0) (oi := { dst := some 47, op := Op.move (Operand.tmp 10), type := 49, pos := "ref.go:129", after := #[], guard := none }) (v := .int .u64 (e : Int)) rfl (by kernel_rfl) (by kernel_rfl) (by kernel_rfl) (fun _ _ _ h => h) (Or.inl ⟨by rfl, fun w' hSw => by go_simp⟩) (by assumption) ?qz61
          try simp only [Act.put, List.setIfInBounds_toArray, List.set_cons_zero, List.set_cons_succ]
          refine' wpAnyH_take (i := 1) (oi := { dst := some 48, op := Op.move (Operand.tmp 12), type := 49, pos := "ref.go:129", after := #[], guard := none }) (v := .int .u64 (c : Int)) rfl (by kernel_rfl) (by kernel_rfl) (by kernel_rfl) (fun _ _ _ h => h) (Or.inl ⟨by rfl, fun w' hSw => by go_simp⟩) (by assumption) ?qz62
          try simp only [Act.put, List.setIfInBounds_toArray, List.set_cons_zero, List.set_cons_succ]
          refine' wpAnyH_take (i := 2) (oi := { dst := some 49, op := Op.convert 49 3 (Operand.tmp 48), type := 3, pos := "ref.go:129", after := #[{ on := 1, ground := Ground.data }], guard := none }) (v := .int .i64 (c : Int)) rfl (by kernel_rfl) (by kernel_rfl) (by kernel_rfl) (fun _ _ _ h => h) (Or.inl ⟨by rfl, fun w' hSw => by go_simp⟩) (by assumption) ?qz63
          try simp only [Act.put, List.setIfInBounds_toArray, List.set_cons_zero, List.set_cons_succ]
          refine' wpAnyH_take (i := 3) (oi := { dst := some 50, op := Op.move (Operand.tmp 14), type := 49, pos := "ref.go:129", after := #[], guard := none }) (v := .int .u64 (n : Int)) rfl (by kernel_rfl) (by kernel_rfl) (by kernel_rfl) (fun _ _ _ h => h) (Or.inl ⟨by rfl, fun w' hSw => by go_simp⟩) (by assumption) ?qz64
          try simp only [Act.put, List.setIfInBounds_toArray, List.set_cons_zero, List.set_cons_succ]
          refine' wpAnyH_take (i := 4) (oi := { dst := some 51, op := Op.convert 49 3 (Operand.tmp 50), type := 3, pos := "ref.go:129", after := #[{ on := 3, ground := Ground.data }], guard := none }) (v := .int .i64 (n : Int)) rfl (by kernel_rfl) (by kernel_rfl) (by kernel_rfl) (fun _ _ _ h => h) (Or.inl ⟨by rfl, fun w' hSw => by go_simp⟩) (by assumption) ?qz65
          try simp only [Act.put, List.setIfInBounds_toArray, List.set_cons_zero, List.set_cons_succ]
          refine' wpAnyH_take (i := 8) (oi := { dst := some 55, op := Op.move (Operand.tmp 0), type := 40, pos := "ref.go:129", after := #[], guard := none }) (v := .slice (some ⟨g, 0, none⟩) 64 cp) rfl (by kernel_rfl) (by kernel_rfl) (by kernel_rfl) (fun _ _ _ h => h) (Or.inl ⟨by rfl, fun w' hSw => by go_simp⟩) (by assumption) ?qz66
          try simp only [Act.put, List.setIfInBounds_toArray, List.set_cons_zero, List.set_cons_succ]
          refine' wpAnyH_take (i := 9) (oi := { dst := some 56, op := Op.slice 40 (Operand.tmp 55) none (some (Operand.const (Value.int IntKind.i64 24))) none, type := 40, pos := "ref.go:129", after := #[{ on := 8, ground := Ground.data }], guard := none }) (v := .slice (some ⟨g, 0, none⟩) 24 cp) rfl (by kernel_rfl) (by kernel_rfl) (by kernel_rfl) (fun _ _ _ h => h) (Or.inl ⟨by rfl, fun w' hSw => by (go_simp; intro hx; omega)⟩) (by assumption) ?qz67
          try simp only [Act.put, List.setIfInBounds_toArray, List.set_cons_zero, List.set_cons_succ]
          refine' wpAnyH_take (i := 10) (oi := { dst := some 57, op := Op.convert 40 9 (Operand.tmp 56), type := 9, pos := "ref.go:129", after := #[{ on := 9, ground := Ground.data }], guard := none }) (v := .string ⟨(b.take 24).toArray⟩) rfl (by kernel_rfl) (by kernel_rfl) (by kernel_rfl) (fun _ _ _ h => h) (Or.inl ⟨by rfl, fun w' hSw => by (have hs := HS24.out w' hSw; go_simp)⟩) (by assumption) ?qz68
          try simp only [Act.put, List.setIfInBounds_toArray, List.set_cons_zero, List.set_cons_succ]
          refine wpAnyH_ready (rs := [5]) (by kernel_rfl) (by simp) ?_
          refine AllReadyH.cons (o := { dst := some 52, op := Op.call { callee := Callee.value (Operand.func 34), args := #[Operand.tmp 47, Operand.tmp 49, Operand.tmp 51], argTypes := #[49, 3, 3] }, type := 40, pos := "ref.go:129", after := #[{ on := 0, ground := Ground.data }, { on := 2, ground := Ground.data }, { on := 4, ground := Ground.data }], guard := none }) rfl (fun K hK => ?_) AllReadyH.nil
          rw [if_pos (by rfl)]
          go_simp
          with_reducible refine (kH _).mono ?_
          rintro _ w4 ⟨v4, rfl, ho4, hb4⟩
          obtain ⟨A4, c4, rfl, -, l4, m4, y4⟩ := own_byt ho4
          rw [hdrB_length] at l4
          rw [hlB]
          have hst := HDS w4 A4 c4 y4
          have hq4 : Below w.heap.size w w4 := below_then hq0 hb4
          refine hK.out _ _ (HKB.out _ hq4) (fun hHeld => ?_)
          clear hK K
          try simp only [Act.put, List.setIfInBounds_toArray, List.set_cons_zero, List.set_cons_succ]
          refine' wpAnyH_take (i := 6) (oi := { dst := some 53, op := Op.slice 40 (Operand.tmp 52) none (some (Operand.const (Value.int IntKind.i64 24))) none, type := 40, pos := "ref.go:129", after := #[{ on := 5, ground := Ground.data }], guard := none }) (v := .slice A4 24 c4) rfl (by kernel_rfl) (by kernel_rfl) (by kernel_rfl) (fun _ _ _ h => h) (Or.inl ⟨by rfl, fun w' hSw => by (go_simp; intro hx; omega)⟩) (by assumption) ?qz69
          try simp only [Act.put, List.setIfInBounds_toArray, List.set_cons_zero, List.set_cons_succ]
          refine wpAnyH_ready (rs := [7]) (by kernel_rfl) (by simp) ?_
          refine AllReadyH.cons (o := { dst := some 54, op := Op.convert 40 9 (Operand.tmp 53), type := 9, pos := "ref.go:129", after := #[{ on := 6, ground := Ground.data }], guard := none }) rfl (fun K hK => ?_) AllReadyH.nil
          rw [if_pos (by rfl)]
          go_simp
          refine hK.out _ _ (HKB.out _ hq4) (fun hHeld => ?_)
          clear hK K
          try simp only [Act.put, List.setIfInBounds_toArray, List.set_cons_zero, List.set_cons_succ]
          refine' wpAnyH_take (i := 11) (oi := { dst := some 58, op := Op.binOp BinOp.neq 9 (Operand.tmp 54) (Operand.tmp 57) 9, type := 4, pos := "ref.go:129", after := #[{ on := 7, ground := Ground.data }, { on := 10, ground := Ground.data }], guard := none }) (v := .bool true) rfl (by kernel_rfl) (by kernel_rfl) (by kernel_rfl) (fun _ _ _ h => h) (Or.inl ⟨by rfl, fun w' hSw => by go_simp⟩) (by assumption) ?qz70
          try simp only [Act.put, List.setIfInBounds_toArray, List.set_cons_zero, List.set_cons_succ]
          refine' wpAnyH_take (i := 12) (oi := { dst := some 59, op := Op.move (Operand.tmp 58), type := 4, pos := "ref.go:129", after := #[{ on := 11, ground := Ground.data }, { on := 5, ground := Ground.chain }], guard := none }) (v := .bool true) rfl (by kernel_rfl) (by kernel_rfl) (by kernel_rfl) (fun _ _ _ h => h) (Or.inl ⟨by rfl, fun w' hSw => by go_simp⟩) (by assumption) ?qz71
          try simp only [Act.put, List.setIfInBounds_toArray, List.set_cons_zero, List.set_cons_succ]
          refine' wpAnyH_take (i := 13) (oi := { dst := some 60, op := Op.move (Operand.tmp 14), type := 49, pos := "ref.go:129", after := #[{ on := 12, ground := Ground.guard }], guard := some (12, false) }) (v := undef) rfl (by kernel_rfl) (by kernel_rfl) (by kernel_rfl) (fun _ _ _ h => h) (.inr ⟨by rfl, rfl⟩) (by assumption) ?qz72
          try simp only [Act.put, List.setIfInBounds_toArray, List.set_cons_zero, List.set_cons_succ]
          refine' wpAnyH_take (i := 14) (oi := { dst := some 61, op := Op.binOp BinOp.lss 49 (Operand.tmp 60) (Operand.const (Value.int IntKind.u64 1)) 49, type := 4, pos := "ref.go:129", after := #[{ on := 13, ground := Ground.data }, { on := 12, ground := Ground.guard }], guard := some (12, false) }) (v := undef) rfl (by kernel_rfl) (by kernel_rfl) (by kernel_rfl) (fun _ _ _ h => h) (.inr ⟨by rfl, rfl⟩) (by assumption) ?qz73
          try simp only [Act.put, List.setIfInBounds_toArray, List.set_cons_zero, List.set_cons_succ]
          refine' wpAnyH_take (i := 15) (oi := { dst := some 62, op := Op.pick (Operand.tmp 59) (Operand.const (Value.bool true)) (Operand.tmp 61), type := 4, pos := "ref.go:129", after := #[{ on := 12, ground := Ground.data }, { on := 14, ground := Ground.data }], guard := none }) (v := .bool true) rfl (by kernel_rfl) (by kernel_rfl) (by kernel_rfl) (fun _ _ _ h => h) (Or.inl ⟨by rfl, fun w' hSw => by go_simp⟩) (by assumption) ?qz74
          try simp only [Act.put, List.setIfInBounds_toArray, List.set_cons_zero, List.set_cons_succ]
          refine' wpAnyH_take (i := 16) (oi := { dst := some 63, op := Op.move (Operand.tmp 62), type := 4, pos := "ref.go:129", after := #[{ on := 15, ground := Ground.data }, { on := 12, ground := Ground.chain }], guard := none }) (v := .bool true) rfl (by kernel_rfl) (by kernel_rfl) (by kernel_rfl) (fun _ _ _ h => h) (Or.inl ⟨by rfl, fun w' hSw => by go_simp⟩) (by assumption) ?qz75
          try simp only [Act.put, List.setIfInBounds_toArray, List.set_cons_zero, List.set_cons_succ]
          refine' wpAnyH_take (i := 17) (oi := { dst := some 64, op := Op.move (Operand.tmp 14), type := 49, pos := "ref.go:129", after := #[{ on := 16, ground := Ground.guard }], guard := some (16, false) }) (v := undef) rfl (by kernel_rfl) (by kernel_rfl) (by kernel_rfl) (fun _ _ _ h => h) (.inr ⟨by rfl, rfl⟩) (by assumption) ?qz76
          try simp only [Act.put, List.setIfInBounds_toArray, List.set_cons_zero, List.set_cons_succ]
          refine' wpAnyH_take (i := 18) (oi := { dst := some 65, op := Op.move (Operand.tmp 1), type := 3, pos := "ref.go:129", after := #[{ on := 16, ground := Ground.guard }], guard := some (16, false) }) (v := undef) rfl (by kernel_rfl) (by kernel_rfl) (by kernel_rfl) (fun _ _ _ h => h) (.inr ⟨by rfl, rfl⟩) (by assumption) ?qz77
          try simp only [Act.put, List.setIfInBounds_toArray, List.set_cons_zero, List.set_cons_succ]
          refine' wpAnyH_take (i := 19) (oi := { dst := some 66, op := Op.convert 3 49 (Operand.tmp 65), type := 49, pos := "ref.go:129", after := #[{ on := 18, ground := Ground.data }, { on := 16, ground := Ground.guard }], guard := some (16, false) }) (v := undef) rfl (by kernel_rfl) (by kernel_rfl) (by kernel_rfl) (fun _ _ _ h => h) (.inr ⟨by rfl, rfl⟩) (by assumption) ?qz78
          try simp only [Act.put, List.setIfInBounds_toArray, List.set_cons_zero, List.set_cons_succ]
          refine' wpAnyH_take (i := 20) (oi := { dst := some 67, op := Op.binOp BinOp.gtr 49 (Operand.tmp 64) (Operand.tmp 66) 49, type := 4, pos := "ref.go:129", after := #[{ on := 17, ground := Ground.data }, { on := 19, ground := Ground.data }, { on := 16, ground := Ground.guard }], guard := some (16, false) }) (v := undef) rfl (by kernel_rfl) (by kernel_rfl) (by kernel_rfl) (fun _ _ _ h => h) (.inr ⟨by rfl, rfl⟩) (by assumption) ?qz79
          try simp only [Act.put, List.setIfInBounds_toArray, List.set_cons_zero, List.set_cons_succ]
          refine' wpAnyH_take (i := 21) (oi := { dst := some 68, op := Op.pick (Operand.tmp 63) (Operand.const (Value.bool true)) (Operand.tmp 67), type := 4, pos := "ref.go:129", after := #[{ on := 16, ground := Ground.data }, { on := 20, ground := Ground.data }], guard := none }) (v := .bool true) rfl (by kernel_rfl) (by kernel_rfl) (by kernel_rfl) (fun _ _ _ h => h) (Or.inl ⟨by rfl, fun w' hSw => by go_simp⟩) (by assumption) ?qz80
          try simp only [Act.put, List.setIfInBounds_toArray, List.set_cons_zero, List.set_cons_succ]
          refine wpAnyH_done (by kernel_rfl) ?_ _
          go_wp2_with fail
          try simp only [Exit.inBlock, Exit.then]
          refine bodyPost_ret (results_tmp4 rfl _ _ _) rfl ?_
          exact ⟨by rw [HTT.out]; rfl, hq4⟩
end Go.Proofs.YtonpcenjipigpaaGreat
