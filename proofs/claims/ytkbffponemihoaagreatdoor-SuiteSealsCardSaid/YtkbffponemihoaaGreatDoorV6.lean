/- alive; a new suite of either kind. Conditions: the tables of the hash lie where the program lays them. -/
import Derived.Test.YtkbffponemihoaaGreatDoorV5
namespace Go.Proofs.YtkbffponemihoaaGreatDoor
open Go.RowKit T
/-- A key of one byte 1. -/
def key1 : List UInt8 := 1 :: List.replicate 31 0
theorem key1_length : key1.length = 32 := by simp [key1]
/-- The bytes of 'text'. -/
def textT : List UInt8 := [116, 101, 120, 116]
theorem run_key1 (w : World) : (Instr.build 40 #[(0, .int .u8 1)]).run Tryz.prog w = .ok (.agg (u8s key1).toArray) w := by kernel_rfl
section
variable {w : World} {ops : Array Oper} {rest : List Oper} {o : Oper} {a : Act} {Q : Exit → Act → World → Prop}
theorem wpList_key1 (hgd : o.guard = none) (ho : o.op = .build 40 #[(0, .const (.int .u8 1))])
    (h : wpList Tryz.prog ops Q rest (a.put o.dst (.agg (u8s key1).toArray)) w) : wpList Tryz.prog ops Q (o :: rest) a w := by
  refine wpList_plain hgd fun K hK => ?_
  have hrun := run_key1 w
  have e0 : a.eval (.const (.int .u8 1)) = .int .u8 1 := rfl
  generalize (Value.agg (u8s key1).toArray) = z at hrun h
  unfold Oper.wp
  simp only [execOp, ho, List.map_toArray, List.map_cons, List.map_nil, e0, Sem.run_bind, hrun, Result.andThen_ok, Sem.run_pure]
  exact hK _ _ h
end
theorem str_text {w : World} {ok : Nat → Prop} {A : Option Addr} (h : Byt w ok A textT) (c : Nat) : (convert 23 9 (.slice A 4 c)).run Tryz.prog w = .ok (.string ⟨#[116, 101, 120, 116]⟩) w := h.str c
theorem seal_text (σ : Sg) (hs : σ = none ∨ ∃ tb, σ = some (tb, [])) : ∃ b, (sealF σ key1 textT).1 = some b ∧ b.length = 32 := by
  rcases hs with rfl | ⟨tb, rfl⟩
  · refine ⟨sealB key1 textT, rfl, ?_⟩
    rw [sealB_length]
    rfl
  · have hmk : mk [] 8 [key1, textT] = (1, [(8, [key1, textT])]) := mk_new (T := []) (good_two key1_length (by decide)) (by simp) (by simp)
    refine ⟨cov [] key1 textT, ?_, ?_⟩
    · show (if 0 < (mk [] 8 [key1, textT]).1 then some (cov [] key1 textT) else none) = _
      rw [hmk]
      rfl
    · exact pad_length (nm_length _) (by decide)
set_option maxRecDepth 100000 in
set_option maxHeartbeats 4000000 in
theorem alive_any {w : World} (hT : S.Tab w) : Calls Tryz.prog 4 #[] w fun e w' => e = .returned (.bool true) ∧ w.grownBy w' none := by
  have HT := Lib.hid hT
  clear hT
  go_enter Tryz.func4, Tryz.ntmps4
  go_wp2
  go_loopw [1] (fun i wr => ∃ k : Nat, k ≤ 2 ∧ i = .int .i64 k ∧ w.grownBy wr none) (fun i _ => 2 - (intOf i).toNat)
  case atStart => exact ⟨0, Nat.zero_le _, rfl, World.grownBy.refl _ _⟩
  case round =>
    obtain ⟨k, hk, rfl, hg⟩ := hrel
    have HG := Lib.hid hg
    clear hg
    by_cases hlt : k < 2
    · by_cases h1 : k = 1
      · subst h1
        clear hlt hk
        have T0 : Hid (S.Tab wr) := HT.out.grown HG.out (by simp) (by simp)
        have hs := suite_free wr
        go_wp2_with fail
        go_at_call 5
        refine hs.mono ?_
        rintro _ w1 ⟨tb, rfl, t1, g1⟩
        obtain ⟨ok0, hok0⟩ : ∃ ok0 : Nat → Prop, ok0 = fun b => wr.heap.size ≤ b ∧ b < w1.heap.size := ⟨_, rfl⟩
        have OK : Hid (∀ b, ok0 b → wr.heap.size ≤ b ∧ b < w1.heap.size) := fun b hb => by rw [hok0] at hb; exact hb
        have M1 : Hid (Sm ok0 w1 (some (tb, []))) := by rw [hok0]; exact t1
        clear t1 hok0
        unfold sui
        have G1 := Lib.hid g1
        clear hs g1 T0
        go_wp2_with fail
        have ga := World.grownBy_alloc w1 (.cells #[.pointer (some ⟨tb, 0, none⟩)] 27) none
        have ha : C.Blk (w1.alloc (.cells #[.pointer (some ⟨tb, 0, none⟩)] 27)) w1.heap.size 27 [.pointer (some ⟨tb, 0, none⟩)] := C.Blk.of_alloc w1 _ 27
        have M2 := Lib.hid (Sm.up M1.out ga)
        have G2 := Lib.hid (World.grownBy.trans G1.out ga)
        have HA2 := Lib.hid ha
        clear ga ha M1
        obtain ⟨w2, hw2⟩ : ∃ w', w1.alloc (.cells #[.pointer (some ⟨tb, 0, none⟩)] 27) = w' := ⟨_, rfl⟩
        rw [hw2] at M2 G2 HA2 ⊢
        obtain ⟨gs, hgs⟩ : ∃ g, g = w1.heap.size := ⟨_, rfl⟩
        rw [← hgs] at HA2 ⊢
        have NOK : Hid (¬ ok0 gs) := fun h => by have := (OK.out _ h).2; omega
        clear hw2 hgs G1
        have ht := terms_any w2 (some ⟨tb, 0, none⟩)
        unfold sui at ht
        go_at_call 12
        refine ht.mono ?_
        rintro _ w3 ⟨rfl, g3⟩
        have M3 := Lib.hid (Sm.up M2.out g3)
        have G3 := Lib.hid (World.grownBy.trans G2.out g3)
        have HA3 := Lib.hid (HA2.out.grown g3 (by simp))
        clear ht g3 M2 G2 HA2
        have hc3 : w3.cell? ⟨gs, 0, none⟩ = some (.pointer (some ⟨tb, 0, none⟩)) := HA3.out.get 0 _ rfl
        go_wp2_with (first | (refine wpList_key1 rfl rfl ?_) | (refine wpList_four 116 101 120 116 rfl rfl rfl _ rfl rfl ?_))
        intro w4 hx4 g4 z4
        have X4 : Hid (Byt w4 (fun b => b < w4.heap.size) (some ⟨w3.heap.size, 0, none⟩) textT) := hx4.imp fun b hb => by rw [hb]; exact z4
        have M4 := Lib.hid (Sm.up M3.out g4)
        have G4 := Lib.hid (World.grownBy.trans G3.out g4)
        have HA4 := Lib.hid (HA3.out.grown g4 (by simp))
        clear hx4 g4 z4 M3 G3 HA3 hc3
        obtain ⟨gt, hgt⟩ : ∃ g, g = w3.heap.size := ⟨_, rfl⟩
        rw [← hgt] at X4 ⊢
        clear hgt
        have hse : Calls Tryz.prog 6 #[.agg #[.pointer (some ⟨tb, 0, none⟩)], .agg (u8s key1).toArray, .slice (some ⟨gt, 0, none⟩) 4 4] w4 (SealE ok0 w4 (some (tb, [])) key1 textT) := seal_any M4.out key1_length X4.out (fun _ h => h) rfl (Nat.le_refl _) (by unfold maxLen; omega)
        go_wp2_with fail
        go_at_call 6
        refine hse.mono ?_
        rintro _ w5 ⟨h5, m5, d5⟩
        obtain ⟨b, hb, hbl⟩ := seal_text (some (tb, [])) (.inr ⟨tb, rfl⟩)
        have hop := open_sealF key1_length M4.out hb
        have hv : val (sealF (some (tb, [])) key1 textT).2 = .agg #[.pointer (some ⟨tb, 0, none⟩)] := val_seal (some (tb, [])) key1 textT
        rw [hb] at h5
        obtain ⟨σ, hσ⟩ : ∃ σ, (sealF (some (tb, [])) key1 textT).2 = σ := ⟨_, rfl⟩
        rw [hσ] at m5 hop hv
        have L5 := Lib.hid ((grown_below G4.out).trans (d5.below G4.out.size fun b _ h => (OK.out b h).1))
        have HA5 := Lib.hid (HA4.out.keep (d5.block gs HA4.out.lt NOK.out))
        have M5 := Lib.hid m5
        have HOP := Lib.hid hop
        have HV := Lib.hid hv
        have HBL := Lib.hid hbl
        clear hse m5 d5 hb hσ M4 X4 G4 HA4 hop hv hbl
        rcases h5 with ⟨h0, -⟩ | ⟨s, A5, c5, h0, rfl, q1, q2, q3⟩
        · cases h0
        obtain rfl := Option.some.inj h0
        have hop6 := open_any (c := c5) M5.out key1_length q3 (fun _ h => h) HBL.out (by rw [HBL.out] at q1; exact q1) q2 (by omega)
        rw [HV.out] at hop6
        have Q3 := Lib.hid q3
        rw [HBL.out]
        clear h0 q3 q1
        have hc5 : w5.cell? ⟨gs, 0, none⟩ = some (.pointer (some ⟨tb, 0, none⟩)) := HA5.out.get 0 _ rfl
        go_wp2_with (refine wpList_key1 rfl rfl ?_)
        go_at_call 11
        refine hop6.mono ?_
        rintro _ w6 ⟨h6, -, b6⟩
        rw [HOP.out] at h6
        have G6 := Lib.hid (World.grownBy.trans HG.out (below_grown (L5.out.trans (b6.mono L5.out.size))))
        clear hop6 b6 hc5 M5 HA5 L5 HOP HV Q3 OK NOK HBL
        rcases h6 with ⟨h0, -⟩ | ⟨s, A6, c6, h0, rfl, p1, p2, p3⟩
        · cases h0
        obtain rfl := Option.some.inj h0
        have r6 := str_text p3 c6
        rw [show textT.length = 4 from rfl]
        clear h0 p3 p1
        go_wp2
        go_roundw
        case rel => exact ⟨2, by omega, rfl, G6.out⟩
        case measure => simp [intOf]
      · obtain rfl : k = 0 := by omega
        clear h1
        clear hlt hk
        have T0 : Hid (S.Tab wr) := HT.out.grown HG.out (by simp) (by simp)
        have hs := suite_real wr
        go_wp2_with fail
        go_at_call 5
        refine hs.mono ?_
        rintro _ w1 ⟨rfl, g1⟩
        obtain ⟨ok0, hok0⟩ : ∃ ok0 : Nat → Prop, ok0 = fun b => wr.heap.size ≤ b ∧ b < w1.heap.size := ⟨_, rfl⟩
        have OK : Hid (∀ b, ok0 b → wr.heap.size ≤ b ∧ b < w1.heap.size) := fun b hb => by rw [hok0] at hb; exact hb
        have M1 : Hid (Sm ok0 w1 none) := T0.out.grown g1 (by simp) (by simp)
        clear hok0
        unfold sui
        have G1 := Lib.hid g1
        clear hs g1 T0
        go_wp2_with fail
        have ga := World.grownBy_alloc w1 (.cells #[.pointer none] 27) none
        have ha : C.Blk (w1.alloc (.cells #[.pointer none] 27)) w1.heap.size 27 [.pointer none] := C.Blk.of_alloc w1 _ 27
        have M2 := Lib.hid (Sm.up M1.out ga)
        have G2 := Lib.hid (World.grownBy.trans G1.out ga)
        have HA2 := Lib.hid ha
        clear ga ha M1
        obtain ⟨w2, hw2⟩ : ∃ w', w1.alloc (.cells #[.pointer none] 27) = w' := ⟨_, rfl⟩
        rw [hw2] at M2 G2 HA2 ⊢
        obtain ⟨gs, hgs⟩ : ∃ g, g = w1.heap.size := ⟨_, rfl⟩
        rw [← hgs] at HA2 ⊢
        have NOK : Hid (¬ ok0 gs) := fun h => by have := (OK.out _ h).2; omega
        clear hw2 hgs G1
        have ht := terms_any w2 none
        unfold sui at ht
        go_at_call 12
        refine ht.mono ?_
        rintro _ w3 ⟨rfl, g3⟩
        have M3 := Lib.hid (Sm.up M2.out g3)
        have G3 := Lib.hid (World.grownBy.trans G2.out g3)
        have HA3 := Lib.hid (HA2.out.grown g3 (by simp))
        clear ht g3 M2 G2 HA2
        have hc3 : w3.cell? ⟨gs, 0, none⟩ = some (.pointer none) := HA3.out.get 0 _ rfl
        go_wp2_with (first | (refine wpList_key1 rfl rfl ?_) | (refine wpList_four 116 101 120 116 rfl rfl rfl _ rfl rfl ?_))
        intro w4 hx4 g4 z4
        have X4 : Hid (Byt w4 (fun b => b < w4.heap.size) (some ⟨w3.heap.size, 0, none⟩) textT) := hx4.imp fun b hb => by rw [hb]; exact z4
        have M4 := Lib.hid (Sm.up M3.out g4)
        have G4 := Lib.hid (World.grownBy.trans G3.out g4)
        have HA4 := Lib.hid (HA3.out.grown g4 (by simp))
        clear hx4 g4 z4 M3 G3 HA3 hc3
        obtain ⟨gt, hgt⟩ : ∃ g, g = w3.heap.size := ⟨_, rfl⟩
        rw [← hgt] at X4 ⊢
        clear hgt
        have hse : Calls Tryz.prog 6 #[.agg #[.pointer none], .agg (u8s key1).toArray, .slice (some ⟨gt, 0, none⟩) 4 4] w4 (SealE ok0 w4 none key1 textT) := seal_any M4.out key1_length X4.out (fun _ h => h) rfl (Nat.le_refl _) (by unfold maxLen; omega)
        go_wp2_with fail
        go_at_call 6
        refine hse.mono ?_
        rintro _ w5 ⟨h5, m5, d5⟩
        obtain ⟨b, hb, hbl⟩ := seal_text none (.inl rfl)
        have hop := open_sealF key1_length M4.out hb
        have hv : val (sealF none key1 textT).2 = .agg #[.pointer none] := val_seal none key1 textT
        rw [hb] at h5
        obtain ⟨σ, hσ⟩ : ∃ σ, (sealF none key1 textT).2 = σ := ⟨_, rfl⟩
        rw [hσ] at m5 hop hv
        have L5 := Lib.hid ((grown_below G4.out).trans (d5.below G4.out.size fun b _ h => (OK.out b h).1))
        have HA5 := Lib.hid (HA4.out.keep (d5.block gs HA4.out.lt NOK.out))
        have M5 := Lib.hid m5
        have HOP := Lib.hid hop
        have HV := Lib.hid hv
        have HBL := Lib.hid hbl
        clear hse m5 d5 hb hσ M4 X4 G4 HA4 hop hv hbl
        rcases h5 with ⟨h0, -⟩ | ⟨s, A5, c5, h0, rfl, q1, q2, q3⟩
        · cases h0
        obtain rfl := Option.some.inj h0
        have hop6 := open_any (c := c5) M5.out key1_length q3 (fun _ h => h) HBL.out (by rw [HBL.out] at q1; exact q1) q2 (by omega)
        rw [HV.out] at hop6
        have Q3 := Lib.hid q3
        rw [HBL.out]
        clear h0 q3 q1
        have hc5 : w5.cell? ⟨gs, 0, none⟩ = some (.pointer none) := HA5.out.get 0 _ rfl
        go_wp2_with (refine wpList_key1 rfl rfl ?_)
        go_at_call 11
        refine hop6.mono ?_
        rintro _ w6 ⟨h6, -, b6⟩
        rw [HOP.out] at h6
        have G6 := Lib.hid (World.grownBy.trans HG.out (below_grown (L5.out.trans (b6.mono L5.out.size))))
        clear hop6 b6 hc5 M5 HA5 L5 HOP HV Q3 OK NOK HBL
        rcases h6 with ⟨h0, -⟩ | ⟨s, A6, c6, h0, rfl, p1, p2, p3⟩
        · cases h0
        obtain rfl := Option.some.inj h0
        have r6 := str_text p3 c6
        rw [show textT.length = 4 from rfl]
        clear h0 p3 p1
        go_wp2
        go_roundw
        case rel => exact ⟨1, by omega, rfl, G6.out⟩
        case measure => simp [intOf]
    · obtain rfl : k = 2 := by omega
      have hs := siz_any wr 16
      rw [show sizeN 16 = 48 from rfl] at hs
      clear hlt hk
      go_wp2_with fail
      go_at_call 10
      refine hs.mono ?_
      rintro _ w2 ⟨rfl, g2⟩
      clear hs
      go_wp2
      go_ret
      exact ⟨rfl, HG.out.trans g2⟩
end Go.Proofs.YtkbffponemihoaaGreatDoor
