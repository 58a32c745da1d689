/- chain.Take. Conditions: the list has no more than 900 keys. -/
import Derived.Test.YtdnkeaokgkiloaaDoorQ4
namespace Go.Proofs.YtdnkeaokgkiloaaDoor
open Go.RowKit T
theorem run_sliceTo (w : World) (b o n c i : Nat) (hi : i ≤ c) (hc : 0 < c) : (Instr.sliceAt 47 (.slice (some ⟨b, o, none⟩) n c) none (some (.int .i64 (i : Int))) none).run Tryd.prog w = .ok (.slice (some ⟨b, o, none⟩) i c) w := by
  have hs : (sizeOf (Tryd.prog.elem 47)).run Tryd.prog w = .ok 65 w := by kernel_rfl
  rw [run_sliceAt_slice w 47 _ _ _ _ (by kernel_rfl), run_slice_h w 47 (some ⟨b, o, none⟩) n c (by kernel_rfl) .i64 (i : Int) (by omega) (by omega), hs]
  have h0 : ¬ c = 0 := by omega
  simp [Result.andThen, sliced, h0, Addr.add_mid]
theorem run_sliceFrom (w : World) (b o n c i : Nat) (hi : i ≤ n) : (Instr.sliceAt 47 (.slice (some ⟨b, o, none⟩) n c) (some (.int .i64 (i : Int))) none none).run Tryd.prog w = .ok (.slice (some (if c = i then ⟨b, o, none⟩ else ⟨b, o + 65 * i, none⟩)) (n - i) (c - i)) w := by
  have hs : (sizeOf (Tryd.prog.elem 47)).run Tryd.prog w = .ok 65 w := by kernel_rfl
  rw [run_sliceAt_slice w 47 _ _ _ _ (by kernel_rfl), run_slice_l w 47 (some ⟨b, o, none⟩) n c (by kernel_rfl) .i64 (i : Int) (by omega) (by omega), hs]
  by_cases h : c = i
  · simp [Result.andThen, sliced, h]
  · simp [Result.andThen, sliced, h, Addr.add_mid, Nat.mul_comm]
section
variable {w : World} {ops : Array Oper} {rest : List Oper} {S : World → Prop} {o : Oper} {a : Act} {K : Act → World → Prop} {Q : Exit → Act → World → Prop}
theorem yieldsIf_sliceTo (hw : Region.wanted o (yielded ops a.tmps) = true) (x y : Operand) (ho : o.op = .slice 47 x none (some y) none) (b off n c i : Nat) (hx : a.eval x = .slice (some ⟨b, off, none⟩) n c) (hy : a.eval y = .int .i64 (i : Int)) (hi : i ≤ c) (hc : 0 < c) : YieldsIf Tryd.prog ops S o (.slice (some ⟨b, off, none⟩) i c) a :=
  .inl ⟨hw, fun w _ => by
    have hrun := run_sliceTo w b off n c i hi hc
    unfold execOp
    simp only [ho, hx, hy, Option.map_some, Option.map_none, hrun, Sem.run_bind, Sem.run_pure, Result.andThen_ok]⟩
theorem yieldsIf_sliceFrom (hw : Region.wanted o (yielded ops a.tmps) = true) (x y : Operand) (ho : o.op = .slice 47 x (some y) none none) (b off n c i : Nat) (hx : a.eval x = .slice (some ⟨b, off, none⟩) n c) (hy : a.eval y = .int .i64 (i : Int)) (hi : i ≤ n) {A2 : Option Addr} (hA : A2 = some (if c = i then ⟨b, off, none⟩ else ⟨b, off + 65 * i, none⟩)) {c2 : Nat} (h2 : c2 = c - i) : YieldsIf Tryd.prog ops S o (.slice A2 (n - i) c2) a :=
  .inl ⟨hw, fun w _ => by
    have hrun := run_sliceFrom w b off n c i hi
    subst hA h2
    unfold execOp
    simp only [ho, hx, hy, Option.map_some, Option.map_none, hrun, Sem.run_bind, Sem.run_pure, Result.andThen_ok]⟩
end
theorem grown_drew (w : World) : w.grownBy w.drew none := ⟨rfl, rfl, rfl, Nat.le_refl _, fun _ _ _ => rfl⟩
theorem range_keep {w w' : World} {g i : Nat} {vs : List Value} (h : w.rangeAt g i vs) (hk : g < w.heap.size → w'.heap[g]? = w.heap[g]?) : w'.rangeAt g i vs := fun j v hv =>
  (World.cell?_of_block (hk (World.block_lt_of_cell? w _ (h j v hv)))).trans (h j v hv)
/-- What Take answers: the list, the key, whether there is one. -/
def takeL (L : List Kep) (r : List UInt8) (n : Nat) : List Kep := if 0 ≤ plc L r n then L.take (plc L r n).toNat ++ L.drop ((plc L r n).toNat + 1) else L
def takeK (L : List Kep) (r : List UInt8) (n : Nat) : List UInt8 := if 0 ≤ plc L r n then (L.getD (plc L r n).toNat (z32, 0, z32)).2.2 else z32
def TakeE (w : World) (L : List Kep) (k : List UInt8) (b : Bool) (e : Ending) (w' : World) : Prop := ∃ A c, e = .returned (.tuple #[.slice A L.length c, .agg (u8s k).toArray, .bool b]) ∧ L.length ≤ c ∧ c ≤ maxLen ∧ Kps w' (fun b => w.heap.size ≤ b ∧ b < w'.heap.size) A L ∧ w.grownBy w' none
set_option maxRecDepth 100000 in
set_option maxHeartbeats 1600000 in
theorem take_any {w : World} {ok : Nat → Prop} {A : Option Addr} {L : List Kep} {n c m : Nat} {r : List UInt8} (hL : Kps w ok A L) (hK : KAll L) (hn : L.length = n) (hle : n ≤ 900) (hc : n ≤ c) (hr : r.length = 32) :
    Calls Tryd.prog 19 #[.slice A n c, .agg (u8s r).toArray, .int .u16 (m : Int)] w (TakeE w (takeL L r m) (takeK L r m) (decide (0 ≤ plc L r m))) := by
  have hpt := plc_lt L r m
  obtain ⟨Lr, hLr⟩ : ∃ l, l = takeL L r m := ⟨_, rfl⟩
  obtain ⟨kr, hkr⟩ : ∃ l, l = takeK L r m := ⟨_, rfl⟩
  obtain ⟨br, hbr⟩ : ∃ l, l = decide (0 ≤ plc L r m) := ⟨_, rfl⟩
  rw [← hLr, ← hkr, ← hbr]
  unfold takeL at hLr
  unfold takeK at hkr
  obtain ⟨p, hp⟩ : ∃ p, p = plc L r m := ⟨_, rfl⟩
  rw [← hp] at hpt hLr hkr hbr
  have HP := Lib.hid hp
  have HLR := Lib.hid hLr
  have HKR := Lib.hid hkr
  have HBR := Lib.hid hbr
  have HL := Lib.hid hL
  have HK := Lib.hid hK
  have HN := Lib.hid hn
  have HR := Lib.hid hr
  have HLE := Lib.hid hle
  have HPT := Lib.hid hpt
  have HC := Lib.hid hc
  obtain ⟨z, hz⟩ : ∃ z, z = u8s r := ⟨_, rfl⟩
  have HZ := Lib.hid hz
  rw [← hz]
  clear hL hK hn hr hle hpt hz hp hc hLr hkr hbr
  go_enter Tryd.func19, Tryd.ntmps19
  go_wp2_with (first | (refine wpList_boxG rfl _ rfl (vs := z) rfl ?_) | fail)
  intro g w1 hg hbk hgr
  go_wp2_with (first | (refine wpList_allocG zeY rfl rfl ?_) | fail)
  intro g2 w2 hg2 hb2 hgr2
  have G2 := Lib.hid (hgr.out.trans hgr2.out)
  have HB1 : Hid (C.Blk w2 g 24 (u8s r)) := by have h := hbk.out.grown hgr2.out (by simp); rw [HZ.out] at h; exact h
  have NN : Hid (w.heap.size ≤ g2) := by rw [hg2.out]; exact hgr.out.size
  have hpl := place_any (n := m) (c := c) (HL.out.grown G2.out) HK.out HN.out (by have := HLE.out; omega) HR.out
  rw [← HP.out] at hpl
  have HPL := Lib.hid hpl
  have HB2 := Lib.hid hb2.out
  clear hbk hgr hg hpl hb2 hgr2 hg2
  by_cases hp0 : p < 0
  · have d1 : p < 0 := hp0
    have hE : Lr = L ∧ kr = z32 ∧ br = false := ⟨by rw [HLR.out, if_neg (by omega)], by rw [HKR.out, if_neg (by omega)], by rw [HBR.out]; simp; omega⟩
    have HE := Lib.hid hE
    clear hE hp0
    go_wp2_with (first | (refine wpList_loadG agY rfl (.tmp 4) rfl g rfl HB1.out (by rw [u8s_length, HR.out]) ?_) | (go_at_call 28; refine HPL.out.mono ?_; rintro _ w3 ⟨rfl, hg3⟩; have HG3 := Lib.hid hg3; clear hg3) | (go_at_call 29; refine (laid_any (c := c) (c2 := 0) (m := 0) ((HL.out.grown G2.out).grown HG3.out) HK.out HN.out (Kps.nil (ok := fun _ => False)) KAll.nil rfl (by have := HLE.out; omega)).mono ?_; rintro _ w4 ⟨A4, c4, rfl, hl1, hl2, hl3, hl4⟩; have HR1 := Lib.hid hl1; have HR2 := Lib.hid hl2; have HR3 := Lib.hid hl3; have HR4 := Lib.hid hl4; clear hl1 hl2 hl3 hl4; have HB4 := Lib.hid ((HB2.out.grown HG3.out (by simp)).grown HR4.out (by simp))) | (refine wpList_zeroG zeY rfl rfl ?_) | (refine wpList_storeG agY rfl _ _ rfl g2 rfl rfl HB4.out (by rw [u8s_length, z32_length]) (by rw [u8s_length, z32_length]) (u8s_one _) ?_) | fail)
    intro w5 hb5 hg5 hz5
    go_wp2_with fail
    refine bodyPost_ret (res_scs rfl agY rfl rfl rfl hb5.out (by rw [u8s_length, z32_length])) rfl ?_
    have G5 : w.grownBy w5 none := World.grownBy.andThen ((G2.out.trans HG3.out).trans HR4.out) hg5.out (by rintro _ ⟨⟩; exact .inl NN.out)
    have hr1 := HR1.out
    have hr3 := HR3.out
    rw [List.append_nil] at hr1 hr3
    rw [HE.out.1, HE.out.2.1, HE.out.2.2]
    refine ⟨A4, c4, rfl, hr1, HR2.out, (hr3.keep fun b hb hlt => hg5.out.block b hlt ?_).imp fun b hb => ⟨Nat.le_trans (G2.out.trans HG3.out).size hb.1, by rw [hz5.out]; exact hb.2⟩, G5⟩
    rintro ⟨⟩
    exact Nat.lt_irrefl _ (Nat.lt_of_lt_of_le (HB2.out.grown HG3.out (by simp)).lt hb.1)
  · have d1 : ¬ p < 0 := hp0
    obtain ⟨i, rfl⟩ : ∃ i : Nat, p = (i : Int) := ⟨p.toNat, by omega⟩
    have hil : i < L.length := by have := HPT.out.2; omega
    have hin : i < n := by rw [← HN.out]; exact hil
    have hE : Lr = L.take i ++ L.drop (i + 1) ∧ kr = L[i].2.2 ∧ br = true := ⟨by rw [HLR.out, if_pos (by omega)]; rfl, by rw [HKR.out, if_pos (by omega), Int.toNat_natCast, List.getD_eq_getElem?_getD, List.getElem?_eq_getElem hil]; rfl, by rw [HBR.out]; simp⟩
    obtain ⟨b, o, rfl, _, hrg⟩ := HL.out i hil
    obtain ⟨x, hx⟩ : ∃ x, L[i] = x := ⟨_, rfl⟩
    have hxk : KOk x := by rw [← hx]; exact HK.out.at i hil
    rw [hx] at hE hrg
    obtain ⟨kk, hkk⟩ : ∃ kk, x.2.2 = kk := ⟨_, rfl⟩
    have hkl : kk.length = 32 := by rw [← hkk]; exact hxk.2.2
    have hrk : w.rangeAt b (o + 65 * i + 33) (u8s kk) := fun j v hv => by
      rw [Nat.add_assoc]
      refine hrg (33 + j) v ?_
      rw [← hkk] at hv
      unfold kv
      rw [List.getElem?_append_right (by rw [u8s_length, hxk.1]; omega), u8s_length, hxk.1, show 33 + j - 32 = j + 1 by omega, List.getElem?_cons_succ]
      exact hv
    rw [hkk] at hE
    have HEQ := Lib.hid hE
    have HKK := Lib.hid hkl
    have HRK := Lib.hid hrk
    have HLT := Lib.hid hin
    have HIC : Hid (i ≤ c) := by have := HC.out; show i ≤ c; omega
    have HC0 : Hid (0 < c) := by have := HC.out; show 0 < c; omega
    have HIN : Hid (i + 1 ≤ n) := hin
    have HWR : Hid (IntKind.i64.wrap ((i : Int) + 1) = (i : Int) + 1) := by have := HLE.out; show _ = _; rw [IntKind.wrap_i64]; omega
    obtain ⟨A2, hA2⟩ : ∃ A2 : Option Addr, A2 = some (if c = i + 1 then ⟨b, o, none⟩ else ⟨b, o + 65 * (i + 1), none⟩) := ⟨_, rfl⟩
    obtain ⟨c2, hc2⟩ : ∃ c2, c2 = c - (i + 1) := ⟨_, rfl⟩
    have HA2 := Lib.hid hA2
    have HC2 := Lib.hid hc2
    have hk2 : Kps w ok A2 (L.drop (i + 1)) := by
      by_cases e : c = i + 1
      · have : L.drop (i + 1) = [] := List.drop_eq_nil_of_le (by rw [HN.out, ← e]; exact HC.out)
        rw [this]
        exact Kps.nil
      · rw [hA2, if_neg e]
        exact HL.out.drop (i + 1)
    have HK2 := Lib.hid hk2
    clear hil hin hE hrg hx hxk hkk hkl hrk hA2 hc2 hk2
    go_wp2_with (first | (refine wpList_loadG agY rfl (.tmp 4) rfl g rfl HB1.out (by rw [u8s_length, HR.out]) ?_) | (go_at_call 28; refine HPL.out.mono ?_; rintro _ w3 ⟨rfl, hg3⟩; have HG3 := Lib.hid hg3; clear hg3) | fail)
    obtain ⟨v, hv⟩ : ∃ v, v = w3.drew := ⟨_, rfl⟩
    have GV : Hid (w.grownBy v none) := by rw [hv]; exact (G2.out.trans HG3.out).trans (grown_drew _)
    have HRG : Hid (v.rangeAt b (o + 65 * i + 33) (u8s kk)) := range_keep HRK.out fun hlt => GV.out.block b hlt (by simp)
    have HB3 : Hid (C.Blk v g2 24 (u8s z32)) := by rw [hv]; exact (HB2.out.grown HG3.out (by simp) : C.Blk w3 g2 24 (u8s z32))
    have NB : Hid (b ≠ g2) := by
      intro e
      have hlt : b < w.heap.size := World.block_lt_of_cell? w _ (HRK.out 0 _ (List.getElem?_eq_getElem (by rw [u8s_length, HKK.out]; omega)))
      have := NN.out
      omega
    have hln : Lr.length = i + (n - (i + 1)) := by rw [HEQ.out.1, List.length_append, List.length_take, List.length_drop, HN.out]; have := HLT.out; omega
    have HLN := Lib.hid hln
    have hld := laid_any (c := c) (c2 := c2) ((HL.out.take i).grown GV.out) (HK.out.take i) (by rw [List.length_take, HN.out]; have := HLT.out; omega : (L.take i).length = i) (HK2.out.grown GV.out) (HK.out.drop (i + 1)) (by rw [List.length_drop, HN.out] : (L.drop (i + 1)).length = n - (i + 1)) (by have := HLE.out; have := HLT.out; omega)
    rw [← HEQ.out.1] at hld
    unfold LaidE at hld
    rw [HLN.out] at hld
    have HLD := Lib.hid hld
    clear hld hln
    refine wp_region_held_drew (S := fun W => W.rangeAt b (o + 65 * i + 33) (u8s kk)) (by kernel_rfl) (by rw [← hv]; exact HRG.out) (fun hHeld => ?_)
    rw [← hv] at hHeld ⊢
    clear hv
    refine' wpAnyH_take (i := 0) (oi := { dst := some 19, op := Op.move (Operand.tmp 0), type := 47, pos := "chain.go:53", after := #[], guard := none }) (v := .slice (some ⟨b, o, none⟩) n c) rfl (by kernel_rfl) (by kernel_rfl) (by kernel_rfl) (fun _ _ _ h => h) (Or.inl ⟨by rfl, fun w' hSw => by go_simp⟩) (by assumption) ?qz1
    try simp only [Act.put, List.setIfInBounds_toArray, List.set_cons_zero, List.set_cons_succ]
    refine' wpAnyH_take (i := 1) (oi := { dst := some 20, op := Op.move (Operand.tmp 9), type := 3, pos := "chain.go:53", after := #[], guard := none }) (v := .int .i64 (i : Int)) rfl (by kernel_rfl) (by kernel_rfl) (by kernel_rfl) (fun _ _ _ h => h) (Or.inl ⟨by rfl, fun w' hSw => by go_simp⟩) (by assumption) ?qz2
    try simp only [Act.put, List.setIfInBounds_toArray, List.set_cons_zero, List.set_cons_succ]
    refine' wpAnyH_take (i := 2) (oi := { dst := some 21, op := Op.slice 47 (Operand.tmp 19) none (some (Operand.tmp 20)) none, type := 47, pos := "chain.go:53", after := #[{ on := 0, ground := Ground.data }, { on := 1, ground := Ground.data }], guard := none }) (v := .slice (some ⟨b, o, none⟩) i c) rfl (by kernel_rfl) (by kernel_rfl) (by kernel_rfl) (fun _ _ _ h => h) (yieldsIf_sliceTo (by rfl) (.tmp 19) (.tmp 20) rfl b o n c i rfl rfl HIC.out HC0.out) (by assumption) ?qz3
    try simp only [Act.put, List.setIfInBounds_toArray, List.set_cons_zero, List.set_cons_succ]
    refine' wpAnyH_take (i := 3) (oi := { dst := some 22, op := Op.move (Operand.tmp 0), type := 47, pos := "chain.go:53", after := #[], guard := none }) (v := .slice (some ⟨b, o, none⟩) n c) rfl (by kernel_rfl) (by kernel_rfl) (by kernel_rfl) (fun _ _ _ h => h) (Or.inl ⟨by rfl, fun w' hSw => by go_simp⟩) (by assumption) ?qz4
    try simp only [Act.put, List.setIfInBounds_toArray, List.set_cons_zero, List.set_cons_succ]
    refine' wpAnyH_take (i := 4) (oi := { dst := some 23, op := Op.move (Operand.tmp 9), type := 3, pos := "chain.go:53", after := #[], guard := none }) (v := .int .i64 (i : Int)) rfl (by kernel_rfl) (by kernel_rfl) (by kernel_rfl) (fun _ _ _ h => h) (Or.inl ⟨by rfl, fun w' hSw => by go_simp⟩) (by assumption) ?qz5
    try simp only [Act.put, List.setIfInBounds_toArray, List.set_cons_zero, List.set_cons_succ]
    refine' wpAnyH_take (i := 5) (oi := { dst := some 24, op := Op.binOp BinOp.add 3 (Operand.tmp 23) (Operand.const (Value.int IntKind.i64 1)) 3, type := 3, pos := "chain.go:53", after := #[{ on := 4, ground := Ground.data }], guard := none }) (v := .int .i64 ((i + 1 : Nat) : Int)) rfl (by kernel_rfl) (by kernel_rfl) (by kernel_rfl) (fun _ _ _ h => h) (Or.inl ⟨by rfl, fun w' hSw => by go_simp; rw [HWR.out]⟩) (by assumption) ?qz6
    try simp only [Act.put, List.setIfInBounds_toArray, List.set_cons_zero, List.set_cons_succ]
    refine' wpAnyH_take (i := 6) (oi := { dst := some 25, op := Op.slice 47 (Operand.tmp 22) (some (Operand.tmp 24)) none none, type := 47, pos := "chain.go:53", after := #[{ on := 3, ground := Ground.data }, { on := 5, ground := Ground.data }], guard := none }) (v := .slice A2 (n - (i + 1)) c2) rfl (by kernel_rfl) (by kernel_rfl) (by kernel_rfl) (fun _ _ _ h => h) (yieldsIf_sliceFrom (by rfl) (.tmp 22) (.tmp 24) rfl b o n c (i + 1) rfl rfl HIN.out HA2.out HC2.out) (by assumption) ?qz7
    try simp only [Act.put, List.setIfInBounds_toArray, List.set_cons_zero, List.set_cons_succ]
    refine' wpAnyH_take (i := 8) (oi := { dst := some 27, op := Op.move (Operand.tmp 0), type := 47, pos := "chain.go:53", after := #[{ on := 13, ground := Ground.gcOnly Departure.lateStores }], guard := none }) (v := .slice (some ⟨b, o, none⟩) n c) rfl (by kernel_rfl) (by kernel_rfl) (by kernel_rfl) (fun _ _ _ h => h) (Or.inl ⟨by rfl, fun w' hSw => by go_simp⟩) (by assumption) ?qz8
    try simp only [Act.put, List.setIfInBounds_toArray, List.set_cons_zero, List.set_cons_succ]
    refine' wpAnyH_take (i := 9) (oi := { dst := some 28, op := Op.move (Operand.tmp 9), type := 3, pos := "chain.go:53", after := #[{ on := 13, ground := Ground.gcOnly Departure.lateStores }], guard := none }) (v := .int .i64 (i : Int)) rfl (by kernel_rfl) (by kernel_rfl) (by kernel_rfl) (fun _ _ _ h => h) (Or.inl ⟨by rfl, fun w' hSw => by go_simp⟩) (by assumption) ?qz9
    try simp only [Act.put, List.setIfInBounds_toArray, List.set_cons_zero, List.set_cons_succ]
    refine' wpAnyH_take (i := 10) (oi := { dst := some 29, op := Op.indexAddr 47 (Operand.tmp 27) (Operand.tmp 28), type := 0, pos := "chain.go:53", after := #[{ on := 8, ground := Ground.data }, { on := 9, ground := Ground.data }, { on := 13, ground := Ground.gcOnly Departure.lateStores }], guard := none }) (v := .pointer (some ⟨b, o + 65 * i, none⟩)) rfl (by kernel_rfl) (by kernel_rfl) (by kernel_rfl) (fun _ _ _ h => h) (yieldsIf_indexK (by rfl) (.tmp 27) (.tmp 28) rfl b o n c i rfl rfl HLT.out) (by assumption) ?qz10
    try simp only [Act.put, List.setIfInBounds_toArray, List.set_cons_zero, List.set_cons_succ]
    refine' wpAnyH_take (i := 11) (oi := { dst := some 30, op := Op.fieldAddr 49 (Operand.tmp 29) 2, type := 0, pos := "chain.go:53", after := #[{ on := 10, ground := Ground.data }, { on := 13, ground := Ground.gcOnly Departure.lateStores }], guard := none }) (v := .pointer (some ⟨b, o + 65 * i + 33, none⟩)) rfl (by kernel_rfl) (by kernel_rfl) (by kernel_rfl) (fun _ _ _ h => h) (Or.inl ⟨by rfl, fun w' hSw => by go_simp⟩) (by assumption) ?qz11
    try simp only [Act.put, List.setIfInBounds_toArray, List.set_cons_zero, List.set_cons_succ]
    refine' wpAnyH_take (i := 12) (oi := { dst := some 31, op := Op.load 24 (Operand.tmp 30), type := 24, pos := "chain.go:53", after := #[{ on := 11, ground := Ground.data }, { on := 13, ground := Ground.gcOnly Departure.lateStores }], guard := none }) (v := .agg (u8s kk).toArray) rfl (by kernel_rfl) (by kernel_rfl) (by kernel_rfl) (fun _ _ _ h => h) (yieldsIf_loadR agY (by rfl) (.tmp 30) rfl b (o + 65 * i + 33) rfl (by rw [u8s_length, HKK.out]) (fun _ h => h)) (by assumption) ?qz12
    try simp only [Act.put, List.setIfInBounds_toArray, List.set_cons_zero, List.set_cons_succ]
    refine wpAnyH_ready (rs := [7]) (by kernel_rfl) (by simp) ?_
    refine AllReadyH.cons (o := { dst := some 26, op := Op.call { callee := Callee.value (Operand.func 29), args := #[Operand.tmp 21, Operand.tmp 25], argTypes := #[47, 47] }, type := 47, pos := "chain.go:53", after := #[{ on := 2, ground := Ground.data }, { on := 6, ground := Ground.data }], guard := none }) rfl (fun K hK => ?_) AllReadyH.nil
    rw [if_pos (by rfl)]
    go_simp
    with_reducible refine HLD.out.mono ?_
    rintro _ w4 ⟨A4, c4, rfl, hl1, hl2, hl3, hl4⟩
    have HR1 := Lib.hid hl1
    have HR2 := Lib.hid hl2
    have HR3 := Lib.hid hl3
    have HR4 := Lib.hid hl4
    have HB4 := Lib.hid (HB3.out.grown HR4.out (by simp))
    clear hl1 hl2 hl3 hl4
    refine hK.out _ _ (range_keep hHeld fun hlt => HR4.out.block b hlt (by simp)) (fun hHeld => ?_)
    clear hK K
    try simp only [Act.put, List.setIfInBounds_toArray, List.set_cons_zero, List.set_cons_succ]
    refine wpAnyH_ready (rs := [13]) (by kernel_rfl) (by simp) ?_
    refine AllReadyH.cons (o := { dst := some 6, op := Op.assign (Operand.tmp 26), type := 47, pos := "chain.go:53", after := #[{ on := 7, ground := Ground.data }, { on := 7, ground := Ground.chain }, { on := 0, ground := Ground.phase }, { on := 1, ground := Ground.phase }, { on := 2, ground := Ground.phase }, { on := 3, ground := Ground.phase }, { on := 4, ground := Ground.phase }, { on := 5, ground := Ground.phase }, { on := 6, ground := Ground.phase }, { on := 7, ground := Ground.phase }, { on := 8, ground := Ground.textOnly Departure.lateStores }, { on := 9, ground := Ground.textOnly Departure.lateStores }, { on := 10, ground := Ground.textOnly Departure.lateStores }, { on := 11, ground := Ground.textOnly Departure.lateStores }, { on := 12, ground := Ground.textOnly Departure.lateStores }], guard := none }) rfl (fun K hK => ?_) AllReadyH.nil
    rw [if_pos (by rfl)]
    go_simp
    refine hK.out _ _ hHeld (fun hHeld => ?_)
    clear hK K
    try simp only [Act.put, List.setIfInBounds_toArray, List.set_cons_zero, List.set_cons_succ]
    refine wpAnyH_ready (rs := [14]) (by kernel_rfl) (by simp) ?_
    refine AllReadyH.cons (o := { dst := none, op := Op.store 24 (Operand.tmp 7) (Operand.tmp 31), type := 0, pos := "chain.go:53", after := #[{ on := 12, ground := Ground.data }, { on := 13, ground := Ground.chain }, { on := 0, ground := Ground.phase }, { on := 1, ground := Ground.phase }, { on := 2, ground := Ground.phase }, { on := 3, ground := Ground.phase }, { on := 4, ground := Ground.phase }, { on := 5, ground := Ground.phase }, { on := 6, ground := Ground.phase }, { on := 7, ground := Ground.phase }, { on := 8, ground := Ground.phase }, { on := 9, ground := Ground.phase }, { on := 10, ground := Ground.phase }, { on := 11, ground := Ground.phase }, { on := 12, ground := Ground.phase }, { on := 13, ground := Ground.phase }], guard := none }) rfl (fun K hK => ?_) AllReadyH.nil
    rw [if_pos (by rfl)]
    refine wp_storeG agY _ _ rfl g2 rfl rfl HB4.out (by rw [u8s_length, z32_length]) (by rw [u8s_length, HKK.out]) (u8s_one _) (fun w5 hb5 hg5 hz5 => ?_)
    refine hK.out _ _ (range_keep hHeld fun hlt => hg5.out.block b hlt (by simpa using NB.out)) (fun hHeld => ?_)
    clear hK K
    dsimp only [Act.put]
    refine wpAnyH_ready (rs := [15]) (by kernel_rfl) (by simp) ?_
    refine AllReadyH.cons (o := { dst := some 8, op := Op.assign (Operand.const (Value.bool true)), type := 4, pos := "chain.go:53", after := #[{ on := 14, ground := Ground.chain }, { on := 0, ground := Ground.phase }, { on := 1, ground := Ground.phase }, { on := 2, ground := Ground.phase }, { on := 3, ground := Ground.phase }, { on := 4, ground := Ground.phase }, { on := 5, ground := Ground.phase }, { on := 6, ground := Ground.phase }, { on := 7, ground := Ground.phase }, { on := 8, ground := Ground.phase }, { on := 9, ground := Ground.phase }, { on := 10, ground := Ground.phase }, { on := 11, ground := Ground.phase }, { on := 12, ground := Ground.phase }, { on := 13, ground := Ground.phase }, { on := 14, ground := Ground.phase }], guard := none }) rfl (fun K hK => ?_) AllReadyH.nil
    rw [if_pos (by rfl)]
    go_simp
    refine hK.out _ _ hHeld (fun hHeld => ?_)
    clear hK K
    try simp only [Act.put, List.setIfInBounds_toArray, List.set_cons_zero, List.set_cons_succ]
    refine wpAnyH_done (by kernel_rfl) ?_ _
    go_wp2_with fail
    refine bodyPost_ret (res_scs rfl agY rfl rfl rfl hb5.out (by rw [u8s_length, HKK.out])) rfl ?_
    have G5 : w.grownBy w5 none := World.grownBy.andThen (GV.out.trans HR4.out) hg5.out (by rintro _ ⟨⟩; exact .inl NN.out)
    rw [HEQ.out.2.1, HEQ.out.2.2]
    refine ⟨A4, c4, by rw [HLN.out]; rfl, by rw [HLN.out]; exact HR1.out, HR2.out, (HR3.out.keep fun b hb hlt => hg5.out.block b hlt ?_).imp fun b hb => ⟨Nat.le_trans GV.out.size hb.1, by rw [hz5.out]; exact hb.2⟩, G5⟩
    rintro ⟨⟩
    exact Nat.lt_irrefl _ (Nat.lt_of_lt_of_le HB3.out.lt hb.1)
end Go.Proofs.YtdnkeaokgkiloaaDoor
