/- missiveref17.Same and Without; a row of one's own that grows. Conditions: the lists have no more than 1,000 keys; of Same: both are alike. -/
import Derived.Test.YtdnkeaokgkiloaaDoorS1
namespace Go.Proofs.YtdnkeaokgkiloaaDoor
open Go.RowKit T
/-- A row of kept keys of the call's own. -/
def ORow (B : Nat) (w : World) (v : Value) (n : Nat) (L : List Kep) : Prop := (KAll L ∧ L.length = n) ∧ w.ownsRow B 49 65 v n (kvs L)
section
variable {B n m : Nat} {w w' : World} {v : Value} {L M : List Kep} {A A2 : Option Addr} {ok : Nat → Prop}
theorem ORow.krow (h : ORow B w v n L) : KRow B w v n L := ⟨h.1, .inl h.2⟩
theorem ORow.nil (B : Nat) (w : World) : ORow B w (.slice none 0 0) 0 [] := ⟨⟨KAll.nil, rfl⟩, World.ownsRow_nil _ _ _ _⟩
theorem ORow.keep (h : ORow B w v n L) (hk : ∀ g, v.ownBlock = some g → w'.heap[g]? = w.heap[g]?) : ORow B w' v n L := ⟨h.1, ownsRow_keep h.2 hk⟩
theorem run_appO {ty : TypeId} {c2 : Nat} (h : ORow B w v n L) (hM : KAll M) (h2 : Kps w ok A2 M) (hm : M.length = m) (hle : n + m ≤ 1000) (hB : B ≤ w.heap.size) :
    ∃ v' w', (Builtin.append_ #[47, 47] ty #[v, .slice A2 m c2]).run Tryd.prog w = .ok v' w' ∧ ORow B w' v' (n + m) (L ++ M) ∧ w.grownBy w' v.ownBlock ∧ (v'.ownBlock = v.ownBlock ∨ v'.ownBlock = some w.heap.size) := by
  obtain ⟨hKL, hLn⟩ := h.1
  have hfin : KAll (L ++ M) ∧ (L ++ M).length = n + m := ⟨hKL.append hM, by rw [List.length_append, hLn, hm]⟩
  by_cases hm0 : m = 0
  · subst hm0
    obtain rfl : M = [] := List.eq_nil_of_length_eq_zero hm
    obtain ⟨A, c, hv, hnc, _⟩ := h.krow.shape
    refine ⟨v, w, ?_, ?_, World.grownBy.refl _ _, .inl rfl⟩
    · rw [hv]
      exact run_appK0 ty w A A2 n c c2 hnc
    · rw [List.append_nil]
      exact h
  · obtain ⟨i, hi, hz0, hz1, hz2⟩ := info_parts infoK
    have hzs : (Value.agg (kv (z32, 0, z32)).toArray).cells.size = 65 := by
      show (kv (z32, 0, z32)).toArray.size = 65
      rw [List.size_toArray]
      exact kv_length ⟨z32_length, by show 0 < 65536; omega, z32_length⟩
    obtain ⟨b, o, rfl, _, hc⟩ := h2.some_ (by omega) hM
    have hnews : ∀ j u, (kvs M)[j]? = some u → w.cell? ((⟨b, o, none⟩ : Addr).add j) = some u := fun j u hu => by rw [Addr.add_mid]; exact hc j u hu
    have hlen : (kvs M).length = m * 65 := by rw [kvs_length hM, hm]
    obtain ⟨v', w', hr, ho', hg, _, hat⟩ := run_append_own_at (P := Tryd.prog) w B 47 ty 49 i _ 65 66 Tryd.underlying47 hi hz0 hz1 hz2 hzs (by omega) v n (kvs L) h.2 ⟨b, o, none⟩ m c2 (kvs M) hlen hnews (kvs_one M) (by unfold maxLen; omega) (by omega) hB
    exact ⟨v', w', hr, ⟨hfin, by rw [kvs_append]; exact ho'⟩, hg, hat⟩
theorem wpList_appO {ops : Array Oper} {rest : List Oper} {o : Oper} {a : Act} {Q : Exit → Act → World → Prop} (hgd : o.guard = none) (s x : Operand) (ho : o.op = .call { callee := .builtin .append, args := #[s, x], argTypes := #[47, 47] })
    {c2 k : Nat} (hs : a.eval s = v) (hx : a.eval x = .slice A2 m c2) (h1 : ORow B w v n L) (hM : KAll M) (h2 : Kps w ok A2 M) (hm : M.length = m) (hk : n + m = k) (hle : k ≤ 1000) (hB : B ≤ w.heap.size)
    (h : ∀ A c w', Hid (ORow B w' (.slice A k c) k (L ++ M)) → Hid (w.grownBy w' v.ownBlock) → Hid ((Value.slice A k c).ownBlock = v.ownBlock ∨ (Value.slice A k c).ownBlock = some w.heap.size) → wpList Tryd.prog ops Q rest (a.put o.dst (.slice A k c)) w') : wpList Tryd.prog ops Q (o :: rest) a w := by
  refine wpList_plain hgd fun K hK => ?_
  subst hk
  obtain ⟨v', w', hr, q1, q2, q3⟩ := run_appO (ty := o.type) (c2 := c2) h1 hM h2 hm hle hB
  obtain ⟨A, c, rfl, _⟩ := q1.krow.shape
  unfold Oper.wp execOp
  simp only [ho, resolve, invoke, builtin, Sem.run_bind, Sem.run_pure, Result.andThen_ok, List.map_toArray, List.map_cons, List.map_nil, hs, hx, hr]
  exact hK _ _ (h A c w' q1 q2 q3)
end
theorem eraseIdx_step {L : List Kep} {k i : Nat} (hi : i < L.length) : (L.take (i + 1)).eraseIdx k = if i = k then (L.take i).eraseIdx k else (L.take i).eraseIdx k ++ [L[i]] := by
  rw [List.take_add_one, List.getElem?_eq_getElem hi]
  have hl : (L.take i).length = i := by rw [List.length_take]; omega
  simp only [Option.toList_some]
  rcases Nat.lt_trichotomy i k with h | h | h
  · rw [if_neg (by omega), List.eraseIdx_of_length_le (by rw [List.length_append, hl]; simp; omega), List.eraseIdx_of_length_le (by rw [hl]; omega)]
  · subst h
    rw [if_pos rfl, List.eraseIdx_append_of_length_le (by rw [hl]; exact Nat.le_refl _), hl, Nat.sub_self, List.eraseIdx_of_length_le (l := L.take i) (by rw [hl]; exact Nat.le_refl _)]
    simp
  · rw [if_neg (by omega), List.eraseIdx_append_of_lt_length (by rw [hl]; omega)]
set_option maxRecDepth 100000 in
set_option maxHeartbeats 4000000 in
theorem without_any {w : World} {ok : Nat → Prop} {A : Option Addr} {L : List Kep} {m c k : Nat} (hL : Kps w ok A L) (hK : KAll L) (hm : L.length = m) (hle : m ≤ 900) (hk : k ≤ 1000) :
    Calls Tryd.prog 20 #[.slice A m c, .int .i64 (k : Int)] w (LaidE w (L.eraseIdx k)) := by
  have HL := Lib.hid hL
  have HK := Lib.hid hK
  have HM := Lib.hid hm
  have HLE := Lib.hid hle
  clear hL hK hm
  go_enter Tryd.func20, Tryd.ntmps20
  go_wp2_with (fail)
  go_loopw [5, 6] (fun v u wr => ∃ (i lm : Nat), i ≤ m ∧ u = .int .i64 (i : Int) ∧ lm ≤ i ∧ ORow w.heap.size wr v lm ((L.take i).eraseIdx k) ∧ w.grownBy wr none) (fun _ u _ => m - (intOf u).toNat)
  case atStart => exact ⟨0, 0, Nat.zero_le _, rfl, Nat.le_refl _, by simpa using ORow.nil w.heap.size w, World.grownBy.refl _ _⟩
  case round =>
    obtain ⟨i, lm, hi, rfl, hlm, hrow, hg⟩ := hrel
    have HROW := Lib.hid hrow
    have HG := Lib.hid hg
    have HLM := Lib.hid hlm
    clear hrow hg hlm
    by_cases hlt : i < m
    · have hil : i < L.length := by rw [HM.out]; exact hlt
      have hst := eraseIdx_step (k := k) hil
      have HLT := Lib.hid hlt
      have d1 : (i : Int) < (m : Int) := by omega
      by_cases hik : i = k
      · rw [if_pos hik] at hst
        have HST := Lib.hid hst
        have d2 : ((i : Int) == (k : Int)) = true := by simp; omega
        have d3 : decide ((i : Int) = (k : Int)) = true := by simp; omega
        have hib : i < 900 := by omega
        clear hik hst
        go_wp2_with fail
        go_roundw
        case rel => have h1 := HLT.out; have h2 := HLE.out; exact ⟨i + 1, lm, h1, by go_num, by have := HLM.out; omega, by rw [HST.out]; exact HROW.out, HG.out⟩
        case measure => have h1 := HLT.out; simp [intOf]; omega
      · rw [if_neg hik] at hst
        obtain ⟨b, o, rfl, _, hrg⟩ := HL.out i hil
        obtain ⟨x, hx⟩ : ∃ x, x = L[i] := ⟨_, rfl⟩
        have hxk : KOk x := by rw [hx]; exact HK.out.at i hil
        rw [← hx] at hrg hst
        have HST := Lib.hid hst
        have HXK := Lib.hid hxk
        obtain ⟨z, hz⟩ : ∃ z, z = kv x := ⟨_, rfl⟩
        have HZ := Lib.hid hz
        have HRG : Hid (wr.rangeAt b (o + 65 * i) (kv x)) := range_keep hrg fun hlt => HG.out.block b hlt (by simp)
        have d2 : ((i : Int) == (k : Int)) = false := by simp; omega
        have d3 : decide ((i : Int) = (k : Int)) = false := by simp; omega
        have hib : i < 900 := by omega
        clear hik hst hx hxk hrg hz HL hlt
        go_wp2_with (first | (refine wpList_indexK rfl (.tmp 17) (.tmp 18) rfl b o m c i rfl rfl HLT.out ?_) | (refine wpList_loadR agK rfl (.tmp 19) rfl b (o + 65 * i) rfl (vs := z) (by rw [HZ.out]; exact HRG.out) (by rw [HZ.out]; exact kv_length HXK.out) ?_) | (refine wpList_sliceK rfl (.tmp 20) rfl HXK.out (by rw [← HZ.out]; rfl) ?_) | fail)
        intro gs w3 hgs hks hg3
        have R3 := Lib.hid (HROW.out.keep fun g hg => hg3.out.block g (HROW.out.2.lt g hg).2 (by simp))
        have HB : Hid (w.heap.size ≤ w3.heap.size) := Nat.le_trans HG.out.size hg3.out.size
        have L1 : Hid (lm + 1 ≤ 1000) := by have := HLM.out; have := HLE.out; have := HLT.out; show lm + 1 ≤ 1000; omega
        go_wp2_with (first | (at_builtin; refine wpList_appO rfl (.tmp 16) (.tmp 21) rfl (c2 := 1) (k := lm + 1) rfl rfl R3.out (KAll.one HXK.out) hks.out rfl rfl L1.out HB.out ?_) | fail)
        intro A5 c5 w5 r5 g5 e5
        have HG5 : Hid (w.grownBy w5 none) := World.grownBy.andThen (HG.out.trans hg3.out) g5.out (by
          intro g hg
          exact .inl (HROW.out.2.lt g hg).1)
        have HST2 : Hid (ORow w.heap.size w5 (.slice A5 (lm + 1) c5) (lm + 1) ((L.take (i + 1)).eraseIdx k)) := by rw [HST.out]; exact r5.out
        clear r5 g5 e5 hgs hks hg3
        go_wp2_with fail
        go_roundw
        case rel => have h1 := HLT.out; have h2 := HLE.out; exact ⟨i + 1, lm + 1, h1, by go_num, by have := HLM.out; omega, HST2.out, HG5.out⟩
        case measure => have := HLT.out; simp [intOf]; omega
    · have d1 : ¬ (i : Int) < (m : Int) := by omega
      have ht : L.take i = L := List.take_of_length_le (by rw [HM.out]; omega)
      have HT := Lib.hid ht
      clear ht
      go_wp2
      go_ret
      have hr := HROW.out
      rw [HT.out] at hr
      obtain ⟨A4, c4, e4, h1, h2, h3⟩ := hr.krow.kps
      exact ⟨A4, c4, by rw [hr.1.2]; exact congrArg Ending.returned e4, by rw [hr.1.2]; exact h1, h2, h3, HG.out⟩
/-- Two lists that are alike are told so. -/
def SameE (w : World) (e : Ending) (w' : World) : Prop := e = .returned (.bool true) ∧ w.grownBy w' none
set_option maxRecDepth 100000 in
set_option maxHeartbeats 4000000 in
theorem same_any {w : World} {ok ok2 : Nat → Prop} {A A2 : Option Addr} {L : List Kep} {m c c2 : Nat} (hL : Kps w ok A L) (hL2 : Kps w ok2 A2 L) (hK : KAll L) (hm : L.length = m) (hle : m ≤ 1000) :
    Calls Tryd.prog 18 #[.slice A m c, .slice A2 m c2] w (SameE w) := by
  have HL := Lib.hid hL
  have HL2 := Lib.hid hL2
  have HK := Lib.hid hK
  have HM := Lib.hid hm
  clear hL hL2 hK hm
  have d0 : ((m : Int) == (m : Int)) = true := by simp
  unfold SameE
  go_enter Tryd.func18, Tryd.ntmps18
  go_wp2_with (fail)
  go_loopw [5] (fun u wr => ∃ i : Nat, i ≤ m ∧ u = .int .i64 (i : Int) ∧ w.grownBy wr none) (fun u _ => m - (intOf u).toNat)
  case atStart => exact ⟨0, Nat.zero_le _, rfl, World.grownBy.refl _ _⟩
  case round =>
    obtain ⟨i, hi, rfl, hg⟩ := hrel
    have HG := Lib.hid hg
    clear hg
    by_cases hlt : i < m
    · have hil : i < L.length := by rw [HM.out]; exact hlt
      obtain ⟨b, o, rfl, _, hrg⟩ := HL.out i hil
      obtain ⟨b2, o2, rfl, _, hrg2⟩ := HL2.out i hil
      obtain ⟨x, hx⟩ : ∃ x, x = L[i] := ⟨_, rfl⟩
      have hxk : KOk x := by rw [hx]; exact HK.out.at i hil
      rw [← hx] at hrg hrg2
      have HXK := Lib.hid hxk
      have R1 : Hid (wr.rangeAt b (o + 65 * i) (kv x)) := range_keep hrg fun hlt => HG.out.block b hlt (by simp)
      have R2 : Hid (wr.rangeAt b2 (o2 + 65 * i) (kv x)) := range_keep hrg2 fun hlt => HG.out.block b2 hlt (by simp)
      have HLT := Lib.hid hlt
      have d1 : (i : Int) < (m : Int) := by omega
      clear hx hxk hrg hrg2 HL HL2 hlt
      go_wp2_with fail
      refine wp_region_held_drew (S := fun W => W.rangeAt b (o + 65 * i) (kv x) ∧ W.rangeAt b2 (o2 + 65 * i) (kv x)) (by kernel_rfl) ⟨R1.out, R2.out⟩ (fun hHeld => ?_)
      refine' wpAnyH_take (i := 0) (oi := { dst := some 17, op := Op.move (Operand.tmp 0), type := 47, pos := "ref.go:78", after := #[], guard := none }) (v := .slice (some ⟨b, o, none⟩) m c) rfl (by kernel_rfl) (by kernel_rfl) (by kernel_rfl) (fun _ _ _ h => h) (Or.inl ⟨by rfl, fun w' hSw => by go_simp⟩) (by assumption) ?qz1
      try simp only [Act.put, List.setIfInBounds_toArray, List.set_cons_zero, List.set_cons_succ]
      refine' wpAnyH_take (i := 1) (oi := { dst := some 18, op := Op.move (Operand.tmp 5), type := 3, pos := "ref.go:78", after := #[], guard := none }) (v := .int .i64 (i : Int)) rfl (by kernel_rfl) (by kernel_rfl) (by kernel_rfl) (fun _ _ _ h => h) (Or.inl ⟨by rfl, fun w' hSw => by go_simp⟩) (by assumption) ?qz2
      try simp only [Act.put, List.setIfInBounds_toArray, List.set_cons_zero, List.set_cons_succ]
      refine' wpAnyH_take (i := 2) (oi := { dst := some 19, op := Op.indexAddr 47 (Operand.tmp 17) (Operand.tmp 18), type := 0, pos := "ref.go:78", after := #[{ on := 0, ground := Ground.data }, { on := 1, ground := Ground.data }], guard := none }) (v := .pointer (some ⟨b, o + 65 * i, none⟩)) rfl (by kernel_rfl) (by kernel_rfl) (by kernel_rfl) (fun _ _ _ h => h) (yieldsIf_indexK (by rfl) (.tmp 17) (.tmp 18) rfl b o m c i rfl rfl HLT.out) (by assumption) ?qz3
      try simp only [Act.put, List.setIfInBounds_toArray, List.set_cons_zero, List.set_cons_succ]
      refine' wpAnyH_take (i := 3) (oi := { dst := some 20, op := Op.load 49 (Operand.tmp 19), type := 49, pos := "ref.go:78", after := #[{ on := 2, ground := Ground.data }], guard := none }) (v := .agg (kv x).toArray) rfl (by kernel_rfl) (by kernel_rfl) (by kernel_rfl) (fun _ _ _ h => h) (yieldsIf_loadR agK (by rfl) (.tmp 19) rfl b (o + 65 * i) rfl (kv_length HXK.out) (fun _ h => h.1)) (by assumption) ?qz4
      try simp only [Act.put, List.setIfInBounds_toArray, List.set_cons_zero, List.set_cons_succ]
      refine' wpAnyH_take (i := 4) (oi := { dst := some 21, op := Op.move (Operand.tmp 1), type := 47, pos := "ref.go:78", after := #[], guard := none }) (v := .slice (some ⟨b2, o2, none⟩) m c2) rfl (by kernel_rfl) (by kernel_rfl) (by kernel_rfl) (fun _ _ _ h => h) (Or.inl ⟨by rfl, fun w' hSw => by go_simp⟩) (by assumption) ?qz5
      try simp only [Act.put, List.setIfInBounds_toArray, List.set_cons_zero, List.set_cons_succ]
      refine' wpAnyH_take (i := 5) (oi := { dst := some 22, op := Op.move (Operand.tmp 5), type := 3, pos := "ref.go:78", after := #[], guard := none }) (v := .int .i64 (i : Int)) rfl (by kernel_rfl) (by kernel_rfl) (by kernel_rfl) (fun _ _ _ h => h) (Or.inl ⟨by rfl, fun w' hSw => by go_simp⟩) (by assumption) ?qz6
      try simp only [Act.put, List.setIfInBounds_toArray, List.set_cons_zero, List.set_cons_succ]
      refine' wpAnyH_take (i := 6) (oi := { dst := some 23, op := Op.indexAddr 47 (Operand.tmp 21) (Operand.tmp 22), type := 0, pos := "ref.go:78", after := #[{ on := 4, ground := Ground.data }, { on := 5, ground := Ground.data }], guard := none }) (v := .pointer (some ⟨b2, o2 + 65 * i, none⟩)) rfl (by kernel_rfl) (by kernel_rfl) (by kernel_rfl) (fun _ _ _ h => h) (yieldsIf_indexK (by rfl) (.tmp 21) (.tmp 22) rfl b2 o2 m c2 i rfl rfl HLT.out) (by assumption) ?qz7
      try simp only [Act.put, List.setIfInBounds_toArray, List.set_cons_zero, List.set_cons_succ]
      refine' wpAnyH_take (i := 7) (oi := { dst := some 24, op := Op.load 49 (Operand.tmp 23), type := 49, pos := "ref.go:78", after := #[{ on := 6, ground := Ground.data }], guard := none }) (v := .agg (kv x).toArray) rfl (by kernel_rfl) (by kernel_rfl) (by kernel_rfl) (fun _ _ _ h => h) (yieldsIf_loadR agK (by rfl) (.tmp 23) rfl b2 (o2 + 65 * i) rfl (kv_length HXK.out) (fun _ h => h.2)) (by assumption) ?qz8
      try simp only [Act.put, List.setIfInBounds_toArray, List.set_cons_zero, List.set_cons_succ]
      refine' wpAnyH_take (i := 8) (oi := { dst := some 25, op := Op.binOp BinOp.neq 49 (Operand.tmp 20) (Operand.tmp 24) 49, type := 4, pos := "ref.go:78", after := #[{ on := 3, ground := Ground.data }, { on := 7, ground := Ground.data }], guard := none }) (v := .bool false) rfl (by kernel_rfl) (by kernel_rfl) (by kernel_rfl) (fun _ _ _ h => h) (yieldsIf_neqs (eqsK HXK.out) (by rfl) (.tmp 20) (.tmp 24) rfl rfl rfl) (by assumption) ?qz9
      try simp only [Act.put, List.setIfInBounds_toArray, List.set_cons_zero, List.set_cons_succ]
      refine wpAnyH_done (by kernel_rfl) ?_ _
      go_wp2_with fail
      go_roundw
      case rel => have h1 := HLT.out; exact ⟨i + 1, h1, by go_num, HG.out.trans (grown_drew _)⟩
      case measure => have := HLT.out; simp [intOf]; omega
    · have d1 : ¬ (i : Int) < (m : Int) := by omega
      go_wp2
      go_ret
      exact ⟨rfl, HG.out⟩
end Go.Proofs.YtdnkeaokgkiloaaDoor
