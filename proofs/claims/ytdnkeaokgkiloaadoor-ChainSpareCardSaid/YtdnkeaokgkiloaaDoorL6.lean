/- ChainSpare's walk: two keys that are kept behind one list do not write over one another, nor over the list's spare room. Conditions: the tables of the hash lie where the program lays them. -/
import Derived.Test.YtdnkeaokgkiloaaDoorT2
namespace Go.Proofs.YtdnkeaokgkiloaaDoor
open Go.RowKit T
/-- Cells for kept keys, all of them zero. -/
def zsN (n : Nat) : List Value := (madeCells (Value.agg (kv (z32, 0, z32)).toArray).cells n).toList
theorem zsN_length (n : Nat) : (zsN n).length = n := by
  unfold zsN
  rw [Array.length_toList, size_madeCells]
theorem kvz_length : (kv (z32, 0, z32)).length = 65 := kv_length ⟨z32_length, by show 0 < 65536; omega, z32_length⟩
theorem zsN_at {n m j : Nat} (hm : 65 * m + j < n) (hj : j < 65) : (zsN n)[65 * m + j]? = (kv (z32, 0, z32))[j]? := by
  have hl := kvz_length
  unfold zsN madeCells
  generalize kv (z32, 0, z32) = z at *
  rw [Array.getElem?_toList, Array.getElem?_map, Array.getElem?_range, if_pos hm]
  simp only [Value.cells, List.size_toArray, hl, Option.map_some]
  rw [show (65 * m + j) % 65 = j by omega]
  have hj2 : j < z.length := by omega
  simp [hj2]
theorem grown_setCells (g : Nat) : ∀ (vs : List Value) (o : Nat) (w : World), w.grownBy (w.setCells g o vs) (some g)
  | [], _, w => World.grownBy.refl w _
  | v :: r, o, w => (C.grown_set w g o v).trans (grown_setCells g r (o + 1) _)
theorem run_mk40 (w : World) {n : Nat} (hn : n = 2600) : (Instr.makeSlice 47 (.int .i64 0) (.int .i64 40)).run Tryd.prog w = .ok (.slice (some ⟨w.heap.size, 0, none⟩) 0 40) (w.alloc (.cells (madeCells (Value.agg (kv (z32, 0, z32)).toArray).cells n) 49)) := by
  obtain ⟨i, hi, hz0, hz1, hz2⟩ := info_parts infoK
  have h := run_makeSlice (P := Tryd.prog) w 47 49 i _ Tryd.underlying47 hi hz0 .i64 .i64 0 40 (by omega) (by omega) (by rw [hz1]; decide) (by rw [hz2]; decide) (by omega)
  rw [hz1, show (40 : Int).toNat * 65 = n from hn.symm] at h
  exact h
section
variable {w : World} {ops : Array Oper} {rest : List Oper} {o : Oper} {a : Act} {Q : Exit → Act → World → Prop} {ok : Nat → Prop} {A2 : Option Addr} {L : List Kep} {m c2 g : Nat}
theorem wpList_mk40 {n : Nat} (hn : n = 2600) (hgd : o.guard = none) (ho : o.op = .makeSlice 47 (.const (.int .i64 0)) (.const (.int .i64 40)))
    (h : ∀ g w', Hid (g = w.heap.size) → Hid (C.Blk w' g 49 (zsN n)) → Hid (w.grownBy w' none) → wpList Tryd.prog ops Q rest (a.put o.dst (.slice (some ⟨g, 0, none⟩) 0 40)) w') : wpList Tryd.prog ops Q (o :: rest) a w := by
  refine wpList_plain hgd fun K hK => ?_
  have hrun := run_mk40 w hn
  have h0 : a.eval (.const (.int .i64 0)) = .int .i64 0 := rfl
  have h1 : a.eval (.const (.int .i64 40)) = .int .i64 40 := rfl
  have hb : C.Blk (w.alloc (.cells (madeCells (Value.agg (kv (z32, 0, z32)).toArray).cells n) 49)) w.heap.size 49 (zsN n) := C.Blk.of_alloc w _ 49
  generalize madeCells (Value.agg (kv (z32, 0, z32)).toArray).cells n = z at *
  unfold Oper.wp
  simp only [execOp, ho, h0, h1, Sem.run_bind, hrun, Result.andThen_ok, Sem.run_pure]
  exact hK _ _ (h _ _ rfl hb (World.grownBy_alloc w _ none))
theorem run_room {n : Nat} (hn : n = 2600) {ty : TypeId} (hb : C.Blk w g 49 (zsN n)) (hL : Kps w ok A2 L) (hK : KAll L) (hm : L.length = m) (hle : m ≤ 15) :
    ∃ w', (Builtin.append_ #[47, 47] ty #[.slice (some ⟨g, 0, none⟩) 0 40, .slice A2 m c2]).run Tryd.prog w = .ok (.slice (some ⟨g, 0, none⟩) m 40) w' ∧ Kps w' (fun b => b = g) (some ⟨g, 0, none⟩) L ∧ w'.rangeAt g (65 * m) (kv (z32, 0, z32)) ∧ w.grownBy w' (some g) := by
  have hz : ∀ j v, (kv (z32, 0, z32))[j]? = some v → w.cell? ⟨g, 65 * m + j, none⟩ = some v := fun j v hv => by
    have hj : j < 65 := by rw [← kvz_length]; exact (List.getElem?_eq_some_iff.1 hv).1
    exact hb.get _ v (by rw [zsN_at (by omega) hj]; exact hv)
  by_cases hm0 : m = 0
  · subst hm0
    obtain rfl : L = [] := List.eq_nil_of_length_eq_zero hm
    exact ⟨w, run_appK0 ty w _ A2 0 40 c2 (by omega), Kps.nil, hz, World.grownBy.refl w _⟩
  · obtain ⟨i, hi, hz0, hz1, hz2⟩ := info_parts infoK
    obtain ⟨b, o, rfl, _, hc⟩ := hL.some_ (by omega) hK
    have hnews : ∀ j u, (kvs L)[j]? = some u → w.cell? ((⟨b, o, none⟩ : Addr).add j) = some u := fun j u hu => by rw [Addr.add_mid]; exact hc j u hu
    have hlen : (kvs L).length = m * 65 := by rw [kvs_length hK, hm]
    have hsome : ∀ j, j < (kvs L).length → (w.cell? ⟨g, 0 + j, none⟩).isSome = true := fun j hj => by
      rw [Nat.zero_add, hb.cell j (by rw [zsN_length]; omega)]
      rfl
    have hr := run_append_room_cells (P := Tryd.prog) w 47 ty 49 i Tryd.underlying47 hi g 0 0 40 ⟨b, o, none⟩ m c2 (kvs L) (by rw [hz1]; exact hlen) hnews (kvs_one L) (by omega) (fun j hj => by rw [Nat.zero_mul]; exact hsome j hj) (fun j _ => hb.frozen _)
    rw [Nat.zero_mul, Nat.zero_add] at hr
    refine ⟨_, hr, fun k hk => ⟨g, 0, rfl, rfl, fun j v hv => ?_⟩, fun j v hv => ?_, grown_setCells g _ _ _⟩
    · have hj : j < 65 := by rw [← kv_length (hK.at k hk)]; exact (List.getElem?_eq_some_iff.1 hv).1
      rw [← kvs_at hK k hk j hj] at hv
      obtain ⟨hlt, he⟩ := List.getElem?_eq_some_iff.1 hv
      have h1 := World.cell?_setCells_in g (kvs L) 0 w hsome (65 * k + j) hlt
      rw [Nat.zero_add, he] at h1
      rw [show 0 + 65 * k + j = 65 * k + j by omega]
      exact h1
    · rw [World.cell?_setCells_out g (kvs L) 0 w _ (fun _ _ => .inr (by rw [hlen]; show 0 + m * 65 ≤ 65 * m + j; omega))]
      exact hz j v hv
theorem wpList_room {n : Nat} (hn : n = 2600) (hgd : o.guard = none) (s x : Operand) (ho : o.op = .call { callee := .builtin .append, args := #[s, x], argTypes := #[47, 47] })
    (hs : a.eval s = .slice (some ⟨g, 0, none⟩) 0 40) (hx : a.eval x = .slice A2 m c2) (hb : C.Blk w g 49 (zsN n)) (hL : Kps w ok A2 L) (hK : KAll L) (hm : L.length = m) (hle : m ≤ 15)
    (h : ∀ w', Hid (Kps w' (fun b => b = g) (some ⟨g, 0, none⟩) L) → Hid (w'.rangeAt g (65 * m) (kv (z32, 0, z32))) → Hid (w.grownBy w' (some g)) → wpList Tryd.prog ops Q rest (a.put o.dst (.slice (some ⟨g, 0, none⟩) m 40)) w') : wpList Tryd.prog ops Q (o :: rest) a w := by
  refine wpList_plain hgd fun K hK' => ?_
  obtain ⟨w', hr, q1, q2, q3⟩ := run_room hn (ty := o.type) (c2 := c2) hb hL hK hm hle
  unfold Oper.wp execOp
  simp only [ho, resolve, invoke, builtin, Sem.run_bind, Sem.run_pure, Result.andThen_ok, List.map_toArray, List.map_cons, List.map_nil, hs, hx, hr]
  exact hK' _ _ (h w' q1 q2 q3)
end
theorem keep_let {w : World} {ok : Nat → Prop} {A : Option Addr} {L LK : List Kep} {n c lk : Nat} {x : Kep} {E : Int} (hL : Kps w ok A L) (hK : KAll L) (hn : L.length = n) (hle : n ≤ 900) (hx : KOk x) (h1 : keepE L x = E) (h2 : keepL L x = LK) (h3 : LK.length = lk) :
    Calls Tryd.prog 16 #[.slice A n c, .agg (kv x).toArray] w fun e w' => ∃ A' c', e = .returned (.tuple #[.slice A' lk c', .int .i64 E]) ∧ Kps w' (fun b => w.heap.size ≤ b ∧ b < w'.heap.size) A' LK ∧ w.grownBy w' none := by
  subst h1 h2 h3
  exact (keep_any (c := c) hL hK hn hle hx).mono fun e w' ⟨A', c', he, _, _, h5, h6⟩ => ⟨A', c', he, h5, h6⟩
theorem keep_is {L : List Kep} {x : Kep} (hl : L.length ≤ 15) : (keepE L x = 3 ∧ keepL L x = []) ∧ 0 ≤ plc L x.1 x.2.1 ∨ (keepE L x = 0 ∧ keepL L x = L ++ [x]) ∧ ¬ 0 ≤ plc L x.1 x.2.1 := by
  by_cases h : 0 ≤ plc L x.1 x.2.1
  · have he : keepE L x = 3 := by unfold keepE; rw [if_pos h]
    exact .inl ⟨⟨he, by unfold keepL; rw [he]; rfl⟩, h⟩
  · have he : keepE L x = 0 := by unfold keepE; rw [if_neg h, if_neg (by omega)]
    exact .inr ⟨⟨he, by unfold keepL; rw [he]; rfl⟩, h⟩
theorem kps_last {w : World} {ok : Nat → Prop} {A : Option Addr} {L : List Kep} {x : Kep} {m : Nat} (h : Kps w ok A (L ++ [x])) (hm : L.length = m) : ∃ b o, A = some ⟨b, o, none⟩ ∧ w.rangeAt b (o + 65 * m) (kv x) := by
  subst hm
  obtain ⟨b, o, e, _, hr⟩ := h L.length (by simp)
  exact ⟨b, o, e, by simpa using hr⟩
set_option maxRecDepth 100000 in
set_option maxHeartbeats 16000000 in
theorem spare_walk {w : World} (hT : S.Tab w) {okL0 : Nat → Prop} {r s : List UInt8} {m c : Nat} {A : Option Addr} {L : List Kep} (hr : r.length = 32) (hs : s.length = 32) (hL : Kps w okL0 A L) (hK : KAll L) (hm : L.length = m) :
    Calls Tryd.prog 8 #[.slice A m c, .agg (u8s r).toArray, .agg (u8s s).toArray] w fun e w' => e = .returned (.bool true) ∧ w.grownBy w' none := by
  obtain ⟨z, hz⟩ : ∃ z, z = u8s r := ⟨_, rfl⟩
  obtain ⟨y, hy⟩ : ∃ y, y = u8s s := ⟨_, rfl⟩
  have HT := Lib.hid hT
  have HR := Lib.hid hr
  have HS := Lib.hid hs
  have HL := Lib.hid hL
  have HK := Lib.hid hK
  have HM := Lib.hid hm
  have HZ := Lib.hid hz
  have HY := Lib.hid hy
  obtain ⟨n40, hn40⟩ : ∃ n, n = 2600 := ⟨_, rfl⟩
  have H40 := Lib.hid hn40
  clear hn40
  obtain ⟨n1, hn1⟩ : ∃ n, n = 60000 := ⟨_, rfl⟩
  obtain ⟨n2, hn2⟩ : ∃ n, n = 60001 := ⟨_, rfl⟩
  have C1 : Hid (Value.int .u16 60000 = .int .u16 (n1 : Int)) := by show _ = _; rw [hn1]; rfl
  have C2 : Hid (Value.int .u16 60001 = .int .u16 (n2 : Int)) := by show _ = _; rw [hn2]; rfl
  have X1 : Hid (KOk (r, n1, r)) := ⟨hr, by show n1 < 65536; omega, hr⟩
  have X2 : Hid (KOk (s, n2, s)) := ⟨hs, by show n2 < 65536; omega, hs⟩
  clear hn1 hn2
  rw [← hz, ← hy]
  clear hT hr hs hL hK hm hz hy
  go_enter Tryd.func8, Tryd.ntmps8
  go_wp2_with (first | (refine wpList_boxG rfl _ rfl (vs := z) rfl ?_) | fail)
  intro g4 w1 e4 k4 q4
  go_wp2_with (first | (refine wpList_boxG rfl _ rfl (vs := y) rfl ?_) | fail)
  intro g5 w2 e5 k5 q5
  have G2 := Lib.hid (q4.out.trans q5.out)
  have B4a : Hid (C.Blk w2 g4 22 (u8s r)) := by have hh := k4.out.grown q5.out (by simp); rw [HZ.out] at hh; exact hh
  have B5a : Hid (C.Blk w2 g5 22 (u8s s)) := by have hh := k5.out; rw [HY.out] at hh; exact hh
  have T2 := Lib.hid (HT.out.grown G2.out (by simp) (by simp))
  have MA := Lib.hid (alive_any T2.out)
  clear e4 k4 q4 e5 k5 q5
  by_cases h15 : 15 < m
  · have d1 : (15 : Int) < (m : Int) := by omega
    clear h15
    go_wp2_with (first | (go_at_call 9; refine MA.out.mono ?_; rintro _ w3 ⟨rfl, hg3⟩; have G3 := Lib.hid hg3; clear hg3) | fail)
    go_ret
    exact ⟨rfl, G2.out.trans G3.out⟩
  · have d1 : ¬ (15 : Int) < (m : Int) := by omega
    have M15 : m ≤ 15 := by omega
    clear h15
    go_wp2_with (first | (go_at_call 9; refine MA.out.mono ?_; rintro _ w3 ⟨rfl, hg3⟩; have G3 := Lib.hid hg3; clear hg3) | (refine wpList_mk40 H40.out rfl rfl ?_) | fail)
    intro g7 w4 e7 k7 q7
    have L4 := Lib.hid (HL.out.grown ((G2.out.trans G3.out).trans q7.out))
    go_wp2_with (first | (at_builtin; refine wpList_room H40.out rfl (.tmp 19) (.tmp 20) rfl (c2 := c) rfl rfl k7.out L4.out HK.out HM.out M15 ?_) | fail)
    intro w5 k7b z7 q7b
    have N7 : Hid (w3.heap.size ≤ g7) := Nat.le_of_eq e7.out.symm
    have G5 : Hid (w3.grownBy w5 none) := World.grownBy.andThen q7.out q7b.out (by rintro _ ⟨⟩; exact .inl N7.out)
    have G5a := Lib.hid ((G2.out.trans G3.out).trans G5.out)
    have B4 := Lib.hid (B4a.out.grown (G3.out.trans G5.out) (by simp))
    have B5 := Lib.hid (B5a.out.grown (G3.out.trans G5.out) (by simp))
    have K7 := Lib.hid k7b.out
    have Z7 := Lib.hid z7.out
    have N7b : Hid (g7 < w5.heap.size) := Nat.lt_of_lt_of_le k7.out.lt q7b.out.size
    clear e7 k7 q7 k7b z7 q7b L4 MA
    go_wp2_with (first | (refine wpList_loadG agA rfl (.tmp 4) rfl g4 rfl B4.out (by rw [u8s_length, HR.out]) ?_) | (refine wpList_buildK rfl (.tmp 22) (.const (.int .u16 60000)) (.tmp 23) rfl n1 HR.out HR.out rfl C1.out rfl ?_) | (refine wpList_allocG zeK rfl rfl ?_) | fail)
    intro g8 w6 e8 k8 q8
    go_wp2_with (first | (refine wpList_storeG agK rfl _ _ rfl g8 (vs := kv (r, n1, r)) rfl rfl k8.out kvz_length (kv_length X1.out) (kv_one _) ?_) | fail)
    intro w7 k8b q8b y8
    have N8 : Hid (w5.heap.size ≤ g8) := Nat.le_of_eq e8.out.symm
    have G7 : Hid (w5.grownBy w7 none) := World.grownBy.andThen q8.out q8b.out (by rintro _ ⟨⟩; exact .inl N8.out)
    have B8 := Lib.hid k8b.out
    have B5b := Lib.hid (B5.out.grown G7.out (by simp))
    clear e8 k8 q8 k8b q8b y8
    go_wp2_with (first | (refine wpList_loadG agA rfl (.tmp 5) rfl g5 rfl B5b.out (by rw [u8s_length, HS.out]) ?_) | (refine wpList_buildK rfl (.tmp 25) (.const (.int .u16 60001)) (.tmp 26) rfl n2 HS.out HS.out rfl C2.out rfl ?_) | (refine wpList_allocG zeK rfl rfl ?_) | fail)
    intro g9 w8 e9 k9 q9
    go_wp2_with (first | (refine wpList_storeG agK rfl _ _ rfl g9 (vs := kv (s, n2, s)) rfl rfl k9.out kvz_length (kv_length X2.out) (kv_one _) ?_) | fail)
    intro w9 k9b q9b y9
    have N9 : Hid (w7.heap.size ≤ g9) := Nat.le_of_eq e9.out.symm
    have G9 : Hid (w7.grownBy w9 none) := World.grownBy.andThen q9.out q9b.out (by rintro _ ⟨⟩; exact .inl N9.out)
    have B9 := Lib.hid k9b.out
    have B8b := Lib.hid (B8.out.grown G9.out (by simp))
    have GG := Lib.hid (G7.out.trans G9.out)
    have B4c := Lib.hid (B4.out.grown GG.out (by simp))
    have B5c := Lib.hid (B5.out.grown GG.out (by simp))
    have K7c := Lib.hid (K7.out.grown GG.out)
    have Z7c : Hid (w9.rangeAt g7 (0 + 65 * m) (kv (z32, 0, z32))) := range_keep (by rw [Nat.zero_add]; exact Z7.out) fun h => GG.out.block g7 h (by simp)
    have L9 := Lib.hid (HL.out.grown (G5a.out.trans GG.out))
    have GW := Lib.hid (G5a.out.trans GG.out)
    clear e9 k9 q9 k9b q9b y9 B4 B5 B5b K7 Z7 B8 B4a B5a T2
    have KI1 := keep_is (L := L) (x := (r, n1, r)) (by have := HM.out; omega)
    have KI2 := keep_is (L := L) (x := (s, n2, s)) (by have := HM.out; omega)
    obtain ⟨p1, hp1⟩ : ∃ p, p = plc L r n1 := ⟨_, rfl⟩
    obtain ⟨p2, hp2⟩ : ∃ p, p = plc L s n2 := ⟨_, rfl⟩
    dsimp only at KI1 KI2
    rw [← hp1] at KI1
    rw [← hp2] at KI2
    have HP1 := Lib.hid hp1; have HP2 := Lib.hid hp2
    clear hp1 hp2
    have MP1 : Hid (∀ wx, w9.grownBy wx none → Calls Tryd.prog 17 #[.slice A m c, .agg (u8s r).toArray, .int .u16 60000] wx fun e w' => e = .returned (.int .i64 p1) ∧ wx.grownBy w' none) := by
      intro wx hgx
      have h := at_any (c := c) (n := n1) (L9.out.grown hgx) HK.out HM.out (by omega) HR.out
      rw [← HP1.out, ← C1.out] at h
      exact h
    have MP2 : Hid (∀ wx, w9.grownBy wx none → Calls Tryd.prog 17 #[.slice A m c, .agg (u8s s).toArray, .int .u16 60001] wx fun e w' => e = .returned (.int .i64 p2) ∧ wx.grownBy w' none) := by
      intro wx hgx
      have h := at_any (c := c) (n := n2) (L9.out.grown hgx) HK.out HM.out (by omega) HS.out
      rw [← HP2.out, ← C2.out] at h
      exact h
    rcases KI1 with ⟨⟨he1, hl1⟩, hp1⟩ | ⟨⟨he1, hl1⟩, hp1⟩
    · have HE1 := Lib.hid he1; have HL1 := Lib.hid hl1; clear he1 hl1 KI2
      obtain ⟨E2, hE2⟩ : ∃ e, keepE L (s, n2, s) = e := ⟨_, rfl⟩
      obtain ⟨LK2, hLK2⟩ : ∃ e, keepL L (s, n2, s) = e := ⟨_, rfl⟩
      obtain ⟨l2, hl2⟩ : ∃ e, LK2.length = e := ⟨_, rfl⟩
      have HE2 := Lib.hid hE2; have HL2 := Lib.hid hLK2; have HLL2 := Lib.hid hl2
      clear hE2 hLK2 hl2
      have M16 := Lib.hid (keep_let (c := 40) K7c.out HK.out HM.out (by omega) X1.out HE1.out HL1.out rfl)
      go_wp2_with (first | (refine wpList_loadG agK rfl (.tmp 8) rfl g8 rfl B8b.out (kv_length X1.out) ?_) | (go_at_call 16; refine M16.out.mono ?_; rintro _ wa ⟨A10, c10, rfl, h3, h4⟩; have KA := Lib.hid h3; have GA := Lib.hid h4; clear h3 h4 M16; have M16b := Lib.hid (keep_let (c := 40) (K7c.out.grown GA.out) HK.out HM.out (by omega) X2.out HE2.out HL2.out HLL2.out); have B9a := Lib.hid (B9.out.grown GA.out (by simp))) | (refine wpList_loadG agK rfl (.tmp 9) rfl g9 rfl B9a.out (kv_length X2.out) ?_) | (go_at_call 16; refine M16b.out.mono ?_; rintro _ wb ⟨A12, c12, rfl, h3, h4⟩; have KB := Lib.hid h3; have GB2 := Lib.hid h4; have GB := Lib.hid (GA.out.trans h4); clear h3 h4 M16b; have B4d := Lib.hid (B4c.out.grown GB.out (by simp)); have M17 := Lib.hid (MP1.out _ GB.out)) | (refine wpList_loadG agA rfl (.tmp 4) rfl g4 rfl B4d.out (by rw [u8s_length, HR.out]) ?_) | (go_at_call 17; refine M17.out.mono ?_; rintro _ wc ⟨rfl, h4⟩; have GC := Lib.hid h4; clear h4 M17; have B5d := Lib.hid (B5c.out.grown (GB.out.trans GC.out) (by simp)); have M17b := Lib.hid (MP2.out _ (GB.out.trans GC.out))) | (refine wpList_loadGw agA (by rfl) (.tmp 5) rfl g5 rfl B5d.out (by rw [u8s_length, HS.out]) ?_) | (go_at_call 17; refine M17b.out.mono ?_; rintro _ wd ⟨rfl, h4⟩; have GD := Lib.hid h4; clear h4 M17b) | fail)
      go_ret
      exact ⟨rfl, (GW.out.trans GB.out).trans GC.out⟩
    · obtain rfl : p1 = -1 := by have h1 := plc_lt L r n1; have h2 := HP1.out; omega
      clear hp1
      rcases KI2 with ⟨⟨he2, hl2⟩, hp2⟩ | ⟨⟨he2, hl2⟩, hp2⟩
      · have HE1 := Lib.hid he1; have HL1 := Lib.hid hl1; have HE2 := Lib.hid he2; have HL2 := Lib.hid hl2; have HLL2 : Hid (([] : List Kep).length = 0) := rfl; clear he1 hl1 he2 hl2
        have HLL1 : Hid ((L ++ [(r, n1, r)]).length = m + 1) := by have := HM.out; show _ = _; rw [List.length_append, this]; rfl
        have M16 := Lib.hid (keep_let (c := 40) K7c.out HK.out HM.out (by omega) X1.out HE1.out HL1.out HLL1.out)
        go_wp2_with (first | (refine wpList_loadG agK rfl (.tmp 8) rfl g8 rfl B8b.out (kv_length X1.out) ?_) | (go_at_call 16; refine M16.out.mono ?_; rintro _ wa ⟨A10, c10, rfl, h3, h4⟩; have KA := Lib.hid h3; have GA := Lib.hid h4; clear h3 h4 M16; have M16b := Lib.hid (keep_let (c := 40) (K7c.out.grown GA.out) HK.out HM.out (by omega) X2.out HE2.out HL2.out HLL2.out); have B9a := Lib.hid (B9.out.grown GA.out (by simp))) | (refine wpList_loadG agK rfl (.tmp 9) rfl g9 rfl B9a.out (kv_length X2.out) ?_) | (go_at_call 16; refine M16b.out.mono ?_; rintro _ wb ⟨A12, c12, rfl, h3, h4⟩; have KB := Lib.hid h3; have GB2 := Lib.hid h4; have GB := Lib.hid (GA.out.trans h4); clear h3 h4 M16b; have B4d := Lib.hid (B4c.out.grown GB.out (by simp)); have M17 := Lib.hid (MP1.out _ GB.out)) | (refine wpList_loadG agA rfl (.tmp 4) rfl g4 rfl B4d.out (by rw [u8s_length, HR.out]) ?_) | (go_at_call 17; refine M17.out.mono ?_; rintro _ wc ⟨rfl, h4⟩; have GC := Lib.hid h4; clear h4 M17; have B5d := Lib.hid (B5c.out.grown (GB.out.trans GC.out) (by simp)); have M17b := Lib.hid (MP2.out _ (GB.out.trans GC.out))) | (refine wpList_loadGw agA (by rfl) (.tmp 5) rfl g5 rfl B5d.out (by rw [u8s_length, HS.out]) ?_) | (go_at_call 17; refine M17b.out.mono ?_; rintro _ wd ⟨rfl, h4⟩; have GD := Lib.hid h4; clear h4 M17b) | fail)
        go_ret
        exact ⟨rfl, ((GW.out.trans GB.out).trans GC.out).trans GD.out⟩
      · have HE1 := Lib.hid he1; have HL1 := Lib.hid hl1; have HE2 := Lib.hid he2; have HL2 := Lib.hid hl2; clear he1 hl1 he2 hl2
        have HLL1 : Hid ((L ++ [(r, n1, r)]).length = m + 1) := by have := HM.out; show _ = _; rw [List.length_append, this]; rfl
        have HLL2 : Hid ((L ++ [(s, n2, s)]).length = m + 1) := by have := HM.out; show _ = _; rw [List.length_append, this]; rfl
        have M16 := Lib.hid (keep_let (c := 40) K7c.out HK.out HM.out (by omega) X1.out HE1.out HL1.out HLL1.out)
        go_wp2_with (first | (refine wpList_loadG agK rfl (.tmp 8) rfl g8 rfl B8b.out (kv_length X1.out) ?_) | (go_at_call 16; refine M16.out.mono ?_; rintro _ wa ⟨A10, c10, rfl, h3, h4⟩; have KA := Lib.hid h3; have GA := Lib.hid h4; clear h3 h4 M16; have M16b := Lib.hid (keep_let (c := 40) (K7c.out.grown GA.out) HK.out HM.out (by omega) X2.out HE2.out HL2.out HLL2.out); have B9a := Lib.hid (B9.out.grown GA.out (by simp))) | (refine wpList_loadG agK rfl (.tmp 9) rfl g9 rfl B9a.out (kv_length X2.out) ?_) | (go_at_call 16; refine M16b.out.mono ?_; rintro _ wb ⟨A12, c12, rfl, h3, h4⟩; have KB := Lib.hid h3; have GB2 := Lib.hid h4; have GB := Lib.hid (GA.out.trans h4); clear h3 h4 M16b; have B4d := Lib.hid (B4c.out.grown GB.out (by simp)); have M17 := Lib.hid (MP1.out _ GB.out)) | (refine wpList_loadG agA rfl (.tmp 4) rfl g4 rfl B4d.out (by rw [u8s_length, HR.out]) ?_) | (go_at_call 17; refine M17.out.mono ?_; rintro _ wc ⟨rfl, h4⟩; have GC := Lib.hid h4; clear h4 M17; have B5d := Lib.hid (B5c.out.grown (GB.out.trans GC.out) (by simp)); have M17b := Lib.hid (MP2.out _ (GB.out.trans GC.out))) | (refine wpList_loadGw agA (by rfl) (.tmp 5) rfl g5 rfl B5d.out (by rw [u8s_length, HS.out]) ?_) | (go_at_call 17; refine M17b.out.mono ?_; rintro _ wd ⟨rfl, h4⟩; have GD := Lib.hid h4; clear h4 M17b) | fail)
        obtain ⟨b1, o1, rfl, hr1⟩ := kps_last (KA.out.grown GB2.out) HM.out
        obtain ⟨b2, o2, rfl, hr2⟩ := kps_last KB.out HM.out
        have R8 := Lib.hid (range_of (B8b.out.grown GB.out (by simp)))
        have R9 := Lib.hid (range_of (B9.out.grown GB.out (by simp)))
        have RA := Lib.hid hr1
        have RB := Lib.hid hr2
        have RZ : Hid (wb.rangeAt g7 (0 + 65 * m) (kv (z32, 0, z32))) := range_keep Z7c.out fun h => GB.out.block g7 h (by simp)
        have HWR : Hid (IntKind.i64.wrap ((m : Int) + 1) = (m : Int) + 1) := by show _ = _; rw [IntKind.wrap_i64]; omega
        clear hr1 hr2
        refine wp_region_held_drew (S := fun W => W.rangeAt g8 0 (kv (r, n1, r)) ∧ W.rangeAt g9 0 (kv (s, n2, s)) ∧ W.rangeAt b1 (o1 + 65 * m) (kv (r, n1, r)) ∧ W.rangeAt b2 (o2 + 65 * m) (kv (s, n2, s)) ∧ W.rangeAt g7 (0 + 65 * m) (kv (z32, 0, z32))) (by kernel_rfl) ⟨R8.out, R9.out, RA.out, RB.out, RZ.out⟩ (fun hHeld => ?_)
        refine' wpAnyH_take (i := 0) (oi := { dst := some 56, op := Op.move (Operand.tmp 10), type := 47, pos := "outright.go:25", after := #[], guard := none }) (v := .slice (some ⟨b1, o1, none⟩) (m + 1) c10) rfl (by kernel_rfl) (by kernel_rfl) (by kernel_rfl) (fun _ _ _ h => h) (Or.inl ⟨by rfl, fun w' hSw => by go_simp⟩) (by assumption) ?qz1
        try simp only [Act.put, List.setIfInBounds_toArray, List.set_cons_zero, List.set_cons_succ]
        refine' wpAnyH_take (i := 1) (oi := { dst := some 57, op := Op.move (Operand.tmp 0), type := 47, pos := "outright.go:25", after := #[], guard := none }) (v := .slice A m c) rfl (by kernel_rfl) (by kernel_rfl) (by kernel_rfl) (fun _ _ _ h => h) (Or.inl ⟨by rfl, fun w' hSw => by go_simp⟩) (by assumption) ?qz2
        try simp only [Act.put, List.setIfInBounds_toArray, List.set_cons_zero, List.set_cons_succ]
        refine' wpAnyH_take (i := 2) (oi := { dst := some 58, op := Op.call { callee := Callee.builtin Builtin.len, args := #[Operand.tmp 57], argTypes := #[47] }, type := 3, pos := "outright.go:25", after := #[{ on := 1, ground := Ground.data }], guard := none }) (v := .int .i64 (m : Int)) rfl (by kernel_rfl) (by kernel_rfl) (by kernel_rfl) (fun _ _ _ h => h) (Or.inl ⟨by rfl, fun w' hSw => by go_simp⟩) (by assumption) ?qz3
        try simp only [Act.put, List.setIfInBounds_toArray, List.set_cons_zero, List.set_cons_succ]
        refine' wpAnyH_take (i := 3) (oi := { dst := some 59, op := Op.indexAddr 47 (Operand.tmp 56) (Operand.tmp 58), type := 0, pos := "outright.go:25", after := #[{ on := 0, ground := Ground.data }, { on := 2, ground := Ground.data }], guard := none }) (v := .pointer (some ⟨b1, o1 + 65 * m, none⟩)) rfl (by kernel_rfl) (by kernel_rfl) (by kernel_rfl) (fun _ _ _ h => h) (yieldsIf_indexK (by rfl) (.tmp 56) (.tmp 58) rfl b1 o1 (m + 1) c10 m rfl rfl (Nat.lt_succ_self m)) (by assumption) ?qz4
        try simp only [Act.put, List.setIfInBounds_toArray, List.set_cons_zero, List.set_cons_succ]
        refine' wpAnyH_take (i := 4) (oi := { dst := some 60, op := Op.load 49 (Operand.tmp 59), type := 49, pos := "outright.go:25", after := #[{ on := 3, ground := Ground.data }], guard := none }) (v := .agg (kv (r, n1, r)).toArray) rfl (by kernel_rfl) (by kernel_rfl) (by kernel_rfl) (fun _ _ _ h => h) (yieldsIf_loadR agK (by rfl) (.tmp 59) rfl b1 (o1 + 65 * m) rfl (kv_length X1.out) (fun _ h => h.2.2.1)) (by assumption) ?qz5
        try simp only [Act.put, List.setIfInBounds_toArray, List.set_cons_zero, List.set_cons_succ]
        refine' wpAnyH_take (i := 5) (oi := { dst := some 61, op := Op.load 49 (Operand.tmp 8), type := 49, pos := "outright.go:25", after := #[], guard := none }) (v := .agg (kv (r, n1, r)).toArray) rfl (by kernel_rfl) (by kernel_rfl) (by kernel_rfl) (fun _ _ _ h => h) (yieldsIf_loadR agK (by rfl) (.tmp 8) rfl g8 0 rfl (kv_length X1.out) (fun _ h => h.1)) (by assumption) ?qz6
        try simp only [Act.put, List.setIfInBounds_toArray, List.set_cons_zero, List.set_cons_succ]
        refine' wpAnyH_take (i := 6) (oi := { dst := some 62, op := Op.binOp BinOp.eql 49 (Operand.tmp 60) (Operand.tmp 61) 49, type := 4, pos := "outright.go:25", after := #[{ on := 4, ground := Ground.data }, { on := 5, ground := Ground.data }], guard := none }) (v := .bool true) rfl (by kernel_rfl) (by kernel_rfl) (by kernel_rfl) (fun _ _ _ h => h) (yieldsIf_eqs (eqsK X1.out) (by rfl) (.tmp 60) (.tmp 61) rfl rfl rfl) (by assumption) ?qz7
        try simp only [Act.put, List.setIfInBounds_toArray, List.set_cons_zero, List.set_cons_succ]
        refine' wpAnyH_take (i := 7) (oi := { dst := some 63, op := Op.move (Operand.tmp 62), type := 4, pos := "outright.go:25", after := #[{ on := 6, ground := Ground.data }], guard := none }) (v := .bool true) rfl (by kernel_rfl) (by kernel_rfl) (by kernel_rfl) (fun _ _ _ h => h) (Or.inl ⟨by rfl, fun w' hSw => by go_simp⟩) (by assumption) ?qz8
        try simp only [Act.put, List.setIfInBounds_toArray, List.set_cons_zero, List.set_cons_succ]
        refine' wpAnyH_take (i := 8) (oi := { dst := some 64, op := Op.move (Operand.tmp 12), type := 47, pos := "outright.go:25", after := #[{ on := 7, ground := Ground.guard }], guard := some (7, true) }) (v := .slice (some ⟨b2, o2, none⟩) (m + 1) c12) rfl (by kernel_rfl) (by kernel_rfl) (by kernel_rfl) (fun _ _ _ h => h) (Or.inl ⟨by rfl, fun w' hSw => by go_simp⟩) (by assumption) ?qz9
        try simp only [Act.put, List.setIfInBounds_toArray, List.set_cons_zero, List.set_cons_succ]
        refine' wpAnyH_take (i := 9) (oi := { dst := some 65, op := Op.move (Operand.tmp 0), type := 47, pos := "outright.go:25", after := #[{ on := 7, ground := Ground.guard }], guard := some (7, true) }) (v := .slice A m c) rfl (by kernel_rfl) (by kernel_rfl) (by kernel_rfl) (fun _ _ _ h => h) (Or.inl ⟨by rfl, fun w' hSw => by go_simp⟩) (by assumption) ?qz10
        try simp only [Act.put, List.setIfInBounds_toArray, List.set_cons_zero, List.set_cons_succ]
        refine' wpAnyH_take (i := 10) (oi := { dst := some 66, op := Op.call { callee := Callee.builtin Builtin.len, args := #[Operand.tmp 65], argTypes := #[47] }, type := 3, pos := "outright.go:25", after := #[{ on := 9, ground := Ground.data }, { on := 7, ground := Ground.guard }], guard := some (7, true) }) (v := .int .i64 (m : Int)) rfl (by kernel_rfl) (by kernel_rfl) (by kernel_rfl) (fun _ _ _ h => h) (Or.inl ⟨by rfl, fun w' hSw => by go_simp⟩) (by assumption) ?qz11
        try simp only [Act.put, List.setIfInBounds_toArray, List.set_cons_zero, List.set_cons_succ]
        refine' wpAnyH_take (i := 11) (oi := { dst := some 67, op := Op.indexAddr 47 (Operand.tmp 64) (Operand.tmp 66), type := 0, pos := "outright.go:25", after := #[{ on := 8, ground := Ground.data }, { on := 10, ground := Ground.data }, { on := 7, ground := Ground.guard }], guard := some (7, true) }) (v := .pointer (some ⟨b2, o2 + 65 * m, none⟩)) rfl (by kernel_rfl) (by kernel_rfl) (by kernel_rfl) (fun _ _ _ h => h) (yieldsIf_indexK (by rfl) (.tmp 64) (.tmp 66) rfl b2 o2 (m + 1) c12 m rfl rfl (Nat.lt_succ_self m)) (by assumption) ?qz12
        try simp only [Act.put, List.setIfInBounds_toArray, List.set_cons_zero, List.set_cons_succ]
        refine' wpAnyH_take (i := 12) (oi := { dst := some 68, op := Op.load 49 (Operand.tmp 67), type := 49, pos := "outright.go:25", after := #[{ on := 11, ground := Ground.data }, { on := 7, ground := Ground.guard }], guard := some (7, true) }) (v := .agg (kv (s, n2, s)).toArray) rfl (by kernel_rfl) (by kernel_rfl) (by kernel_rfl) (fun _ _ _ h => h) (yieldsIf_loadR agK (by rfl) (.tmp 67) rfl b2 (o2 + 65 * m) rfl (kv_length X2.out) (fun _ h => h.2.2.2.1)) (by assumption) ?qz13
        try simp only [Act.put, List.setIfInBounds_toArray, List.set_cons_zero, List.set_cons_succ]
        refine' wpAnyH_take (i := 13) (oi := { dst := some 69, op := Op.load 49 (Operand.tmp 9), type := 49, pos := "outright.go:25", after := #[{ on := 7, ground := Ground.guard }], guard := some (7, true) }) (v := .agg (kv (s, n2, s)).toArray) rfl (by kernel_rfl) (by kernel_rfl) (by kernel_rfl) (fun _ _ _ h => h) (yieldsIf_loadR agK (by rfl) (.tmp 9) rfl g9 0 rfl (kv_length X2.out) (fun _ h => h.2.1)) (by assumption) ?qz14
        try simp only [Act.put, List.setIfInBounds_toArray, List.set_cons_zero, List.set_cons_succ]
        refine' wpAnyH_take (i := 14) (oi := { dst := some 70, op := Op.binOp BinOp.eql 49 (Operand.tmp 68) (Operand.tmp 69) 49, type := 4, pos := "outright.go:25", after := #[{ on := 12, ground := Ground.data }, { on := 13, ground := Ground.data }, { on := 7, ground := Ground.guard }], guard := some (7, true) }) (v := .bool true) rfl (by kernel_rfl) (by kernel_rfl) (by kernel_rfl) (fun _ _ _ h => h) (yieldsIf_eqs (eqsK X2.out) (by rfl) (.tmp 68) (.tmp 69) rfl rfl rfl) (by assumption) ?qz15
        try simp only [Act.put, List.setIfInBounds_toArray, List.set_cons_zero, List.set_cons_succ]
        refine' wpAnyH_take (i := 15) (oi := { dst := some 71, op := Op.pick (Operand.tmp 63) (Operand.tmp 70) (Operand.const (Value.bool false)), type := 4, pos := "outright.go:25", after := #[{ on := 7, ground := Ground.data }, { on := 14, ground := Ground.data }], guard := none }) (v := .bool true) rfl (by kernel_rfl) (by kernel_rfl) (by kernel_rfl) (fun _ _ _ h => h) (Or.inl ⟨by rfl, fun w' hSw => by go_simp⟩) (by assumption) ?qz16
        try simp only [Act.put, List.setIfInBounds_toArray, List.set_cons_zero, List.set_cons_succ]
        refine' wpAnyH_take (i := 16) (oi := { dst := some 72, op := Op.move (Operand.tmp 71), type := 4, pos := "outright.go:25", after := #[{ on := 15, ground := Ground.data }, { on := 7, ground := Ground.chain }], guard := none }) (v := .bool true) rfl (by kernel_rfl) (by kernel_rfl) (by kernel_rfl) (fun _ _ _ h => h) (Or.inl ⟨by rfl, fun w' hSw => by go_simp⟩) (by assumption) ?qz17
        try simp only [Act.put, List.setIfInBounds_toArray, List.set_cons_zero, List.set_cons_succ]
        refine' wpAnyH_take (i := 17) (oi := { dst := some 73, op := Op.move (Operand.tmp 7), type := 47, pos := "outright.go:25", after := #[{ on := 16, ground := Ground.guard }], guard := some (16, true) }) (v := .slice (some ⟨g7, 0, none⟩) m 40) rfl (by kernel_rfl) (by kernel_rfl) (by kernel_rfl) (fun _ _ _ h => h) (Or.inl ⟨by rfl, fun w' hSw => by go_simp⟩) (by assumption) ?qz18
        try simp only [Act.put, List.setIfInBounds_toArray, List.set_cons_zero, List.set_cons_succ]
        refine' wpAnyH_take (i := 18) (oi := { dst := some 74, op := Op.move (Operand.tmp 0), type := 47, pos := "outright.go:25", after := #[{ on := 16, ground := Ground.guard }], guard := some (16, true) }) (v := .slice A m c) rfl (by kernel_rfl) (by kernel_rfl) (by kernel_rfl) (fun _ _ _ h => h) (Or.inl ⟨by rfl, fun w' hSw => by go_simp⟩) (by assumption) ?qz19
        try simp only [Act.put, List.setIfInBounds_toArray, List.set_cons_zero, List.set_cons_succ]
        refine' wpAnyH_take (i := 19) (oi := { dst := some 75, op := Op.call { callee := Callee.builtin Builtin.len, args := #[Operand.tmp 74], argTypes := #[47] }, type := 3, pos := "outright.go:25", after := #[{ on := 18, ground := Ground.data }, { on := 16, ground := Ground.guard }], guard := some (16, true) }) (v := .int .i64 (m : Int)) rfl (by kernel_rfl) (by kernel_rfl) (by kernel_rfl) (fun _ _ _ h => h) (Or.inl ⟨by rfl, fun w' hSw => by go_simp⟩) (by assumption) ?qz20
        try simp only [Act.put, List.setIfInBounds_toArray, List.set_cons_zero, List.set_cons_succ]
        refine' wpAnyH_take (i := 20) (oi := { dst := some 76, op := Op.binOp BinOp.add 3 (Operand.tmp 75) (Operand.const (Value.int IntKind.i64 1)) 3, type := 3, pos := "outright.go:25", after := #[{ on := 19, ground := Ground.data }, { on := 16, ground := Ground.guard }], guard := some (16, true) }) (v := .int .i64 ((m + 1 : Nat) : Int)) rfl (by kernel_rfl) (by kernel_rfl) (by kernel_rfl) (fun _ _ _ h => h) (Or.inl ⟨by rfl, fun w' hSw => by go_simp; rw [HWR.out]⟩) (by assumption) ?qz21
        try simp only [Act.put, List.setIfInBounds_toArray, List.set_cons_zero, List.set_cons_succ]
        refine' wpAnyH_take (i := 21) (oi := { dst := some 77, op := Op.slice 47 (Operand.tmp 73) none (some (Operand.tmp 76)) none, type := 47, pos := "outright.go:25", after := #[{ on := 17, ground := Ground.data }, { on := 20, ground := Ground.data }, { on := 16, ground := Ground.guard }], guard := some (16, true) }) (v := .slice (some ⟨g7, 0, none⟩) (m + 1) 40) rfl (by kernel_rfl) (by kernel_rfl) (by kernel_rfl) (fun _ _ _ h => h) (yieldsIf_sliceTo (by rfl) (.tmp 73) (.tmp 76) rfl g7 0 m 40 (m + 1) rfl rfl (by omega) (by omega)) (by assumption) ?qz22
        try simp only [Act.put, List.setIfInBounds_toArray, List.set_cons_zero, List.set_cons_succ]
        refine' wpAnyH_take (i := 22) (oi := { dst := some 78, op := Op.move (Operand.tmp 0), type := 47, pos := "outright.go:25", after := #[{ on := 16, ground := Ground.guard }], guard := some (16, true) }) (v := .slice A m c) rfl (by kernel_rfl) (by kernel_rfl) (by kernel_rfl) (fun _ _ _ h => h) (Or.inl ⟨by rfl, fun w' hSw => by go_simp⟩) (by assumption) ?qz23
        try simp only [Act.put, List.setIfInBounds_toArray, List.set_cons_zero, List.set_cons_succ]
        refine' wpAnyH_take (i := 23) (oi := { dst := some 79, op := Op.call { callee := Callee.builtin Builtin.len, args := #[Operand.tmp 78], argTypes := #[47] }, type := 3, pos := "outright.go:25", after := #[{ on := 22, ground := Ground.data }, { on := 16, ground := Ground.guard }], guard := some (16, true) }) (v := .int .i64 (m : Int)) rfl (by kernel_rfl) (by kernel_rfl) (by kernel_rfl) (fun _ _ _ h => h) (Or.inl ⟨by rfl, fun w' hSw => by go_simp⟩) (by assumption) ?qz24
        try simp only [Act.put, List.setIfInBounds_toArray, List.set_cons_zero, List.set_cons_succ]
        refine' wpAnyH_take (i := 24) (oi := { dst := some 80, op := Op.indexAddr 47 (Operand.tmp 77) (Operand.tmp 79), type := 0, pos := "outright.go:25", after := #[{ on := 21, ground := Ground.data }, { on := 23, ground := Ground.data }, { on := 16, ground := Ground.guard }], guard := some (16, true) }) (v := .pointer (some ⟨g7, 0 + 65 * m, none⟩)) rfl (by kernel_rfl) (by kernel_rfl) (by kernel_rfl) (fun _ _ _ h => h) (yieldsIf_indexK (by rfl) (.tmp 77) (.tmp 79) rfl g7 0 (m + 1) 40 m rfl rfl (Nat.lt_succ_self m)) (by assumption) ?qz25
        try simp only [Act.put, List.setIfInBounds_toArray, List.set_cons_zero, List.set_cons_succ]
        refine' wpAnyH_take (i := 25) (oi := { dst := some 81, op := Op.load 49 (Operand.tmp 80), type := 49, pos := "outright.go:25", after := #[{ on := 24, ground := Ground.data }, { on := 16, ground := Ground.guard }], guard := some (16, true) }) (v := .agg (kv (z32, 0, z32)).toArray) rfl (by kernel_rfl) (by kernel_rfl) (by kernel_rfl) (fun _ _ _ h => h) (yieldsIf_loadR agK (by rfl) (.tmp 80) rfl g7 (0 + 65 * m) rfl kvz_length (fun _ h => h.2.2.2.2)) (by assumption) ?qz26
        try simp only [Act.put, List.setIfInBounds_toArray, List.set_cons_zero, List.set_cons_succ]
        refine' wpAnyH_take (i := 26) (oi := { dst := some 82, op := Op.build 49 #[], type := 49, pos := "outright.go:25", after := #[{ on := 16, ground := Ground.guard }], guard := some (16, true) }) (v := .agg (kv (z32, 0, z32)).toArray) rfl (by kernel_rfl) (by kernel_rfl) (by kernel_rfl) (fun _ _ _ h => h) (yieldsIf_zeroG zeK (by rfl) rfl) (by assumption) ?qz27
        try simp only [Act.put, List.setIfInBounds_toArray, List.set_cons_zero, List.set_cons_succ]
        refine' wpAnyH_take (i := 27) (oi := { dst := some 83, op := Op.binOp BinOp.eql 49 (Operand.tmp 81) (Operand.tmp 82) 49, type := 4, pos := "outright.go:25", after := #[{ on := 25, ground := Ground.data }, { on := 26, ground := Ground.data }, { on := 16, ground := Ground.guard }], guard := some (16, true) }) (v := .bool true) rfl (by kernel_rfl) (by kernel_rfl) (by kernel_rfl) (fun _ _ _ h => h) (yieldsIf_eqs (eqsK ⟨z32_length, by show 0 < 65536; omega, z32_length⟩) (by rfl) (.tmp 81) (.tmp 82) rfl rfl rfl) (by assumption) ?qz28
        try simp only [Act.put, List.setIfInBounds_toArray, List.set_cons_zero, List.set_cons_succ]
        refine' wpAnyH_take (i := 28) (oi := { dst := some 84, op := Op.pick (Operand.tmp 72) (Operand.tmp 83) (Operand.const (Value.bool false)), type := 4, pos := "outright.go:25", after := #[{ on := 16, ground := Ground.data }, { on := 27, ground := Ground.data }], guard := none }) (v := .bool true) rfl (by kernel_rfl) (by kernel_rfl) (by kernel_rfl) (fun _ _ _ h => h) (Or.inl ⟨by rfl, fun w' hSw => by go_simp⟩) (by assumption) ?qz29
        try simp only [Act.put, List.setIfInBounds_toArray, List.set_cons_zero, List.set_cons_succ]
        refine' wpAnyH_take (i := 29) (oi := { dst := some 6, op := Op.assign (Operand.tmp 84), type := 4, pos := "outright.go:25", after := #[{ on := 28, ground := Ground.data }, { on := 16, ground := Ground.chain }, { on := 0, ground := Ground.phase }, { on := 1, ground := Ground.phase }, { on := 2, ground := Ground.phase }, { on := 3, ground := Ground.phase }, { on := 4, ground := Ground.phase }, { on := 5, ground := Ground.phase }, { on := 6, ground := Ground.phase }, { on := 7, ground := Ground.phase }, { on := 8, ground := Ground.phase }, { on := 9, ground := Ground.phase }, { on := 10, ground := Ground.phase }, { on := 11, ground := Ground.phase }, { on := 12, ground := Ground.phase }, { on := 13, ground := Ground.phase }, { on := 14, ground := Ground.phase }, { on := 15, ground := Ground.phase }, { on := 16, ground := Ground.phase }, { on := 17, ground := Ground.phase }, { on := 18, ground := Ground.phase }, { on := 19, ground := Ground.phase }, { on := 20, ground := Ground.phase }, { on := 21, ground := Ground.phase }, { on := 22, ground := Ground.phase }, { on := 23, ground := Ground.phase }, { on := 24, ground := Ground.phase }, { on := 25, ground := Ground.phase }, { on := 26, ground := Ground.phase }, { on := 27, ground := Ground.phase }, { on := 28, ground := Ground.phase }], guard := none }) (v := .bool true) rfl (by kernel_rfl) (by kernel_rfl) (by kernel_rfl) (fun _ _ _ h => h) (Or.inl ⟨by rfl, fun w' hSw => by go_simp⟩) (by assumption) ?qz30
        try simp only [Act.put, List.setIfInBounds_toArray, List.set_cons_zero, List.set_cons_succ]
        refine wpAnyH_done (by kernel_rfl) ?_ _
        go_wp2
        go_ret
        exact ⟨rfl, (GW.out.trans GB.out).trans (grown_drew wb)⟩
end Go.Proofs.YtdnkeaokgkiloaaDoor
