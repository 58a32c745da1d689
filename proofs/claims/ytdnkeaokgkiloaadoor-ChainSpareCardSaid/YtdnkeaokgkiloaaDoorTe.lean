/- read tells a term's kind and parts, in new memory. Conditions: the number is a term's. Of tells the term of a name, in new memory; of another key nothing. Conditions: none. Make tells the name of a term, and makes it, if there is none yet. Conditions: none. Make of a term that is there tells its name. Conditions: none. -/
import Derived.Test.YtdnkeaokgkiloaaDoorTd
namespace Go.Proofs.YtdnkeaokgkiloaaDoor.T
open Go.RowKit
open Go.RowKit
open Go.RowKit
/-- The number of a term, and the table behind: 0, if it isn't made. -/
def mk (T : List Trm) (kind : Int) (ps : List (List UInt8)) : Nat × List Trm :=
  if Fit ps ∧ 1 ≤ kind ∧ kind ≤ 8 then
    if (kind.toNat, ps) ∈ T then (T.idxOf (kind.toNat, ps) + 1, T)
    else if 65535 ≤ T.length then (0, T) else (T.length + 1, T ++ [(kind.toNat, ps)])
  else (0, T)
/-- A number's name; the zero key for 0. -/
def nm0 (n : Nat) : List UInt8 := if n = 0 then z32 else nm n
/-- What Make tells. -/
def MakeE (w : World) (ok : Nat → Prop) (tb : Nat) (p : Nat × List Trm) (e : Ending) (w' : World) : Prop :=
  e = .returned (.tuple #[.agg (u8s (nm0 p.1)).toArray, .bool (decide (0 < p.1))]) ∧ Tbl w' (More ok w w') tb p.2 ∧ Md ok w w'
theorem makeE_no {w w' : World} {ok : Nat → Prop} {tb : Nat} {p : Nat × List Trm} {T : List Trm} (hp : p = (0, T)) (h : Tbl w ok tb T) (hb : Below w.heap.size w w') : MakeE w ok tb p (.returned (.tuple #[.agg (u8s z32).toArray, .bool false])) w' := by
  subst hp
  exact ⟨rfl, (h.below hb).imp fun _ _ ho => .inl ho, Md.of_below hb⟩
theorem makeE_yes {w w' : World} {ok : Nat → Prop} {tb n : Nat} {p : Nat × List Trm} {T : List Trm} (hp : p = (n, T)) (hn : 0 < n) (h : Tbl w' (More ok w w') tb T) (hb : Md ok w w') : MakeE w ok tb p (.returned (.tuple #[.agg (u8s (nm n)).toArray, .bool true])) w' := by
  subst hp
  refine ⟨?_, h, hb⟩
  unfold nm0
  rw [if_neg (by show ¬ n = 0; omega)]
  simp only [hn, decide_true]
set_option maxRecDepth 100000 in
set_option maxHeartbeats 1000000 in
theorem make_no {w : World} {ok ok' : Nat → Prop} {tb : Nat} {T : List Trm} {kind : Int} {A : Option Addr} {ps : List (List UInt8)} {c : Nat} (h : Tbl w ok tb T) (hx : Lst w ok' A ps) (hok : ∀ b, ok' b → b < w.heap.size) (hm : ps.length ≤ maxLen) (hbad : ¬ (Fit ps ∧ 1 ≤ kind ∧ kind ≤ 8)) :
    Calls Tryd.prog 40 #[.pointer (some ⟨tb, 0, none⟩), .int .i64 kind, .slice A ps.length c] w (MakeE w ok tb (mk T kind ps)) := by
  have hmk : mk T kind ps = (0, T) := by unfold mk; rw [if_neg hbad]
  have HM := Lib.hid hmk
  clear hmk
  by_cases hf : Fit ps
  · have hk : kind < 1 ∨ (1 ≤ kind ∧ 8 < kind) := by
      rcases Int.lt_or_le kind 1 with hk | hk
      · exact .inl hk
      · refine .inr ⟨hk, ?_⟩
        rcases Int.lt_or_le 8 kind with h8 | h8
        · exact h8
        · exact absurd ⟨hf, hk, h8⟩ hbad
    have HF := Lib.hid hf
    clear hbad hf
    go_enter Tryd.func40, Tryd.ntmps40
    go_wp2_with (refine wpList_alloc32 i49 rfl rfl ?_)
    intro w1 hk1 hb1 hz1
    have K1 := Lib.hid hk1
    have Z1 := Lib.hid hz1
    clear hk1 hz1
    have hx1 := hx.below hb1 hok
    go_wp2_with fail
    go_at_call 41
    refine (join_yes hx1 (fun b hb => Nat.lt_of_lt_of_le (hok b hb) hb1.size) HF.out).mono ?_
    rintro e w2 ⟨A2, c2, rfl, h21, h22, h23, h24⟩
    have hb2 : Below w.heap.size w w2 := hb1.trans (h24.mono hb1.size)
    have K2 : Hid (Arr w2 24 w.heap.size z32) := (h24.block _ (Arr.lt K1.out)).trans K1.out
    clear K1 h23
    rcases hk with hk | ⟨hk1, hk2⟩
    · have d1 : decide (kind < 1) = true := by simpa using hk
      go_wp2_with (first | (refine wpList_build32 i49 rfl rfl ?_) | (refine wpList_store32 i49 rfl _ _ rfl w.heap.size z32 z32 rfl rfl K2.out z32_length z32_length w.heap.size (Nat.le_refl _) ?_))
      intro w3 hk3 hb3 ho3 hz3
      have K3 := Lib.hid hk3
      have hb3' := hb2.trans hb3
      clear hk3 hz3 ho3
      go_wp2
      refine bodyPost_ret (results_two i49 rfl _ _ w.heap.size z32 rfl K3.out z32_length) rfl ?_
      exact makeE_no HM.out h hb3'
    · have d1 : decide (kind < 1) = false := by simp; omega
      have d2 : decide (8 < kind) = true := by simpa using hk2
      go_wp2_with (first | (refine wpList_build32 i49 rfl rfl ?_) | (refine wpList_store32 i49 rfl _ _ rfl w.heap.size z32 z32 rfl rfl K2.out z32_length z32_length w.heap.size (Nat.le_refl _) ?_))
      intro w3 hk3 hb3 ho3 hz3
      have K3 := Lib.hid hk3
      have hb3' := hb2.trans hb3
      clear hk3 hz3 ho3
      go_wp2
      refine bodyPost_ret (results_two i49 rfl _ _ w.heap.size z32 rfl K3.out z32_length) rfl ?_
      exact makeE_no HM.out h hb3'
  · have HF := Lib.hid hf
    clear hbad hf
    go_enter Tryd.func40, Tryd.ntmps40
    go_wp2_with (refine wpList_alloc32 i49 rfl rfl ?_)
    intro w1 hk1 hb1 hz1
    have K1 := Lib.hid hk1
    have Z1 := Lib.hid hz1
    clear hk1 hz1
    have hx1 := hx.below hb1 hok
    go_wp2_with fail
    go_at_call 41
    refine (join_no hx1 hm HF.out).mono ?_
    rintro e w2 ⟨he, rfl⟩
    obtain rfl : e = .returned (.tuple #[.slice none 0 0, .bool false]) := he
    go_wp2_with (first | (refine wpList_build32 i49 rfl rfl ?_) | (refine wpList_store32 i49 rfl _ _ rfl w.heap.size z32 z32 rfl rfl K1.out z32_length z32_length w.heap.size (Nat.le_refl _) ?_))
    intro w3 hk3 hb3 ho3 hz3
    have K3 := Lib.hid hk3
    have hb3' := hb1.trans hb3
    clear hk3 hz3 ho3
    go_wp2
    refine bodyPost_ret (results_two i49 rfl _ _ w.heap.size z32 rfl K3.out z32_length) rfl ?_
    exact makeE_no HM.out h hb3'
open Go.RowKit
theorem txt_lit (w : World) (k : Nat) (hk : k ≤ 8) : (w.alloc (.cells #[.int .u8 (k : Int)] 5)).ownsRow w.heap.size 5 1 (.slice (some ⟨w.heap.size, 0, none⟩) 1 1) 1 (u8s [UInt8.ofNat k]) := by
  have h := World.ownsRow_lit (base := w.heap.size) (e := 5) (size := 1) w #[.int .u8 (k : Int)] 1 (Nat.le_refl _) (by unfold maxLen; omega) rfl
  have e : (#[Value.int .u8 (k : Int)]).toList = u8s [UInt8.ofNat k] := by
    simp [u8s]
    omega
  rw [e] at h
  exact h
theorem zeroE (w : World) : (zeroValue 3).run Tryd.prog w = .ok (.int .i64 0) w := by kernel_rfl
theorem mk_old {T : List Trm} {k : Nat} {ps : List (List UInt8)} (hg : Good (k, ps)) (hm : (k, ps) ∈ T) : mk T k ps = (T.idxOf (k, ps) + 1, T) := by
  obtain ⟨h1, h2, h3⟩ := hg
  simp only at h1 h2 h3
  unfold mk
  rw [if_pos ⟨h3, by omega, by omega⟩]
  show (if (k, ps) ∈ T then _ else _) = _
  rw [if_pos hm]
  rfl
theorem mk_full {T : List Trm} {k : Nat} {ps : List (List UInt8)} (hg : Good (k, ps)) (hm : (k, ps) ∉ T) (hl : 65535 ≤ T.length) : mk T k ps = (0, T) := by
  obtain ⟨h1, h2, h3⟩ := hg
  simp only at h1 h2 h3
  unfold mk
  rw [if_pos ⟨h3, by omega, by omega⟩]
  show (if (k, ps) ∈ T then _ else _) = _
  rw [if_neg hm, if_pos hl]
theorem mk_new {T : List Trm} {k : Nat} {ps : List (List UInt8)} (hg : Good (k, ps)) (hm : (k, ps) ∉ T) (hl : T.length < 65535) : mk T k ps = (T.length + 1, T ++ [(k, ps)]) := by
  obtain ⟨h1, h2, h3⟩ := hg
  simp only at h1 h2 h3
  unfold mk
  rw [if_pos ⟨h3, by omega, by omega⟩]
  show (if (k, ps) ∈ T then _ else _) = _
  rw [if_neg hm, if_neg (by omega)]
  rfl
theorem numL_inj {c : Int} {n : Nat} (h : numL n = .lit (.int .i64 c)) : c = n := by
  unfold numL at h
  injection h with h
  injection h with _ h
  exact h.symm
set_option maxRecDepth 100000 in
set_option maxHeartbeats 1000000 in
theorem make_old {w : World} {ok ok' : Nat → Prop} {tb : Nat} {T : List Trm} {k : Nat} {A : Option Addr} {ps : List (List UInt8)} {c : Nat} (h : Tbl w ok tb T) (hx : Lst w ok' A ps) (hok : ∀ b, ok' b → b < w.heap.size) (hg : Good (k, ps)) (hin : (k, ps) ∈ T) :
    Calls Tryd.prog 40 #[.pointer (some ⟨tb, 0, none⟩), .int .i64 k, .slice A ps.length c] w (MakeE w ok tb (mk T k ps)) := by
  have HM := Lib.hid (mk_old hg hin)
  have HT := Lib.hid h
  have hmax := h.max
  have hidx := List.idxOf_lt_length_of_mem hin
  obtain ⟨v, mb, D, t1, t2, t3, t4, t5, t6, t7, t8, t9, t10, t11⟩ := h
  have hhas := t7.has _ hg
  have hat0 := t7.at_ _ hin (numL 0)
  rw [decide_eq_true hin] at hhas
  obtain ⟨i, hi⟩ : ∃ i, T.idxOf (k, ps) = i := ⟨_, rfl⟩
  rw [hi] at HM hat0 hidx
  have hk8 : k ≤ 8 := hg.2.1
  have hk1 : 1 ≤ k := hg.1
  have HF := Lib.hid hg.2.2
  have HG := Lib.hid hg
  have cw : IntKind.u8.wrap (k : Int) = (k : Int) := IntWalk.u8_in _ (by omega)
  have q1 : decide ((k : Int) < 1) = false := by simp; omega
  have q2 : decide (8 < (k : Int)) = false := by simp; omega
  obtain ⟨i0, hi0, hz0, hz1, hz2⟩ := info_parts Tryd.info5
  have T1 := Lib.hid t1
  have T6 := Lib.hid t6
  have HI := Lib.hid hin
  clear hi t1 t2 t3 t4 t5 t6 t7 t8 t9 t10 t11 hin
  go_enter Tryd.func40, Tryd.ntmps40
  go_wp2_with (refine wpList_alloc32 i49 rfl rfl ?_)
  intro w1 hk1' hb1 hz1'
  have K1 := Lib.hid hk1'
  clear hk1' hz1'
  have hx1 := hx.below hb1 hok
  go_wp2_with fail
  go_at_call 41
  refine (join_yes hx1 (fun b hb => Nat.lt_of_lt_of_le (hok b hb) hb1.size) HF.out).mono ?_
  rintro e w2 ⟨A2, c2, rfl, h21, h22, h23, h24⟩
  have hb2 : Below w.heap.size w w2 := hb1.trans (h24.mono hb1.size)
  have hb2a : Below w.heap.size w (w2.alloc (.cells #[.int .u8 (k : Int)] 5)) := hb2.alloc hb2.size _
  have K2 : Hid (Arr w2 24 w.heap.size z32) := (h24.block _ (Arr.lt K1.out)).trans K1.out
  have hjl := jn_length ps HF.out
  have hx2 := h23.below ((Below.refl w2.heap.size w2).alloc (Nat.le_refl _) (.cells #[.int .u8 (k : Int)] 5)) (fun b hb => hb.2)
  go_wp2_with (at_builtin; refine wpList_append_byt _ rfl _ _ 66 rfl w2.heap.size i0 (.int .u8 0) Tryd.underlying66 hi0 hz0 hz1 hz2 rfl _ 1 [UInt8.ofNat k] rfl (txt_lit w2 k hk8) _ A2 _ (jn ps) rfl hx2 ?c1 ?c2 ?_)
  case c1 => omega
  case c2 => simp
  intro v3 w3 hown3 hgrow3 hat3
  have hb3 : Below w.heap.size w w3 := hb2a.grown hgrow3 hb2a.size fun g hg => by simp [Value.ownBlock] at hg; have := hb2.size; omega
  have K3 : Hid (Arr w3 24 w.heap.size z32) := by
    have h1 : (w2.alloc (.cells #[.int .u8 (k : Int)] 5)).heap[w.heap.size]? = w2.heap[w.heap.size]? := Below.heap_alloc _ _ _ (Arr.lt K2.out)
    have h2 := hgrow3.block w.heap.size (by rw [alloc_size]; have := Arr.lt K2.out; omega) (by simp [Value.ownBlock]; have := Arr.lt K2.out; omega)
    exact (h2.trans h1).trans K2.out
  have hown3' : w3.ownsRow w2.heap.size 5 1 v3 (1 + (jn ps).length) (u8s (txt (k, ps))) := hown3
  obtain ⟨A3, c3, rfl, hn3, h31, h32, h33⟩ := own_form hown3'
  obtain ⟨s, hs⟩ : ∃ s : ByteArray, (⟨(txt (k, ps)).toArray⟩ : ByteArray) = s := ⟨_, rfl⟩
  have r3 := h33.str c3
  have hsd : s.data.toList = txt (k, ps) := by rw [← hs]
  have hsz : s.size ≤ maxLen := by
    have := txt_length HG.out
    have e : s.size = (txt (k, ps)).length := by rw [← hs]; rfl
    rw [e]; unfold maxLen; omega
  rw [hs] at r3
  have hkey := WideMaps.keyOf_string_mk (P := Tryd.prog) Tryd.underlying9 hsz
  have hh : Maps.has D (.string s.data.toList) = true := by rw [hsd]; exact hhas
  have hmap : Hid (w3.ownsMap Tryd.prog 9 (plainElem Tryd.prog 3) mb T.length D) := ownsMap_keep T6.out (hb3.block _ T6.out.lt)
  have hcell : w3.cell? ⟨tb, 1, none⟩ = some (.map (some mb)) := by
    rw [cell_of_block ((hb3.block _ HT.out.lt).trans T1.out)]; rfl
  have HKY := Lib.hid hkey
  have HSD := Lib.hid hsd
  clear hown3 hown3' hgrow3 hat3 K2 K1 hx1 hx2 hb2a hs hkey hsd hjl hhas h33 h23
  go_wp2_with (first | (at_lookup; refine wpList_lookup_own_ok_int _ rfl _ _ 90 rfl 9 3 .i64 (Maps.string_keyed Tryd.underlying9) Tryd.underlying90 Tryd.underlying3 (zeroE _) mb T.length D rfl hmap.out _ _ rfl HKY.out ?_) | fail)
  intro c9 hat9 _
  obtain rfl : c9 = ((i + 1 : Nat) : Int) := numL_inj (by
    rw [HSD.out] at hat9
    exact hat0.symm.trans hat9)
  clear hat9 hat0
  go_wp2_with fail
  go_at_call 47
  refine (name_any (i + 1) _ (by omega)).mono ?_
  rintro e w4 ⟨rfl, hb4⟩
  have hb4' : Below w.heap.size w w4 := hb3.trans (hb4.mono hb3.size)
  have K4 : Hid (Arr w4 24 w.heap.size z32) := (hb4.block _ (Arr.lt K3.out)).trans K3.out
  go_wp2_with (first | (refine wpList_store32 i49 rfl _ _ rfl w.heap.size z32 (nm (i + 1)) rfl rfl K4.out z32_length (nm_length _) w.heap.size (Nat.le_refl _) ?_))
  intro w5 hk5 hb5 ho5 hz5
  have K5 := Lib.hid hk5
  have hb5' := hb4'.trans hb5
  clear hk5 hz5 ho5
  go_wp2
  refine bodyPost_ret (results_two i49 rfl _ _ w.heap.size (nm (i + 1)) rfl K5.out (nm_length _)) rfl ?_
  exact makeE_yes HM.out (by omega) ((HT.out.below hb5').imp fun _ _ h => .inl h) (Md.of_below hb5')
end Go.Proofs.YtdnkeaokgkiloaaDoor.T
