/- Make of a term that isn't there makes it, unless the table is full. Conditions: none. -/
import Derived.Test.YtdnkeaokgkiloaaDoorTe
import Derived.Deep.AppendLies
namespace Go.Proofs.YtdnkeaokgkiloaaDoor.T
open Go.RowKit
theorem len_cell {w : World} {tb : Nat} {A : Option Addr} {n c : Nat} (hc : w.cell? ⟨tb, 0, none⟩ = some (.slice A n c)) : Calls Tryd.prog 48 #[.pointer (some ⟨tb, 0, none⟩)] w (Num w n) := by
  go_enter Tryd.func48, Tryd.ntmps48
  go_wp2
  go_ret
  exact num_mk rfl
theorem Tryd.info9 : (Tryd.prog.info? 9).map (fun i => (i.zero, i.size, i.bytes)) = some (some (.string ⟨#[]⟩), 1, 16) := by kernel_rfl
set_option maxRecDepth 100000 in
set_option maxHeartbeats 1000000 in
theorem make_full {w : World} {ok ok' : Nat → Prop} {tb : Nat} {T : List Trm} {k : Nat} {A : Option Addr} {ps : List (List UInt8)} {c : Nat} (h : Tbl w ok tb T) (hx : Lst w ok' A ps) (hok : ∀ b, ok' b → b < w.heap.size) (hg : Good (k, ps)) (hin : (k, ps) ∉ T) (hl : 65535 ≤ T.length) :
    Calls Tryd.prog 40 #[.pointer (some ⟨tb, 0, none⟩), .int .i64 k, .slice A ps.length c] w (MakeE w ok tb (mk T k ps)) := by
  have HM := Lib.hid (mk_full hg hin hl)
  have HT := Lib.hid h
  have hmax := h.max
  obtain ⟨v, mb, D, t1, t2, t3, t4, t5, t6, t7, t8, t9, t10, t11⟩ := h
  have hhas := t7.has _ hg
  rw [decide_eq_false hin] at hhas
  have hk8 : k ≤ 8 := hg.2.1
  have hk1 : 1 ≤ k := hg.1
  have HF := Lib.hid hg.2.2
  have HG := Lib.hid hg
  have cw : IntKind.u8.wrap (k : Int) = (k : Int) := IntWalk.u8_in _ (by omega)
  have q1 : decide ((k : Int) < 1) = false := by simp; omega
  have q2 : decide (8 < (k : Int)) = false := by simp; omega
  obtain ⟨i0, hi0, hz0, hz1, hz2⟩ := info_parts Tryd.info5
  have T1 := Lib.hid t1
  have T6 := Lib.hid t6
  have HI := Lib.hid hin
  have q3 : decide ((65535 : Int) ≤ (T.length : Int)) = true := by simp; omega
  clear t1 t2 t3 t4 t5 t6 t7 t8 t9 t10 t11 hin
  go_enter Tryd.func40, Tryd.ntmps40
  go_wp2_with (refine wpList_alloc32 i49 rfl rfl ?_)
  intro w1 hk1' hb1 hz1'
  have K1 := Lib.hid hk1'
  clear hk1' hz1'
  have hx1 := hx.below hb1 hok
  go_wp2_with fail
  go_at_call 41
  refine (join_yes hx1 (fun b hb => Nat.lt_of_lt_of_le (hok b hb) hb1.size) HF.out).mono ?_
  rintro e w2 ⟨A2, c2, rfl, h21, h22, h23, h24⟩
  have hb2 : Below w.heap.size w w2 := hb1.trans (h24.mono hb1.size)
  have hb2a : Below w.heap.size w (w2.alloc (.cells #[.int .u8 (k : Int)] 5)) := hb2.alloc hb2.size _
  have K2 : Hid (Arr w2 24 w.heap.size z32) := (h24.block _ (Arr.lt K1.out)).trans K1.out
  have hjl := jn_length ps HF.out
  have hx2 := h23.below ((Below.refl w2.heap.size w2).alloc (Nat.le_refl _) (.cells #[.int .u8 (k : Int)] 5)) (fun b hb => hb.2)
  go_wp2_with (at_builtin; refine wpList_append_byt _ rfl _ _ 66 rfl w2.heap.size i0 (.int .u8 0) Tryd.underlying66 hi0 hz0 hz1 hz2 rfl _ 1 [UInt8.ofNat k] rfl (txt_lit w2 k hk8) _ A2 _ (jn ps) rfl hx2 ?c1 ?c2 ?_)
  case c1 => omega
  case c2 => simp
  intro v3 w3 hown3 hgrow3 hat3
  have hb3 : Below w.heap.size w w3 := hb2a.grown hgrow3 hb2a.size fun g hg => by simp [Value.ownBlock] at hg; have := hb2.size; omega
  have K3 : Hid (Arr w3 24 w.heap.size z32) := by
    have h1 : (w2.alloc (.cells #[.int .u8 (k : Int)] 5)).heap[w.heap.size]? = w2.heap[w.heap.size]? := Below.heap_alloc _ _ _ (Arr.lt K2.out)
    have h2 := hgrow3.block w.heap.size (by rw [alloc_size]; have := Arr.lt K2.out; omega) (by simp [Value.ownBlock]; have := Arr.lt K2.out; omega)
    exact (h2.trans h1).trans K2.out
  have hown3' : w3.ownsRow w2.heap.size 5 1 v3 (1 + (jn ps).length) (u8s (txt (k, ps))) := hown3
  obtain ⟨A3, c3, rfl, hn3, h31, h32, h33⟩ := own_form hown3'
  obtain ⟨s, hs⟩ : ∃ s : ByteArray, (⟨(txt (k, ps)).toArray⟩ : ByteArray) = s := ⟨_, rfl⟩
  have r3 := h33.str c3
  have hsd : s.data.toList = txt (k, ps) := by rw [← hs]
  have hsz : s.size ≤ maxLen := by
    have := txt_length HG.out
    have e : s.size = (txt (k, ps)).length := by rw [← hs]; rfl
    rw [e]; unfold maxLen; omega
  rw [hs] at r3
  have hkey := WideMaps.keyOf_string_mk (P := Tryd.prog) Tryd.underlying9 hsz
  have hh : Maps.has D (.string s.data.toList) = false := by rw [hsd]; exact hhas
  have hmap : Hid (w3.ownsMap Tryd.prog 9 (plainElem Tryd.prog 3) mb T.length D) := ownsMap_keep T6.out (hb3.block _ T6.out.lt)
  have hcell : w3.cell? ⟨tb, 1, none⟩ = some (.map (some mb)) := by
    rw [cell_of_block ((hb3.block _ HT.out.lt).trans T1.out)]; rfl
  have HKY := Lib.hid hkey
  have HSD := Lib.hid hsd
  clear hown3 hown3' hgrow3 hat3 K2 K1 hx1 hx2 hb2a hs hkey hsd hjl hhas h33 h23
  go_wp2_with (first | (at_lookup; refine wpList_lookup_own_ok_int _ rfl _ _ 90 rfl 9 3 .i64 (Maps.string_keyed Tryd.underlying9) Tryd.underlying90 Tryd.underlying3 (zeroE _) mb T.length D rfl hmap.out _ _ rfl HKY.out ?_) | fail)
  intro c9 hat9 _
  clear hat9
  have ht3 := HT.out.below hb3
  go_wp2_with fail
  go_at_call 48
  refine (len_any ht3).mono ?_
  rintro e w4 ⟨rfl, rfl⟩
  go_wp2_with (first | (refine wpList_build32 i49 rfl rfl ?_) | (refine wpList_store32 i49 rfl _ _ rfl w.heap.size z32 z32 rfl rfl K3.out z32_length z32_length w.heap.size (Nat.le_refl _) ?_))
  intro w5 hk5 hb5 ho5 hz5
  have K5 := Lib.hid hk5
  have hb5' := hb3.trans hb5
  clear hk5 hz5 ho5
  go_wp2
  refine bodyPost_ret (results_two i49 rfl _ _ w.heap.size z32 rfl K5.out z32_length) rfl ?_
  exact makeE_no HM.out HT.out hb5'
set_option maxRecDepth 100000 in
set_option maxHeartbeats 1000000 in
theorem make_new {w : World} {ok ok' : Nat → Prop} {tb : Nat} {T : List Trm} {k : Nat} {A : Option Addr} {ps : List (List UInt8)} {c : Nat} (h : Tbl w ok tb T) (hx : Lst w ok' A ps) (hok : ∀ b, ok' b → b < w.heap.size) (hg : Good (k, ps)) (hin : (k, ps) ∉ T) (hl : T.length < 65535) :
    Calls Tryd.prog 40 #[.pointer (some ⟨tb, 0, none⟩), .int .i64 k, .slice A ps.length c] w (MakeE w ok tb (mk T k ps)) := by
  have HM := Lib.hid (mk_new hg hin hl)
  have HT := Lib.hid h
  have hmax := h.max
  obtain ⟨v, mb, D, t1, t2, t3, t4, t5, t6, t7, t8, t9, t10, t11⟩ := h
  have hhas := t7.has _ hg
  rw [decide_eq_false hin] at hhas
  have hk8 : k ≤ 8 := hg.2.1
  have hk1 : 1 ≤ k := hg.1
  have HF := Lib.hid hg.2.2
  have HG := Lib.hid hg
  have cw : IntKind.u8.wrap (k : Int) = (k : Int) := IntWalk.u8_in _ (by omega)
  have q1 : decide ((k : Int) < 1) = false := by simp; omega
  have q2 : decide (8 < (k : Int)) = false := by simp; omega
  obtain ⟨i0, hi0, hz0, hz1, hz2⟩ := info_parts Tryd.info5
  have T1 := Lib.hid t1
  have T6 := Lib.hid t6
  have HI := Lib.hid hin
  have q3 : decide ((65535 : Int) ≤ (T.length : Int)) = false := by simp; omega
  obtain ⟨i9, hi9, hy0, hy1, hy2⟩ := info_parts Tryd.info9
  have T5 := Lib.hid t5
  have T8 := Lib.hid t8
  have T7 := Lib.hid t7
  have TR := Lib.hid (And.intro t2 (And.intro t3 (And.intro t4 (And.intro t9 t10))))
  clear t1 t2 t3 t4 t5 t6 t7 t8 t9 t10 t11 hin
  go_enter Tryd.func40, Tryd.ntmps40
  go_wp2_with (refine wpList_alloc32 i49 rfl rfl ?_)
  intro w1 hk1' hb1 hz1'
  have K1 := Lib.hid hk1'
  clear hk1' hz1'
  have hx1 := hx.below hb1 hok
  go_wp2_with fail
  go_at_call 41
  refine (join_yes hx1 (fun b hb => Nat.lt_of_lt_of_le (hok b hb) hb1.size) HF.out).mono ?_
  rintro e w2 ⟨A2, c2, rfl, h21, h22, h23, h24⟩
  have hb2 : Below w.heap.size w w2 := hb1.trans (h24.mono hb1.size)
  have hb2a : Below w.heap.size w (w2.alloc (.cells #[.int .u8 (k : Int)] 5)) := hb2.alloc hb2.size _
  have K2 : Hid (Arr w2 24 w.heap.size z32) := (h24.block _ (Arr.lt K1.out)).trans K1.out
  have hjl := jn_length ps HF.out
  have hx2 := h23.below ((Below.refl w2.heap.size w2).alloc (Nat.le_refl _) (.cells #[.int .u8 (k : Int)] 5)) (fun b hb => hb.2)
  go_wp2_with (at_builtin; refine wpList_append_byt _ rfl _ _ 66 rfl w2.heap.size i0 (.int .u8 0) Tryd.underlying66 hi0 hz0 hz1 hz2 rfl _ 1 [UInt8.ofNat k] rfl (txt_lit w2 k hk8) _ A2 _ (jn ps) rfl hx2 ?c1 ?c2 ?_)
  case c1 => omega
  case c2 => simp
  intro v3 w3 hown3 hgrow3 hat3
  have hb3 : Below w.heap.size w w3 := hb2a.grown hgrow3 hb2a.size fun g hg => by simp [Value.ownBlock] at hg; have := hb2.size; omega
  have K3 : Hid (Arr w3 24 w.heap.size z32) := by
    have h1 : (w2.alloc (.cells #[.int .u8 (k : Int)] 5)).heap[w.heap.size]? = w2.heap[w.heap.size]? := Below.heap_alloc _ _ _ (Arr.lt K2.out)
    have h2 := hgrow3.block w.heap.size (by rw [alloc_size]; have := Arr.lt K2.out; omega) (by simp [Value.ownBlock]; have := Arr.lt K2.out; omega)
    exact (h2.trans h1).trans K2.out
  have hown3' : w3.ownsRow w2.heap.size 5 1 v3 (1 + (jn ps).length) (u8s (txt (k, ps))) := hown3
  obtain ⟨A3, c3, rfl, hn3, h31, h32, h33⟩ := own_form hown3'
  obtain ⟨s, hs⟩ : ∃ s : ByteArray, (⟨(txt (k, ps)).toArray⟩ : ByteArray) = s := ⟨_, rfl⟩
  have r3 := h33.str c3
  have hsd : s.data.toList = txt (k, ps) := by rw [← hs]
  have hsz : s.size ≤ maxLen := by
    have := txt_length HG.out
    have e : s.size = (txt (k, ps)).length := by rw [← hs]; rfl
    rw [e]; unfold maxLen; omega
  rw [hs] at r3
  have hkey := WideMaps.keyOf_string_mk (P := Tryd.prog) Tryd.underlying9 hsz
  have hh : Maps.has D (.string s.data.toList) = false := by rw [hsd]; exact hhas
  have hmap : Hid (w3.ownsMap Tryd.prog 9 (plainElem Tryd.prog 3) mb T.length D) := ownsMap_keep T6.out (hb3.block _ T6.out.lt)
  have hcell : w3.cell? ⟨tb, 1, none⟩ = some (.map (some mb)) := by
    rw [cell_of_block ((hb3.block _ HT.out.lt).trans T1.out)]; rfl
  have HKY := Lib.hid hkey
  have HSD := Lib.hid hsd
  clear hown3 hown3' hgrow3 hat3 K2 K1 hx1 hx2 hb2a hs hkey hsd hjl hhas h33 h23
  go_wp2_with (first | (at_lookup; refine wpList_lookup_own_ok_int _ rfl _ _ 90 rfl 9 3 .i64 (Maps.string_keyed Tryd.underlying9) Tryd.underlying90 Tryd.underlying3 (zeroE _) mb T.length D rfl hmap.out _ _ rfl HKY.out ?_) | fail)
  intro c9 hat9 _
  clear hat9
  have ht3 := HT.out.below hb3
  go_wp2_with fail
  go_at_call 48
  refine (len_any ht3).mono ?_
  rintro e w4 ⟨rfl, rfl⟩
  have hown4 : w3.ownsRow 0 9 1 v T.length (T.map fun x => sv (txt x)) := ownsRow_keep T8.out fun g hg => hb3.block g (T8.out.lt g hg).2
  have hc0 : w3.cell? ⟨tb, 0, none⟩ = some v := by
    rw [cell_of_block ((hb3.block _ HT.out.lt).trans T1.out)]; rfl
  go_wp2_with (first | (at_builtin; refine wpList_append_own_at _ rfl _ _ 91 rfl 0 9 i9 (.string ⟨#[]⟩) 1 16 Tryd.underlying91 hi9 hy0 hy1 hy2 rfl (by omega) v T.length _ rfl (hown4.alloc _) ⟨w3.heap.size, 0, none⟩ 1 1 [.string s] rfl rfl ?n1 ?n2 ?n3 ?n4 ?n5 ?_) | fail)
  case n1 => exact World.news_of_block (heap_alloc_new w3 _)
  case n2 =>
    intro u hu
    obtain rfl : u = .string s := by simpa using hu
    rfl
  case n3 => unfold maxLen; omega
  case n4 => omega
  case n5 => omega
  intro v5 w5 hown5 hgrow5 hnil5 hat5
  have hsz5 : w3.heap.size < w5.heap.size := by have := hgrow5.size; rw [alloc_size] at this; omega
  have hold5 : ∀ b, b < w3.heap.size → some b ≠ v.ownBlock → w5.heap[b]? = w3.heap[b]? := fun b hb hne => (hgrow5.block b (by rw [alloc_size]; omega) hne).trans (Below.heap_alloc _ _ _ hb)
  have hlt3 : tb < w3.heap.size := Nat.lt_of_lt_of_le HT.out.lt hb3.size
  have hne5 : some tb ≠ v.ownBlock := fun e => (T5.out tb e.symm).2.1 rfl
  have hB5 : w5.heap[tb]? = some (.cells #[v, .map (some mb)] 93 (0, 0)) := (hold5 tb hlt3 hne5).trans ((hb3.block _ HT.out.lt).trans T1.out)
  have hc5 : w5.cell? ⟨tb, 0, none⟩ = some v := by rw [cell_of_block hB5]; rfl
  have hf5 : w5.frozen? ⟨tb, 0, none⟩ = false := by simp [World.frozen?, hB5]
  obtain ⟨N, hN⟩ : ∃ N, T.length + 1 = N := ⟨_, rfl⟩
  rw [hN] at hown5
  obtain ⟨g5, cap5, rfl⟩ : ∃ g5 cap5, v5 = .slice (some ⟨g5, 0, none⟩) N cap5 := by
    rcases hown5.2 with ⟨_, h⟩ | ⟨g, cap, _, h, _⟩
    · omega
    · exact ⟨g, cap, h⟩
  have B5 := Lib.hid hB5
  have O5 := Lib.hid hold5
  have W5 := Lib.hid hown5
  have A5 := Lib.hid hat5
  have G5 := Lib.hid hgrow5
  have EN := Lib.hid hN
  clear hN hnil5 hB5 hold5 hown5 hat5 hgrow5 hc0 hown4 ht3
  go_wp2_with fail
  generalize hw6 : w5.setCell ⟨tb, 0, none⟩ (.slice (some ⟨g5, 0, none⟩) N cap5) = w6
  have hB6 : w6.heap[tb]? = some (.cells #[.slice (some ⟨g5, 0, none⟩) N cap5, .map (some mb)] 93 (0, 0)) := by
    rw [← hw6]
    exact heap_setCell_same w5 tb 0 _ 93 _ B5.out
  have ho6 : ∀ b, b ≠ tb → w6.heap[b]? = w5.heap[b]? := fun b hb => by
    rw [← hw6]
    exact heap_setCell_other w5 ⟨tb, 0, none⟩ b _ hb
  have hz6 : w6.heap.size = w5.heap.size := by rw [← hw6]; simp
  have hos : w6.os = w5.os ∧ w6.tape = w5.tape ∧ w6.output = w5.output := by rw [← hw6]; exact ⟨rfl, rfl, rfl⟩
  have hmb3 : mb < w3.heap.size := hmap.out.lt
  have hm6 : w6.ownsMap Tryd.prog 9 (plainElem Tryd.prog 3) mb T.length D := ownsMap_keep hmap.out ((ho6 mb TR.out.2.2.1).trans (O5.out mb hmb3 fun e => (T5.out mb e.symm).2.2 rfl))
  have hc60 : w6.cell? ⟨tb, 0, none⟩ = some (.slice (some ⟨g5, 0, none⟩) N cap5) := by rw [cell_of_block hB6]; rfl
  have hc61 : w6.cell? ⟨tb, 1, none⟩ = some (.map (some mb)) := by rw [cell_of_block hB6]; rfl
  have hwf : (Lit.int .i64 (N : Int)).wf = true := by
    have := EN.out
    simp [Lit.wf, IntKind.min, IntKind.max, IntKind.bits, IntKind.signed]
    omega
  obtain ⟨w7, hrun, hm7, hg7⟩ := hm6.drew.update (Maps.string_keyed Tryd.underlying9) Tryd.underlying90 (by unfold maxLen; omega) HKY.out (plainElem_int (P := Tryd.prog) Tryd.underlying3 hwf)
  have hB7 : w7.heap[tb]? = some (.cells #[.slice (some ⟨g5, 0, none⟩) N cap5, .map (some mb)] 93 (0, 0)) := (hg7.block tb (Array.getElem?_eq_some_iff.1 hB6).1 (by simpa using TR.out.2.2.1.symm)).trans hB6
  have hc70 : w7.cell? ⟨tb, 0, none⟩ = some (.slice (some ⟨g5, 0, none⟩) N cap5) := by rw [cell_of_block hB7]; rfl
  have hc71 : w7.cell? ⟨tb, 1, none⟩ = some (.map (some mb)) := by rw [cell_of_block hB7]; rfl
  have B7 := Lib.hid hB7
  have M7 := Lib.hid hm7
  have G7 := Lib.hid hg7
  have B6 := Lib.hid hB6
  have O6 := Lib.hid ho6
  have S6 := Lib.hid hos
  clear hB7 hm7 hg7 hB6 ho6 hm6 hwf hw6 hc5 hf5 hos
  go_region_held3 (fun w' => w'.cell? ⟨tb, 1, none⟩ = some (.map (some mb)) ∧ w'.cell? ⟨tb, 0, none⟩ = some (.slice (some ⟨g5, 0, none⟩) N cap5)) (go_keep) (first
    | (go_at_call 48; refine (len_cell (A := some ⟨g5, 0, none⟩) (n := N) (c := cap5) ?_).mono ?_; (simp [*]); rintro e w' ⟨rfl, rfl⟩)
    | fail)
  go_wp2_with fail
  go_at_call 48
  refine (len_cell hc70).mono ?_
  rintro e w8 ⟨rfl, rfl⟩
  have hn32 : N < 4294967296 := by have := EN.out; omega
  go_wp2_with fail
  go_at_call 47
  refine (name_any N _ hn32).mono ?_
  rintro e w8 ⟨rfl, hb8⟩
  have hz7 : w3.heap.size ≤ w7.heap.size := by have := G7.out.size; have e : w6.drew.heap.size = w6.heap.size := rfl; omega
  have hg5 : (ok g5 ∨ (w.heap.size ≤ g5 ∧ w3.heap.size < g5)) ∧ g5 ≠ tb ∧ g5 ≠ mb := by
    rcases A5.out with h | h
    · have h' := T5.out g5 h.symm
      exact ⟨.inl h'.1, h'.2⟩
    · have h' : g5 = w3.heap.size + 1 := by
        simpa [Value.ownBlock] using h
      have := hb3.size
      exact ⟨.inr ⟨by omega, by omega⟩, by omega, by omega⟩
  have hlt5 : g5 < w5.heap.size := (W5.out.lt g5 rfl).2
  have hown7 : w7.ownsRow 0 9 1 (.slice (some ⟨g5, 0, none⟩) N cap5) N (T.map (fun x => sv (txt x)) ++ [.string s]) := by
    refine ownsRow_keep W5.out fun g hg => ?_
    obtain rfl : g5 = g := by simpa [Value.ownBlock] using hg
    exact (G7.out.block g5 (by show g5 < w6.heap.size; omega) (by simpa using hg5.2.2)).trans (O6.out g5 hg5.2.1)
  have hlt7 : tb < w.heap.size := HT.out.lt
  have hmlt : mb < w.heap.size := T6.out.lt
  have hsame : ∀ b, b < w3.heap.size → b ≠ mb → b ≠ tb → some b ≠ v.ownBlock → w7.heap[b]? = w3.heap[b]? := fun b hb h1 h2 h3 =>
    ((G7.out.block b (by show b < w6.heap.size; omega) (by simpa using h1)).trans (O6.out b h2)).trans (O5.out b hb h3)
  have hmd7 : Md ok w w7 := by
    refine ⟨?_, ?_, ?_, by have := hb3.size; omega, fun b hb hn => ?_⟩
    · exact (G7.out.os.trans (S6.out.1.trans G5.out.os)).trans hb3.os
    · exact (G7.out.tape.trans (S6.out.2.1.trans G5.out.tape)).trans hb3.tape
    · exact (G7.out.output.trans (S6.out.2.2.trans G5.out.output)).trans hb3.output
    · refine (hsame b (Nat.lt_of_lt_of_le hb hb3.size) (fun e => hn (e ▸ TR.out.2.1)) (fun e => hn (e ▸ TR.out.1)) (fun e => hn (T5.out b e.symm).1)).trans (hb3.block b hb)
  have K7 : Hid (Arr w7 24 w.heap.size z32) :=
    (hsame _ (Arr.lt K3.out) (by omega) (by omega) (fun e => by have := (T8.out.lt _ e.symm).2; omega)).trans K3.out
  have K8 : Hid (Arr w8 24 w.heap.size z32) := (hb8.block _ (Arr.lt K7.out)).trans K7.out
  go_wp2_with (first | (refine wpList_store32 i49 rfl _ _ rfl w.heap.size z32 (nm N) rfl rfl K8.out z32_length (nm_length _) w.heap.size (Nat.le_refl _) ?_))
  intro w9 hk9 hb9 ho9 hz9
  have K9 := Lib.hid hk9
  clear hk9
  go_wp2
  refine bodyPost_ret (results_two i49 rfl _ _ w.heap.size (nm N) rfl K9.out (nm_length _)) rfl ?_
  have hmd9 : Md ok w w9 := (hmd7.trans (Md.of_below hb8)).trans ⟨hb9.os, hb9.tape, hb9.output, hb9.size, fun b _ hn => ho9 b fun e => hn (.inr ⟨by omega, by rw [e]; exact Arr.lt K8.out⟩)⟩
  have hs9 : ∀ b, b < w7.heap.size → b ≠ w.heap.size → w9.heap[b]? = w7.heap[b]? := fun b hb hne => (ho9 b hne).trans (hb8.block b hb)
  have hz79 : w7.heap.size ≤ w9.heap.size := by have := hb8.size; omega
  refine makeE_yes (T := T ++ [(k, ps)]) (by rw [HM.out, EN.out]) (by have := EN.out; omega) ?_ hmd9
  have hw3 := hb3.size
  have hlt9 : g5 < w9.heap.size := Nat.lt_of_lt_of_le (hown7.lt g5 rfl).2 hz79
  have hT := HT.out.good
  refine ⟨.slice (some ⟨g5, 0, none⟩) N cap5, mb, _, (hs9 tb (by omega) (by omega)).trans B7.out, .inl TR.out.1, .inl TR.out.2.1, TR.out.2.2.1, fun g hg => ?_, ?_, T7.out.put hT HG.out HI.out, ?_, ?_, ?_, ?_⟩
  · obtain rfl : g5 = g := by simpa [Value.ownBlock] using hg
    refine ⟨?_, hg5.2⟩
    rcases hg5.1 with h | h
    · exact .inl h
    · exact .inr ⟨h.1, by omega⟩
  · have e : (T ++ [(k, ps)]).length = T.length + 1 := by simp
    rw [e]
    have hD : D.put (.string s.data.toList) (.lit (.int .i64 (N : Int))) = D.put (key (txt (k, ps))) (numL (T.length + 1)) := by
      rw [HSD.out, ← EN.out]; rfl
    rw [← hD]
    exact ownsMap_keep M7.out (hs9 mb (by omega) (by omega))
  · have e : (T ++ [(k, ps)]).length = N := by rw [← EN.out]; simp
    have e2 : (T ++ [(k, ps)]).map (fun x => sv (txt x)) = T.map (fun x => sv (txt x)) ++ [.string s] := by
      rw [List.map_append]
      congr 1
      show [sv (txt (k, ps))] = _
      unfold sv
      congr 2
      have := HSD.out
      cases s
      simp at this
      simp [← this]
    rw [e, e2]
    refine ownsRow_keep hown7 fun g hg => ?_
    obtain rfl : g5 = g := by simpa [Value.ownBlock] using hg
    refine hs9 g5 (hown7.lt g5 rfl).2 ?_
    rcases hg5.1 with h | h
    · rcases A5.out with h' | h'
      · have := (T8.out.lt g5 h'.symm).2; omega
      · have h'' : g5 = w3.heap.size + 1 := by
          simpa [Value.ownBlock] using h'
        omega
    · omega
  · intro x hx
    rcases List.mem_append.1 hx with hx | hx
    · exact hT x hx
    · obtain rfl : x = (k, ps) := by simpa using hx
      exact HG.out
  · obtain ⟨_, _, _, _, _, _, _, _, _, _, _, _, hnd, _⟩ := HT.out
    rw [List.nodup_append]
    refine ⟨hnd, by simp, fun a ha b hb => ?_⟩
    obtain rfl : b = (k, ps) := by simpa using hb
    intro e
    exact HI.out (e ▸ ha)
  · simp; omega
/-- Make, whatever is to be made. -/
theorem make_any {w : World} {ok ok' : Nat → Prop} {tb : Nat} {T : List Trm} {kind : Int} {A : Option Addr} {ps : List (List UInt8)} {c : Nat} (h : Tbl w ok tb T) (hx : Lst w ok' A ps) (hok : ∀ b, ok' b → b < w.heap.size) (hm : ps.length ≤ maxLen) :
    Calls Tryd.prog 40 #[.pointer (some ⟨tb, 0, none⟩), .int .i64 kind, .slice A ps.length c] w (MakeE w ok tb (mk T kind ps)) := by
  by_cases hbad : Fit ps ∧ 1 ≤ kind ∧ kind ≤ 8
  · obtain ⟨h1, h2, h3⟩ := hbad
    obtain ⟨k, rfl⟩ : ∃ k : Nat, kind = k := ⟨kind.toNat, by omega⟩
    have hg : Good (k, ps) := ⟨by show 1 ≤ k; omega, by show k ≤ 8; omega, h1⟩
    by_cases hin : (k, ps) ∈ T
    · exact make_old h hx hok hg hin
    · by_cases hl : 65535 ≤ T.length
      · exact make_full h hx hok hg hin hl
      · exact make_new h hx hok hg hin (by omega)
  · exact make_no h hx hok hm hbad
end Go.Proofs.YtdnkeaokgkiloaaDoor.T
