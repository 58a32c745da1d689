/- The code's reading of a payload. Conditions: none but that the bytes lie in memory. -/
import Derived.Test.YtonpcenjipigpaaGreatZ15
namespace Go.Proofs.YtonpcenjipigpaaGreat
open Go.RowKit
/-- Changes' cells, the values' slices given. -/
def rows : List Chg → List Value → List Value
  | c :: cs, v :: vs => ccells c v ++ rows cs vs
  | _, _ => []
theorem rows_length : ∀ (cs : List Chg) (vs : List Value), vs.length = cs.length → (rows cs vs).length = 3 * cs.length
  | [], [], _ => rfl
  | c :: cs, v :: vs, h => by
    rw [rows, List.length_append, rows_length cs vs (by simpa using h)]
    simp [ccells]; omega
  | [], _ :: _, h => by simp at h
  | _ :: _, [], h => by simp at h
theorem rows_snoc : ∀ (cs : List Chg) (vs : List Value) (c : Chg) (v : Value), vs.length = cs.length → rows (cs ++ [c]) (vs ++ [v]) = rows cs vs ++ ccells c v
  | [], [], c, v, _ => by simp [rows]
  | d :: cs, u :: vs, c, v, h => by
    simp only [List.cons_append, rows, rows_snoc cs vs c v (by simpa using h), List.append_assoc]
  | [], _ :: _, _, _, h => by simp at h
  | _ :: _, [], _, _, h => by simp at h
theorem rows_get : ∀ (cs : List Chg) (vs : List Value) (_ : vs.length = cs.length) (j : Nat) (hj : j < cs.length) (i : Nat) (u : Value) (v : Value), vs[j]? = some v → (ccells cs[j] v)[i]? = some u → (rows cs vs)[j * 3 + i]? = some u
  | c :: cs, v :: vs, h, 0, _, i, u, v', hv, hu => by
    simp only [List.getElem?_cons_zero, Option.some.injEq] at hv
    subst hv
    simp only [List.getElem_cons_zero] at hu
    have hi : i < (ccells c v).length := (List.getElem?_eq_some_iff.1 hu).1
    rw [rows, Nat.zero_mul, Nat.zero_add, List.getElem?_append_left hi]
    exact hu
  | c :: cs, v :: vs, h, j + 1, hj, i, u, v', hv, hu => by
    have := rows_get cs vs (by simpa using h) j (by simpa using hj) i u v' (by simpa using hv) (by simpa using hu)
    rw [rows, List.getElem?_append_right (by simp [ccells]; omega)]
    simp only [ccells, List.length_cons, List.length_nil]
    rw [show (j + 1) * 3 + i - (0 + 1 + 1 + 1) = j * 3 + i by omega]
    exact this
  | [], _, _, _, hj, _, _, _, _, _ => by simp at hj
  | _ :: _, [], h, _, _, _, _, _, _, _ => by simp at h
/-- A list of changes in a block of its own. -/
theorem chs_of {w : World} {ok : Nat → Prop} {cs : List Chg} {vs : List Value} {g : Nat} {rest : List Value} (hb : Blk w g 56 (rows cs vs ++ rest)) (hs : Sls w ok vs (cs.map (·.val))) (hg : ok g) (hn : ∀ c ∈ cs, c.name.length ≤ maxLen) : Chs w ok (some ⟨g, 0, none⟩) cs := fun j hj => by
  have hl : vs.length = cs.length := by rw [hs.1, List.length_map]
  obtain ⟨A, c, h1, h2, h3, h4⟩ := hs.2 j (by simpa using hj)
  simp only [List.getElem_map] at h1 h2 h4
  refine ⟨g, 0, A, c, rfl, hg, fun i u hu => ?_, h2, h3, hn _ (List.getElem_mem hj), h4⟩
  have := rows_get cs vs hl j hj i u _ h1 hu
  rw [Nat.zero_add]
  refine hb.get _ _ ?_
  rw [List.getElem?_append_left (List.getElem?_eq_some_iff.1 this).1]
  exact this
/-- What the code's reading of a payload answers. -/
def ChangesE (w : World) (t : Option (List Chg)) (e : Ending) (w' : World) : Prop :=
  Below w.heap.size w w' ∧ match t with
    | none => ∃ v, e = .returned (.tuple #[v, .bool false])
    | some l => ∃ g, e = .returned (.tuple #[.slice (some ⟨g, 0, none⟩) l.length l.length, .bool true]) ∧ Chs w' (fun b => w.heap.size ≤ b ∧ b < w'.heap.size) (some ⟨g, 0, none⟩) l ∧ (∀ c ∈ l, c.err = 0) ∧ l.length ≤ 64
theorem changesE_none {w w' : World} {b : List UInt8} {v : Value} (h : chgsT b = none) (hb : Below w.heap.size w w') : ChangesE w (chgsT b) (.returned (.tuple #[v, .bool false])) w' := by
  rw [h]; exact ⟨hb, v, rfl⟩
theorem row_put {pre z : List Value} {m n : Nat} (h : pre.length = m) (hn : 0 < n) (v3 : List Value) (hv : v3.length = 3) (hz : z = z3 n) : (pre ++ z).take m ++ v3 ++ (pre ++ z).drop (m + v3.length) = pre ++ v3 ++ z3 (n - 1) := by
  subst hz
  obtain ⟨k, rfl⟩ : ∃ k, n = k + 1 := ⟨n - 1, by omega⟩
  rw [List.take_left' h, hv, List.drop_append, List.drop_eq_nil_of_le (by omega), z3_succ]
  simp [h]
theorem mid_get {pre z : List Value} {m : Nat} (h : pre.length = m) (a b c : Value) : (pre ++ [a, b, c] ++ z)[m]? = some a ∧ (pre ++ [a, b, c] ++ z)[m + 1]? = some b ∧ (pre ++ [a, b, c] ++ z)[m + 2]? = some c := by
  subst h
  refine ⟨?_, ?_, ?_⟩
  all_goals
    rw [List.append_assoc, List.getElem?_append_right (by omega)]
    simp
theorem mid_set {pre z : List Value} {m : Nat} (h : pre.length = m) (a b c v : Value) : (pre ++ [a, b, c] ++ z).set (m + 1) v = pre ++ [a, v, c] ++ z := by
  subst h
  rw [List.append_assoc, List.set_append_right _ _ (by omega), List.append_assoc]
  simp
set_option maxRecDepth 100000 in
set_option maxHeartbeats 8000000 in
theorem changes_any {w : World} {ok : Nat → Prop} {A : Option Addr} {b : List UInt8} {n cp : Nat} (hx : Byt w ok A b) (hok : ∀ g, ok g → g < w.heap.size) (hn : b.length = n) (hc : n ≤ cp) (hm : cp ≤ maxLen) :
    Calls Tryz.prog 79 #[.slice A n cp] w (ChangesE w (chgsT b)) := by
  subst hn
  have hsp := split_any hx hok hc hm
  have hfit := split_fit b
  have herr := split_err b
  obtain ⟨T, hT⟩ : ∃ T, T = chgsT b := ⟨_, rfl⟩
  rw [← hT]
  have hT2 : T = if (split b).2 = 0 then chgL (split b).1 else none := hT
  unfold SplitE at hsp
  obtain ⟨ps, hps⟩ : ∃ ps, ps = (split b).1 := ⟨_, rfl⟩
  obtain ⟨e, he⟩ : ∃ e, e = (split b).2 := ⟨_, rfl⟩
  rw [← hps] at hsp hfit herr hT2
  rw [← he] at hsp herr hT2
  have HT := Lib.hid hT2
  have HERR := Lib.hid herr
  have hmk := fun w => run_make23 (N := ps.length) (Nat.le_trans hfit.1 (by omega)) w
  have HF := Lib.hid hfit.2
  have hp64 := hfit.1
  clear hx hok hT hT2 hps he herr hfit
  go_enter Tryz.func79, Tryz.ntmps79
  go_wp2_with (go_at_call 94; refine hsp.mono ?_; rintro _ w1 ⟨A1, c1, rfl, m1, m2, hl1, hb1⟩)
  have hb2 : Below w.heap.size w (w1.alloc (.cells (z3 ps.length).toArray 56)) := bel_alloc _ hb1
  go_loopw [21] (fun i wr => ∃ (k : Nat) (cs : List Chg) (vs : List Value), k ≤ ps.length ∧ i = .int .i64 (k : Int) ∧ chgL (ps.take k) = some cs ∧ cs.length = k ∧ (∀ c ∈ cs, c.err = 0) ∧ Blk wr w1.heap.size 56 (rows cs vs ++ z3 (ps.length - k)) ∧ Sls wr (fun b => w.heap.size ≤ b ∧ b < wr.heap.size ∧ b ≠ w1.heap.size) vs (cs.map (·.val)) ∧ Below w1.heap.size w1 wr) (fun i _ => ps.length - (intOf i).toNat)
  case atStart => exact ⟨0, [], [], Nat.zero_le _, rfl, rfl, rfl, by simp, Blk.of_alloc w1 _ 56, Sls.nil _ _, below_alloc _ _⟩
  case round =>
    obtain ⟨k, cs, vs, hk, rfl, hcs, hcl, hce, hB, hS, hbw⟩ := hrel
    by_cases hlt : k < ps.length
    · obtain ⟨ad, A', c', rfl, hoka, hc0, l1, l2, hby⟩ := hl1 k hlt
      have q0 : wr.cell? (ad.add k) = some (.slice A' ps[k].length c') := (hbw.cell (by rw [block_of_plus]; exact hoka.2)).trans hc0
      have hs2 := split_any (c := c') (hby.below hbw fun g hg => hg.2) (fun g hg => Nat.lt_of_lt_of_le hg.2 hbw.size) l1 l2
      have he0 : e = 0 := by
        by_cases h0 : e = 0
        · exact h0
        · have := HERR.out h0; rw [this] at hlt; simp at hlt
      have hTc : T = chgL ps := by rw [HT.out, if_pos he0]
      obtain ⟨hnext, hnone⟩ := chgL_at hlt hcs
      unfold SplitE at hs2
      obtain ⟨q, hq⟩ : ∃ q, q = (split ps[k]).1 := ⟨_, rfl⟩
      obtain ⟨e3, he3⟩ : ∃ e3, e3 = (split ps[k]).2 := ⟨_, rfl⟩
      rw [← hq, ← he3] at hs2
      have hpair : split ps[k] = (q, e3) := by rw [hq, he3]
      have hqf := split_fit ps[k]
      rw [← hq] at hqf
      have HQF := Lib.hid hqf
      have hwT : chgT ps[k] = chgQ (q, e3) := by rw [chgT, hpair]
      have HW := Lib.hid hwT
      have HN := Lib.hid hnone
      have HX := Lib.hid hnext
      have HTC := Lib.hid hTc
      have HBB := Lib.hid hB
      have HSS := Lib.hid hS
      have HCS := Lib.hid hcs
      have HCE := Lib.hid hce
      have HCL := Lib.hid hcl
      have hlt3 : k < ps.length := hlt
      clear hc0 hby hq he3 hpair hwT hnone hnext hTc hB hS hcs hce hcl he0 hqf hl1 HT hmk
      by_cases hE : e3 = 0
      · subst hE
        match q, hs2, HW, HQF with
        | [], hs2, HW, HQF =>
          have HTN : Hid (T = none) := HTC.out.trans (HN.out HW.out)
          go_wp2_with (first
            | (go_at_call 94; refine hs2.mono ?_; rintro _ w2 ⟨A2, c2, rfl, n1, n2, hl2, hb2⟩)
            | fail)
          go_ret2
          rw [HTN.out]
          exact ⟨hb1.trans ((hbw.mono hb1.size).trans (hb2.mono (Nat.le_trans hb1.size hbw.size))), _, rfl⟩
        | x :: y :: z :: q, hs2, HW, HQF =>
          have HTN : Hid (T = none) := HTC.out.trans (HN.out HW.out)
          simp only [List.length_cons] at hs2
          go_wp2_with (first
            | (go_at_call 94; refine hs2.mono ?_; rintro _ w2 ⟨A2, c2, rfl, n1, n2, hl2, hb2⟩)
            | fail)
          go_ret2
          rw [HTN.out]
          exact ⟨hb1.trans ((hbw.mono hb1.size).trans (hb2.mono (Nat.le_trans hb1.size hbw.size))), _, rfl⟩
        | [x], hs2, HW, HQF =>
          have hxl : x.length ≤ 4096 := HQF.out.2 x (by simp)
          have hpl : (rows cs vs).length = k * 3 := by
            have hl := HSS.out.1
            rw [List.length_map] at hl
            rw [rows_length cs vs hl, HCL.out]; omega
          have HPL := Lib.hid hpl
          clear hpl
          have hwr : ∀ W : World, ∀ (A7 : Option Addr) (c7 : Nat), Calls Tryz.prog 38 #[.agg #[.string ⟨x.toArray⟩, .slice A7 ([] : List UInt8).length c7, .bool true]] W fun e w' => e = .returned (.int .i64 ((Chg.mk x [] true).err : Nat)) ∧ W.grownBy w' none := fun W A7 c7 => wrong_any W (Chg.mk x [] true) A7 _ c7 rfl (by simp [maxLen]; try omega) (by simp [maxLen]; omega)
          obtain ⟨er, her⟩ : ∃ er, er = (Chg.mk x [] true).err := ⟨_, rfl⟩
          rw [← her] at hwr
          have HER := Lib.hid her
          clear her
          have hw0 : er = 0 → T = T := fun _ => rfl
          go_wp2_with (first
            | (go_at_call 94; refine hs2.mono ?_; rintro _ w2 ⟨A2, c2, rfl, n1, n2, hl2, hb2'⟩
               obtain ⟨ad2, A3, c3, rfl, ho2, g0, a1, a2, hy3⟩ := hl2 0 (by simp)
               simp only [List.getElem_cons_zero] at g0 a1 hy3
               have g00 : w2.cell? ad2 = some (.slice A3 x.length c3) := by simpa [Addr.add] using g0
               have str1 := hy3.str c3
               have HB2 := Lib.hid (HBB.out.below hb2' HBB.out.lt)
               have HLT : Hid (w1.heap.size < wr.heap.size) := HBB.out.lt
               clear hl2)
            | (refine wpList_store_agg rfl 56 _ _ rfl w1.heap.size (k * 3) [.string ⟨x.toArray⟩, .slice none 0 0, .bool true] rfl rfl (by simp [Value.oneCell']) size42 _ _ HB2.out (by rw [List.length_append, HPL.out, z3_length]; simp; omega) ?_
               intro w5 k5 r5
               rw [row_put HPL.out (by omega) _ rfl rfl] at k5
               have hm5 := mid_get (z := z3 (ps.length - k - 1)) HPL.out (.string ⟨x.toArray⟩) (.slice none 0 0) (.bool true)
               have f0 : w5.cell? ⟨w1.heap.size, k * 3, none⟩ = some (.string ⟨x.toArray⟩) := Blk.get k5.out _ _ hm5.1
               have f1 : w5.cell? ⟨w1.heap.size, k * 3 + 1, none⟩ = some (.slice none 0 0) := Blk.get k5.out _ _ hm5.2.1
               have f2 : w5.cell? ⟨w1.heap.size, k * 3 + 2, none⟩ = some (.bool true) := Blk.get k5.out _ _ hm5.2.2
               clear hm5
               )
            | fail)
          go_at_call 38
          refine (hwr w5 _ _).mono ?_
          rintro _ w8 ⟨rfl, hg8⟩
          have hw2 : Below w1.heap.size w1 w2 := below_then hbw hb2'
          have hw5 : Below w1.heap.size w1 w5 := Below.wr hw2 r5.out (Nat.le_refl _)
          have hw8 : Below w1.heap.size w1 w8 := below_then hw5 (below_of_grown hg8)
          have HB8 : Hid (Blk w8 w1.heap.size 56 (rows cs vs ++ [.string ⟨x.toArray⟩, .slice none 0 0, .bool true] ++ z3 (ps.length - k - 1))) := Blk.grown k5.out hg8 (by simp)
          have hs28 : w2.heap.size ≤ w8.heap.size := by have h1 := r5.out.size; have h2 := hg8.size; omega
          have hk28 : ∀ b, b < w2.heap.size → b ≠ w1.heap.size → w8.heap[b]? = w2.heap[b]? := fun b h1 h2 => by
            have e1 := r5.out.block b h2
            have e2 : w5.heap[b]? = w5.heap[b]? := rfl
            have e3 := hg8.block b (by have h1 := r5.out.size; omega) (by simp)
            rw [e3, e2, e1]
          have HS8 : Hid (Sls w8 (fun b => w.heap.size ≤ b ∧ b < w8.heap.size ∧ b ≠ w1.heap.size) vs (cs.map (·.val))) := (HSS.out.keep fun b hk => (hk28 b (Nat.lt_of_lt_of_le hk.2.1 hb2'.size) hk.2.2).trans (hb2'.block b hk.2.1)).imp fun b hk => ⟨hk.1, Nat.lt_of_lt_of_le hk.2.1 (Nat.le_trans hb2'.size hs28), hk.2.2⟩
          by_cases h0 : er = 0
          · subst h0
            have hch : chgT ps[k] = some ⟨x, [], true⟩ := by rw [HW.out, chgQ, if_pos HER.out.symm]
            have HCH := Lib.hid (HX.out _ hch)
            clear hch hy3 hs28 hk28 hw2 hw5 r5 k5 hg8 hwr
            go_wp2
            go_roundw
            case rel =>
              have hvl : vs.length = cs.length := by have := HSS.out.1; rwa [List.length_map] at this
              refine ⟨k + 1, cs ++ [⟨x, [], true⟩], vs ++ [.slice none 0 0], by omega, by go_num, HCH.out, by rw [List.length_append, HCL.out]; rfl, ?_, ?_, ?_, hw8⟩
              · intro c hc
                rcases List.mem_append.1 hc with hc | hc
                · exact HCE.out c hc
                · simp only [List.mem_singleton] at hc; subst hc; exact HER.out.symm
              · have := HB8.out
                rw [rows_snoc _ _ _ _ hvl]
                rw [show ps.length - k - 1 = ps.length - (k + 1) by omega] at this
                exact this
              · rw [List.map_append]
                exact HS8.out.snoc (p := []) Byt.nil (Nat.le_refl _) (by unfold maxLen; omega)
            case measure => simp [intOf]; omega
          · have HTN : Hid (T = none) := HTC.out.trans (HN.out (by rw [HW.out, chgQ, if_neg (fun hc => h0 (HER.out.trans hc))]))
            have d1 : ((er : Int) != 0) = true := by simp; omega
            clear hwr h0
            go_wp2
            go_ret2
            rw [HTN.out]
            exact ⟨hb1.trans (hw8.mono hb1.size), _, rfl⟩
        | [x, y], hs2, HW, HQF =>
          have hxl : x.length ≤ 4096 := HQF.out.2 x (by simp)
          have hyl : y.length ≤ 4096 := HQF.out.2 y (by simp)
          have hpl : (rows cs vs).length = k * 3 := by
            have hl := HSS.out.1
            rw [List.length_map] at hl
            rw [rows_length cs vs hl, HCL.out]; omega
          have HPL := Lib.hid hpl
          clear hpl
          have hwr : ∀ W : World, ∀ (A7 : Option Addr) (c7 : Nat), Calls Tryz.prog 38 #[.agg #[.string ⟨x.toArray⟩, .slice A7 (y : List UInt8).length c7, .bool false]] W fun e w' => e = .returned (.int .i64 ((Chg.mk x y false).err : Nat)) ∧ W.grownBy w' none := fun W A7 c7 => wrong_any W (Chg.mk x y false) A7 _ c7 rfl (by simp [maxLen]; try omega) (by simp [maxLen]; omega)
          obtain ⟨er, her⟩ : ∃ er, er = (Chg.mk x y false).err := ⟨_, rfl⟩
          rw [← her] at hwr
          have HER := Lib.hid her
          clear her
          have hw0 : er = 0 → T = T := fun _ => rfl
          go_wp2_with (first
            | (go_at_call 94; refine hs2.mono ?_; rintro _ w2 ⟨A2, c2, rfl, n1, n2, hl2, hb2'⟩
               obtain ⟨ad2, A3, c3, rfl, ho2, g0, a1, a2, hy3⟩ := hl2 0 (by simp)
               simp only [List.getElem_cons_zero] at g0 a1 hy3
               have g00 : w2.cell? ad2 = some (.slice A3 x.length c3) := by simpa [Addr.add] using g0
               have str1 := hy3.str c3
               obtain ⟨ad4, A4, c4, had4, ho4, g1, a3, a4, hy4⟩ := hl2 1 (by simp)
               cases had4
               simp only [List.getElem_cons_succ, List.getElem_cons_zero] at g1 a3 hy4
               have HB2 := Lib.hid (HBB.out.below hb2' HBB.out.lt)
               have HLT : Hid (w1.heap.size < wr.heap.size) := HBB.out.lt
               clear hl2)
            | (refine wpList_store_agg rfl 56 _ _ rfl w1.heap.size (k * 3) [.string ⟨x.toArray⟩, .slice none 0 0, .bool false] rfl rfl (by simp [Value.oneCell']) size42 _ _ HB2.out (by rw [List.length_append, HPL.out, z3_length]; simp; omega) ?_
               intro w5 k5 r5
               rw [row_put HPL.out (by omega) _ rfl rfl] at k5
               have hm5 := mid_get (z := z3 (ps.length - k - 1)) HPL.out (.string ⟨x.toArray⟩) (.slice none 0 0) (.bool false)
               have f0 : w5.cell? ⟨w1.heap.size, k * 3, none⟩ = some (.string ⟨x.toArray⟩) := Blk.get k5.out _ _ hm5.1
               have f1 : w5.cell? ⟨w1.heap.size, k * 3 + 1, none⟩ = some (.slice none 0 0) := Blk.get k5.out _ _ hm5.2.1
               have f2 : w5.cell? ⟨w1.heap.size, k * 3 + 2, none⟩ = some (.bool false) := Blk.get k5.out _ _ hm5.2.2
               clear hm5
               have g15' : w5.cell? (ad2.add 1) = some (.slice A4 y.length c4) := (World.cell?_of_block (r5.out.block _ (by rw [block_of_plus]; have := HLT.out; omega))).trans g1
               have g15 : w5.cell? { block := ad2.block, off := ad2.off + 1 } = some (.slice A4 y.length c4) := by simpa [Addr.add] using g15'
               )
            | (refine wpList_store_cell rfl 40 _ _ rfl size40 w1.heap.size (k * 3 + 1) (.slice A4 y.length c4) rfl rfl rfl _ _ k5.out (by rw [List.length_append, List.length_append, HPL.out]; simp; omega) ?_
               intro w6 k6 r6
               rw [mid_set HPL.out] at k6
               have hm6 := mid_get (z := z3 (ps.length - k - 1)) HPL.out (.string ⟨x.toArray⟩) (.slice A4 y.length c4) (.bool false)
               have e0 : w6.cell? ⟨w1.heap.size, k * 3, none⟩ = some (.string ⟨x.toArray⟩) := Blk.get k6.out _ _ hm6.1
               have e1 : w6.cell? ⟨w1.heap.size, k * 3 + 1, none⟩ = some (.slice A4 y.length c4) := Blk.get k6.out _ _ hm6.2.1
               have e2 : w6.cell? ⟨w1.heap.size, k * 3 + 2, none⟩ = some (.bool false) := Blk.get k6.out _ _ hm6.2.2
               clear hm6)
            | fail)
          go_at_call 38
          refine (hwr w6 _ _).mono ?_
          rintro _ w8 ⟨rfl, hg8⟩
          have hw2 : Below w1.heap.size w1 w2 := below_then hbw hb2'
          have hw5 : Below w1.heap.size w1 w5 := Below.wr hw2 r5.out (Nat.le_refl _)
          have hw6 : Below w1.heap.size w1 w6 := Below.wr hw5 r6.out (Nat.le_refl _)
          have hw8 : Below w1.heap.size w1 w8 := below_then hw6 (below_of_grown hg8)
          have HB8 : Hid (Blk w8 w1.heap.size 56 (rows cs vs ++ [.string ⟨x.toArray⟩, .slice A4 y.length c4, .bool false] ++ z3 (ps.length - k - 1))) := Blk.grown k6.out hg8 (by simp)
          have hs28 : w2.heap.size ≤ w8.heap.size := by have h1 := r5.out.size; have h2 := hg8.size; have h3 := r6.out.size; omega
          have hk28 : ∀ b, b < w2.heap.size → b ≠ w1.heap.size → w8.heap[b]? = w2.heap[b]? := fun b h1 h2 => by
            have e1 := r5.out.block b h2
            have e2 := r6.out.block b h2
            have e3 := hg8.block b (by have h1 := r5.out.size; have h3 := r6.out.size; omega) (by simp)
            rw [e3, e2, e1]
          have HS8 : Hid (Sls w8 (fun b => w.heap.size ≤ b ∧ b < w8.heap.size ∧ b ≠ w1.heap.size) vs (cs.map (·.val))) := (HSS.out.keep fun b hk => (hk28 b (Nat.lt_of_lt_of_le hk.2.1 hb2'.size) hk.2.2).trans (hb2'.block b hk.2.1)).imp fun b hk => ⟨hk.1, Nat.lt_of_lt_of_le hk.2.1 (Nat.le_trans hb2'.size hs28), hk.2.2⟩
          have HY8 : Hid (Byt w8 (fun b => w.heap.size ≤ b ∧ b < w8.heap.size ∧ b ≠ w1.heap.size) A4 y) := (hy4.keep fun b hk => hk28 b hk.2 (by have := HLT.out; omega)).imp fun b hk => ⟨by have := hb1.size; have := hbw.size; omega, by omega, by have := HLT.out; omega⟩
          by_cases h0 : er = 0
          · subst h0
            have hch : chgT ps[k] = some ⟨x, y, false⟩ := by rw [HW.out, chgQ, if_pos HER.out.symm]
            have HCH := Lib.hid (HX.out _ hch)
            clear hch hy3 hy4 hs28 hk28 hw2 hw5 hw6 r5 k5 r6 k6 hg8 hwr
            go_wp2
            go_roundw
            case rel =>
              have hvl : vs.length = cs.length := by have := HSS.out.1; rwa [List.length_map] at this
              refine ⟨k + 1, cs ++ [⟨x, y, false⟩], vs ++ [.slice A4 y.length c4], by omega, by go_num, HCH.out, by rw [List.length_append, HCL.out]; rfl, ?_, ?_, ?_, hw8⟩
              · intro c hc
                rcases List.mem_append.1 hc with hc | hc
                · exact HCE.out c hc
                · simp only [List.mem_singleton] at hc; subst hc; exact HER.out.symm
              · have := HB8.out
                rw [rows_snoc _ _ _ _ hvl]
                rw [show ps.length - k - 1 = ps.length - (k + 1) by omega] at this
                exact this
              · rw [List.map_append]
                exact HS8.out.snoc HY8.out a3 a4
            case measure => simp [intOf]; omega
          · have HTN : Hid (T = none) := HTC.out.trans (HN.out (by rw [HW.out, chgQ, if_neg (fun hc => h0 (HER.out.trans hc))]))
            have d1 : ((er : Int) != 0) = true := by simp; omega
            clear hwr h0
            go_wp2
            go_ret2
            rw [HTN.out]
            exact ⟨hb1.trans (hw8.mono hb1.size), _, rfl⟩
      · have HTN : Hid (T = none) := HTC.out.trans (HN.out (by rw [HW.out]; unfold chgQ; split <;> simp_all))
        have d1 : ((e3 : Int) != 0) = true := by simp; omega
        go_wp2_with (first
          | (go_at_call 94; refine hs2.mono ?_; rintro _ w2 ⟨A2, c2, rfl, n1, n2, hl2, hb2⟩)
          | fail)
        go_ret2
        rw [HTN.out]
        exact ⟨hb1.trans ((hbw.mono hb1.size).trans (hb2.mono (Nat.le_trans hb1.size hbw.size))), _, rfl⟩
    · obtain rfl : k = ps.length := by omega
      rw [List.take_length] at hcs
      have hchs : Chs wr (fun b => w.heap.size ≤ b ∧ b < wr.heap.size) (some ⟨w1.heap.size, 0, none⟩) cs := chs_of hB (hS.imp fun b hb => ⟨hb.1, hb.2.1⟩) ⟨hb1.size, hB.lt⟩ (fun c hc => by have := (err_zero (hce c hc)).2.1; unfold maxLen; omega)
      have hbe := hb1.trans (hbw.mono hb1.size)
      have HCH := Lib.hid hchs
      have HCS := Lib.hid hcs
      have HCE := Lib.hid hce
      have HCL := Lib.hid hcl
      clear hchs hcs hce hcl hB hS hl1 hmk
      by_cases h0 : e = 0
      · have hTc : T = some cs := by rw [HT.out, if_pos h0, HCS.out]
        subst h0
        have HTC := Lib.hid hTc
        clear hTc
        go_wp2
        go_ret2
        rw [HTC.out]
        refine ⟨hbe, w1.heap.size, ?_, HCH.out, HCE.out, by rw [HCL.out]; exact hp64⟩
        rw [HCL.out]
        rfl
      · have hTc : T = none := by rw [HT.out, if_neg h0]
        have d1 : ((e : Int) == 0) = false := by simp; omega
        have HTC := Lib.hid hTc
        clear hTc
        go_wp2
        go_ret2
        rw [HTC.out]
        exact ⟨hbe, _, rfl⟩
end Go.Proofs.YtonpcenjipigpaaGreat
