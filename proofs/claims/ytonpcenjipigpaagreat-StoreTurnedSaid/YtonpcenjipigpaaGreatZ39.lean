/- The reference's changes: what a payload says. Conditions: none but that the bytes lie in memory. -/
import Derived.Test.YtonpcenjipigpaaGreatZ25
import Derived.Test.YtonpcenjipigpaaGreatZ38
namespace Go.Proofs.YtonpcenjipigpaaGreat
open Go.RowKit
/-- What is read so far: a row of the call's own, its values in new blocks. -/
def AccN (B : Nat) (wr : World) (v : Value) (out : List Chg) (vs : List Value) : Prop :=
  wr.ownsRow B 56 3 v out.length (rows out vs) ∧ Sls wr (fun b => B ≤ b ∧ b < wr.heap.size ∧ v.ownBlock ≠ some b) vs (out.map (·.val))
theorem AccN.nil (B : Nat) (wr : World) : AccN B wr (.slice none 0 0) [] [] := ⟨World.ownsRow_nil _ _ _ _, Sls.nil _ _⟩
theorem AccN.push {B : Nat} {wr w3 w5 : World} {v v5 : Value} {out : List Chg} {vs : List Value} {x : Chg} {A : Option Addr} {c : Nat} (h : AccN B wr v out vs) (hB : B ≤ wr.heap.size) (hb : Below wr.heap.size wr w3)
    (hy : Byt w3 (fun b => wr.heap.size ≤ b ∧ b < w3.heap.size) A x.val) (h1 : x.val.length ≤ c) (h2 : c ≤ maxLen)
    (ho : w5.ownsRow B 56 3 v5 (out.length + 1) (rows out vs ++ ccells x (.slice A x.val.length c))) (hg : w3.grownBy w5 v.ownBlock) (hat : v5.ownBlock = v.ownBlock ∨ v5.ownBlock = some w3.heap.size) :
    AccN B w5 v5 (out ++ [x]) (vs ++ [.slice A x.val.length c]) := by
  obtain ⟨k1, k2⟩ := h
  have hl : vs.length = out.length := by rw [k2.1]; simp
  have hs := hb.size
  have hs5 := hg.size
  have hlt := k1.lt
  refine ⟨?_, ?_⟩
  · rw [rows_snoc _ _ _ _ hl, List.length_append]
    exact ho
  · rw [List.map_append]
    refine Sls.snoc ?_ ?_ h1 h2
    · refine (k2.keep fun b hk => ?_).imp fun b hk => ⟨hk.1, by omega, ?_⟩
      · exact (hg.block b (by omega) (fun e => hk.2.2 e.symm)).trans (hb.block b hk.2.1)
      · rcases hat with e | e
        · rw [e]; exact hk.2.2
        · rw [e]; intro e2; cases e2; omega
    · refine (hy.keep fun b hk => hg.block b hk.2 ?_).imp fun b hk => ⟨by omega, by omega, ?_⟩
      · intro e
        have := (hlt b e.symm).2
        omega
      · rcases hat with e | e
        · rw [e]; intro e2; have := (hlt b e2).2; omega
        · rw [e]; intro e2; cases e2; omega
theorem AccN.chs {B : Nat} {wr : World} {v : Value} {out : List Chg} {vs : List Value} (h : AccN B wr v out vs) (hn : ∀ c ∈ out, c.name.length ≤ maxLen) : ∃ A c, v = .slice A out.length c ∧ Chs wr (fun b => B ≤ b ∧ b < wr.heap.size) A out := by
  obtain ⟨h1, h2⟩ := h
  by_cases hv : v = .slice none 0 0
  · subst hv
    have h0 : out = [] := by
      rcases h1.2 with ⟨-, e⟩ | ⟨g, cap, cur, e, _⟩
      · exact List.eq_nil_of_length_eq_zero e
      · cases e
    subst h0
    exact ⟨none, 0, rfl, Chs.nil⟩
  · obtain ⟨g, c, rfl, k1, k2, k3, k4, k5⟩ := own_form3 h1 hv
    have hl : vs.length = out.length := by rw [h2.1]; simp
    refine ⟨_, c, rfl, fun j hj => ?_⟩
    obtain ⟨A, cp, e1, e2, e3, e4⟩ := h2.2 j (by simpa using hj)
    simp only [List.getElem_map] at e1 e2 e4
    refine ⟨g, 0, A, cp, rfl, ⟨k3, k4⟩, fun i u hu => ?_, e2, e3, hn _ (List.getElem_mem hj), e4.imp fun b hb => ⟨hb.1, hb.2.1⟩⟩
    rw [Nat.zero_add]
    exact k5 _ _ (rows_get _ _ hl j hj i u _ e1 hu)
/-- What the reference's reading of a payload answers. -/
def RChgE (w : World) (t : Option (List Chg)) (e : Ending) (w' : World) : Prop :=
  Below w.heap.size w w' ∧ match t with
    | none => ∃ v, e = .returned (.tuple #[v, .bool false])
    | some l => ∃ A c, e = .returned (.tuple #[.slice A l.length c, .bool true]) ∧ Chs w' (fun b => w.heap.size ≤ b ∧ b < w'.heap.size) A l ∧ (∀ c ∈ l, c.err = 0) ∧ l.length ≤ 64
set_option maxRecDepth 100000 in
set_option maxHeartbeats 8000000 in
theorem rchanges_any {w : World} {ok : Nat → Prop} {A : Option Addr} {b : List UInt8} {n cp : Nat} (hx : Byt w ok A b) (hok : ∀ g, ok g → g < w.heap.size) (hn : b.length = n) (hc : n ≤ cp) (hm : cp ≤ maxLen) :
    Calls Tryz.prog 36 #[.slice A n cp] w (RChgE w (chgsT b)) := by
  subst hn
  have hsp := refsplit_any hx hok hc hm
  have hfit := split_fit b
  have herr := split_err b
  obtain ⟨T, hT⟩ : ∃ T, T = chgsT b := ⟨_, rfl⟩
  rw [← hT]
  have hT2 : T = if (split b).2 = 0 then chgL (split b).1 else none := hT
  unfold SplitE at hsp
  obtain ⟨ps, hps⟩ : ∃ ps, ps = (split b).1 := ⟨_, rfl⟩
  obtain ⟨e, he⟩ : ∃ e, e = (split b).2 := ⟨_, rfl⟩
  rw [← hps] at hsp hfit herr hT2
  rw [← he] at hsp herr hT2
  have HT := Lib.hid hT2
  have HF := Lib.hid hfit.2
  have hp64 := hfit.1
  obtain ⟨i0, hi, hz0, hz1, hz2⟩ := info_parts Tryz.info56
  clear hx hok hT hT2 hps he herr hfit
  by_cases he0 : e = 0
  · subst he0
    have hTc : T = chgL ps := by rw [HT.out, if_pos rfl]
    have HTC := Lib.hid hTc
    clear hTc HT
    go_enter Tryz.func36, Tryz.ntmps36
    go_wp2_with (go_at_call 62; refine hsp.mono ?_; rintro _ w1 ⟨A1, c1, rfl, m1, m2, hl1, hb1⟩)
    go_loopw [6, 7] (fun v i wr => ∃ (k : Nat) (cs : List Chg) (vs : List Value), k ≤ ps.length ∧ i = .int .i64 (k : Int) ∧ chgL (ps.take k) = some cs ∧ cs.length = k ∧ (∀ c ∈ cs, c.err = 0) ∧ AccN w1.heap.size wr v cs vs ∧ Below w1.heap.size w1 wr) (fun _ i _ => ps.length - (intOf i).toNat)
    case atStart => exact ⟨0, [], [], Nat.zero_le _, rfl, rfl, rfl, by simp, AccN.nil _ _, Below.refl _ _⟩
    case round =>
      obtain ⟨k, cs, vs, hk, rfl, hcs, hcl, hce, hA, hbw⟩ := hrel
      by_cases hlt : k < ps.length
      · obtain ⟨ad, A', c', rfl, hoka, hc0, l1, l2, hby⟩ := hl1 k hlt
        have q0 : wr.cell? (ad.add k) = some (.slice A' ps[k].length c') := (hbw.cell (by rw [block_of_plus]; exact hoka.2)).trans hc0
        have hs2 := refsplit_any (c := c') (hby.below hbw fun g hg => hg.2) (fun g hg => Nat.lt_of_lt_of_le hg.2 hbw.size) l1 l2
        obtain ⟨hnext, hnone⟩ := chgL_at hlt hcs
        unfold SplitE at hs2
        obtain ⟨q, hq⟩ : ∃ q, q = (split ps[k]).1 := ⟨_, rfl⟩
        obtain ⟨e3, he3⟩ : ∃ e3, e3 = (split ps[k]).2 := ⟨_, rfl⟩
        rw [← hq, ← he3] at hs2
        have hpair : split ps[k] = (q, e3) := by rw [hq, he3]
        have hqf := split_fit ps[k]
        rw [← hq] at hqf
        have HQF := Lib.hid hqf
        have hwT : chgT ps[k] = chgQ (q, e3) := by rw [chgT, hpair]
        have HW := Lib.hid hwT
        have HN := Lib.hid hnone
        have HX := Lib.hid hnext
        have HAA := Lib.hid hA
        have HCE := Lib.hid hce
        have HCL := Lib.hid hcl
        have hlt3 : k < ps.length := hlt
        have hbB : w1.heap.size ≤ wr.heap.size := hbw.size
        clear hc0 hby hq he3 hpair hwT hnone hnext hA hcs hce hcl hqf hl1
        by_cases hE : e3 = 0
        · subst hE
          match q, hs2, HW, HQF with
          | [], hs2, HW, HQF =>
            have HTN : Hid (T = none) := HTC.out.trans (HN.out HW.out)
            go_wp2_with (first
              | (go_at_call 62; refine hs2.mono ?_; rintro _ w2 ⟨A2, c2, rfl, n1, n2, hl2, hb2⟩)
              | fail)
            go_ret2
            rw [HTN.out]
            exact ⟨hb1.trans ((hbw.mono hb1.size).trans (hb2.mono (Nat.le_trans hb1.size hbw.size))), _, rfl⟩
          | x :: y :: z :: q, hs2, HW, HQF =>
            have HTN : Hid (T = none) := HTC.out.trans (HN.out HW.out)
            simp only [List.length_cons] at hs2
            go_wp2_with (first
              | (go_at_call 62; refine hs2.mono ?_; rintro _ w2 ⟨A2, c2, rfl, n1, n2, hl2, hb2⟩)
              | fail)
            go_ret2
            rw [HTN.out]
            exact ⟨hb1.trans ((hbw.mono hb1.size).trans (hb2.mono (Nat.le_trans hb1.size hbw.size))), _, rfl⟩
          | [x], hs2, HW, HQF =>
            have hxl : x.length ≤ 4096 := HQF.out.2 x (by simp)
            by_cases hx0 : x.length = 0
            · have HTN : Hid (T = none) := HTC.out.trans (HN.out (by rw [HW.out, chgQ, if_neg (by rw [List.eq_nil_of_length_eq_zero hx0]; decide)]))
              go_wp2_with (first
                | (go_at_call 62; refine hs2.mono ?_; rintro _ w2 ⟨A2, c2, rfl, n1, n2, hl2, hb2⟩
                   obtain ⟨ad2, A3, c3, rfl, ho2, g0, a1, a2, hy3⟩ := hl2 0 (by simp)
                   simp only [List.getElem_cons_zero] at g0 a1 hy3
                   have g00 : w2.cell? ad2 = some (.slice A3 x.length c3) := by simpa [Addr.add] using g0)
                | fail)
              go_ret2
              rw [HTN.out]
              exact ⟨hb1.trans ((hbw.mono hb1.size).trans (hb2.mono (Nat.le_trans hb1.size hbw.size))), _, rfl⟩
            by_cases hx32 : 32 < x.length
            · have HTN : Hid (T = none) := HTC.out.trans (HN.out (by rw [HW.out, chgQ, if_neg (by simp [Chg.err, hx32])]))
              have dx : ((x.length : Int) == 0) = false := by rw [beq_eq_false_iff_ne]; omega
              go_wp2_with (first
                | (go_at_call 62; refine hs2.mono ?_; rintro _ w2 ⟨A2, c2, rfl, n1, n2, hl2, hb2⟩
                   obtain ⟨ad2, A3, c3, rfl, ho2, g0, a1, a2, hy3⟩ := hl2 0 (by simp)
                   simp only [List.getElem_cons_zero] at g0 a1 hy3
                   have g00 : w2.cell? ad2 = some (.slice A3 x.length c3) := by simpa [Addr.add] using g0)
                | fail)
              go_ret2
              rw [HTN.out]
              exact ⟨hb1.trans ((hbw.mono hb1.size).trans (hb2.mono (Nat.le_trans hb1.size hbw.size))), _, rfl⟩
            have dx : ((x.length : Int) == 0) = false := by rw [beq_eq_false_iff_ne]; omega
            have her : (Chg.mk x [] true).err = 0 := by
              rw [Chg.err, if_neg (by simp; exact ⟨fun h => hx0 (by rw [h]; rfl), by omega⟩), if_neg (by simp)]
            have hch : chgT ps[k] = some ⟨x, [], true⟩ := by rw [HW.out, chgQ, if_pos her]
            go_wp2_with (first
              | (go_at_call 62; refine hs2.mono ?_; rintro _ w2 ⟨A2, c2, rfl, n1, n2, hl2, hb2⟩
                 obtain ⟨ad2, A3, c3, rfl, ho2, g0, a1, a2, hy3⟩ := hl2 0 (by simp)
                 simp only [List.getElem_cons_zero] at g0 a1 hy3
                 have g00 : w2.cell? ad2 = some (.slice A3 x.length c3) := by simpa [Addr.add] using g0
                 have str1 := hy3.str c3
                 have hbz : Below wr.heap.size wr ((w2.alloc (.cells #[.string ⟨x.toArray⟩, .slice none 0 0, .bool true] 56)).alloc (.cells #[.string ⟨x.toArray⟩, .slice none 0 0, .bool true] 56)) := below_then hb2 (below_then (below_alloc _ _) (below_alloc _ _))
                 have hown := own_up HAA.out.1 hbz
                 have hszz := Nat.le_trans hbB hbz.size)
              | (at_builtin
                 refine wpList_append_own_at _ rfl _ _ 36 rfl w1.heap.size 56 i0 _ 3 48 Tryz.underlying36 hi hz0 hz1 hz2 rfl (by decide) _ cs.length _ rfl hown ⟨w2.heap.size + 1, 0, none⟩ 1 1 [.string ⟨x.toArray⟩, .slice none 0 0, .bool true] rfl rfl (fun j u hu => by rw [Addr.add_lit, Nat.zero_add]; have hbk := Blk.of_alloc (w2.alloc (.cells #[.string ⟨x.toArray⟩, .slice none 0 0, .bool true] 56)) #[.string ⟨x.toArray⟩, .slice none 0 0, .bool true] 56; rw [show (w2.alloc (.cells #[.string ⟨x.toArray⟩, .slice none 0 0, .bool true] 56)).heap.size = w2.heap.size + 1 by simp] at hbk; exact hbk.get j u hu) (by simp [Value.oneCell']) (by unfold maxLen; have := HCL.out; omega) (by have := HCL.out; omega) hszz ?_
                 intro v5 w5 ho5 hg5 hn5 hv5)
              | fail)
            have hy5 : Byt ((w2.alloc (.cells #[.string ⟨x.toArray⟩, .slice none 0 0, .bool true] 56)).alloc (.cells #[.string ⟨x.toArray⟩, .slice none 0 0, .bool true] 56)) (fun b => wr.heap.size ≤ b ∧ b < ((w2.alloc (.cells #[.string ⟨x.toArray⟩, .slice none 0 0, .bool true] 56)).alloc (.cells #[.string ⟨x.toArray⟩, .slice none 0 0, .bool true] 56)).heap.size) none ([] : List UInt8) := Byt.nil
            have hA5 : AccN w1.heap.size w5 v5 (cs ++ [⟨x, [], true⟩]) (vs ++ [.slice none 0 0]) := HAA.out.push (x := ⟨x, [], true⟩) hbB hbz hy5 (by simp) (by unfold maxLen; omega) ho5 hg5 (by rcases hv5 with h | h; exact .inl h; exact .inr (by simpa using h))
            have hlt5 := HAA.out.1.lt
            have hb5 : Below w1.heap.size w1 w5 := (hbw.trans (hbz.mono hbw.size)).grown hg5 hszz fun g hg => (hlt5 g hg).1
            go_roundw
            case rel => exact ⟨k + 1, cs ++ [⟨x, [], true⟩], _, by omega, by go_num, HX.out _ hch, by rw [List.length_append, HCL.out]; rfl, (fun c hc => by rcases List.mem_append.1 hc with hc | hc; exact HCE.out c hc; simp only [List.mem_singleton] at hc; subst hc; exact her), hA5, hb5⟩
            case measure => simp [intOf]; omega
          | [x, y], hs2, HW, HQF =>
            have hxl : x.length ≤ 4096 := HQF.out.2 x (by simp)
            have hyl : y.length ≤ 4096 := HQF.out.2 y (by simp)
            by_cases hx0 : x.length = 0
            · have HTN : Hid (T = none) := HTC.out.trans (HN.out (by rw [HW.out, chgQ, if_neg (by simp [Chg.err, List.eq_nil_of_length_eq_zero hx0])]))
              go_wp2_with (first
                | (go_at_call 62; refine hs2.mono ?_; rintro _ w2 ⟨A2, c2, rfl, n1, n2, hl2, hb2⟩
                   obtain ⟨ad2, A3, c3, rfl, ho2, g0, a1, a2, hy3⟩ := hl2 0 (by simp)
                   simp only [List.getElem_cons_zero] at g0 a1 hy3
                   have g00 : w2.cell? ad2 = some (.slice A3 x.length c3) := by simpa [Addr.add] using g0)
                | fail)
              go_ret2
              rw [HTN.out]
              exact ⟨hb1.trans ((hbw.mono hb1.size).trans (hb2.mono (Nat.le_trans hb1.size hbw.size))), _, rfl⟩
            by_cases hx32 : 32 < x.length
            · have HTN : Hid (T = none) := HTC.out.trans (HN.out (by rw [HW.out, chgQ, if_neg (by simp [Chg.err, hx32])]))
              have dx : ((x.length : Int) == 0) = false := by rw [beq_eq_false_iff_ne]; omega
              go_wp2_with (first
                | (go_at_call 62; refine hs2.mono ?_; rintro _ w2 ⟨A2, c2, rfl, n1, n2, hl2, hb2⟩
                   obtain ⟨ad2, A3, c3, rfl, ho2, g0, a1, a2, hy3⟩ := hl2 0 (by simp)
                   simp only [List.getElem_cons_zero] at g0 a1 hy3
                   have g00 : w2.cell? ad2 = some (.slice A3 x.length c3) := by simpa [Addr.add] using g0)
                | fail)
              go_ret2
              rw [HTN.out]
              exact ⟨hb1.trans ((hbw.mono hb1.size).trans (hb2.mono (Nat.le_trans hb1.size hbw.size))), _, rfl⟩
            have dx : ((x.length : Int) == 0) = false := by rw [beq_eq_false_iff_ne]; omega
            by_cases hyy : 4000 < y.length
            · have HTN : Hid (T = none) := HTC.out.trans (HN.out (by rw [HW.out, chgQ, if_neg (by unfold Chg.err; split <;> simp_all)]))
              have d4 : decide (4000 < (y.length : Int)) = true := decide_eq_true (by omega)
              go_wp2_with (first
                | (go_at_call 62; refine hs2.mono ?_; rintro _ w2 ⟨A2, c2, rfl, n1, n2, hl2, hb2⟩
                   obtain ⟨ad2, A3, c3, rfl, ho2, g0, a1, a2, hy3⟩ := hl2 0 (by simp)
                   simp only [List.getElem_cons_zero] at g0 a1 hy3
                   have g00 : w2.cell? ad2 = some (.slice A3 x.length c3) := by simpa [Addr.add] using g0
                   have str1 := hy3.str c3
                   obtain ⟨ad4, A4, c4, had4, ho4, g1, a3, a4, hy4⟩ := hl2 1 (by simp)
                   cases had4
                   simp only [List.getElem_cons_succ, List.getElem_cons_zero] at g1 a3 hy4
                   have hB4 := World.block_lt_of_cell? _ _ g1
                   rw [block_of_plus] at hB4
                   have g15p : w2.cell? { block := ad2.block, off := ad2.off + 1 } = some (.slice A4 y.length c4) := by simpa [Addr.add] using g1
                   have g15 : (w2.alloc (.cells #[.string ⟨x.toArray⟩, .slice none 0 0, .bool false] 56)).cell? { block := ad2.block, off := ad2.off + 1 } = some (.slice A4 y.length c4) := ((below_alloc w2 _).cell (p := { block := ad2.block, off := ad2.off + 1 }) hB4).trans g15p)
                | fail)
              go_ret2
              rw [HTN.out]
              exact ⟨hb1.trans ((hbw.mono hb1.size).trans ((below_then hb2 (below_alloc _ _)).mono (Nat.le_trans hb1.size hbw.size))), _, rfl⟩
            have her : (Chg.mk x y false).err = 0 := by
              rw [Chg.err, if_neg (by simp; exact ⟨fun h => hx0 (by rw [h]; rfl), by omega⟩), if_neg (by simpa using hyy)]
            have hch : chgT ps[k] = some ⟨x, y, false⟩ := by rw [HW.out, chgQ, if_pos her]
            have d4 : decide (4000 < (y.length : Int)) = false := decide_eq_false (by omega)
            go_wp2_with (first
              | (go_at_call 62; refine hs2.mono ?_; rintro _ w2 ⟨A2, c2, rfl, n1, n2, hl2, hb2⟩
                 obtain ⟨ad2, A3, c3, rfl, ho2, g0, a1, a2, hy3⟩ := hl2 0 (by simp)
                 simp only [List.getElem_cons_zero] at g0 a1 hy3
                 have g00 : w2.cell? ad2 = some (.slice A3 x.length c3) := by simpa [Addr.add] using g0
                 have str1 := hy3.str c3
                 obtain ⟨ad4, A4, c4, had4, ho4, g1, a3, a4, hy4⟩ := hl2 1 (by simp)
                 cases had4
                 simp only [List.getElem_cons_succ, List.getElem_cons_zero] at g1 a3 hy4
                 have hB4 := World.block_lt_of_cell? _ _ g1
                 rw [block_of_plus] at hB4
                 have g15p : w2.cell? { block := ad2.block, off := ad2.off + 1 } = some (.slice A4 y.length c4) := by simpa [Addr.add] using g1
                 have g15 : (w2.alloc (.cells #[.string ⟨x.toArray⟩, .slice none 0 0, .bool false] 56)).cell? { block := ad2.block, off := ad2.off + 1 } = some (.slice A4 y.length c4) := ((below_alloc w2 _).cell (p := { block := ad2.block, off := ad2.off + 1 }) hB4).trans g15p
                 have hbz : Below wr.heap.size wr ((w2.alloc (.cells #[.string ⟨x.toArray⟩, .slice A4 y.length c4, .bool false] 56)).alloc (.cells #[.string ⟨x.toArray⟩, .slice A4 y.length c4, .bool false] 56)) := below_then hb2 (below_then (below_alloc _ _) (below_alloc _ _))
                 have hown := own_up HAA.out.1 hbz
                 have hszz := Nat.le_trans hbB hbz.size)
              | (at_builtin
                 refine wpList_append_own_at _ rfl _ _ 36 rfl w1.heap.size 56 i0 _ 3 48 Tryz.underlying36 hi hz0 hz1 hz2 rfl (by decide) _ cs.length _ rfl hown ⟨w2.heap.size + 1, 0, none⟩ 1 1 [.string ⟨x.toArray⟩, .slice A4 y.length c4, .bool false] rfl rfl (fun j u hu => by rw [Addr.add_lit, Nat.zero_add]; have hbk := Blk.of_alloc (w2.alloc (.cells #[.string ⟨x.toArray⟩, .slice A4 y.length c4, .bool false] 56)) #[.string ⟨x.toArray⟩, .slice A4 y.length c4, .bool false] 56; rw [show (w2.alloc (.cells #[.string ⟨x.toArray⟩, .slice A4 y.length c4, .bool false] 56)).heap.size = w2.heap.size + 1 by simp] at hbk; exact hbk.get j u hu) (by simp [Value.oneCell']) (by unfold maxLen; have := HCL.out; omega) (by have := HCL.out; omega) hszz ?_
                 intro v5 w5 ho5 hg5 hn5 hv5)
              | fail)
            have hy5 : Byt ((w2.alloc (.cells #[.string ⟨x.toArray⟩, .slice A4 y.length c4, .bool false] 56)).alloc (.cells #[.string ⟨x.toArray⟩, .slice A4 y.length c4, .bool false] 56)) (fun b => wr.heap.size ≤ b ∧ b < ((w2.alloc (.cells #[.string ⟨x.toArray⟩, .slice A4 y.length c4, .bool false] 56)).alloc (.cells #[.string ⟨x.toArray⟩, .slice A4 y.length c4, .bool false] 56)).heap.size) A4 y := ((hy4.below (below_then (below_alloc _ _) (below_alloc _ _)) fun b hb => hb.2).imp fun b hb => ⟨hb.1, by simp; omega⟩)
            have hA5 : AccN w1.heap.size w5 v5 (cs ++ [⟨x, y, false⟩]) (vs ++ [.slice A4 y.length c4]) := HAA.out.push (x := ⟨x, y, false⟩) hbB hbz hy5 (by simp; omega) a4 ho5 hg5 (by rcases hv5 with h | h; exact .inl h; exact .inr (by simpa using h))
            have hlt5 := HAA.out.1.lt
            have hb5 : Below w1.heap.size w1 w5 := (hbw.trans (hbz.mono hbw.size)).grown hg5 hszz fun g hg => (hlt5 g hg).1
            go_roundw
            case rel => exact ⟨k + 1, cs ++ [⟨x, y, false⟩], _, by omega, by go_num, HX.out _ hch, by rw [List.length_append, HCL.out]; rfl, (fun c hc => by rcases List.mem_append.1 hc with hc | hc; exact HCE.out c hc; simp only [List.mem_singleton] at hc; subst hc; exact her), hA5, hb5⟩
            case measure => simp [intOf]; omega
        · have HTN : Hid (T = none) := HTC.out.trans (HN.out (by rw [HW.out]; unfold chgQ; split <;> simp_all))
          have d1 : ((e3 : Int) != 0) = true := by simp; omega
          go_wp2_with (first
            | (go_at_call 62; refine hs2.mono ?_; rintro _ w2 ⟨A2, c2, rfl, n1, n2, hl2, hb2⟩)
            | fail)
          go_ret2
          rw [HTN.out]
          exact ⟨hb1.trans ((hbw.mono hb1.size).trans (hb2.mono (Nat.le_trans hb1.size hbw.size))), _, rfl⟩
      · obtain rfl : k = ps.length := by omega
        rw [List.take_length] at hcs
        obtain ⟨A9, c9, rfl, hch⟩ := hA.chs (fun c hc => by have := (err_zero (hce c hc)).2.1; unfold maxLen; omega)
        have hbe := hb1.trans (hbw.mono hb1.size)
        have HCH := Lib.hid hch
        have HCE := Lib.hid hce
        have HTS : Hid (T = some cs) := HTC.out.trans hcs
        clear hch hcs hce hA hl1
        go_wp2
        go_ret2
        rw [HTS.out]
        exact ⟨hbe, A9, c9, rfl, HCH.out.imp fun b hb => ⟨Nat.le_trans hb1.size hb.1, hb.2⟩, HCE.out, by omega⟩
  · have HTN : Hid (T = none) := by rw [HT.out, if_neg he0]; rfl
    have d1 : ((e : Int) != 0) = true := by simp; omega
    go_enter Tryz.func36, Tryz.ntmps36
    go_wp2_with (go_at_call 62; refine hsp.mono ?_; rintro _ w1 ⟨A1, c1, rfl, m1, m2, hl1, hb1⟩)
    go_ret2
    rw [HTN.out]
    exact ⟨hb1, _, rfl⟩
end Go.Proofs.YtonpcenjipigpaaGreat
