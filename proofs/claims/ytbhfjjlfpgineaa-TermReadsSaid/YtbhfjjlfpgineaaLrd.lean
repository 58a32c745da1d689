/- TermReads, walked. Conditions: MaxLen holds some number. -/
import Derived.Test.YtbhfjjlfpgineaaROf
import Derived.Test.YtbhfjjlfpgineaaCIn
import Derived.Deep.CutBlock
namespace Go.Proofs.Ytbhfjjlfpgineaa
open Go.RowKit

theorem size_nm (k : Nat) : (Try.prog.info? 49).map (·.size) = some (u8s (nm k)).length := by rw [u8s_length, nm_length]; exact size49
theorem yieldsIf_neq32 {ops : Array Oper} {S : World → Prop} {op : Oper} {a : Act} (hw : Region.wanted op (yielded ops a.tmps) = true) (x y : Operand) (ho : op.op = .binOp .neq 49 x y 49) (ks : List UInt8) (hx : a.eval x = .agg (u8s ks).toArray) (hy : a.eval y = .agg (u8s ks).toArray) (hl : ks.length = 32) : YieldsIf Try.prog ops S op (.bool false) a :=
  .inl ⟨hw, fun W _ => by
    have := run_neq_arr 49 32 Try.underlying49 ks ks hl hl W
    unfold execOp
    simp only [ho, hx, hy, run_eqGuard_agg _ _ _ _ _ _ _ guard49, Sem.run_bind, this, Result.andThen_ok, Sem.run_pure]
    simp⟩
/-- The term of a number; nothing for 0. -/
def look (T : List Trm) (n : Nat) : Trm := if n = 0 then (0, []) else T.getD (n - 1) (0, [])
theorem look_le {T : List Trm} (h : ∀ x ∈ T, Good x) (n : Nat) : (look T n).2.length ≤ maxLen := by
  unfold look maxLen
  split
  · simp
  · rw [List.getD_eq_getElem?_getD]
    rcases hq : T[n - 1]? with _ | x
    · simp
    · have := (h x (List.mem_of_getElem? hq)).2.2.1
      simp only [Option.getD_some]
      omega
theorem look_pos {T : List Trm} {n : Nat} (h : n - 1 < T.length) (h0 : 0 < n) : look T n = T[n - 1] := by
  unfold look
  rw [if_neg (by omega), List.getD_eq_getElem?_getD, List.getElem?_eq_getElem h]
  rfl
theorem Both.rtbl {B tb rb : Nat} {w : World} {T : List Trm} (h : Both B w tb rb T) : RTbl w (fun b => b < w.heap.size) rb T := by
  obtain ⟨ok1, ok2, t1, t2, t3, t4, t5⟩ := h
  exact t2.imp fun b hb _ => hb
theorem both_of {B tb rb : Nat} {w : World} {T : List Trm} {ks : List UInt8} (h : Both B w tb rb T) (hl : ks.length = 32) : Calls Try.prog 11 #[.pointer (some ⟨tb, 0, none⟩), .agg (u8s ks).toArray] w fun e w' => ∃ A c, e = .returned (.tuple #[.int .i64 ((look T (num ks (T.length + 1))).1 : Nat), .slice A (look T (num ks (T.length + 1))).2.length c, .bool (decide (0 < num ks (T.length + 1)))]) ∧ Lst w' (fun b => b < w'.heap.size) A (look T (num ks (T.length + 1))).2 ∧ Below w.heap.size w w' := by
  refine (of_any h.tbl hl).mono fun e w2 ⟨h1, h2⟩ => ?_
  rcases h2 with ⟨h2, h3⟩ | ⟨h2, A, c, h3, h4, h5⟩
  · rw [h2, h3]
    exact ⟨none, 0, rfl, Lst.nil, h1⟩
  · refine ⟨A, c, ?_, ?_, h1⟩
    · rw [h4, look_pos h2 h3, decide_eq_true h3]
    · rw [look_pos h2 h3]
      exact h5.imp fun b hb => hb.2
theorem both_rof {B tb rb : Nat} {w : World} {T : List Trm} {ks : List UInt8} (h : Both B w tb rb T) (hl : ks.length = 32) : Calls Try.prog 17 #[.pointer (some ⟨rb, 0, none⟩), .agg (u8s ks).toArray] w fun e w' => ∃ A c, e = .returned (.tuple #[.agg #[.int .i64 ((look T (num ks (T.length + 1))).1 : Nat), .slice A (look T (num ks (T.length + 1))).2.length c], .bool (decide (0 < num ks (T.length + 1)))]) ∧ Lst w' (fun b => b < w'.heap.size) A (look T (num ks (T.length + 1))).2 ∧ Below w.heap.size w w' := by
  refine (rof_any h.rtbl (fun _ h => h) hl).mono fun e w2 ⟨h1, h2⟩ => ?_
  rcases h2 with ⟨h2, h3⟩ | ⟨h2, A, c, h3, h4, h5⟩
  · rw [h2, h3]
    exact ⟨none, 0, rfl, Lst.nil, h1⟩
  · refine ⟨A, c, ?_, ?_, h1⟩
    · rw [h4, look_pos h2 h3, decide_eq_true h3]
    · rw [look_pos h2 h3]
      exact h5.imp fun b hb => Nat.lt_of_lt_of_le hb h1.size
theorem prtB_snoc {made : Nat} {ps : List Prt} {j : Nat} (h : j < ps.length) : prtB made ps (j + 1) = prtB made ps j ++ [cutB ps[j].1 ps[j].2 made 5000] := by
  unfold prtB
  rw [List.take_succ_eq_append_getElem h, List.map_append]
  rfl
theorem prtB_flat (made : Nat) (ps : List Prt) : ∀ j, (prtB made ps j).flatten.length ≤ 5128 * j
  | 0 => by simp [prtB]
  | j + 1 => by
    have ih := prtB_flat made ps j
    by_cases h : j < ps.length
    · rw [prtB_snoc h, List.flatten_append, List.length_append]
      have := cutB_length ps[j].1 ps[j].2 made 5000
      simp only [List.flatten_cons, List.flatten_nil, List.append_nil]
      omega
    · have e : prtB made ps (j + 1) = prtB made ps j := by
        unfold prtB
        rw [List.take_of_length_le (by omega), List.take_of_length_le (by omega)]
      rw [e]
      omega
theorem byt_small {bt : List UInt8} {xl j : Nat} (h : bt.length ≤ 5128 * j) (hx : xl ≤ 5128) (hj : j < 6) : bt.length + xl ≤ 140737488355328 := by omega
theorem step_append_byt {w : World} {ops : Array Oper} {o : Oper} {a : Act} {K : Act → World → Prop} {Q : Exit → Act → World → Prop} {E : Prop} (hgd : o.guard = none) (s x : Operand) (ho : o.op = .call { callee := .builtin .append, args := #[s, x], argTypes := #[41, 41] })
    {base n xl c : Nat} {v : Value} {ys xs : List UInt8} {ok : Nat → Prop} {A : Option Addr} (hs : a.eval s = v) (hx : a.eval x = .slice A xl c) (hown : w.ownsRow base 5 1 v n (u8s ys)) (hr : Byt w ok A xs) (hl : xs.length = xl)
    (h63 : n + xl ≤ 140737488355328) (hbase : base ≤ w.heap.size)
    (h : ∀ v' w', w'.ownsRow base 5 1 v' (n + xl) (u8s (ys ++ xs)) → w.grownBy w' v.ownBlock → (v'.ownBlock = v.ownBlock ∨ v'.ownBlock = some w.heap.size) → K (a.put o.dst v') w') : if Region.wanted o (yielded ops a.tmps) = true then Oper.wp Try.prog o a w K Q else E := by
  have hw : Region.wanted o (yielded ops a.tmps) = true := by simp [Region.wanted, hgd]
  rw [if_pos hw]
  subst hl
  obtain ⟨i, hi, hz, hsize, hby⟩ := info_parts Try.info5
  obtain ⟨v', w', hrun, h2, h3, h4⟩ := run_append_byt (P := Try.prog) w base 41 o.type i (.int .u8 0) Try.underlying41 hi hz hsize hby rfl v n ys hown ok A c xs hr h63 hbase
  unfold Oper.wp execOp
  simp only [ho, resolve, invoke, builtin, Sem.run_bind, Sem.run_pure, Result.andThen_ok, List.map_toArray, List.map_cons, List.map_nil, hs, hx, hrun]
  exact h v' w' h2 h3 h4

theorem keyE_n {w w' : World} {ns : List Nat} {e : Ending} (h : KeyE w ns e w') : ∃ A n c, e = .returned (.slice A n c) ∧ Hid (ns.length = n) ∧ n ≤ c ∧ c ≤ maxLen ∧ Hid (∀ j (h : j < ns.length), ∃ g, A = some ⟨g, 0, none⟩ ∧ w.heap.size ≤ g ∧ g < w'.heap.size ∧ w'.rangeAt g (j * 32) (u8s (nm ns[j]))) ∧ Below w.heap.size w w' := by
  obtain ⟨A, c, h1, h2, h3, h4, h5⟩ := h
  exact ⟨A, _, c, h1, rfl, h2, h3, h4, h5⟩
set_option maxRecDepth 100000 in
set_option maxHeartbeats 4000000 in
theorem reads_walk {w0 : World} {ok : Nat → Prop} {A Ap : Option Addr} {l : List Opn} {ln c pn cp : Nat} {ps : List Prt} {ks : List UInt8} (hx : Opns w0 ok A l) (hok : ∀ b, ok b → b < w0.heap.size) (hln : l.length = ln) (hm : ln ≤ maxLen) (hM : Mx w0)
    (hp : Prts w0 ok Ap ps) (hpn : ps.length = pn) (hmp : pn ≤ maxLen) (hkl : ks.length = 32) :
    Calls Try.prog 4 #[.slice A ln c, .slice Ap pn cp, .agg (u8s ks).toArray] w0 fun e w' => e = .returned (.bool true) ∧ Below w0.heap.size w0 w' := by
  have HX0 := Lib.hid hx
  have HOK0 := Lib.hid hok
  have HLN := Lib.hid hln
  have HMX0 := Lib.hid hM
  have HM := Lib.hid hm
  have HP0 := Lib.hid hp
  have HPN := Lib.hid hpn
  have HMP := Lib.hid hmp
  have HKL := Lib.hid hkl
  clear hx hok hln hM hm hp hpn hmp hkl
  go_enter Try.func4, Try.ntmps4
  go_wp2_with (first | (refine wpList_box32 i34 rfl (.tmp 2) rfl ks rfl HKL.out ?_) | fail)
  intro w e2 e1 e4
  go_wp2_with fail
  obtain ⟨ga, hga⟩ : ∃ ga, w0.heap.size = ga := ⟨_, rfl⟩
  have HX := Lib.hid (HX0.out.keep fun b hb => e1.block b (HOK0.out b hb))
  have HPS := Lib.hid (HP0.out.keep fun b hb => e1.block b (HOK0.out b hb))
  have HOK := Lib.hid (fun b hb => Nat.lt_of_lt_of_le (HOK0.out b hb) e1.size)
  have HMX := Lib.hid (HMX0.out.below e1)
  have E1 := Lib.hid e1
  rw [hga] at e2 e4 ⊢
  have E2 : Hid (Arr w 34 ga ks) := e2
  have E4 := Lib.hid e4
  clear e1 e2 e4 HX0 HOK0 HMX0 HP0
  go_at_call 8
  refine (alive_any HMX.out).mono ?_
  rintro _ w1 ⟨rfl, hb1⟩
  go_wp2_with fail
  go_at_call 9
  refine (new_any w1).mono ?_
  rintro _ w2 ⟨tb, rfl, _, ht2, hb2⟩
  clear hga
  have hbo := both_new (w0 := w) (hb1.size) ht2
  have hb3 : Below w.heap.size w (w2.alloc (.cells #[.slice none 0 0] 29)) := (hb1.trans (hb2.mono hb1.size)).alloc (Nat.le_trans hb1.size hb2.size) _
  have hp := play_any (c := c) hbo hb3.size (HX.out.keep fun b hb => hb3.block b (HOK.out b hb)) HOK.out HLN.out HM.out
  obtain ⟨rb, hrb⟩ : ∃ rb, w2.heap.size = rb := ⟨_, rfl⟩
  rw [hrb] at hp
  obtain ⟨T, hT⟩ : ∃ T, playT l (min 80 ln) = T := ⟨_, rfl⟩
  rw [hT] at hp
  have HP := Lib.hid hp
  have HB3 := Lib.hid hb3
  clear ht2 hb2 hb1 hbo hb3 hp hT
  go_wp2_with fail
  clear hrb
  go_at_call 10
  refine HP.out.mono ?_
  rintro _ w3 ⟨rfl, hbo, hb4⟩
  have HBO := Lib.hid hbo
  have HB := Lib.hid (HB3.out.trans hb4)
  clear HP HB3 hb4 hbo
  obtain ⟨N, hN⟩ : ∃ N, T.length = N := ⟨_, rfl⟩
  have hNm : N ≤ 65535 := by rw [← hN]; exact HBO.out.max
  have HN := Lib.hid hN
  obtain ⟨A1, c1, k1, _, hcm1, _⟩ := HBO.out.lists
  rw [hN] at k1
  have HK1 := Lib.hid k1
  have HRL := Lib.hid (World.block_lt_of_cell? _ _ k1)
  obtain ⟨i41, hi41, hx0, hx1, hx2⟩ := info_parts info41
  have HI41 := Lib.hid hi41
  have HZ0 := Lib.hid hx0
  have HZ1 := Lib.hid hx1
  have HZ2 := Lib.hid hx2
  clear hN k1 hi41 hx0 hx1 hx2
  go_upto_block 0 with fail
  go_cut [9, 10] from 29 to 51 (fun v p wx => Below w3.heap.size w3 wx ∧ ∃ j : Nat, p = .int .i64 j ∧ j = min 6 pn ∧ wx.ownsRow w3.heap.size 5 1 v (prtB (N + 1) ps j).flatten.length (u8s (prtB (N + 1) ps j).flatten))
  case first =>
    go_wp2_with fail
    go_loopg [9, 10] 6 (fun G v p wr => ∃ j : Nat, p = .int .i64 j ∧ j ≤ pn ∧ j ≤ 6 ∧ 6 - j ≤ G ∧ Hid (Below w3.heap.size w3 wr) ∧ Hid (wr.ownsRow w3.heap.size 5 1 v (prtB (N + 1) ps j).flatten.length (u8s (prtB (N + 1) ps j).flatten)))
    case atStart => exact ⟨0, rfl, by omega, by omega, by omega, Below.refl _ _, World.ownsRow_nil _ _ _ _⟩
    case round =>
      obtain ⟨j, rfl, hjn, hj6, hgk, hbx, hown⟩ := hrel
      have HGK := Lib.hid hgk
      clear hgk
      by_cases h1 : j < pn
      · by_cases h2 : j < 6
        · have hjp : j < ps.length := by rw [HPN.out]; exact h1
          obtain ⟨pb, po, An, cn, Ab, cb, rfl, hop, p1, p2, p3, p4, p5, p6⟩ := HPS.out.at_ (j := j) hjp
          have hpB : pb < w.heap.size := HOK.out pb hop
          obtain ⟨pt, hpt⟩ : ∃ pt, ps[j]'hjp = pt := ⟨_, rfl⟩
          rw [hpt] at p1 p2 p3 p5 p6
          obtain ⟨ns, bs⟩ := pt
          simp only at p1 p2 p3 p5 p6
          obtain ⟨nl, hnl⟩ : ∃ nl, ns.length = nl := ⟨_, rfl⟩
          obtain ⟨bl, hbl⟩ : ∃ bl, bs.length = bl := ⟨_, rfl⟩
          rw [hnl] at p1
          rw [hbl] at p2 p3
          have P1 := Lib.hid p1
          have P2 := Lib.hid p2
          have P5 := Lib.hid p5
          have P6 := Lib.hid p6
          have HCUT0 : Hid (∀ W, Below w.heap.size w W → Calls Try.prog 14 #[.agg #[.slice An nl cn, .slice Ab bl cb], .int .i64 ((N + 1 : Nat) : Int)] W (NewB W (cutB ns bs (N + 1) 5000))) := fun W hW =>
            pbytes_any (P5.out.keep fun b hb => hW.block b (HOK.out b hb)) (P6.out.keep fun b hb => hW.block b (HOK.out b hb)) (fun b hb => by have := HOK.out b hb; have := hW.size; omega) hnl hbl p3 p4 (by omega)
          have HCUT : Hid (∀ W, Below w.heap.size w W → Calls Try.prog 14 #[.agg #[.slice An nl cn, .slice Ab bl cb], .int .i64 ((N : Int) + 1)] W (NewB W (cutB ns bs (N + 1) 5000))) := HCUT0
          have HPT := Lib.hid hpt
          have q1 : (0 : Int) ≤ (j : Int) := by omega
          have q2 : (j : Int) < (pn : Int) := by omega
          have q5 : (j : Int) < 6 := by omega
          have aN : IntKind.i64.wrap ((N : Int) + 1) = (N : Int) + 1 := IntWalk.i64_in _ (by omega)
          have KP : Hid (∀ W, Below w3.heap.size w3 W → W.cell? ⟨rb, 0, none⟩ = some (.slice A1 N c1) ∧ W.cell? ⟨pb, po + j * 2, none⟩ = some (.slice An nl cn) ∧ W.cell? ⟨pb, po + j * 2 + 1, none⟩ = some (.slice Ab bl cb)) := fun W hW =>
            have hw := HB.out.trans (hW.mono HB.out.size)
            ⟨(hW.cell (p := ⟨rb, 0, none⟩) HRL.out).trans HK1.out, (hw.cell (p := ⟨pb, po + j * 2, none⟩) hpB).trans P1.out, (hw.cell (p := ⟨pb, po + j * 2 + 1, none⟩) hpB).trans P2.out⟩
          have hzx := hbx.out.size
          have HQ0 : Hid (Below w3.heap.size w3 wr.drew) := below_dN hbx.out 1
          have HC := Lib.hid (HCUT.out wr.drew (HB.out.trans (HQ0.out.mono HB.out.size)))
          obtain ⟨bt, hbt⟩ : ∃ bt, (prtB (N + 1) ps j).flatten = bt := ⟨_, rfl⟩
          have hbt2 : (prtB (N + 1) ps (j + 1)).flatten = bt ++ cutB ns bs (N + 1) 5000 := by rw [prtB_snoc hjp, List.flatten_append, hbt, hpt]; simp
          have HBT2 := Lib.hid hbt2
          rw [hbt] at hown
          have hbtl : bt.length ≤ 5128 * j := by rw [← hbt]; exact prtB_flat _ _ _
          clear p1 p2 p3 p4 p5 p6 hpt hnl hbl hbt hbt2
          go_wp2_with fail
          go_region_held3 (fun W => W.cell? ⟨rb, 0, none⟩ = some (.slice A1 N c1) ∧ W.cell? ⟨pb, po + j * 2, none⟩ = some (.slice An nl cn) ∧ W.cell? ⟨pb, po + j * 2 + 1, none⟩ = some (.slice Ab bl cb)) (first | exact KP.out _ HQ5.out | exact KP.out _ HQ4.out | exact KP.out _ HQ0.out) (first
            | (go_at_call 14; refine HC.out.mono ?_; intro e wy4 h4; obtain ⟨A3, xl, c3, rfl, hxl, y2, y3, y4, hb4⟩ := newB_n h4; have HQ4 := Lib.hid (HQ0.out.trans (hb4.mono HQ0.out.size)); have HO4 := Lib.hid (own_below (own_below hown.out (below_dN (Below.refl wr.heap.size wr) 1)) hb4); have HY4 := Lib.hid y4; have HXM : Hid (xl ≤ 5128) := (by rw [← hxl.out]; exact cutB_length _ _ _ _); clear h4 hb4 y2 y3 y4)
            | (refine step_append_byt rfl (.tmp 39) (.tmp 50) (by rfl) (by rfl) (by rfl) HO4.out HY4.out hxl.out (byt_small hbtl HXM.out h2) HQ4.out.size ?_; intro v5 wy5 ho5 hg5 _; have HQ5 : Hid (Below w3.heap.size w3 wy5) := HQ4.out.grown hg5 HQ4.out.size (fun g hg => (hown.out.lt g hg).1); have HO5 : Hid (wy5.ownsRow w3.heap.size 5 1 v5 (prtB (N + 1) ps (j + 1)).flatten.length (u8s (prtB (N + 1) ps (j + 1)).flatten)) := (by rw [HBT2.out, List.length_append, hxl.out]; exact ho5); clear ho5 hg5)
            | fail)
          clear HO4 HY4 HXM HQ4 hown hbx HQ0 KP aN hbtl
          go_wp2_with fail
          go_roundg (6 - (j + 1))
          case measure => have := HGK.out; omega
          case rel => exact ⟨j + 1, by go_num, by omega, by omega, Nat.le_refl _, HQ5.out, HO5.out⟩
        · have d2 : ¬ ((j : Int) < 6) := by omega
          have d1 : (j : Int) < (pn : Int) := by omega
          go_wp2_with fail
          go_meet
          case rel => exact ⟨hbx.out, j, rfl, by omega, hown.out⟩
      · have d1 : ¬ ((j : Int) < (pn : Int)) := by omega
        go_wp2_with fail
        go_meet
        case rel => exact ⟨hbx.out, j, rfl, by omega, hown.out⟩
  case rest =>
    obtain ⟨hb4, j1, rfl, hj1, ho4⟩ := hcut
    obtain ⟨w4, hw4⟩ : ∃ w4, w4 = wc := ⟨_, rfl⟩
    subst hw4
    obtain ⟨BT, hBT⟩ : ∃ BT, (prtB (N + 1) ps j1).flatten = BT := ⟨_, rfl⟩
    have hbl : BT.length ≤ 31000 := by have := prtB_flat (N + 1) ps j1; rw [hBT] at this; omega
    rw [hBT] at ho4
    obtain ⟨A5, c5, rfl, _, q1, q2, hy5⟩ := own_form ho4
    obtain ⟨bl, hBL⟩ : ∃ bl, BT.length = bl := ⟨_, rfl⟩
    rw [hBL] at hbl q1
    have HBL := Lib.hid hBL
    have HY5 : Hid (Byt w4 (fun b => w3.heap.size ≤ b ∧ b < w4.heap.size) A5 BT) := hy5.imp fun b hb => hb.2
    have HBA := Lib.hid hb4
    have HB4W := Lib.hid (HB.out.trans (hb4.mono HB.out.size))
    have HBO4 := Lib.hid (HBO.out.up hb4)
    have HMX4 := Lib.hid (HMX.out.below HB4W.out)
    have HCI := Lib.hid (cin_any (c := c5) HBO4.out.tbl HN.out hBL HY5.out (fun b hb => hb.2) q1 q2 (by omega) HMX4.out)
    have KPW : Hid (∀ W, Below w3.heap.size w3 W → W.cell? ⟨rb, 0, none⟩ = some (.slice A1 N c1)) := fun W hW => (hW.cell (p := ⟨rb, 0, none⟩) HRL.out).trans HK1.out
    clear hb4 hj1 ho4 hBT hy5
    rw [hBL]
    clear hBL
    go_wp2_with fail
    go_at_call 15
    refine HCI.out.mono ?_
    intro e w5 h5
    obtain ⟨Ag, gn, cg, rfl, hgl, g1, g2, hgc, hb5⟩ := keyE_n h5
    have HB35 := Lib.hid (HBA.out.trans (hb5.mono HBA.out.size))
    have HY6 := Lib.hid (HY5.out.keep fun b hb => hb5.block b hb.2)
    have HZ5 := Lib.hid hb5.size
    have HRI := Lib.hid (rin_any (w := w5) (c := c5) (N := N) HBL.out HY6.out (fun b hb => Nat.lt_of_lt_of_le hb.2 HZ5.out) q1 (by omega) (by omega))
    have kq : w5.cell? ⟨rb, 0, none⟩ = some (.slice A1 N c1) := KPW.out w5 HB35.out
    clear h5 hb5 HCI
    go_wp2_with fail
    go_at_call 16
    refine HRI.out.mono ?_
    intro e w6 h6
    obtain ⟨Aw, wn, cw, rfl, hwl, u1, u2, hwc, hb6⟩ := inE_n h6
    have HQ6 := Lib.hid (HB35.out.trans (hb6.mono HB35.out.size))
    have HB56 := Lib.hid hb6
    clear h6 hb6
    obtain rfl : wn = gn := hwl.out.symm.trans hgl.out
    have dn : ((wn : Int) != (wn : Int)) = false := by simp
    have hwm : wn ≤ 100000 := by have := nms_length (N + 1) _ BT (Nat.le_refl _); have e1 := hwl.out; have e2 := HBL.out; omega
    have HB6W := Lib.hid (HB.out.trans (HQ6.out.mono HB.out.size))
    have HBO6 := Lib.hid (HBO.out.up HQ6.out)
    clear hgl
    go_upto_block 2 with fail
    go_cut [13] from 67 to 82 (fun p wx => Below w6.heap.size w6 wx)
    case first =>
      go_wp2_with fail
      go_loopg [13] wn (fun G p wr => ∃ i : Nat, p = .int .i64 i ∧ i ≤ wn ∧ wn - i ≤ G ∧ Hid (Below w6.heap.size w6 wr))
      case atStart => exact ⟨0, rfl, by omega, by omega, Below.refl _ _⟩
      case round =>
        obtain ⟨i, rfl, hiw, hgk, hb⟩ := hrel
        have HGK := Lib.hid hgk
        clear hgk
        rcases Nat.lt_or_ge i wn with hlt | hge
        · have hil : i < (nms BT (N + 1)).length := by rw [hwl.out]; exact hlt
          obtain ⟨gg, rfl, hg1, hg2, hrg⟩ := hgc.out i hil
          obtain ⟨gw, rfl, hw1, hcw⟩ := hwc.out i hil
          obtain ⟨k, hk⟩ : ∃ k, (nms BT (N + 1))[i] = k := ⟨_, rfl⟩
          have hkb := nms_bd (b := BT) (below := N + 1) (n := k) (by rw [← hk]; exact List.getElem_mem _)
          rw [hk] at hrg hcw
          have HRG : Hid (∀ W, Below w6.heap.size w6 W → W.rangeAt gg (i * 32) (u8s (nm k)) ∧ W.cell? ⟨gw, i, none⟩ = some (.int .i64 (k : Int))) := fun W hW =>
            ⟨fun q v hq => ((hW.cell (p := ⟨gg, i * 32 + q, none⟩) (Nat.lt_of_lt_of_le hg2 HB56.out.size)).trans (HB56.out.cell (p := ⟨gg, i * 32 + q, none⟩) hg2)).trans (hrg q v hq), (hW.cell (p := ⟨gw, i, none⟩) (World.block_lt_of_cell? w6 _ hcw)).trans hcw⟩
          have HNM := Lib.hid (fun W => refname_any k W (by omega))
          have HQA := Lib.hid (below_dN hb.out 1)
          have z1 : (0 : Int) ≤ (i : Int) := by omega
          have z2 : (i : Int) < (wn : Int) := by omega
          have ai : ((i : Int)).toNat = i := by omega
          clear hil hk hkb hrg hcw hg1 hg2 hw1
          go_wp2_with fail
          refine wp_region_held_drew (S := fun W => W.rangeAt gg (i * 32) (u8s (nm k)) ∧ W.cell? ⟨gw, i, none⟩ = some (.int .i64 (k : Int))) (by kernel_rfl) (HRG.out _ HQA.out) (fun hHeld => ?_)
          refine' wpAnyH_take (i := 0) (oi := { dst := some 73, op := Op.move (Operand.tmp 11), type := 46, pos := "law.go:121", after := #[], guard := none }) (v := .slice (some ⟨gg, 0, none⟩) wn cg) rfl (by kernel_rfl) (by kernel_rfl) (by kernel_rfl) (fun _ _ _ h => h) (Or.inl ⟨by rfl, fun w' hSw => by go_simp⟩) (by assumption) ?qz1
          try simp only [Act.put, List.setIfInBounds_toArray, List.set_cons_zero, List.set_cons_succ]
          refine' wpAnyH_take (i := 1) (oi := { dst := some 74, op := Op.move (Operand.tmp 13), type := 3, pos := "law.go:121", after := #[], guard := none }) (v := .int .i64 (i : Int)) rfl (by kernel_rfl) (by kernel_rfl) (by kernel_rfl) (fun _ _ _ h => h) (Or.inl ⟨by rfl, fun w' hSw => by go_simp⟩) (by assumption) ?qz2
          try simp only [Act.put, List.setIfInBounds_toArray, List.set_cons_zero, List.set_cons_succ]
          refine' wpAnyH_take (i := 2) (oi := { dst := some 75, op := Op.indexAddr 46 (Operand.tmp 73) (Operand.tmp 74), type := 0, pos := "law.go:121", after := #[{ on := 0, ground := Ground.data }, { on := 1, ground := Ground.data }], guard := none }) (v := .pointer (some ⟨gg, i * 32, none⟩)) rfl (by kernel_rfl) (by kernel_rfl) (by kernel_rfl) (fun _ _ _ h => h) (Or.inl ⟨by rfl, fun w' hSw => by go_simp⟩) (by assumption) ?qz3
          try simp only [Act.put, List.setIfInBounds_toArray, List.set_cons_zero, List.set_cons_succ]
          refine' wpAnyH_take (i := 3) (oi := { dst := some 76, op := Op.load 49 (Operand.tmp 75), type := 49, pos := "law.go:121", after := #[{ on := 2, ground := Ground.data }], guard := none }) (v := .agg (u8s (nm k)).toArray) rfl (by kernel_rfl) (by kernel_rfl) (by kernel_rfl) (fun _ _ _ h => h) (yieldsIf_load_mid (by rfl) _ _ rfl gg (i * 32) rfl (u8s (nm k)) _ (fun w' hs => hs.1) Try.underlying49 rfl (size_nm k)) (by assumption) ?qz4
          try simp only [Act.put, List.setIfInBounds_toArray, List.set_cons_zero, List.set_cons_succ]
          refine' wpAnyH_take (i := 4) (oi := { dst := some 77, op := Op.move (Operand.tmp 12), type := 42, pos := "law.go:121", after := #[], guard := none }) (v := .slice (some ⟨gw, 0, none⟩) wn cw) rfl (by kernel_rfl) (by kernel_rfl) (by kernel_rfl) (fun _ _ _ h => h) (Or.inl ⟨by rfl, fun w' hSw => by go_simp⟩) (by assumption) ?qz5
          try simp only [Act.put, List.setIfInBounds_toArray, List.set_cons_zero, List.set_cons_succ]
          refine' wpAnyH_take (i := 5) (oi := { dst := some 78, op := Op.move (Operand.tmp 13), type := 3, pos := "law.go:121", after := #[], guard := none }) (v := .int .i64 (i : Int)) rfl (by kernel_rfl) (by kernel_rfl) (by kernel_rfl) (fun _ _ _ h => h) (Or.inl ⟨by rfl, fun w' hSw => by go_simp⟩) (by assumption) ?qz6
          try simp only [Act.put, List.setIfInBounds_toArray, List.set_cons_zero, List.set_cons_succ]
          refine' wpAnyH_take (i := 6) (oi := { dst := some 79, op := Op.indexAddr 42 (Operand.tmp 77) (Operand.tmp 78), type := 0, pos := "law.go:121", after := #[{ on := 4, ground := Ground.data }, { on := 5, ground := Ground.data }], guard := none }) (v := .pointer (some ⟨gw, i, none⟩)) rfl (by kernel_rfl) (by kernel_rfl) (by kernel_rfl) (fun _ _ _ h => h) (Or.inl ⟨by rfl, fun w' hSw => by go_simp⟩) (by assumption) ?qz7
          try simp only [Act.put, List.setIfInBounds_toArray, List.set_cons_zero, List.set_cons_succ]
          refine' wpAnyH_take (i := 7) (oi := { dst := some 80, op := Op.load 3 (Operand.tmp 79), type := 3, pos := "law.go:121", after := #[{ on := 6, ground := Ground.data }], guard := none }) (v := .int .i64 (k : Int)) rfl (by kernel_rfl) (by kernel_rfl) (by kernel_rfl) (fun _ _ _ h => h) (Or.inl ⟨by rfl, fun w' hSw => by (obtain ⟨_, s2⟩ := hSw; go_simp)⟩) (by assumption) ?qz8
          try simp only [Act.put, List.setIfInBounds_toArray, List.set_cons_zero, List.set_cons_succ]
          refine wpAnyH_ready (rs := [8]) (by kernel_rfl) (by simp) ?_
          refine AllReadyH.cons (o := { dst := some 81, op := Op.call { callee := Callee.value (Operand.func 12), args := #[Operand.tmp 80], argTypes := #[3] }, type := 34, pos := "law.go:121", after := #[{ on := 7, ground := Ground.data }], guard := none }) rfl (fun K hK => ?_) AllReadyH.nil
          rw [if_pos (by rfl)]
          go_simp
          with_reducible refine (HNM.out _).mono ?_
          rintro _ wz ⟨rfl, hbz⟩
          have HQB := Lib.hid (HQA.out.trans (hbz.mono HQA.out.size))
          clear hbz
          refine hK.out _ _ (HRG.out _ HQB.out) (fun hHeld => ?_)
          clear hK K
          try simp only [Act.put, List.setIfInBounds_toArray, List.set_cons_zero, List.set_cons_succ]
          refine' wpAnyH_take (i := 9) (oi := { dst := some 82, op := Op.binOp BinOp.neq 49 (Operand.tmp 76) (Operand.tmp 81) 49, type := 4, pos := "law.go:121", after := #[{ on := 3, ground := Ground.data }, { on := 8, ground := Ground.data }], guard := none }) (v := .bool false) rfl (by kernel_rfl) (by kernel_rfl) (by kernel_rfl) (fun _ _ _ h => h) (yieldsIf_neq32 (by rfl) (.tmp 76) (.tmp 81) rfl (nm k) rfl rfl (nm_length k)) (by assumption) ?qz9
          try simp only [Act.put, List.setIfInBounds_toArray, List.set_cons_zero, List.set_cons_succ]
          refine wpAnyH_done (by kernel_rfl) ?_ _
          clear z1 z2 ai
          go_wp2_with fail
          go_roundg (wn - (i + 1))
          case measure => have := HGK.out; omega
          case rel => exact ⟨i + 1, by go_num, by omega, Nat.le_refl _, HQB.out⟩
        · have d0 : ¬ ((i : Int) < (wn : Int)) := by omega
          go_wp2_with fail
          go_meet
          case rel => exact hb.out
    case rest =>
      have hb7 := hcut
      obtain ⟨w7, hw7⟩ : ∃ w7, w7 = wc := ⟨_, rfl⟩
      subst hw7
      have HB7W := Lib.hid (HB6W.out.trans (hb7.mono HB6W.out.size))
      have HBO7 := Lib.hid (HBO6.out.up hb7)
      have HK7 : Hid (Arr w7 34 ga ks) := (HB7W.out.block ga (Arr.lt E2.out)).trans E2.out
      obtain ⟨x, hx⟩ : ∃ x, look T (num ks (N + 1)) = x := ⟨_, rfl⟩
      obtain ⟨bv, hbv⟩ : ∃ bv, decide (0 < num ks (N + 1)) = bv := ⟨_, rfl⟩
      have hof := both_of HBO7.out HKL.out
      rw [HN.out, hx, hbv] at hof
      have HOF := Lib.hid hof
      have hrof := fun W (hW : Below w7.heap.size w7 W) => both_rof (HBO7.out.up hW) HKL.out
      rw [HN.out, hx, hbv] at hrof
      have HROF := Lib.hid hrof
      have hxm : x.2.length ≤ maxLen := by rw [← hx]; exact look_le HBO7.out.good _
      have HXM := Lib.hid hxm
      clear hcut hb7 hx hbv hof hrof hxm
      go_wp2_with (first | (refine wpList_load32 i34 rfl (.tmp 5) rfl ga rfl ks HK7.out HKL.out ?_) | fail)
      go_at_call 11
      refine HOF.out.mono ?_
      rintro _ w8 ⟨A8, c8, rfl, hl8, hb8⟩
      have HL8 := Lib.hid hl8
      have HB8 := Lib.hid hb8
      have HK8 : Hid (Arr w8 34 ga ks) := (hb8.block ga (Arr.lt HK7.out)).trans HK7.out
      clear hl8 hb8 HOF
      go_wp2_with (first | (refine wpList_load32 i34 rfl (.tmp 5) rfl ga rfl ks HK8.out HKL.out ?_) | fail)
      go_at_call 17
      refine (HROF.out w8 HB8.out).mono ?_
      rintro _ w9 ⟨A9, c9, rfl, hl9, hb9⟩
      have HL9 := Lib.hid hl9
      have HL8' := Lib.hid (HL8.out.up hb9)
      have HB9W := Lib.hid ((HB7W.out.trans (HB8.out.mono HB7W.out.size)).trans (hb9.mono (Nat.le_trans HB7W.out.size HB8.out.size)))
      obtain ⟨xk, hxk⟩ : ∃ xk, x.1 = xk := ⟨_, rfl⟩
      obtain ⟨xl, hxl⟩ : ∃ xl, x.2.length = xl := ⟨_, rfl⟩
      have HLI := Lib.hid (fun W (hW : Below w9.heap.size w9 W) => lists_any (c := c8) (d := c9) (HL8'.out.up hW) (HL9.out.up hW) HXM.out)
      rw [hxl, show decide (x.2 = x.2) = true from by simp] at HLI
      have dbv : (bv == bv) = true := by simp
      have dk : ((xk : Int) == (xk : Int)) = true := by simp
      rw [hxk, hxl]
      clear hl9 hb9 hxk hxl HROF
      go_wp2_with fail
      go_at_call 13
      refine (HLI.out _ (below_alc w9 _)).mono ?_
      rintro _ _ ⟨rfl, nr, rfl⟩
      go_wp2_with fail
      go_ret
      exact ⟨rfl, below_dN (E1.out.trans ((HB9W.out.trans ((below_alc w9 _).mono HB9W.out.size)).mono E1.out.size)) nr⟩
end Go.Proofs.Ytbhfjjlfpgineaa
