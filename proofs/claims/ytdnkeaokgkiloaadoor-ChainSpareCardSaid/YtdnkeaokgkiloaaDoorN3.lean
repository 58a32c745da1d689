/- The reference's Mix. Conditions: none. -/
import Derived.Test.YtdnkeaokgkiloaaDoorN2
import Derived.Test.YtdnkeaokgkiloaaDoorSg
namespace Go.Proofs.YtdnkeaokgkiloaaDoor
open Go.RowKit T
theorem refmac_g {w : World} {c1 c2 n m : Nat} {ok : Nat → Prop} {A1 A2 : Option Addr} {key text : List UInt8} (hk : Byt w ok A1 key) (ht : Byt w ok A2 text) (hok : ∀ b, ok b → b < w.heap.size) (hn : key.length = n) (hm : text.length = m) (hn3 : n ≤ 20000) (hm2 : m ≤ 15000) :
    Calls Tryd.prog 36 #[.slice A1 n c1, .slice A2 m c2] w fun e w' => e = .returned (.agg (u8s (S.hmac key text)).toArray) ∧ w.grownBy w' none := S.refmac_any S.hash_any (ok := ok) hk ht hok hn hm hn3 hm2
theorem rtbl_new {w : World} {ok : Nat → Prop} {rb : Nat} (h : w.heap[rb]? = some (.cells #[.slice none 0 0] 85 (0, 0))) (hok : ok rb) : RTbl w ok rb [] :=
  ⟨.slice none 0 0, [], h, hok, fun g hg => by simp [Value.ownBlock] at hg, World.ownsRow_nil _ _ _ _, rfl, fun i hi => by simp at hi, by simp⟩
theorem size36 : (Tryd.prog.info? 35).map (·.size) = some 1 := by kernel_rfl
theorem ref_out {w' : World} {g : Nat} {p : Option Addr} {fn : Func} {tmps : Array Value} {t : Tmp} (h : fn.results = #[.cell t 35]) (hp : tmps.getD t undef = .pointer (some ⟨g, 0, none⟩)) (hb : C.Blk w' g 35 [.pointer p]) :
    (results fn tmps).run Tryd.prog w' = .ok (.agg #[.pointer p]) w' := results_cell_row h tmps w' g 35 #[.pointer p] (0, 0) _ hp hb Tryd.underlying35 rfl size36
theorem rfree_any (w : World) : Calls Tryd.prog 27 #[] w fun e w' => ∃ rb, e = .returned (.agg #[.pointer (some ⟨rb, 0, none⟩)]) ∧ RTbl w' (fun b => w.heap.size ≤ b ∧ b < w'.heap.size) rb [] ∧ w.grownBy w' none := by
  go_enter Tryd.func27, Tryd.ntmps27
  go_wp2
  have hb : C.Blk (w.alloc (.cells #[.pointer (some ⟨w.heap.size + 1, 0, none⟩)] 35)) w.heap.size 35 [.pointer (some ⟨w.heap.size + 1, 0, none⟩)] := C.Blk.of_alloc w _ 35
  have g1 := World.grownBy_alloc w (.cells #[.pointer (some ⟨w.heap.size + 1, 0, none⟩)] 35) none
  have hz : (w.alloc (.cells #[.pointer (some ⟨w.heap.size + 1, 0, none⟩)] 35)).heap.size = w.heap.size + 1 := World.size_alloc _ _
  generalize w.alloc (.cells #[.pointer (some ⟨w.heap.size + 1, 0, none⟩)] 35) = W at hb g1 hz ⊢
  have g2 := World.grownBy_alloc W (.cells #[.slice none 0 0] 85) none
  have hr : (W.alloc (.cells #[.slice none 0 0] 85)).heap[W.heap.size]? = some (.cells #[.slice none 0 0] 85 (0, 0)) := heap_alloc_new W _
  have hz2 : (W.alloc (.cells #[.slice none 0 0] 85)).heap.size = W.heap.size + 1 := World.size_alloc _ _
  generalize W.alloc (.cells #[.slice none 0 0] 85) = V at g2 hr hz2 ⊢
  rw [hz] at hr
  exact bodyPost_ret (ref_out (g := w.heap.size) rfl rfl (hb.grown g2 (by simp))) rfl ⟨w.heap.size + 1, rfl, rtbl_new hr ⟨by omega, by omega⟩, g1.trans g2⟩
/-- A new suite of the reference. -/
def RNewE (w : World) (f : Bool) (e : Ending) (w' : World) : Prop :=
  w.grownBy w' none ∧ ((f = false ∧ e = .returned (.agg #[.pointer none])) ∨ (f = true ∧ ∃ rb, e = .returned (.agg #[.pointer (some ⟨rb, 0, none⟩)]) ∧ RTbl w' (fun b => w.heap.size ≤ b ∧ b < w'.heap.size) rb []))
theorem ref_any (w : World) (f : Bool) : Calls Tryd.prog 13 #[.bool f] w (RNewE w f) := by
  cases f
  · go_enter Tryd.func13, Tryd.ntmps13
    go_wp2
    have hb : C.Blk (w.alloc (.cells #[.pointer none] 35)) w.heap.size 35 [.pointer none] := C.Blk.of_alloc w _ 35
    have g1 := World.grownBy_alloc w (.cells #[.pointer none] 35) none
    generalize w.alloc (.cells #[.pointer none] 35) = W at hb g1 ⊢
    exact bodyPost_ret (ref_out (g := w.heap.size) rfl rfl hb) rfl ⟨g1, .inl ⟨rfl, rfl⟩⟩
  · go_enter Tryd.func13, Tryd.ntmps13
    go_wp2_with fail
    go_at_call 27
    refine (rfree_any _).mono ?_
    rintro _ w2 ⟨rb, rfl, h1, g2⟩
    have hb : C.Blk w2 w.heap.size 35 [.pointer none] := (C.Blk.of_alloc w #[.pointer none] 35).grown g2 (by simp)
    have g1 := World.grownBy.trans (World.grownBy_alloc w (.cells #[.pointer none] 35) none) g2
    have hc : w2.cell? ⟨w.heap.size, 0, none⟩ = some (.pointer none) := hb.get 0 _ rfl
    have hf : w2.frozen? ⟨w.heap.size, 0, none⟩ = false := hb.frozen 0
    rw [World.size_alloc] at h1
    have H1 := Lib.hid h1
    have G1 := Lib.hid g1
    have HB := Lib.hid hb
    clear h1 g1 hb g2
    go_wp2
    refine bodyPost_ret (ref_out (g := w.heap.size) rfl rfl (HB.out.set 0 _)) rfl ⟨C.grown_new G1.out (Nat.le_refl _) 0 _, .inr ⟨rfl, rb, rfl, ?_⟩⟩
    have hk := C.grown_set w2 w.heap.size 0 (.pointer (some ⟨rb, 0, none⟩))
    refine (H1.out.keep hk.size fun b hb hlt => hk.block b hlt (by simp; omega)).imp fun b _ hb => ⟨by omega, Nat.lt_of_lt_of_le hb.2 hk.size⟩
set_option maxRecDepth 100000 in
set_option maxHeartbeats 4000000 in
theorem rmix_real {w : World} {ok : Nat → Prop} {A : Option Addr} {ps : List (List UInt8)} {n c : Nat} (x : UInt8) (hx : Lst w ok A ps) (hok : ∀ b, ok b → b < w.heap.size) (hn : ps.length = n) (hmo : MixOk ps) :
    Calls Tryd.prog 26 #[.agg #[.pointer none], .int .u8 (x.toNat : Int), .slice A n c] w fun e w' => MixA none x ps e ∧ w.grownBy w' none := by
  have HX := Lib.hid hx
  have HO := Lib.hid hok
  have HN := Lib.hid hn
  have HMO := Lib.hid hmo
  clear hx hok hn hmo


  have HG0 := Lib.hid (grown_below (World.grownBy_alloc w (.cells #[.pointer none] 35) none))
  have hb0 : C.Blk (w.alloc (.cells #[.pointer none] 35)) w.heap.size 35 [.pointer none] := C.Blk.of_alloc w _ 35
  have HB0 := Lib.hid hb0
  clear hb0
  go_enter Tryd.func26, Tryd.ntmps26
  go_wp2_with (refine wpList_alloc32 i34 rfl rfl ?_)
  intro w1 k1 b1 z1
  have HB1 := Lib.hid (HB0.out.keep (b1.block _ (by simp)))
  have B1 := Lib.hid (HG0.out.trans (b1.mono (by simp)))
  have K1 : Hid (Arr w1 22 (w.heap.size + 1) z32) := k1
  have X1 := Lib.hid ((HX.out.below B1.out HO.out).imp (ok' := fun b => b < w1.heap.size) fun _ hb => Nat.lt_of_lt_of_le (HO.out _ hb) B1.out.size)
  clear k1 b1 z1 HG0 HB0 HX HO
  obtain ⟨gr, hgr⟩ : ∃ g, g = w.heap.size + 1 := ⟨_, rfl⟩
  rw [← hgr] at K1 ⊢
  obtain ⟨gs, hgs⟩ : ∃ g, g = w.heap.size := ⟨_, rfl⟩
  rw [← hgs] at HB1 ⊢
  have NB : Hid (w.heap.size ≤ gr) := by show w.heap.size ≤ gr; omega
  clear hgs hgr
  by_cases h8 : 8 < n
  · exact absurd HMO.out (not_mixOk_long (by rw [HN.out]; exact h8))
  · have d0 : ((8 : Int) < (n : Int)) = False := by simp; omega
    have d1 : decide ((8 : Int) < (n : Int)) = false := by simp; omega
    -- the first two: the label, and the row that holds it
    have g2 := World.grownBy_alloc w1 (.cells #[.int .u8 (x.toNat : Int)] 5) none
    have y2 := byt_one w1 x
    have s2 : (w1.alloc (.cells #[.int .u8 (x.toNat : Int)] 5)).heap.size = w1.heap.size + 1 := World.size_alloc _ _
    have y2' : Byt (w1.alloc (.cells #[.int .u8 (x.toNat : Int)] 5)) (fun b => b < (w1.alloc (.cells #[.int .u8 (x.toNat : Int)] 5)).heap.size) (some ⟨w1.heap.size, 0, none⟩) [x] := y2.imp fun b hb => by rw [hb, s2]; exact Nat.lt_succ_self _
    have r3 := Row22.one (B := w1.heap.size) (xl := 1) (c := 1) g2.size rfl (Nat.le_refl _) (by unfold maxLen; omega) y2' (fun _ h => h)
    have g3 := World.grownBy_alloc (w1.alloc (.cells #[.int .u8 (x.toNat : Int)] 5)) (.cells #[.slice (some ⟨w1.heap.size, 0, none⟩) 1 1] 66) none
    rw [s2] at r3
    have R3 := Lib.hid r3
    have L3 := Lib.hid (grown_below (g2.trans g3))
    clear g2 y2 s2 y2' r3 g3
    go_wp2
    go_loopw [8, 9] (fun v i wr => ∃ k : Nat, k ≤ n ∧ i = .int .i64 k ∧ Row22 w1.heap.size wr v (k + 1) ([x] :: ps.take k) ∧ Below w1.heap.size w1 wr ∧ ∀ j (hj : j < ps.length), j < k → ps[j].length ≤ 1024) (fun _ i _ => n - (intOf i).toNat)
    case atStart => exact ⟨0, Nat.zero_le _, rfl, R3.out, L3.out, fun j _ h => absurd h (by omega)⟩
    case round =>
      clear R3 L3
      obtain ⟨k, hk, rfl, hrow, hlw, hall⟩ := hrel
      have HALL := Lib.hid hall
      have ROW := Lib.hid hrow
      have LW := Lib.hid hlw
      clear hall hrow hlw
      by_cases hlt : k < n
      · have hkl : k < ps.length := by rw [HN.out]; exact hlt
        obtain ⟨ad, A', c', rfl, had, hc0, hl1, hl2, hbt⟩ := X1.out k hkl
        have hc : wr.cell? (ad.add k) = some (.slice A' ps[k].length c') := (LW.out.cell (by rw [block_of_plus]; exact had)).trans hc0
        obtain ⟨pk, hpk⟩ : ∃ p, ps[k] = p := ⟨_, rfl⟩
        rw [hpk] at hc hl1 hbt
        obtain ⟨l, hl⟩ : ∃ l, pk.length = l := ⟨_, rfl⟩
        rw [hl] at hc hl1
        have HPK := Lib.hid hpk
        have HLL := Lib.hid hl
        by_cases hbig : l ≤ 1024
        · have e0 : ((1024 : Int) < (l : Int)) = False := by simp; omega
          have e1 : decide ((1024 : Int) < (l : Int)) = false := by simp; omega
          have hbt2 := (hbt.below LW.out fun _ h => h)
          have hl3 := lst_lit1 (w := wr) (A := A') hl hl1 hl2 hbt2 (fun b hb => Nat.lt_of_lt_of_le hb LW.out.size)
          have hga := grown_below (World.grownBy_alloc wr (.cells #[.slice A' l c'] 66) none)
          have hra := ROW.out.up hga
          have hsz : (wr.alloc (.cells #[.slice A' l c'] 66)).heap.size = wr.heap.size + 1 := World.size_alloc _ _
          have hown := ROW.out.own
          have hl4 : Lst (wr.alloc (.cells #[.slice A' l c'] 66)) (fun b => b < (wr.alloc (.cells #[.slice A' l c'] 66)).heap.size ∧ some b ≠ u8.ownBlock) (some ⟨wr.heap.size, 0, none⟩) [pk] := hl3.imp fun b hb => by
            have := LW.out.size
            refine ⟨by rw [hsz]; rcases hb with hb | hb <;> omega, fun e => ?_⟩
            have h2 := hown b e.symm
            rcases hb with hb | hb <;> omega
          have HRA := Lib.hid hra
          have HL4 := Lib.hid hl4
          have NBB : Hid (w1.heap.size ≤ (wr.alloc (.cells #[.slice A' l c'] 66)).heap.size) := by have := LW.out.size; show w1.heap.size ≤ _; omega
          have GAL := Lib.hid hga
          clear hl hpk hbt hbt2 hl3 hga hra hsz hown hl4 hc0 had
          go_wp2_with (at_builtin; refine wpList_app22 rfl (.tmp 32) (.tmp 37) rfl (c2 := 1) (k := k + 2) rfl rfl HRA.out HL4.out rfl rfl (by omega) NBB.out ?_)
          intro A3 c3 w3 r3 b3
          have R3 : Hid (Row22 w1.heap.size w3 (.slice A3 (k + 2) c3) (k + 1 + 1) ([x] :: ps.take (k + 1))) := by
            have e : [x] :: ps.take k ++ [pk] = [x] :: ps.take (k + 1) := by
              rw [← HPK.out, List.cons_append, List.take_append_getElem hkl]
            rw [← e]
            exact r3
          have B3 := Lib.hid (LW.out.trans ((GAL.out.mono LW.out.size).trans b3))
          clear r3 b3 HRA HL4 NBB GAL hc
          go_wp2
          go_roundw
          case rel =>
            refine ⟨k + 1, by omega, by go_num, R3.out, B3.out, fun j hj hjk => ?_⟩
            by_cases e : j = k
            · subst e
              rw [HPK.out, HLL.out]
              exact hbig
            · exact HALL.out j hj (by omega)
          case measure => simp [intOf]; omega
        · exact absurd HMO.out (not_mixOk_big hkl (by rw [hpk, hl]; omega))
      · obtain rfl : k = n := by omega
        have ht : ps.take k = ps := List.take_of_length_le (by rw [HN.out]; exact Nat.le_refl _)
        have hrow := ROW.out
        rw [ht] at hrow
        have ROW2 := Lib.hid hrow
        have HB2 := Lib.hid (HB1.out.keep (LW.out.block _ HB1.out.lt))
        have K2 := Lib.hid (Arr.keep K1.out (LW.out.block _ (Arr.lt K1.out)))
        have B2 := Lib.hid (B1.out.trans (LW.out.mono B1.out.size))
        have X2 := Lib.hid ((X1.out.below LW.out fun _ h => h).imp (ok' := fun b => b < wr.heap.size) fun _ hb => Nat.lt_of_lt_of_le hb LW.out.size)
        have hcs : wr.cell? ⟨gs, 0, none⟩ = some (.pointer none) := HB2.out.get 0 _ rfl
        clear HALL ht hrow ROW HB1 K1 B1 X1 LW
        have hj := refjoin_any (c := c) X2.out (fun _ h => h) (by unfold maxLen; rw [HN.out]; omega)
        rw [HN.out] at hj
        go_wp2_with fail
        go_at_call 35
        refine hj.mono ?_
        rintro _ w3 (⟨-, A3, c3, rfl, q1, q2, q3, b3⟩ | ⟨hno, -⟩)
        · have K3 := Lib.hid (Arr.keep K2.out (b3.block _ (Arr.lt K2.out)))
          have B3 := Lib.hid (B2.out.trans (b3.mono B2.out.size))
          obtain ⟨jl, hjl⟩ : ∃ l, (jn ps).length = l := ⟨_, rfl⟩
          have hj15 := jn_len HMO.out
          rw [hjl] at q1 hj15 ⊢
          have q3' : Byt w3 (fun b => b < w3.heap.size) A3 (jn ps) := q3.imp fun _ hb => hb.2
          have hga := World.grownBy_alloc w3 (.cells #[.int .u8 (x.toNat : Int)] 5) none
          have hx1 := byt_one w3 x
          have hx1' : Byt (w3.alloc (.cells #[.int .u8 (x.toNat : Int)] 5)) (fun b => b < w3.heap.size + 1) (some ⟨w3.heap.size, 0, none⟩) [x] := hx1.imp fun b hb => by rw [hb]; exact Nat.lt_succ_self _
          have hj1' : Byt (w3.alloc (.cells #[.int .u8 (x.toNat : Int)] 5)) (fun b => b < w3.heap.size + 1) A3 (jn ps) := (q3'.below (grown_below hga) fun _ h => h).imp fun b hb => Nat.lt_succ_of_lt hb
          have hmc := refmac_g (c1 := 1) (c2 := c3) (n := 1) (m := jl) hx1' hj1' (fun b hb => by rw [World.size_alloc]; exact hb) rfl hjl (by omega) hj15
          have K3a := Lib.hid (Arr.grown K3.out hga (by simp))
          have B3a := Lib.hid (B3.out.trans ((grown_below hga).mono B3.out.size))
          clear hj b3 q1 q3 q3' hga hx1 hjl hx1' hj1' hcs
          go_wp2_with fail
          go_at_call 36
          refine hmc.mono ?_
          rintro _ w4 ⟨rfl, g4⟩
          have K4 := Lib.hid (Arr.grown K3a.out g4 (by simp))
          have B4 := Lib.hid (B3a.out.trans ((grown_below g4).mono B3a.out.size))
          obtain ⟨mm, hmm⟩ : ∃ m, m = S.hmac [x] (jn ps) := ⟨_, rfl⟩
          have hml : mm.length = 32 := by rw [hmm, S.hmac_length]
          have HMM := Lib.hid hmm
          rw [← hmm]
          clear hmc g4 hmm
          go_wp2_with (refine wpList_store32 i34 rfl _ _ rfl gr z32 mm rfl rfl K4.out z32_length hml w.heap.size NB.out ?_)
          intro w5 k5 b5 o5 z5
          have K5 := Lib.hid k5
          have B5 := Lib.hid (B4.out.trans b5)
          clear k5 b5 o5 z5
          go_wp2
          exact bodyPost_ret (results_two i34 rfl _ _ gr mm rfl K5.out hml) rfl ⟨by show _ = _; rw [HMM.out]; rfl, below_grown B5.out⟩
        · exact absurd (mixOk_fit HMO.out) hno
set_option maxRecDepth 100000 in
set_option maxHeartbeats 4000000 in
theorem rmix_free {w : World} {ok0 ok : Nat → Prop} {rb : Nat} {A : Option Addr} {ps : List (List UInt8)} {n c : Nat} (x : UInt8) {T : List Trm} (h : RTbl w ok0 rb T) (hgt : ∀ x ∈ T, _root_.Go.Proofs.YtdnkeaokgkiloaaDoor.T.Good x) (hr : T.length ≤ 60000) (hx : Lst w ok A ps) (hok : ∀ b, ok b → b < w.heap.size) (hn : ps.length = n) (hmo : MixOk ps) :
    Calls Tryd.prog 26 #[.agg #[.pointer (some ⟨rb, 0, none⟩)], .int .u8 (x.toNat : Int), .slice A n c] w fun e w' => MixA (some T) x ps e ∧ RTbl w' (More ok0 w w') rb (mk T 7 ([x] :: ps)).2 ∧ Md ok0 w w' := by
  have HX := Lib.hid hx
  have HO := Lib.hid hok
  have HN := Lib.hid hn
  have HMO := Lib.hid hmo
  clear hx hok hn hmo
  have HH := Lib.hid h
  have HR := Lib.hid hr
  have HGT := Lib.hid hgt
  clear h hr hgt
  have HG0 := Lib.hid (grown_below (World.grownBy_alloc w (.cells #[.pointer (some ⟨rb, 0, none⟩)] 35) none))
  have hb0 : C.Blk (w.alloc (.cells #[.pointer (some ⟨rb, 0, none⟩)] 35)) w.heap.size 35 [.pointer (some ⟨rb, 0, none⟩)] := C.Blk.of_alloc w _ 35
  have HB0 := Lib.hid hb0
  clear hb0
  go_enter Tryd.func26, Tryd.ntmps26
  go_wp2_with (refine wpList_alloc32 i34 rfl rfl ?_)
  intro w1 k1 b1 z1
  have HB1 := Lib.hid (HB0.out.keep (b1.block _ (by simp)))
  have B1 := Lib.hid (HG0.out.trans (b1.mono (by simp)))
  have K1 : Hid (Arr w1 22 (w.heap.size + 1) z32) := k1
  have X1 := Lib.hid ((HX.out.below B1.out HO.out).imp (ok' := fun b => b < w1.heap.size) fun _ hb => Nat.lt_of_lt_of_le (HO.out _ hb) B1.out.size)
  clear k1 b1 z1 HG0 HB0 HX HO
  obtain ⟨gr, hgr⟩ : ∃ g, g = w.heap.size + 1 := ⟨_, rfl⟩
  rw [← hgr] at K1 ⊢
  obtain ⟨gs, hgs⟩ : ∃ g, g = w.heap.size := ⟨_, rfl⟩
  rw [← hgs] at HB1 ⊢
  have NB : Hid (w.heap.size ≤ gr) := by show w.heap.size ≤ gr; omega
  clear hgs hgr
  by_cases h8 : 8 < n
  · exact absurd HMO.out (not_mixOk_long (by rw [HN.out]; exact h8))
  · have d0 : ((8 : Int) < (n : Int)) = False := by simp; omega
    have d1 : decide ((8 : Int) < (n : Int)) = false := by simp; omega
    -- the first two: the label, and the row that holds it
    have g2 := World.grownBy_alloc w1 (.cells #[.int .u8 (x.toNat : Int)] 5) none
    have y2 := byt_one w1 x
    have s2 : (w1.alloc (.cells #[.int .u8 (x.toNat : Int)] 5)).heap.size = w1.heap.size + 1 := World.size_alloc _ _
    have y2' : Byt (w1.alloc (.cells #[.int .u8 (x.toNat : Int)] 5)) (fun b => b < (w1.alloc (.cells #[.int .u8 (x.toNat : Int)] 5)).heap.size) (some ⟨w1.heap.size, 0, none⟩) [x] := y2.imp fun b hb => by rw [hb, s2]; exact Nat.lt_succ_self _
    have r3 := Row22.one (B := w1.heap.size) (xl := 1) (c := 1) g2.size rfl (Nat.le_refl _) (by unfold maxLen; omega) y2' (fun _ h => h)
    have g3 := World.grownBy_alloc (w1.alloc (.cells #[.int .u8 (x.toNat : Int)] 5)) (.cells #[.slice (some ⟨w1.heap.size, 0, none⟩) 1 1] 66) none
    rw [s2] at r3
    have R3 := Lib.hid r3
    have L3 := Lib.hid (grown_below (g2.trans g3))
    clear g2 y2 s2 y2' r3 g3
    go_wp2
    go_loopw [8, 9] (fun v i wr => ∃ k : Nat, k ≤ n ∧ i = .int .i64 k ∧ Row22 w1.heap.size wr v (k + 1) ([x] :: ps.take k) ∧ Below w1.heap.size w1 wr ∧ ∀ j (hj : j < ps.length), j < k → ps[j].length ≤ 1024) (fun _ i _ => n - (intOf i).toNat)
    case atStart => exact ⟨0, Nat.zero_le _, rfl, R3.out, L3.out, fun j _ h => absurd h (by omega)⟩
    case round =>
      clear R3 L3
      obtain ⟨k, hk, rfl, hrow, hlw, hall⟩ := hrel
      have HALL := Lib.hid hall
      have ROW := Lib.hid hrow
      have LW := Lib.hid hlw
      clear hall hrow hlw
      by_cases hlt : k < n
      · have hkl : k < ps.length := by rw [HN.out]; exact hlt
        obtain ⟨ad, A', c', rfl, had, hc0, hl1, hl2, hbt⟩ := X1.out k hkl
        have hc : wr.cell? (ad.add k) = some (.slice A' ps[k].length c') := (LW.out.cell (by rw [block_of_plus]; exact had)).trans hc0
        obtain ⟨pk, hpk⟩ : ∃ p, ps[k] = p := ⟨_, rfl⟩
        rw [hpk] at hc hl1 hbt
        obtain ⟨l, hl⟩ : ∃ l, pk.length = l := ⟨_, rfl⟩
        rw [hl] at hc hl1
        have HPK := Lib.hid hpk
        have HLL := Lib.hid hl
        by_cases hbig : l ≤ 1024
        · have e0 : ((1024 : Int) < (l : Int)) = False := by simp; omega
          have e1 : decide ((1024 : Int) < (l : Int)) = false := by simp; omega
          have hbt2 := (hbt.below LW.out fun _ h => h)
          have hl3 := lst_lit1 (w := wr) (A := A') hl hl1 hl2 hbt2 (fun b hb => Nat.lt_of_lt_of_le hb LW.out.size)
          have hga := grown_below (World.grownBy_alloc wr (.cells #[.slice A' l c'] 66) none)
          have hra := ROW.out.up hga
          have hsz : (wr.alloc (.cells #[.slice A' l c'] 66)).heap.size = wr.heap.size + 1 := World.size_alloc _ _
          have hown := ROW.out.own
          have hl4 : Lst (wr.alloc (.cells #[.slice A' l c'] 66)) (fun b => b < (wr.alloc (.cells #[.slice A' l c'] 66)).heap.size ∧ some b ≠ u8.ownBlock) (some ⟨wr.heap.size, 0, none⟩) [pk] := hl3.imp fun b hb => by
            have := LW.out.size
            refine ⟨by rw [hsz]; rcases hb with hb | hb <;> omega, fun e => ?_⟩
            have h2 := hown b e.symm
            rcases hb with hb | hb <;> omega
          have HRA := Lib.hid hra
          have HL4 := Lib.hid hl4
          have NBB : Hid (w1.heap.size ≤ (wr.alloc (.cells #[.slice A' l c'] 66)).heap.size) := by have := LW.out.size; show w1.heap.size ≤ _; omega
          have GAL := Lib.hid hga
          clear hl hpk hbt hbt2 hl3 hga hra hsz hown hl4 hc0 had
          go_wp2_with (at_builtin; refine wpList_app22 rfl (.tmp 32) (.tmp 37) rfl (c2 := 1) (k := k + 2) rfl rfl HRA.out HL4.out rfl rfl (by omega) NBB.out ?_)
          intro A3 c3 w3 r3 b3
          have R3 : Hid (Row22 w1.heap.size w3 (.slice A3 (k + 2) c3) (k + 1 + 1) ([x] :: ps.take (k + 1))) := by
            have e : [x] :: ps.take k ++ [pk] = [x] :: ps.take (k + 1) := by
              rw [← HPK.out, List.cons_append, List.take_append_getElem hkl]
            rw [← e]
            exact r3
          have B3 := Lib.hid (LW.out.trans ((GAL.out.mono LW.out.size).trans b3))
          clear r3 b3 HRA HL4 NBB GAL hc
          go_wp2
          go_roundw
          case rel =>
            refine ⟨k + 1, by omega, by go_num, R3.out, B3.out, fun j hj hjk => ?_⟩
            by_cases e : j = k
            · subst e
              rw [HPK.out, HLL.out]
              exact hbig
            · exact HALL.out j hj (by omega)
          case measure => simp [intOf]; omega
        · exact absurd HMO.out (not_mixOk_big hkl (by rw [hpk, hl]; omega))
      · obtain rfl : k = n := by omega
        have ht : ps.take k = ps := List.take_of_length_le (by rw [HN.out]; exact Nat.le_refl _)
        have hrow := ROW.out
        rw [ht] at hrow
        have ROW2 := Lib.hid hrow
        have HB2 := Lib.hid (HB1.out.keep (LW.out.block _ HB1.out.lt))
        have K2 := Lib.hid (Arr.keep K1.out (LW.out.block _ (Arr.lt K1.out)))
        have B2 := Lib.hid (B1.out.trans (LW.out.mono B1.out.size))
        have X2 := Lib.hid ((X1.out.below LW.out fun _ h => h).imp (ok' := fun b => b < wr.heap.size) fun _ hb => Nat.lt_of_lt_of_le hb LW.out.size)
        have hcs : wr.cell? ⟨gs, 0, none⟩ = some (.pointer (some ⟨rb, 0, none⟩)) := HB2.out.get 0 _ rfl
        clear HALL ht hrow ROW HB1 K1 B1 X1 LW
        obtain ⟨A4, c4, rfl, hl4⟩ := ROW2.out.lst
        have hlen : ([x] :: ps).length = k + 1 := by rw [List.length_cons, HN.out]
        obtain ⟨nn, hnn⟩ : ∃ m, (mk T 7 ([x] :: ps)).1 = m := ⟨_, rfl⟩
        obtain ⟨TT, hTT⟩ : ∃ t, (mk T 7 ([x] :: ps)).2 = t := ⟨_, rfl⟩
        have hnn0 : 0 < nn := by rw [← hnn]; exact (mk_room HMO.out HR.out).1
        have HNN := Lib.hid hnn
        have HTT := Lib.hid hTT
        have hmk : Calls Tryd.prog 34 #[.pointer (some ⟨rb, 0, none⟩), .int .i64 7, .slice A4 (k + 1) c4] wr fun e w' => e = .returned (.tuple #[.agg (u8s (nm nn)).toArray, .bool true]) ∧ RTbl w' (More (fun b => ok0 b ∧ b < w.heap.size) wr w') rb TT ∧ Md (fun b => ok0 b ∧ b < w.heap.size) wr w' := by
          have h := rmake_any (kind := 7) (c := c4) (((HH.out.imp (ok' := fun b => ok0 b ∧ b < w.heap.size) fun _ hlt ho => ⟨ho, hlt⟩)).below B2.out) HGT.out hl4 (fun _ h => h) (by rw [hlen]; unfold maxLen; omega)
          rw [hlen] at h
          refine h.mono fun e w' he => ?_
          obtain ⟨h1, h2, h3⟩ := he
          rw [hnn] at h1
          rw [hTT] at h2
          refine ⟨?_, h2, h3⟩
          rw [h1]
          unfold nm0
          rw [if_neg (by omega), decide_eq_true hnn0]
        clear hnn hTT hnn0
        go_wp2_with fail
        go_at_call 34
        refine hmk.mono ?_
        rintro _ w4 ⟨rfl, t4, m4⟩
        have T4 := Lib.hid t4
        have NS : Hid (w.heap.size ≤ wr.heap.size ∧ gr < wr.heap.size) := ⟨B2.out.size, Arr.lt K2.out⟩
        clear t4
        have hk4 : Arr w4 22 gr z32 := Arr.keep K2.out (m4.block gr (Arr.lt K2.out) (fun h => Nat.lt_irrefl _ (Nat.lt_of_lt_of_le h.2 NB.out)))
        have K4 := Lib.hid hk4
        have M4 : Hid (Md ok0 w w4) := (Md.of_below B2.out).trans (m4.imp fun _ _ h => .inl h.1)
        have NR : Hid (gr < w4.heap.size) := Arr.lt hk4
        clear hmk m4 hk4 hcs
        go_wp2_with (refine wpList_store_ar ar25 rfl _ _ rfl gr z32 (nm nn) rfl rfl K4.out z32_length (nm_length nn) ?_)
        intro w5 k5 g5 z5
        have K5 := Lib.hid k5
        have M5 : Hid (Md ok0 w w5) := M4.out.trans ⟨g5.os, g5.tape, g5.output, g5.size, fun k hk hn => g5.block k hk (fun e => hn (by rw [Option.some.inj e]; exact .inr ⟨NB.out, NR.out⟩))⟩
        have T5 : Hid (RTbl w5 (More ok0 w w5) rb TT) := by
          refine (T4.out.keep (by rw [z5]; exact Nat.le_refl _) fun b hb hlt => ?_).imp fun b hlt hb => ?_
          · refine g5.block b hlt fun e => ?_
            have e' : b = gr := Option.some.inj e
            subst e'
            rcases hb with hb | hb
            · exact Nat.lt_irrefl _ (Nat.lt_of_lt_of_le hb.2 NB.out)
            · exact Nat.lt_irrefl _ (Nat.lt_of_lt_of_le NS.out.2 hb.1)
          · rcases hb with hb | hb
            · exact .inl hb.1
            · exact .inr ⟨Nat.le_trans NS.out.1 hb.1, hlt⟩
        clear k5 g5 z5 T4
        go_wp2
        exact bodyPost_ret (results_two i34 rfl _ _ gr (nm nn) rfl K5.out (nm_length nn)) rfl ⟨by show _ = _; rw [← HNN.out]; rfl, by rw [HTT.out]; exact T5.out, M5.out⟩
end Go.Proofs.YtdnkeaokgkiloaaDoor
