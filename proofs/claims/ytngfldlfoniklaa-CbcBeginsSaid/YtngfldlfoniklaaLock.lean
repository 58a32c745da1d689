/- The reference's Lock. Conditions: its words and its table lie as they should. -/
import Derived.Test.YtngfldlfoniklaaLay
import Derived.Deep.CutRange
import Derived.Deep.MidRow
import Derived.StillTailTactics
namespace Go.Proofs.Ytngfldlfoniklaa
open Go.RowKit
section
variable {w : World} {ops : Array Oper} {rest : List Oper} {o : Oper} {a : Act} {Q : Exit → Act → World → Prop}
theorem wpList_box23 (hgd : o.guard = none) (x : Operand) (s : State) (ho : o.op = .box 23 x) (hx : a.eval x = .agg (bytesOf s).toArray)
    (h : ∀ w', Blk w' w.heap.size 23 (bytesOf s) → w.grownBy w' none → w'.heap.size = w.heap.size + 1 → wpList Try.prog ops Q rest (a.put o.dst (.pointer (some ⟨w.heap.size, 0, none⟩))) w') : wpList Try.prog ops Q (o :: rest) a w := by
  refine wpList_plain hgd fun K hK => ?_
  have hrun := run_box23 w s
  generalize bytesOf s = z at hrun h hx
  unfold Oper.wp
  simp only [execOp, ho, hx, Sem.run_bind, hrun, Result.andThen_ok, Sem.run_pure]
  exact hK _ _ (h _ (Blk.of_alloc w _ 23) (World.grownBy_alloc w _ none) (World.size_alloc w _))
theorem wpList_alloc47 (hgd : o.guard = none) (ho : o.op = .alloc 58)
    (h : ∀ w', Blk w' w.heap.size 58 (ints (List.replicate 16 0)) → w.grownBy w' none → w'.heap.size = w.heap.size + 1 → wpList Try.prog ops Q rest (a.put o.dst (.pointer (some ⟨w.heap.size, 0, none⟩))) w') : wpList Try.prog ops Q (o :: rest) a w := by
  refine wpList_plain hgd fun K hK => ?_
  have hrun := run_alloc47 w
  generalize ints (List.replicate 16 0) = z at hrun h
  unfold Oper.wp
  simp only [execOp, ho, Sem.run_bind, hrun, Result.andThen_ok, Sem.run_pure]
  exact hK _ _ (h _ (Blk.of_alloc w _ 58) (World.grownBy_alloc w _ none) (World.size_alloc w _))
theorem wpList_alloc23 (hgd : o.guard = none) (ho : o.op = .alloc 23)
    (h : ∀ w', Blk w' w.heap.size 23 (bytesOf (fun _ => 0)) → w.grownBy w' none → w'.heap.size = w.heap.size + 1 → wpList Try.prog ops Q rest (a.put o.dst (.pointer (some ⟨w.heap.size, 0, none⟩))) w') : wpList Try.prog ops Q (o :: rest) a w := by
  refine wpList_plain hgd fun K hK => ?_
  have hrun := run_alloc23 w
  generalize bytesOf (fun _ => 0) = z at hrun h
  unfold Oper.wp
  simp only [execOp, ho, Sem.run_bind, hrun, Result.andThen_ok, Sem.run_pure]
  exact hK _ _ (h _ (Blk.of_alloc w _ 23) (World.grownBy_alloc w _ none) (World.size_alloc w _))
end
theorem xor_small (a b : Nat) (ha : a < 256) (hb : b < 256) : bits .xor .i64 (a : Int) (b : Int) = ((a ^^^ b : Nat) : Int) := i64_xor_nat a b (by omega) (by omega)
theorem grown_drew {w wr : World} {row : Option Nat} (h : w.grownBy wr row) : w.grownBy wr.drew row := ⟨h.os, h.tape, h.output, h.size, h.block⟩
/-- The state behind so many rounds; the fourteenth is the last. -/
def stt (k : Nat → State) (s : State) (m : Nat) : State := if m < 14 then rounds k s m else lockS k s
theorem stt_zero (k : Nat → State) (s : State) : stt k s 0 = keyS (k 0) s := rfl
theorem stt_mid (k : Nat → State) (s : State) (m : Nat) (h : m + 1 < 14) : stt k s (m + 1) = keyS (k (m + 1)) (mixS (rowS (subS (stt k s m)))) := by
  unfold stt
  rw [if_pos h, if_pos (by omega)]
  rfl
theorem stt_last (k : Nat → State) (s : State) : stt k s 14 = keyS (k 14) (rowS (subS (stt k s 13))) := rfl
theorem rows_congr {done done' : Nat → Nat → Bool} {f old : Nat → Nat → Nat} (h : ∀ r, r < 4 → ∀ k, k < 4 → done r k = done' r k) : rows done f old = rows done' f old := by
  unfold rows
  apply List.map_congr_left
  intro q hq
  have hq16 : q < 16 := by simpa using hq
  rw [h _ (by omega) _ (by omega)]
/-- What a round finds besides: the words and the table as ever, the cipher's two slices, the answer's place. -/
def Env (W : World) (gc go : Nat) (cs : List Value) (wx : World) : Prop := W.grownBy wx none ∧ Blk wx gc 43 cs ∧ Blk wx go 23 (bytesOf fun _ => 0)
theorem Env.step {W wx wy : World} {gc go : Nat} {cs : List Value} {g : Nat} (h : Env W gc go cs wx) (hg : wx.grownBy wy (some g)) (h1 : W.heap.size ≤ g) (h2 : gc ≠ g) (h3 : go ≠ g) : Env W gc go cs wy :=
  ⟨World.grownBy.andThen h.1 hg (by rintro _ ⟨⟩; exact .inl h1), h.2.1.grown hg (fun e => h2 (Option.some.inj e)), h.2.2.grown hg (fun e => h3 (Option.some.inj e))⟩
theorem Env.new {W wx wy : World} {gc go : Nat} {cs : List Value} (h : Env W gc go cs wx) (hg : wx.grownBy wy none) : Env W gc go cs wy :=
  ⟨World.grownBy.trans h.1 hg, h.2.1.grown hg (by simp), h.2.2.grown hg (by simp)⟩
theorem Env.drew {W wx : World} {gc go : Nat} {cs : List Value} (h : Env W gc go cs wx) : Env W gc go cs wx.drew := ⟨grown_drew h.1, h.2.1.keep rfl, h.2.2.keep rfl⟩
def fromZero (_ _ : Nat) : Nat := 0
theorem rows_zero (f : Nat → Nat → Nat) : rows (fun _ _ => false) f fromZero = List.replicate 16 0 := by
  unfold rows fromZero
  rfl
/-- The first i bytes of L; behind them 0. -/
def upto (L : State) (i : Nat) : State := fun j => if j.val < i then L j else 0
theorem upto_zero (L : State) : upto L 0 = fun _ => 0 := by funext j; simp [upto]
theorem upto_all (L : State) : upto L 16 = L := by funext j; simp [upto, j.isLt]
theorem bytesOf_upto (L : State) (i : Nat) (h : i < 16) : (bytesOf (upto L i)).set i (.int .u8 ((L ⟨i, h⟩).toNat : Int)) = bytesOf (upto L (i + 1)) := by
  apply List.ext_getElem?
  intro q
  by_cases hq : q < 16
  · rw [List.getElem?_set, bytesOf_get _ q hq, bytesOf_length]
    by_cases e : i = q
    · subst e; rw [bytesOf_get _ i h]; simp [upto, h]
    · rw [if_neg e, bytesOf_get _ q hq]
      have : (q < i + 1) = (q < i) := by simp; omega
      simp [upto, this]
  · rw [List.getElem?_eq_none (by rw [List.length_set, bytesOf_length]; omega), List.getElem?_eq_none (by rw [bytesOf_length]; omega)]
theorem bytesOf_one (s : State) : ∀ u ∈ bytesOf s, u.oneCell' = true := by
  intro u hu
  simp only [bytesOf, List.mem_map] at hu
  obtain ⟨_, _, rfl⟩ := hu
  rfl
theorem size23 : (Try.prog.info? 23).map (·.size) = some 16 := by kernel_rfl
theorem bytesOf_range {w : World} {g : Nat} {s : State} (h : Blk w g 23 (bytesOf s)) : w.rangeAt g 0 (bytesOf s) := fun j v hv => by
  have := h.get j v hv
  simpa using this
set_option maxRecDepth 100000 in
set_option maxHeartbeats 16000000 in
theorem lock_any {W : World} {A B : Addr} {cA cB : Nat} {ws : List (List Nat)} (hS : ∀ j, j < 256 → W.cell? (A.add j) = some (.int .i64 ((sbox j : Nat) : Int))) (hW : Wds W (fun b => b < W.heap.size) B ws) (hl : ws.length = 60) (hlt : ∀ n r, wb ws n r < 256) (s : State) :
    Calls Try.prog 20 #[.agg #[.slice (some A) 256 cA, .slice (some B) 60 cB], .agg (bytesOf s).toArray] W fun e w' => e = .returned (.agg (bytesOf (lockS (rk ws) s)).toArray) ∧ W.grownBy w' none := by
  have HS := Lib.hid hS
  have HW := Lib.hid hW
  have HL := Lib.hid hl
  have HLT := Lib.hid hlt
  clear hS hW hl hlt
  go_enter Try.func20, Try.ntmps20
  go_wp2_with (refine wpList_box23 rfl _ s rfl rfl ?_)
  intro w2 hb2 hg2 hz2
  go_wp2_with (refine wpList_alloc23 rfl rfl ?_)
  intro w3 hb3 hg3 hz3
  go_wp2_with (refine wpList_alloc47 rfl rfl ?_)
  intro w5 hb5 hg5 hz5
  have hg1 := World.grownBy_alloc W (.cells #[.slice (some A) 256 cA, .slice (some B) 60 cB] 43) none
  have hb1 := Blk.of_alloc W #[.slice (some A) 256 cA, .slice (some B) 60 cB] 43
  have hg25 := World.grownBy.trans hg2 (World.grownBy.trans hg3 hg5)
  have hg15 := World.grownBy.trans hg1 hg25
  have HB1 := Lib.hid (hb1.grown hg25 (by simp))
  have HB2 := Lib.hid ((hb2.grown hg3 (by simp)).grown hg5 (by simp))
  have HB3 := Lib.hid (hb3.grown hg5 (by simp))
  have HB5 := Lib.hid hb5
  have HG5 := Lib.hid hg15
  have HW5 := Lib.hid (HW.out.grown hg15 (fun b hb => ⟨hb, by simp⟩))
  have HZ5 := Lib.hid hz5
  obtain ⟨gc, hgc⟩ : ∃ g, g = W.heap.size := ⟨_, rfl⟩
  obtain ⟨gk, hgk⟩ : ∃ g, g = W.heap.size + 1 := ⟨_, rfl⟩
  obtain ⟨go, hgo⟩ : ∃ g, g = W.heap.size + 1 + 1 := ⟨_, rfl⟩
  obtain ⟨gb, hgb⟩ : ∃ g, g = W.heap.size + 1 + 1 + 1 := ⟨_, rfl⟩
  rw [← hgb, ← hgo, ← hgk, ← hgc]
  have HBC : Hid (Blk w5 gc 43 [.slice (some A) 256 cA, .slice (some B) 60 cB]) := by rw [hgc]; exact HB1
  have HBK : Hid (Blk w5 gk 23 (bytesOf s)) := by rw [hgk]; exact HB2
  have HBO : Hid (Blk w5 go 23 (bytesOf fun _ => 0)) := by rw [hgo]; exact HB3
  have HBB : Hid (Blk w5 gb 58 (ints (rows (fun _ _ => false) (at_ (keyS (rk ws 0) s)) fromZero))) := by rw [hgb, rows_zero]; exact HB5
  have n1 : gc ≠ gb := by omega
  have n2 : gk ≠ gb := by omega
  have n3 : go ≠ gb := by omega
  have hwb : W.heap.size ≤ gb := by omega
  have hwo : W.heap.size ≤ go := by omega
  have HGC := Lib.hid hgc
  have HGB := Lib.hid hgb
  clear hb2 hg2 hz2 hb3 hg3 hz3 hb5 hg5 hz5 hg1 hb1 hg25 hg15 HB1 HB2 HB3 HB5 hgc hgk hgo hgb
  go_wp2_with (fail)
  go_loopw [6] (fun v wr => ∃ i : Nat, i ≤ 16 ∧ v = .int .i64 (i : Int) ∧ Blk wr gb 58 (ints (rows (fun r k => decide (r + 4 * k < i)) (at_ (keyS (rk ws 0) s)) fromZero)) ∧ w5.grownBy wr (some gb)) (fun v _ => 16 - (intOf v).toNat)
  case atStart => exact ⟨0, by omega, rfl, by simpa using HBB.out, World.grownBy.refl _ _⟩
  case round =>
    clear HBB
    obtain ⟨i, hi, rfl, hb, hgr⟩ := hrel
    by_cases hlt : i < 16
    · obtain ⟨r, hr⟩ : ∃ r, r = i % 4 := ⟨_, rfl⟩
      obtain ⟨k, hk⟩ : ∃ k, k = i / 4 := ⟨_, rfl⟩
      have hr4 : r < 4 := by omega
      have hk4 : k < 4 := by omega
      have hik : i = r + 4 * k := by omega
      obtain ⟨ad, c', w1, w2o, w3o, w4, w5c⟩ := HW5.out k (by rw [HL.out]; omega)
      have keep : ∀ b, b < W.heap.size → wr.heap[b]? = w5.heap[b]? := fun b hb => hgr.block b (by have := HZ5.out; omega) (fun e => by have := Option.some.inj e; omega)
      have c1 := (HBK.out.grown hgr (fun e => n2 (Option.some.inj e))).get i _ (bytesOf_get s i hlt)
      have c2 := (HBC.out.grown hgr (fun e => n1 (Option.some.inj e))).get 1 _ rfl
      have c3 := (World.cell?_of_block (w := w5) (w' := wr) (a := B.add k) (by rw [block_of_plus]; exact keep _ w2o)).trans w1
      have c4 := (World.cell?_of_block (w := w5) (w' := wr) (a := ad.add r) (by rw [block_of_plus]; exact keep _ w3o)).trans (w5c r hr4)
      have hold : (ints (rows (fun r k => decide (r + 4 * k < i)) (at_ (keyS (rk ws 0) s)) fromZero))[r * 4 + k]? ≠ none := by
        rw [ints_get _ _ (by rw [rows_length]; omega)]; simp
      obtain ⟨vo, hvo⟩ := Option.ne_none_iff_exists'.1 hold
      have c5 := hb.get (r * 4 + k) _ hvo
      have hf := hb.frozen (r * 4 + k)
      have hx := xor_small (s ⟨i, hlt⟩).toNat (wb ws k r) (UInt8.toNat_lt _) (HLT.out k r)
      have t1 : (i : Int).tmod 4 = (r : Int) := by rw [Int.tmod_eq_emod_of_nonneg (by omega)]; omega
      have t2 : (i : Int).tdiv 4 = (k : Int) := by rw [Int.tdiv_eq_ediv_of_nonneg (by omega)]; omega
      have t3 : (i : Int) % 4 = (r : Int) := by omega
      have t4 : (i : Int) / 4 = (k : Int) := by omega
      have t5 : IntKind.i64.wrap (r : Int) = (r : Int) := i64_keep r (by omega)
      have t6 : IntKind.i64.wrap (k : Int) = (k : Int) := i64_keep k (by omega)
      have t7 : (r : Int) < 4 := by omega
      have t8 : (k : Int) < 4 := by omega
      have t9 : (k : Int) < 60 := by omega
      have hval : (s ⟨i, hlt⟩).toNat ^^^ wb ws k r = at_ (keyS (rk ws 0) s) r k := by
        rw [key_at ws s 0 r k hr4 hk4 (HLT.out _ _), show 4 * 0 + k = k by omega]
        congr 2
        congr 1
        apply Fin.ext
        show i = (r + 4 * k) % 16
        omega
      obtain ⟨x, hxe⟩ : ∃ x, x = (s ⟨i, hlt⟩).toNat := ⟨_, rfl⟩
      obtain ⟨y, hye⟩ : ∃ y, y = wb ws k r := ⟨_, rfl⟩
      rw [← hxe] at c1 hx hval
      rw [← hye] at c4 hx hval
      have hx256 : x < 256 := by rw [hxe]; exact UInt8.toNat_lt _
      have hwx : IntKind.i64.wrap (x : Int) = (x : Int) := i64_keep x (by omega)
      have HB := Lib.hid hb
      have HGR := Lib.hid hgr
      have HVAL := Lib.hid hval
      have HIK := Lib.hid hik
      clear hb hgr hval hik hr hk w1 w2o w3o w4 w5c keep hvo hold hxe hye
      go_wp2_with (fail)
      refine wp_region_still_tail 21 (by kernel_rfl) (by kernel_rfl) ?_
      change wpStill _ _ wr.drew (fun a' => wpList _ _ _ _ a' wr.drew) _ _
      simp only [List.take_succ_cons, List.take_zero, List.drop_succ_cons, List.drop_zero]
      repeat still_step
      refine wpStill_nil ?_
      go_wp2
      go_roundw
      case rel =>
        rw [HVAL.out]
        refine ⟨i + 1, by omega, by go_num, ?_, grown_drew (World.grownBy.trans HGR.out (grown_set wr gb (r * 4 + k) _))⟩
        have h := HB.out.set (r * 4 + k) (.int .i64 ((at_ (keyS (rk ws 0) s) r k : Nat) : Int))
        rw [ints_set, rows_set _ (fun r k => decide (r + 4 * k < i + 1)) _ _ r k hk4 (fun r' h1 k' h2 => by have := HIK.out; rw [Bool.eq_iff_iff]; simp; omega)] at h
        exact h.keep rfl
      case measure => simp [intOf]; omega
    · have hb0 : Blk wr gb 58 (ints (cellsOf (stt (rk ws) s 0))) := by
        rw [rows_state _ _ _ (fun r hr k hk => by simp; omega)] at hb
        exact hb
      have hg0 : W.grownBy wr none := World.grownBy.andThen HG5.out hgr (by rintro _ ⟨⟩; exact .inl hwb)
      have henv : Env W gc go [.slice (some A) 256 cA, .slice (some B) 60 cB] wr := ⟨hg0, HBC.out.grown hgr (fun e => n1 (Option.some.inj e)), HBO.out.grown hgr (fun e => n3 (Option.some.inj e))⟩
      have HB0 := Lib.hid hb0
      have HENV := Lib.hid henv
      clear hb hgr hb0 hg0 henv HBK HW5 HG5 HZ5 HBC HBO
      go_wp2_with (fail)
      clear hi hlt
      go_loopw [7] (fun v wr => ∃ n : Nat, 1 ≤ n ∧ n ≤ 15 ∧ v = .int .i64 (n : Int) ∧ Env W gc go [.slice (some A) 256 cA, .slice (some B) 60 cB] wr ∧ Blk wr gb 58 (ints (cellsOf (stt (rk ws) s (n - 1))))) (fun v _ => 15 - (intOf v).toNat)
      case atStart => exact ⟨1, by omega, by omega, rfl, HENV.out, HB0.out⟩
      case round =>
        clear HB0 HENV
        obtain ⟨n, hn1, hn15, rfl, henv, hb⟩ := hrel
        by_cases hn : n ≤ 14
        · obtain ⟨S, hSe⟩ : ∃ S, S = stt (rk ws) s (n - 1) := ⟨_, rfl⟩
          rw [← hSe] at hb
          have hbl := hb.lt
          have HENV := Lib.hid henv
          have HB := Lib.hid hb
          have HSE := Lib.hid hSe
          clear henv hb hSe
          have dN : decide ((n : Int) ≤ 14) = true := by simp; omega
          go_wp2_with (refine wpList_alloc47 rfl rfl ?_)
          intro w6 hb6 hg6 hz6
          clear dN
          obtain ⟨gt, hgt⟩ : ∃ g, g = wr.heap.size := ⟨_, rfl⟩
          rw [← hgt] at hb6 ⊢
          have m1 : gb ≠ gt := by omega
          have hg0 := HGC.out
          have hg1 := HGB.out
          have m2 : gc ≠ gt := by omega
          have m3 : go ≠ gt := by have := (HENV.out.2.2).lt; omega
          have m4 : W.heap.size ≤ gt := by omega
          have HENV6 := Lib.hid (HENV.out.new hg6)
          have HB6 := Lib.hid (HB.out.grown hg6 (by simp))
          have HT6 : Hid (Blk w6 gt 58 (ints (rows (fun r' _ => decide (r' < 0)) (at_ (rowS (subS S))) fromZero))) := by
            show Blk w6 gt 58 _
            simp only [Nat.not_lt_zero, decide_false]
            rw [rows_zero]
            exact hb6
          clear hb6 hg6 hz6 hgt HENV HB hg0 hg1
          go_wp2_with (fail)
          go_loopw [9] (fun v wx => ∃ r : Nat, r ≤ 4 ∧ v = .int .i64 (r : Int) ∧ Env W gc go [.slice (some A) 256 cA, .slice (some B) 60 cB] wx ∧ Blk wx gb 58 (ints (cellsOf S)) ∧ Blk wx gt 58 (ints (rows (fun r' _ => decide (r' < r)) (at_ (rowS (subS S))) fromZero))) (fun v _ => 4 - (intOf v).toNat)
          case atStart => exact ⟨0, by omega, rfl, HENV6.out, HB6.out, HT6.out⟩
          case round =>
            clear HENV6 HB6 HT6
            obtain ⟨r, hr4, rfl, henv, hb, ht⟩ := hrel
            by_cases hr : r < 4
            · have HE := Lib.hid henv
              have HB := Lib.hid hb
              have HT := Lib.hid ht
              clear henv hb ht
              have dR : decide ((r : Int) < 4) = true := by simp; omega
              go_wp2_with (fail)
              clear dR
              go_loopw [10] (fun v wx => ∃ k : Nat, k ≤ 4 ∧ v = .int .i64 (k : Int) ∧ Env W gc go [.slice (some A) 256 cA, .slice (some B) 60 cB] wx ∧ Blk wx gb 58 (ints (cellsOf S)) ∧ Blk wx gt 58 (ints (rows (fun r' k' => decide (r' < r) || (decide (r' = r) && decide (k' < k))) (at_ (rowS (subS S))) fromZero))) (fun v _ => 4 - (intOf v).toNat)
              case atStart => exact ⟨0, by omega, rfl, HE.out, HB.out, by simpa using HT.out⟩
              case round =>
                clear HE HB HT
                obtain ⟨k, hk4, rfl, henv, hb, ht⟩ := hrel
                by_cases hk : k < 4
                · obtain ⟨q, hq⟩ : ∃ q, q = (k + r) % 4 := ⟨_, rfl⟩
                  have hq4 : q < 4 := by omega
                  have c1 := henv.2.1.get 0 _ rfl
                  have c2 := hb.get (r * 4 + q) _ (ints_get _ _ (by rw [cellsOf_length]; omega))
                  rw [cellsOf_get S r q hr hq4] at c2
                  have c3 := henv.1.cell (HS.out (at_ S r q) (at_lt _ _ _)) (by simp)
                  have hval : sbox (at_ S r q) = at_ (rowS (subS S)) r k := by rw [sb_at S r k hr hk, hq]
                  have hx256 := at_lt S r q
                  obtain ⟨x, hx⟩ : ∃ x, x = at_ S r q := ⟨_, rfl⟩
                  rw [← hx] at c2 c3 hval hx256
                  obtain ⟨y, hy⟩ : ∃ y, y = sbox x := ⟨_, rfl⟩
                  rw [← hy] at c3 hval
                  have hold : (ints (rows (fun r' k' => decide (r' < r) || (decide (r' = r) && decide (k' < k))) (at_ (rowS (subS S))) fromZero))[r * 4 + k]? ≠ none := by
                    rw [ints_get _ _ (by rw [rows_length]; omega)]; simp
                  obtain ⟨vo, hvo⟩ := Option.ne_none_iff_exists'.1 hold
                  have c5 := ht.get (r * 4 + k) _ hvo
                  have hf := ht.frozen (r * 4 + k)
                  have t1 : IntKind.i64.wrap ((k : Int) + (r : Int)) = (k : Int) + (r : Int) := by rw [IntKind.wrap_i64]; omega
                  have t2 : ((k : Int) + (r : Int)).tmod 4 = (q : Int) := by rw [Int.tmod_eq_emod_of_nonneg (by omega)]; omega
                  have t3 : ((k : Int) + (r : Int)) % 4 = (q : Int) := by omega
                  have t5 : IntKind.i64.wrap (q : Int) = (q : Int) := i64_keep q (by omega)
                  have t6 : (q : Int) < 4 := by omega
                  have t7 : (r : Int) < 4 := by omega
                  have t8 : (k : Int) < 4 := by omega
                  have t9 : (x : Int) < 256 := by omega
                  have HE := Lib.hid henv
                  have HB := Lib.hid hb
                  have HT := Lib.hid ht
                  have HVAL := Lib.hid hval
                  clear henv hb ht hval hx hy hold hvo hq
                  go_wp2_with (fail)
                  refine wp_region_still_tail 16 (by kernel_rfl) (by kernel_rfl) ?_
                  change wpStill _ _ wr.drew (fun a' => wpList _ _ _ _ a' wr.drew) _ _
                  simp only [List.take_succ_cons, List.take_zero, List.drop_succ_cons, List.drop_zero]
                  repeat still_step
                  refine wpStill_nil ?_
                  go_wp2
                  go_roundw
                  case rel =>
                    rw [HVAL.out]
                    refine ⟨k + 1, by omega, by go_num, (HE.out.step (grown_set wr gt (r * 4 + k) _) m4 m2 m3).drew, (HB.out.grown (grown_set wr gt (r * 4 + k) _) (fun e => m1 (Option.some.inj e))).keep rfl, ?_⟩
                    have h := HT.out.set (r * 4 + k) (.int .i64 ((at_ (rowS (subS S)) r k : Nat) : Int))
                    rw [ints_set, rows_set _ (fun r' k' => decide (r' < r) || (decide (r' = r) && decide (k' < k + 1))) _ _ r k hk (fun r' h1 k' h2 => by rw [Bool.eq_iff_iff]; simp; omega)] at h
                    exact h.keep rfl
                  case measure => simp [intOf]; omega
                · have HE := Lib.hid henv
                  have HB := Lib.hid hb
                  have ht2 : Blk wr gt 58 (ints (rows (fun r' _ => decide (r' < r + 1)) (at_ (rowS (subS S))) fromZero)) := by
                    exact ht.to (congrArg ints (rows_congr fun r' h1 k' h2 => by rw [Bool.eq_iff_iff]; simp; omega))
                  have HT := Lib.hid ht2
                  clear henv hb ht ht2
                  go_wp2
                  go_roundw
                  case rel => exact ⟨r + 1, by omega, by go_num, HE.out, HB.out, HT.out⟩
                  case measure => simp [intOf]; omega
            · obtain ⟨T, hTe⟩ : ∃ T, T = rowS (subS S) := ⟨_, rfl⟩
              have ht2 : Blk wr gt 58 (ints (cellsOf T)) := by
                rw [hTe]
                exact ht.to (congrArg ints (rows_state _ _ _ (fun r' h1 k' h2 => by simp; omega)))
              obtain ⟨N, hNe⟩ : ∃ N, N = stt (rk ws) s n := ⟨_, rfl⟩
              have hb2 : Blk wr gb 58 (ints (rows (fun _ k' => decide (k' < 0)) (at_ N) (at_ S))) := by
                simp only [Nat.not_lt_zero, decide_false]
                rw [rows_none]
                exact hb
              have hnext : ∀ r, r < 4 → ∀ k, k < 4 → at_ N r k = (if n < 14 then at_ (mixS T) r k else at_ T r k) ^^^ wb ws (4 * n + k) r := fun r hr k hk => by
                have hs := HSE.out
                by_cases h14 : n < 14
                · rw [if_pos h14, hNe, show n = (n - 1) + 1 by omega, stt_mid _ _ _ (by omega), ← hs, ← hTe, show n - 1 + 1 = n by omega]
                  exact key_at ws _ n r k hr hk (HLT.out _ _)
                · have e14 : n = 14 := by omega
                  subst e14
                  rw [if_neg h14, hNe, stt_last, show (13 : Nat) = 14 - 1 from rfl, ← hs, ← hTe]
                  exact key_at ws _ 14 r k hr hk (HLT.out _ _)
              have HE := Lib.hid henv
              have HB := Lib.hid hb2
              have HT := Lib.hid ht2
              have HNX := Lib.hid hnext
              have HNE := Lib.hid hNe
              clear henv hb ht ht2 hb2 hTe hnext hNe
              go_wp2_with (fail)
              clear hr hr4
              go_loopw [11] (fun v wx => ∃ k : Nat, k ≤ 4 ∧ v = .int .i64 (k : Int) ∧ Env W gc go [.slice (some A) 256 cA, .slice (some B) 60 cB] wx ∧ Blk wx gt 58 (ints (cellsOf T)) ∧ Blk wx gb 58 (ints (rows (fun _ k' => decide (k' < k)) (at_ N) (at_ S)))) (fun v _ => 4 - (intOf v).toNat)
              case atStart => exact ⟨0, by omega, rfl, HE.out, HT.out, HB.out⟩
              case round =>
                clear HE HB HT
                obtain ⟨k, hk4, rfl, henv, ht, hb⟩ := hrel
                by_cases hk : k < 4
                · have HE := Lib.hid henv
                  have HB := Lib.hid hb
                  have HT := Lib.hid ht
                  clear henv hb ht
                  have dK : decide ((k : Int) < 4) = true := by simp; omega
                  go_wp2_with (fail)
                  clear dK
                  go_loopw [12] (fun v wx => ∃ r : Nat, r ≤ 4 ∧ v = .int .i64 (r : Int) ∧ Env W gc go [.slice (some A) 256 cA, .slice (some B) 60 cB] wx ∧ Blk wx gt 58 (ints (cellsOf T)) ∧ Blk wx gb 58 (ints (rows (fun r' k' => decide (k' < k) || (decide (k' = k) && decide (r' < r))) (at_ N) (at_ S)))) (fun v _ => 4 - (intOf v).toNat)
                  case atStart => exact ⟨0, by omega, rfl, HE.out, HT.out, by simpa using HB.out⟩
                  case round =>
                    clear HE HB HT
                    obtain ⟨r, hr4, rfl, henv, ht, hb⟩ := hrel
                    by_cases hr : r < 4
                    · have HE := Lib.hid henv
                      have HB := Lib.hid hb
                      have HT := Lib.hid ht
                      have tc : ∀ q, q < 4 → wr.cell? ⟨gt, q * 4 + k, none⟩ = some (.int .i64 ((at_ T q k : Nat) : Int)) := fun q hq => by
                        have h := HT.out.get (q * 4 + k) _ (ints_get _ _ (by rw [cellsOf_length]; omega))
                        rw [cellsOf_get T q k hq hk] at h
                        exact h
                      have hnx := HNX.out r hr k hk
                      have g1 : (r : Int) < 4 := by omega
                      have g2 : (k : Int) < 4 := by omega
                      clear henv hb ht
                      by_cases h14 : n < 14
                      · rw [if_pos h14, mix_at T r k hr hk] at hnx
                        have dN : decide ((n : Int) < 14) = true := by simp; omega
                        obtain ⟨q1, hq1⟩ : ∃ q, q = (r + 1) % 4 := ⟨_, rfl⟩
                        obtain ⟨q2, hq2⟩ : ∃ q, q = (r + 2) % 4 := ⟨_, rfl⟩
                        obtain ⟨q3, hq3⟩ : ∃ q, q = (r + 3) % 4 := ⟨_, rfl⟩
                        rw [← hq1, ← hq2, ← hq3] at hnx
                        have a0 := tc r hr
                        have a1 := tc q1 (by omega)
                        have a2 := tc q2 (by omega)
                        have a3 := tc q3 (by omega)
                        have b0 := at_lt T r k
                        have b1 := at_lt T q1 k
                        have b2 := at_lt T q2 k
                        have b3 := at_lt T q3 k
                        have k2 : times 2 (at_ T r k) < 256 := by rw [times2 _ b0]; exact UInt8.toNat_lt _
                        have k3 : times 3 (at_ T q1 k) < 256 := by rw [times3 _ b1]; exact UInt8.toNat_lt _
                        have T2 : ∀ V, Calls Try.prog 32 #[.int .i64 2, .int .i64 ((at_ T r k : Nat) : Int)] V fun e w' => e = .returned (.int .i64 ((times 2 (at_ T r k) : Nat) : Int)) ∧ w' = V := fun V => times_any 2 _ (by decide) b0 V
                        have T3 : ∀ V, Calls Try.prog 32 #[.int .i64 3, .int .i64 ((at_ T q1 k : Nat) : Int)] V fun e w' => e = .returned (.int .i64 ((times 3 (at_ T q1 k) : Nat) : Int)) ∧ w' = V := fun V => times_any 3 _ (by decide) b1 V
                        generalize at_ T r k = x0 at a0 T2 k2 b0 hnx
                        generalize at_ T q1 k = x1 at a1 T3 k3 b1 hnx
                        generalize at_ T q2 k = x2 at a2 b2 hnx
                        generalize at_ T q3 k = x3 at a3 b3 hnx
                        generalize times 2 x0 = y0 at T2 k2 hnx
                        generalize times 3 x1 = y1 at T3 k3 hnx
                        have e1 := xor_small y0 y1 k2 k3
                        have l1 := xor_lt y0 y1 k2 k3
                        obtain ⟨y2, hy2⟩ : ∃ y, y = y0 ^^^ y1 := ⟨_, rfl⟩
                        rw [← hy2] at e1 l1 hnx
                        have e2 := xor_small y2 x2 l1 b2
                        have l2 := xor_lt y2 x2 l1 b2
                        obtain ⟨y3, hy3⟩ : ∃ y, y = y2 ^^^ x2 := ⟨_, rfl⟩
                        rw [← hy3] at e2 l2 hnx
                        have e3 := xor_small y3 x3 l2 b3
                        have hy256 := xor_lt y3 x3 l2 b3
                        obtain ⟨y, hye⟩ : ∃ y, y = y3 ^^^ x3 := ⟨_, rfl⟩
                        rw [← hye] at e3 hy256 hnx
                        have hval := hnx.symm
                        have f1 : IntKind.i64.wrap ((r : Int) + 1) = (r : Int) + 1 := by rw [IntKind.wrap_i64]; omega
                        have f2 : IntKind.i64.wrap ((r : Int) + 2) = (r : Int) + 2 := by rw [IntKind.wrap_i64]; omega
                        have f3 : IntKind.i64.wrap ((r : Int) + 3) = (r : Int) + 3 := by rw [IntKind.wrap_i64]; omega
                        have f4 : ((r : Int) + 1).tmod 4 = (q1 : Int) := by rw [Int.tmod_eq_emod_of_nonneg (by omega)]; omega
                        have f5 : ((r : Int) + 2).tmod 4 = (q2 : Int) := by rw [Int.tmod_eq_emod_of_nonneg (by omega)]; omega
                        have f6 : ((r : Int) + 3).tmod 4 = (q3 : Int) := by rw [Int.tmod_eq_emod_of_nonneg (by omega)]; omega
                        have f7 : ((r : Int) + 1) % 4 = (q1 : Int) := by omega
                        have f8 : ((r : Int) + 2) % 4 = (q2 : Int) := by omega
                        have f9 : ((r : Int) + 3) % 4 = (q3 : Int) := by omega
                        have f10 : IntKind.i64.wrap (q1 : Int) = (q1 : Int) := i64_keep q1 (by omega)
                        have f11 : IntKind.i64.wrap (q2 : Int) = (q2 : Int) := i64_keep q2 (by omega)
                        have f12 : IntKind.i64.wrap (q3 : Int) = (q3 : Int) := i64_keep q3 (by omega)
                        have f13 : (q1 : Int) < 4 := by omega
                        have f14 : (q2 : Int) < 4 := by omega
                        have f15 : (q3 : Int) < 4 := by omega
                        clear hnx tc hq1 hq2 hq3 hy2 hy3 hye HNX
                        go_wp2_with (fail)
                        refine wp_region_still_tail 31 (by kernel_rfl) (by kernel_rfl) ?_
                        change wpStill _ _ wr.drew (fun a' => wpList _ _ _ _ a' wr.drew) _ _
                        simp only [List.take_succ_cons, List.take_zero, List.drop_succ_cons, List.drop_zero]
                        repeat still_step
                        still_call (T2 _)
                        repeat still_step
                        still_call (T3 _)
                        repeat still_step
                        refine wpStill_nil ?_
                        clear T2 T3 a0 a1 a2 a3 e1 e2 e3 f1 f2 f3 f4 f5 f6 f7 f8 f9 f10 f11 f12 f13 f14 f15 dN
                        go_wp2_with (fail)
                        have HEW := HE.out.drew
                        obtain ⟨ad, c', w1, w2o, w3o, w4, w5c⟩ := (HW.out.grown HE.out.1 (fun b hb => ⟨hb, by simp⟩)) (4 * n + k) (by rw [HL.out]; omega)
                        have d2 : wr.drew.cell? ⟨gc, 1, none⟩ = _ := HE.out.2.1.get 1 _ rfl
                        have d3 : wr.drew.cell? (B.add (4 * n + k)) = _ := w1
                        have d4 : wr.drew.cell? (ad.add r) = _ := w5c r hr
                        have hold : (ints (rows (fun r' k' => decide (k' < k) || (decide (k' = k) && decide (r' < r))) (at_ N) (at_ S)))[r * 4 + k]? ≠ none := by
                          rw [ints_get _ _ (by rw [rows_length]; omega)]; simp
                        obtain ⟨vo, hvo⟩ := Option.ne_none_iff_exists'.1 hold
                        have d5 : wr.drew.cell? ⟨gb, r * 4 + k, none⟩ = _ := HB.out.get (r * 4 + k) _ hvo
                        have d6 : wr.drew.frozen? ⟨gb, r * 4 + k, none⟩ = false := HB.out.frozen (r * 4 + k)
                        have hz256 : wb ws (4 * n + k) r < 256 := HLT.out _ _
                        obtain ⟨z, hz⟩ : ∃ z, z = wb ws (4 * n + k) r := ⟨_, rfl⟩
                        rw [← hz] at d4 hz256 hval
                        have hxz := xor_small y z hy256 hz256
                        have s1 : IntKind.i64.wrap (4 * (n : Int)) = 4 * (n : Int) := by rw [IntKind.wrap_i64]; omega
                        have s2 : IntKind.i64.wrap (4 * (n : Int) + (k : Int)) = 4 * (n : Int) + (k : Int) := by rw [IntKind.wrap_i64]; omega
                        have s3 : (4 * (n : Int) + (k : Int)).toNat = 4 * n + k := by omega
                        have s4 : (0 : Int) ≤ 4 * (n : Int) + (k : Int) := by omega
                        have s5 : 4 * (n : Int) + (k : Int) < 60 := by omega
                        have HVAL := Lib.hid hval
                        clear hvo hold hz hval w1 w2o w3o w4 w5c
                        refine wp_region_still_tail 17 (by kernel_rfl) (by kernel_rfl) ?_
                        change wpStill _ _ wr.drew.drew (fun a' => wpList _ _ _ _ a' wr.drew.drew) _ _
                        simp only [List.take_succ_cons, List.take_zero, List.drop_succ_cons, List.drop_zero]
                        repeat still_step
                        refine wpStill_nil ?_
                        go_wp2
                        go_roundw
                        case rel =>
                          rw [HVAL.out]
                          have hEW : Env W gc go [.slice (some A) 256 cA, .slice (some B) 60 cB] wr.drew := HEW
                          have hTW : Blk wr.drew gt 58 (ints (cellsOf T)) := HT.out.keep rfl
                          have hBW : Blk wr.drew gb 58 (ints (rows (fun r' k' => decide (k' < k) || (decide (k' = k) && decide (r' < r))) (at_ N) (at_ S))) := HB.out.keep rfl
                          refine ⟨r + 1, by omega, by go_num, (hEW.step (grown_set wr.drew gb (r * 4 + k) _) hwb n1 n3).drew, (hTW.grown (grown_set wr.drew gb (r * 4 + k) _) (fun e => m1 (Option.some.inj e).symm)).keep rfl, ?_⟩
                          have h := hBW.set (r * 4 + k) (.int .i64 ((at_ N r k : Nat) : Int))
                          rw [ints_set, rows_set _ (fun r' k' => decide (k' < k) || (decide (k' = k) && decide (r' < r + 1))) _ _ r k hk (fun r' h1 k' h2 => by rw [Bool.eq_iff_iff]; simp; omega)] at h
                          exact h.keep rfl
                        case measure => simp [intOf]; omega
                      · rw [if_neg h14] at hnx
                        have dN : decide ((n : Int) < 14) = false := by simp; omega
                        have a0 := tc r hr
                        have hy256 := at_lt T r k
                        obtain ⟨y, hye⟩ : ∃ y, y = at_ T r k := ⟨_, rfl⟩
                        rw [← hye] at a0 hy256 hnx
                        have hval := hnx.symm
                        clear hnx tc hye HNX
                        go_wp2_with (fail)
                        clear dN a0
                        have HEW := HE.out
                        obtain ⟨ad, c', w1, w2o, w3o, w4, w5c⟩ := (HW.out.grown HE.out.1 (fun b hb => ⟨hb, by simp⟩)) (4 * n + k) (by rw [HL.out]; omega)
                        have d2 : wr.cell? ⟨gc, 1, none⟩ = _ := HE.out.2.1.get 1 _ rfl
                        have d3 : wr.cell? (B.add (4 * n + k)) = _ := w1
                        have d4 : wr.cell? (ad.add r) = _ := w5c r hr
                        have hold : (ints (rows (fun r' k' => decide (k' < k) || (decide (k' = k) && decide (r' < r))) (at_ N) (at_ S)))[r * 4 + k]? ≠ none := by
                          rw [ints_get _ _ (by rw [rows_length]; omega)]; simp
                        obtain ⟨vo, hvo⟩ := Option.ne_none_iff_exists'.1 hold
                        have d5 : wr.cell? ⟨gb, r * 4 + k, none⟩ = _ := HB.out.get (r * 4 + k) _ hvo
                        have d6 : wr.frozen? ⟨gb, r * 4 + k, none⟩ = false := HB.out.frozen (r * 4 + k)
                        have hz256 : wb ws (4 * n + k) r < 256 := HLT.out _ _
                        obtain ⟨z, hz⟩ : ∃ z, z = wb ws (4 * n + k) r := ⟨_, rfl⟩
                        rw [← hz] at d4 hz256 hval
                        have hxz := xor_small y z hy256 hz256
                        have s1 : IntKind.i64.wrap (4 * (n : Int)) = 4 * (n : Int) := by rw [IntKind.wrap_i64]; omega
                        have s2 : IntKind.i64.wrap (4 * (n : Int) + (k : Int)) = 4 * (n : Int) + (k : Int) := by rw [IntKind.wrap_i64]; omega
                        have s3 : (4 * (n : Int) + (k : Int)).toNat = 4 * n + k := by omega
                        have s4 : (0 : Int) ≤ 4 * (n : Int) + (k : Int) := by omega
                        have s5 : 4 * (n : Int) + (k : Int) < 60 := by omega
                        have HVAL := Lib.hid hval
                        clear hvo hold hz hval w1 w2o w3o w4 w5c
                        refine wp_region_still_tail 17 (by kernel_rfl) (by kernel_rfl) ?_
                        change wpStill _ _ wr.drew (fun a' => wpList _ _ _ _ a' wr.drew) _ _
                        simp only [List.take_succ_cons, List.take_zero, List.drop_succ_cons, List.drop_zero]
                        repeat still_step
                        refine wpStill_nil ?_
                        go_wp2
                        go_roundw
                        case rel =>
                          rw [HVAL.out]
                          have hEW : Env W gc go [.slice (some A) 256 cA, .slice (some B) 60 cB] wr := HEW
                          have hTW : Blk wr gt 58 (ints (cellsOf T)) := HT.out.keep rfl
                          have hBW : Blk wr gb 58 (ints (rows (fun r' k' => decide (k' < k) || (decide (k' = k) && decide (r' < r))) (at_ N) (at_ S))) := HB.out.keep rfl
                          refine ⟨r + 1, by omega, by go_num, (hEW.step (grown_set wr gb (r * 4 + k) _) hwb n1 n3).drew, (hTW.grown (grown_set wr gb (r * 4 + k) _) (fun e => m1 (Option.some.inj e).symm)).keep rfl, ?_⟩
                          have h := hBW.set (r * 4 + k) (.int .i64 ((at_ N r k : Nat) : Int))
                          rw [ints_set, rows_set _ (fun r' k' => decide (k' < k) || (decide (k' = k) && decide (r' < r + 1))) _ _ r k hk (fun r' h1 k' h2 => by rw [Bool.eq_iff_iff]; simp; omega)] at h
                          exact h.keep rfl
                        case measure => simp [intOf]; omega
                    · have HE := Lib.hid henv
                      have HT := Lib.hid ht
                      have hb2 : Blk wr gb 58 (ints (rows (fun _ k' => decide (k' < k + 1)) (at_ N) (at_ S))) := hb.to (congrArg ints (rows_congr fun r' h1 k' h2 => by rw [Bool.eq_iff_iff]; simp; omega))
                      have HB := Lib.hid hb2
                      clear henv hb ht hb2
                      go_wp2
                      go_roundw
                      case rel => exact ⟨k + 1, by omega, by go_num, HE.out, HT.out, HB.out⟩
                      case measure => simp [intOf]; omega
                · have hb2 : Blk wr gb 58 (ints (cellsOf N)) := hb.to (congrArg ints (rows_state _ _ _ (fun r' h1 k' h2 => by simp; omega)))
                  have HE := Lib.hid henv
                  have HB := Lib.hid hb2
                  clear henv hb ht hb2
                  go_wp2
                  go_roundw
                  case rel => exact ⟨n + 1, by omega, by omega, by go_num, HE.out, by rw [Nat.add_sub_cancel, ← HNE.out]; exact HB.out⟩
                  case measure => simp [intOf]; omega
        · have hn15e : n = 15 := by omega
          subst hn15e
          obtain ⟨L, hL⟩ : ∃ L, L = lockS (rk ws) s := ⟨_, rfl⟩
          have hbf : Blk wr gb 58 (ints (cellsOf (lockS (rk ws) s))) := hb
          have hbl := hb.lt
          rw [← hL] at hbf
          have HLE := Lib.hid hL
          have HENV := Lib.hid henv
          have HB := Lib.hid hbf
          clear henv hb hbf hn hn1 hn15 hL
          go_wp2_with (refine wpList_alloc23 rfl rfl ?_)
          intro w6 hb6 hg6 hz6
          obtain ⟨gx, hgx⟩ : ∃ g, g = wr.heap.size := ⟨_, rfl⟩
          rw [← hgx] at hb6 ⊢
          have m1 : gb ≠ gx := by omega
          have m2 : go ≠ gx := by have := (HENV.out.2.2).lt; omega
          have hg1 := HGC.out
          have m5 : gc ≠ gx := by omega
          have m3 : W.heap.size ≤ gx := by omega
          have HENV6 := Lib.hid (HENV.out.new hg6)
          have HB6 := Lib.hid (HB.out.grown hg6 (by simp))
          have HX6 : Hid (Blk w6 gx 23 (bytesOf (upto L 0))) := by rw [upto_zero]; exact hb6
          clear hb6 hg6 hz6 hgx HENV HB hg1 hbl
          go_wp2_with (fail)
          go_loopw [15] (fun v wx => ∃ i : Nat, i ≤ 16 ∧ v = .int .i64 (i : Int) ∧ Env W gc go [.slice (some A) 256 cA, .slice (some B) 60 cB] wx ∧ Blk wx gb 58 (ints (cellsOf L)) ∧ Blk wx gx 23 (bytesOf (upto L i))) (fun v _ => 16 - (intOf v).toNat)
          case atStart => exact ⟨0, by omega, rfl, HENV6.out, HB6.out, HX6.out⟩
          case round =>
            clear HENV6 HB6 HX6
            obtain ⟨i, hi, rfl, henv, hb, hx⟩ := hrel
            by_cases hlt : i < 16
            · obtain ⟨r, hr⟩ : ∃ r, r = i % 4 := ⟨_, rfl⟩
              obtain ⟨k, hk⟩ : ∃ k, k = i / 4 := ⟨_, rfl⟩
              have hr4 : r < 4 := by omega
              have hk4 : k < 4 := by omega
              have c1 := hb.get (r * 4 + k) _ (ints_get _ _ (by rw [cellsOf_length]; omega))
              rw [cellsOf_get L r k hr4 hk4] at c1
              have c2 := hx.get i _ (bytesOf_get (upto L i) i hlt)
              have hf := hx.frozen i
              have ho := out_at L ⟨i, hlt⟩
              simp only [← hr, ← hk] at ho
              have hx256 := at_lt L r k
              obtain ⟨x, hxe⟩ : ∃ x, x = at_ L r k := ⟨_, rfl⟩
              rw [← hxe] at c1 hx256 ho
              have hval : x = (L ⟨i, hlt⟩).toNat := by rw [← ho]; simp; omega
              have t1 : (i : Int).tmod 4 = (r : Int) := by rw [Int.tmod_eq_emod_of_nonneg (by omega)]; omega
              have t2 : (i : Int).tdiv 4 = (k : Int) := by rw [Int.tdiv_eq_ediv_of_nonneg (by omega)]; omega
              have t3 : (i : Int) % 4 = (r : Int) := by omega
              have t4 : (i : Int) / 4 = (k : Int) := by omega
              have t5 : IntKind.i64.wrap (r : Int) = (r : Int) := i64_keep r (by omega)
              have t6 : IntKind.i64.wrap (k : Int) = (k : Int) := i64_keep k (by omega)
              have t7 : (r : Int) < 4 := by omega
              have t8 : (k : Int) < 4 := by omega
              have t9 : IntKind.u8.wrap (x : Int) = (x : Int) := by rw [IntKind.wrap_u8]; omega
              have HE := Lib.hid henv
              have HB := Lib.hid hb
              have HX := Lib.hid hx
              have HVAL := Lib.hid hval
              clear henv hb hx hval ho hxe hr hk
              go_wp2
              go_roundw
              case rel =>
                rw [HVAL.out]
                refine ⟨i + 1, by omega, by go_num, HE.out.step (grown_set wr gx i _) m3 m5 m2, HB.out.grown (grown_set wr gx i _) (fun e => m1 (Option.some.inj e)), ?_⟩
                have h := HX.out.set i (.int .u8 ((L ⟨i, hlt⟩).toNat : Int))
                rw [bytesOf_upto L i hlt] at h
                exact h
              case measure => simp [intOf]; omega
            · have e16 : i = 16 := by omega
              subst e16
              rw [upto_all] at hx
              have HE := Lib.hid henv
              have HX := Lib.hid hx
              have HR := Lib.hid (bytesOf_range hx)
              clear henv hb hx hlt hi
              go_wp2_with (first | (refine wpList_load_mid rfl 23 _ rfl gx 0 rfl (bytesOf L) _ HR.out Try.underlying23 rfl (by rw [size23, bytesOf_length]) ?_) | (refine wpList_store_row rfl 23 _ _ rfl go (bytesOf L).toArray rfl rfl 23 _ HE.out.2.2 ?_ ?_ ?_ ?_))
              · rw [size23, List.size_toArray, bytesOf_length]
              · exact (bytesOf_length (fun _ => 0)).trans (bytesOf_length L).symm
              · exact all_oneCell_toArray (bytesOf_one _)
              · exact bodyPost_ret (results_cell_row rfl _ _ go 23 (bytesOf L).toArray (0, 0) _ rfl (setRow_heap wr go _ _ 23 (0, 0) HE.out.2.2) Try.underlying23 rfl (by rw [size23, List.size_toArray, bytesOf_length])) rfl ⟨by rw [← HLE.out], World.grownBy.andThen HE.out.1 (grown_setRow _ _ _) (by rintro _ ⟨⟩; exact .inl hwo)⟩
end Go.Proofs.Ytngfldlfoniklaa
