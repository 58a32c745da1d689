/- probe Bytes are copied into, and cleared in, the middle of a block. Conditions: none. The last blocks of a text are filled up. Conditions: none. A new hash under way. Conditions: none. -/
import Derived.Test.YtdnkeaokgkiloaaDoorSa
import Derived.StillTailTactics
import Derived.Laws.CopyOwn
import Derived.Lib.SliceRun
import Derived.Deep.MidRow
namespace Go.Proofs.YtdnkeaokgkiloaaDoor.S
open Go.RowKit
def u32s (xs : List UInt32) : List Value := xs.map fun x => Value.int .u32 (x.toNat : Int)
theorem u32s_length (xs : List UInt32) : (u32s xs).length = xs.length := by simp [u32s]
theorem u32s_set (xs : List UInt32) (j : Nat) (x : UInt32) : (u32s xs).set j (.int .u32 (x.toNat : Int)) = u32s (xs.set j x) := by simp [u32s, List.map_set]
theorem u32s_get (xs : List UInt32) (j : Nat) (h : j < xs.length) : (u32s xs)[j]? = some (.int .u32 (xs.getD j 0).toNat) := by
  unfold u32s
  rw [List.getElem?_map, List.getElem?_eq_getElem h, List.getD_eq_getElem?_getD, List.getElem?_eq_getElem h]
  rfl
/-- A table of words, filled up with words 0. -/
def upto (n : Nat) (l : List UInt32) : List UInt32 := l ++ List.replicate (n - l.length) 0
theorem upto_length (n : Nat) (l : List UInt32) (h : l.length ≤ n) : (upto n l).length = n := by simp [upto]; omega
theorem upto_set (n k : Nat) (l : List UInt32) (x : UInt32) (h : l.length < n) (hk : l.length = k) : (upto n l).set k x = upto n (l ++ [x]) := by
  subst hk
  unfold upto
  rw [List.set_append_right _ _ (Nat.le_refl _), Nat.sub_self, show n - l.length = (n - (l.length + 1)) + 1 by omega, List.replicate_succ, List.set_cons_zero, List.append_assoc]
  simp
theorem upto_get (n j : Nat) (l : List UInt32) (h : j < l.length) : (upto n l).getD j 0 = l.getD j 0 := by
  unfold upto
  rw [List.getD_eq_getElem?_getD, List.getElem?_append_left h, ← List.getD_eq_getElem?_getD]
theorem run_alloc49 (w : World) : (Instr.alloc 132 true (.tuple #[])).run Tryd.prog w = .ok (.pointer (some ⟨w.heap.size, 0, none⟩)) (w.alloc (.cells (u32s (upto 64 [])).toArray 132)) := by kernel_rfl
set_option maxRecDepth 100000 in
theorem wpList_alloc49 {w : World} {ops : Array Oper} {rest : List Oper} {o : Oper} {a : Act} {Q : Exit → Act → World → Prop} (hgd : o.guard = none) (ho : o.op = .alloc 132)
    (h : ∀ w', Blk w' w.heap.size 132 (u32s (upto 64 [])) → w.grownBy w' none → w'.heap.size = w.heap.size + 1 → wpList Tryd.prog ops Q rest (a.put o.dst (.pointer (some ⟨w.heap.size, 0, none⟩))) w') : wpList Tryd.prog ops Q (o :: rest) a w := by
  refine wpList_plain hgd fun K hK => ?_
  have hrun := run_alloc49 w
  generalize u32s (upto 64 []) = z at hrun h
  unfold Oper.wp
  simp only [execOp, ho, Sem.run_bind, hrun, Result.andThen_ok, Sem.run_pure]
  exact hK _ _ (h _ (Blk.of_alloc w _ 132) (World.grownBy_alloc w _ none) (World.size_alloc w _))
theorem grown_new {w wr : World} {g : Nat} (hg : w.grownBy wr none) (hB : w.heap.size ≤ g) (i : Nat) (v : Value) : w.grownBy (wr.setCell ⟨g, i, none⟩ v) none :=
  World.grownBy.andThen hg (grown_set _ _ _ _) (by rintro _ ⟨⟩; exact .inl hB)
theorem rotr_still (x : UInt32) (n : Nat) (w : World) (h1 : 1 ≤ n) (h2 : n < 32) :
    Calls Tryd.prog 70 #[.int .u32 x.toNat, .int .i64 n] w fun e w' => e = .returned (.int .u32 (rotr x n).toNat) ∧ w' = w := (rotr_any x n w h1 h2).mono fun _ _ ⟨a, b⟩ => ⟨a, b.symm⟩
theorem nxt_eq (v0 v1 v9 v14 : UInt32) : ((v0.toNat : Int) + bits .xor .u32 (bits .xor .u32 (rotr v1 7).toNat (rotr v1 18).toNat) ((v1.toNat : Int) / 8) + v9.toNat
      + bits .xor .u32 (bits .xor .u32 (rotr v14 17).toNat (rotr v14 19).toNat) ((v14.toNat : Int) / 1024)) % 4294967296 = ((v0 + s0 v1 + v9 + s1 v14).toNat : Int) := by
  have e1 : (v1.toNat : Int) / 8 = ((shr v1 3).toNat : Int) := (w_shr v1 3).symm
  have e2 : (v14.toNat : Int) / 1024 = ((shr v14 10).toNat : Int) := (w_shr v14 10).symm
  rw [e1, e2, w_xor, w_xor, w_xor, w_xor, w_add, w_add, w_add]
  simp only [s0, s1]
  omega
theorem e_not (x : UInt32) : bits .xor .u32 (if IntKind.u32.signed = true then -1 else IntKind.u32.max) (x.toNat : Int) = ((~~~x).toNat : Int) := by
  have h := w_xor 4294967295 x
  rw [show ((4294967295 : UInt32).toNat : Int) = (if IntKind.u32.signed = true then -1 else IntKind.u32.max) from rfl] at h
  rw [h]
  congr 2
theorem t1_eq (r : St) (q : Nat) (v : UInt32) : ((r.h.toNat : Int) + bits .xor .u32 (bits .xor .u32 (rotr r.e 6).toNat (rotr r.e 11).toNat) (rotr r.e 25).toNat
      + bits .xor .u32 (bits .and .u32 r.e.toNat r.f.toNat) (bits .and .u32 (bits .xor .u32 (if IntKind.u32.signed = true then -1 else IntKind.u32.max) r.e.toNat) r.g.toNat) + (q : Int) / 4294967296 + v.toNat) % 4294967296
    = ((t1 r (UInt32.ofNat (q / 4294967296)) v).toNat : Int) := by
  rw [e_not, w_xor, w_xor, w_and, w_and, w_xor, t1, w_add, w_add, w_add, w_add, w_ofNat]
  simp only [S1]
  omega
theorem t2_eq (r : St) : (bits .xor .u32 (bits .xor .u32 (rotr r.a 2).toNat (rotr r.a 13).toNat) (rotr r.a 22).toNat
      + bits .xor .u32 (bits .xor .u32 (bits .and .u32 r.a.toNat r.b.toNat) (bits .and .u32 r.a.toNat r.c.toNat)) (bits .and .u32 r.b.toNat r.c.toNat)) % 4294967296 = ((t2 r).toNat : Int) := by
  rw [w_xor, w_xor, w_and, w_and, w_and, w_xor, w_xor, t2, w_add]
  simp only [S0]
/-- The k first of eight words, each with its other one. -/
def mix (s r : St) (k : Nat) : List UInt32 := (List.range 8).map fun j => s.list.getD j 0 + if j < k then r.list.getD j 0 else 0
theorem mix_length (s r : St) (k : Nat) : (mix s r k).length = 8 := by simp [mix]
theorem mix_zero (s r : St) : mix s r 0 = s.list := by
  cases s
  simp [mix, St.list, List.range, List.range.loop]
theorem mix_all (s r : St) : mix s r 8 = (s.plus r).list := by
  cases s; cases r
  simp [mix, St.list, St.plus, List.range, List.range.loop]
theorem mix_step (s r : St) (k : Nat) : (mix s r k).set k (s.list.getD k 0 + r.list.getD k 0) = mix s r (k + 1) := by
  apply List.ext_getElem (by simp [mix])
  intro j h1 h2
  rw [mix_length] at h2
  simp only [List.getElem_set, mix, List.getElem_map, List.getElem_range]
  by_cases e : k = j
  · subst e
    rw [if_pos rfl, if_pos (by omega)]
  · rw [if_neg e]
    by_cases h3 : j < k
    · rw [if_pos h3, if_pos (by omega)]
    · rw [if_neg h3, if_neg (by omega)]
theorem mix_get (s r : St) (k : Nat) (hk : k < 8) : (mix s r k).getD k 0 = s.list.getD k 0 := by
  rw [List.getD_eq_getElem?_getD, List.getElem?_eq_getElem (by rw [mix_length]; exact hk)]
  simp [mix]
theorem run_index8 (r : St) (k : Nat) (hk : k < 8) (W : World) : (Instr.index 124 (.agg #[.int .u32 (r.a.toNat : Int), .int .u32 (r.b.toNat : Int), .int .u32 (r.c.toNat : Int), .int .u32 (r.d.toNat : Int), .int .u32 (r.e.toNat : Int), .int .u32 (r.f.toNat : Int), .int .u32 (r.g.toNat : Int), .int .u32 (r.h.toNat : Int)]) (.int .i64 (k : Int))).run Tryd.prog W
    = .ok (.int .u32 ((r.list.getD k 0).toNat : Int)) W := by
  obtain rfl | rfl | rfl | rfl | rfl | rfl | rfl | rfl : k = 0 ∨ k = 1 ∨ k = 2 ∨ k = 3 ∨ k = 4 ∨ k = 5 ∨ k = 6 ∨ k = 7 := by omega
  all_goals kernel_rfl
theorem grown_drew {w wr w2 : World} {n : Nat} {row : Option Nat} (h : w.grownBy wr row) (e : w2 = (wr.drewN n).drew) : w.grownBy w2 row := by
  subst e; exact ⟨h.os, h.tape, h.output, h.size, h.block⟩
theorem grown_drewN {w wr : World} (n : Nat) {row : Option Nat} (h : w.grownBy wr row) : w.grownBy (wr.drewN n) row := ⟨h.os, h.tape, h.output, h.size, h.block⟩
theorem upto_full (n : Nat) (l : List UInt32) (h : l.length = n) : upto n l = l := by simp [upto, h]
theorem Byt.sub {w : World} {ok : Nat → Prop} {ad : Addr} {xs : List UInt8} (h : Byt w ok (some ad) xs) (o n : Nat) : Byt w ok (some (ad.add o)) ((xs.drop o).take n) := fun j hj => by
  rw [List.length_take, List.length_drop] at hj
  obtain ⟨_, e, ho, hc⟩ := h (o + j) (by omega)
  cases e
  refine ⟨_, rfl, by rw [block_of_plus]; exact ho, ?_⟩
  rw [plus_plus, hc]
  simp
theorem sub_length {xs : List UInt8} {o n m : Nat} (hl : xs.length = m) (h : o + n ≤ m) : ((xs.drop o).take n).length = n := by
  rw [List.length_take, List.length_drop]; omega
theorem read_n {w : World} {ok : Nat → Prop} {A : Option Addr} {xs : List UInt8} {c n : Nat} (hx : Byt w ok A xs) (hn : xs.length = n) (h0 : 0 < n) (hm : n ≤ 8) :
    Calls Tryd.prog 69 #[.slice A n c] w fun e w' => e = .returned (.int .u64 (nb xs)) ∧ w = w' := by
  subst hn; exact read_any hx h0 hm
theorem wd_conv (xs : List UInt8) (k : Nat) : ((nb ((xs.drop (4 * k)).take 4) : Nat) : Int) % 4294967296 = ((wd xs k).toNat : Int) := by
  rw [wd, w_ofNat]; rfl
set_option maxRecDepth 100000 in
set_option maxHeartbeats 1600000 in
theorem take_any {w : World} {g c : Nat} {ty : TypeId} {post : List Value} {s : St} {ok : Nat → Prop} {ad : Addr} {xs : List UInt8} (hb : Blk w g ty (u32s s.list ++ post)) (hx : Byt w ok (some ad) xs) (hok : ∀ b, ok b → b < w.heap.size) (hl : xs.length = 64)
    (hc64 : 64 ≤ c) (hK : ∀ i, i < 80 → w.cell? ⟨1, i, none⟩ = some (.int .u64 (cuN.getD i 0 : Nat))) :
    Calls Tryd.prog 66 #[.pointer (some ⟨g, 0, none⟩), .slice (some ad) 64 c] w fun e w' => e = .returned (.tuple #[]) ∧ Blk w' g ty (u32s (comp s xs).list ++ post) ∧ w.grownBy w' (some g) := by
  go_enter Tryd.func66, Tryd.ntmps66
  go_wp2_with (refine wpList_alloc49 rfl rfl ?_)
  intro w1 hk1 hg1 hz1
  go_wp2
  go_loopw [22] (fun i wr => ∃ k : Nat, k ≤ 16 ∧ i = .int .i64 k ∧ Blk wr w.heap.size 132 (u32s (upto 64 (wds xs k))) ∧ w.grownBy wr none ∧ wr.heap.size = w.heap.size + 1) (fun i _ => 16 - (intOf i).toNat)
  case atStart => exact ⟨0, Nat.zero_le _, rfl, hk1, hg1, hz1⟩
  case round =>
    obtain ⟨k, hk, rfl, hbr, hgr, hsz⟩ := hrel
    clear hk1 hg1 hz1
    have hxr : Byt wr ok (some ad) xs := hx.grown hgr (fun b hb => ⟨hok b hb, by simp⟩)
    by_cases hlt : k < 16
    · have hs := hxr.sub (4 * k) 4
      have hsl := sub_length hl (show 4 * k + 4 ≤ 64 by omega)
      have hwl := wds_length xs k
      have hul := upto_length 64 (wds xs k) (by omega)
      have hcell := hbr.get k _ (u32s_get _ k (by omega))
      have hf := hbr.frozen k
      have hcv := wd_conv xs k
      have HX := Lib.hid hx
      have HB := Lib.hid hbr
      have HXR := Lib.hid hxr
      have HW := Lib.hid hwl
      clear hx hbr hxr hb hwl
      go_wp2_with (go_at_call 69; refine (read_n hs hsl (by omega) (by omega)).mono ?_; rintro _ _ ⟨rfl, rfl⟩)
      go_roundw
      case rel =>
        refine ⟨k + 1, by omega, by go_num, ?_, grown_new hgr (Nat.le_refl _) _ _, (size_set _ _ _).trans hsz⟩
        have hs := HB.out.set k (.int .u32 ((wd xs k).toNat : Int))
        rw [u32s_set, upto_set 64 k _ _ (by rw [HW.out]; omega) HW.out, ← wds_succ] at hs
        exact hs
      case measure => simp [intOf]; omega
    · have ek : k = 16 := by omega
      have e16 : (k : Int) = 16 := by omega
      rw [ek] at hbr
      rw [e16]
      clear hk hlt ek e16
      obtain ⟨L0, hL0⟩ : ∃ L, L = wds xs 16 := ⟨_, rfl⟩
      have hL0l : L0.length = 16 := by rw [hL0, wds_length]
      rw [← hL0] at hbr
      have HL0 := Lib.hid hL0
      clear hL0 hx hxr
      go_wp2
      go_loopw [37] (fun i wr => ∃ k : Nat, k ≤ 48 ∧ i = .int .i64 k ∧ Blk wr w.heap.size 132 (u32s (upto 64 (sch L0 k))) ∧ w.grownBy wr none ∧ wr.heap.size = w.heap.size + 1) (fun i _ => 48 - (intOf i).toNat)
      case atStart => exact ⟨0, Nat.zero_le _, rfl, hbr, hgr, hsz⟩
      case round =>
        clear hbr hgr hsz
        obtain ⟨k, hk, rfl, hbr, hgr, hsz⟩ := hrel
        by_cases hlt : k < 48
        · obtain ⟨L, hL⟩ : ∃ L, L = sch L0 k := ⟨_, rfl⟩
          have hll : L.length = 16 + k := by rw [hL, sch_length, hL0l]
          rw [← hL] at hbr
          have hul := upto_length 64 L (by omega)
          have hf := hbr.frozen (k + 16)
          have c16 := hbr.get (k + 16) _ (u32s_get _ _ (by omega))
          have c0 := hbr.get k _ (u32s_get _ _ (by omega))
          have c1 := hbr.get (k + 1) _ (u32s_get _ _ (by omega))
          have c9 := hbr.get (k + 9) _ (u32s_get _ _ (by omega))
          have c14 := hbr.get (k + 14) _ (u32s_get _ _ (by omega))
          rw [upto_get _ _ _ (by omega)] at c0 c1 c9 c14
          obtain ⟨x, hx⟩ : ∃ x, x = nxt L k := ⟨_, rfl⟩
          have HN := Lib.hid hx
          unfold nxt at hx
          generalize L.getD k 0 = v0 at c0 hx
          generalize L.getD (k + 1) 0 = v1 at c1 hx
          generalize L.getD (k + 9) 0 = v9 at c9 hx
          generalize L.getD (k + 14) 0 = v14 at c14 hx
          have HX := Lib.hid hx
          have HB := Lib.hid hbr
          have HL := Lib.hid hL
          have HLL := Lib.hid hll
          clear hx hbr hL hll hb hL0l hK
          go_wp2_with (fail)
          go_quiet (fail)
          go_wp2_with (fail)
          have l0 : (k : Int) < 64 := by omega
          have l9 : (k : Int) + 9 < 64 := by omega
          have l16 : (k : Int) + 16 < 64 := by omega
          have p9 : (0 : Int) ≤ (k : Int) + 9 := by omega
          have p16 : (0 : Int) ≤ (k : Int) + 16 := by omega
          have t9 : ((k : Int) + 9).toNat = k + 9 := by omega
          have t16 : ((k : Int) + 16).toNat = k + 16 := by omega
          have w9 : IntKind.i64.wrap ((k : Int) + 9) = (k : Int) + 9 := by rw [IntKind.wrap_i64]; omega
          have w16 : IntKind.i64.wrap ((k : Int) + 16) = (k : Int) + 16 := by rw [IntKind.wrap_i64]; omega
          refine wp_region_still_tail 29 (by kernel_rfl) (by kernel_rfl) ?_
          change wpStill _ _ (wr.drewN nq).drew (fun a' => wpList _ _ _ _ a' (wr.drewN nq).drew) _ _
          obtain ⟨w2, hw2⟩ : ∃ w2, w2 = (wr.drewN nq).drew := ⟨_, rfl⟩
          rw [← hw2]
          have e2 : w2.heap = wr.heap := by rw [hw2]; rfl
          have ec : ∀ A, wr.cell? A = w2.cell? A := by intro A; rw [hw2]; rfl
          have ef : ∀ A, wr.frozen? A = w2.frozen? A := by intro A; rw [hw2]; rfl
          rw [ec] at c0 c1 c9 c14 c16
          rw [ef] at hf
          have HW2 := Lib.hid hw2
          clear hw2 ec ef
          simp only [List.take_succ_cons, List.take_zero, List.drop_succ_cons, List.drop_zero]
          repeat still_step
          still_call (rotr_still v1 7 _ (by omega) (by omega))
          repeat still_step
          still_call (rotr_still v1 18 _ (by omega) (by omega))
          repeat still_step
          still_call (rotr_still v14 17 _ (by omega) (by omega))
          repeat still_step
          still_call (rotr_still v14 19 _ (by omega) (by omega))
          repeat still_step
          refine wpStill_nil ?_
          go_wp2
          go_roundw
          case rel =>
            rw [nxt_eq, ← HX.out]
            refine ⟨k + 1, by omega, by go_num, ?_, grown_new (grown_drew hgr HW2.out) (Nat.le_refl _) _ _, ?_⟩
            · have hs := (HB.out.keep (w' := w2) (by rw [e2])).set (k + 16) (.int .u32 (x.toNat : Int))
              rw [u32s_set, upto_set 64 (k + 16) _ _ (by rw [HLL.out]; omega) (by rw [HLL.out]; omega), show L ++ [x] = sch L0 (k + 1) by rw [sch, ← HL.out, ← HN.out]] at hs
              exact hs
            · rw [size_set, e2]; exact hsz
          case measure => simp [intOf]; omega
        · have ek : k = 48 := by omega
          have e48 : (k : Int) = 48 := by omega
          rw [ek] at hbr
          rw [e48]
          clear hk hlt ek e48
          obtain ⟨L, hL⟩ : ∃ L, L = sch L0 48 := ⟨_, rfl⟩
          have hll : L.length = 64 := by rw [hL, sch_length, hL0l]
          rw [← hL, upto_full _ _ hll] at hbr
          have hbg := hb.grown hgr (by simp)
          have c0 := hbg.get 0 _ rfl
          have c1 := hbg.get 1 _ rfl
          have c2 := hbg.get 2 _ rfl
          have c3 := hbg.get 3 _ rfl
          have c4 := hbg.get 4 _ rfl
          have c5 := hbg.get 5 _ rfl
          have c6 := hbg.get 6 _ rfl
          have c7 := hbg.get 7 _ rfl
          have HB := Lib.hid hbr
          have HG := Lib.hid hbg
          have HL := Lib.hid hL
          clear hbr hbg hb hL hL0l
          go_wp2_with (go_at_call 71; refine (each_any wr g s.a s.b s.c s.d s.e s.f s.g s.h c0 c1 c2 c3 c4 c5 c6 c7).mono ?_; rintro _ _ ⟨rfl, m, rfl⟩)
          go_loopw [9, 10, 11, 12, 13, 14, 15, 16, 89] (fun a b c d e f g' h i wr' => ∃ k : Nat, k ≤ 64 ∧ i = .int .i64 k ∧ a = .int .u32 (rnds L s k).a.toNat ∧ b = .int .u32 (rnds L s k).b.toNat ∧ c = .int .u32 (rnds L s k).c.toNat ∧ d = .int .u32 (rnds L s k).d.toNat
              ∧ e = .int .u32 (rnds L s k).e.toNat ∧ f = .int .u32 (rnds L s k).f.toNat ∧ g' = .int .u32 (rnds L s k).g.toNat ∧ h = .int .u32 (rnds L s k).h.toNat ∧ wr'.heap = wr.heap ∧ w.grownBy wr' none) (fun _ _ _ _ _ _ _ _ i _ => 64 - (intOf i).toNat)
          case atStart => exact ⟨0, Nat.zero_le _, rfl, rfl, rfl, rfl, rfl, rfl, rfl, rfl, rfl, rfl, grown_drewN m hgr⟩
          case round =>
            clear c0 c1 c2 c3 c4 c5 c6 c7
            obtain ⟨k, hk, rfl, rfl, rfl, rfl, rfl, rfl, rfl, rfl, rfl, hh, hg⟩ := hrel
            obtain ⟨r, hr⟩ : ∃ r, r = rnds L s k := ⟨_, rfl⟩
            rw [← hr]
            by_cases hlt : k < 64
            · have cw := (HB.out.keep (w' := wr) (by rw [hh])).get k _ (u32s_get _ _ (by omega))
              have ck := hg.cell (hK k (by omega)) (by simp)
              obtain ⟨v, hv⟩ : ∃ v, v = L.getD k 0 := ⟨_, rfl⟩
              rw [← hv] at cw
              generalize hq : cuN.getD k 0 = q at ck
              have HQ := Lib.hid hq
              have HV := Lib.hid hv
              have HR := Lib.hid hr
              have HH := Lib.hid hh
              have HHK := Lib.hid hK
              clear hq hv hr hh hK
              have R6 : ∀ W, Calls Tryd.prog 70 #[.int .u32 r.e.toNat, .int .i64 6] W fun e w' => e = .returned (.int .u32 (rotr r.e 6).toNat) ∧ w' = W := fun W => rotr_still r.e 6 W (by omega) (by omega)
              have R11 : ∀ W, Calls Tryd.prog 70 #[.int .u32 r.e.toNat, .int .i64 11] W fun e w' => e = .returned (.int .u32 (rotr r.e 11).toNat) ∧ w' = W := fun W => rotr_still r.e 11 W (by omega) (by omega)
              have R25 : ∀ W, Calls Tryd.prog 70 #[.int .u32 r.e.toNat, .int .i64 25] W fun e w' => e = .returned (.int .u32 (rotr r.e 25).toNat) ∧ w' = W := fun W => rotr_still r.e 25 W (by omega) (by omega)
              have R2 : ∀ W, Calls Tryd.prog 70 #[.int .u32 r.a.toNat, .int .i64 2] W fun e w' => e = .returned (.int .u32 (rotr r.a 2).toNat) ∧ W = w' := fun W => rotr_any r.a 2 W (by omega) (by omega)
              have R13 : ∀ W, Calls Tryd.prog 70 #[.int .u32 r.a.toNat, .int .i64 13] W fun e w' => e = .returned (.int .u32 (rotr r.a 13).toNat) ∧ W = w' := fun W => rotr_any r.a 13 W (by omega) (by omega)
              have R22 : ∀ W, Calls Tryd.prog 70 #[.int .u32 r.a.toNat, .int .i64 22] W fun e w' => e = .returned (.int .u32 (rotr r.a 22).toNat) ∧ W = w' := fun W => rotr_any r.a 22 W (by omega) (by omega)
              go_wp2_with (fail)
              go_quiet (first | (with_reducible exact Calls.quiet_of_same (R6 _)) | (with_reducible exact Calls.quiet_of_same (R11 _)) | (with_reducible exact Calls.quiet_of_same (R25 _)))
              clear R6 R11 R25
              go_wp2_with (go_at_call 70; (first | (with_reducible refine (R2 _).mono ?_) | (with_reducible refine (R13 _).mono ?_) | (with_reducible refine (R22 _).mono ?_)); rintro _ _ ⟨rfl, rfl⟩)
              go_roundw
              case rel =>
                have er : rnds L s (k + 1) = rnd r (UInt32.ofNat (q / 4294967296)) v := by rw [rnds, ← HR.out, kw, HQ.out, HV.out]
                rw [t1_eq, t2_eq, ← w_add, ← w_add]
                refine ⟨k + 1, by omega, by go_num, ?_⟩
                rw [er]
                exact ⟨rfl, rfl, rfl, rfl, rfl, rfl, rfl, rfl, HH.out, grown_drewN _ hg⟩
              case measure => simp [intOf]; omega
            · have ek : k = 64 := by omega
              have e64 : (k : Int) = 64 := by omega
              rw [e64]
              rw [ek] at hr
              clear hk hlt ek e64
              have hbg := HG.out.keep (w' := wr) (by rw [hh])
              have HR := Lib.hid hr
              clear hr
              go_wp2
              go_loopw [163] (fun i wr => ∃ k : Nat, k ≤ 8 ∧ i = .int .i64 k ∧ Blk wr g ty (u32s (mix s r k) ++ post) ∧ w.grownBy wr (some g)) (fun i _ => 8 - (intOf i).toNat)
              case atStart => exact ⟨0, Nat.zero_le _, rfl, by rw [mix_zero]; exact hbg, World.grownBy.but hg _⟩
              case round =>
                clear hbg hh hg hgr hsz
                obtain ⟨k, hk, rfl, hbg, hg⟩ := hrel
                by_cases hlt : k < 8
                · have hml := mix_length s r k
                  have hc := hbg.get k _ (by rw [List.getElem?_append_left (by rw [u32s_length]; omega)]; exact u32s_get _ _ (by omega))
                  have hf := hbg.frozen k
                  rw [mix_get s r k hlt] at hc
                  have HB := Lib.hid hbg
                  clear hbg hK
                  have hix := run_index8 r k hlt
                  go_wp2_with (fail)
                  go_region
                  go_wp2
                  go_roundw
                  case rel =>
                    simp only [← List.getD_eq_getElem?_getD]
                    rw [← w_add]
                    refine ⟨k + 1, by omega, by go_num, ?_, ?_⟩
                    · have hs := HB.out.set k (.int .u32 ((s.list.getD k 0 + r.list.getD k 0).toNat : Int))
                      rw [List.set_append_left _ _ (by rw [u32s_length]; omega), u32s_set, mix_step] at hs
                      exact hs.keep rfl
                    · have hs := World.grownBy.trans hg (grown_set wr g k (.int .u32 ((s.list.getD k 0 + r.list.getD k 0).toNat : Int)))
                      exact ⟨hs.os, hs.tape, hs.output, hs.size, hs.block⟩
                  case measure => simp [intOf]; omega
                · have ek : k = 8 := by omega
                  rw [ek, mix_all] at hbg
                  clear hK
                  go_wp2
                  go_end0
                  refine ⟨rfl, ?_, hg⟩
                  unfold comp
                  rw [← HL0.out, ← HL.out, ← HR.out]
                  exact hbg
open Go.RowKit
/-- Bytes 0. -/
def zs (k : Nat) : List UInt8 := List.replicate k 0
theorem zs_length (k : Nat) : (zs k).length = k := by simp [zs]
theorem zs_drop (k j : Nat) : (zs k).drop j = zs (k - j) := by simp [zs]
/-- What copying xs makes of ys. -/
def lay (xs ys : List UInt8) : List UInt8 := xs.take ys.length ++ ys.drop xs.length
section
variable {w : World} {ops : Array Oper} {rest : List Oper} {o : Oper} {a : Act} {Q : Exit → Act → World → Prop}
theorem Blk.setRow {g : Nat} {ty : TypeId} {cs ds : List Value} (h : Blk w g ty cs) : Blk (w.setRow g ds.toArray) g ty ds := setRow_heap w g _ _ ty _ h
theorem grown_setRow (w : World) (g : Nat) (ds : Array Value) : w.grownBy (w.setRow g ds) (some g) :=
  ⟨rfl, rfl, rfl, by simp [World.setRow], fun k _ hk => setRow_other w g k ds (fun e => hk (by rw [e]))⟩
theorem wpList_copy_blk (hgd : o.guard = none) (d s : Operand) (ho : o.op = .call { callee := .builtin .copy, args := #[d, s], argTypes := #[66, 66] })
    (g off dLen dCap sLen sCap : Nat) (A : Option Addr) (xs ys : List UInt8) (hd : a.eval d = .slice (some ⟨g, off, none⟩) dLen dCap) (hs : a.eval s = .slice A sLen sCap) (hxl : xs.length = sLen) (hyl : ys.length = dLen)
    (ty : TypeId) (pre post : List Value) (hb : Blk w g ty (pre ++ u8s ys ++ post)) (hp : pre.length = off) (ok : Nat → Prop) (hx : Byt w ok A xs) (m : Nat) (hm : Nat.min xs.length ys.length = m)
    (h : ∀ w', Blk w' g ty (pre ++ u8s (lay xs ys) ++ post) → w.grownBy w' (some g) → w'.heap.size = w.heap.size → wpList Tryd.prog ops Q rest (a.put o.dst (goInt (m : Int))) w') :
    wpList Tryd.prog ops Q (o :: rest) a w := by
  subst hm hxl hyl hp
  have hcs : (u8s (xs.take ys.length)).length = Nat.min xs.length ys.length := by rw [u8s_length, List.length_take, Nat.min_comm]
  by_cases h0 : Nat.min xs.length ys.length = 0
  · refine wpList_copy_nothing hgd d s 66 66 ho 5 Tryd.underlying66 (by kernel_rfl) _ _ ys.length dCap xs.length sCap hd hs h0 ?_
    have e : lay xs ys = ys := by
      rcases xs with _ | ⟨x, xs⟩
      · simp [lay]
      · rcases ys with _ | ⟨y, ys⟩
        · simp [lay]
        · simp [Nat.min] at h0
    have := h w (by rw [e]; exact hb) (World.grownBy.refl _ _) rfl
    rw [h0] at this
    exact this
  · obtain ⟨ad, rfl, _, hcell⟩ := hx.some_ (by have : Nat.min xs.length ys.length ≤ xs.length := Nat.min_le_left _ _; omega)
    refine wpList_copy_own hgd d s 66 66 ho 5 Tryd.underlying66 (by kernel_rfl) g pre.length ys.length dCap ad xs.length sCap hd hs _ ty hb (u8s (xs.take ys.length)) hcs ?_ ?_ (u8s_one _) ?_
    · intro j v hv
      obtain ⟨hj, rfl⟩ := u8s_get _ j v hv
      rw [List.length_take] at hj
      rw [hcell j (by omega)]
      simp
    · rw [hcs]
      have : Nat.min xs.length ys.length ≤ ys.length := Nat.min_le_right _ _
      simp only [List.size_toArray, List.length_append, u8s_length]
      omega
    · rw [hcs]
      have e : List.take pre.length (pre ++ u8s ys ++ post) ++ (u8s (xs.take ys.length) ++ List.drop (pre.length + Nat.min xs.length ys.length) (pre ++ u8s ys ++ post)) = pre ++ u8s (lay xs ys) ++ post := by
        rw [List.append_assoc pre, List.take_left', List.drop_append, List.drop_eq_nil_of_le (by omega), Nat.add_sub_cancel_left, List.nil_append, List.drop_append_of_le_length (by rw [u8s_length]; exact Nat.min_le_right _ _)]
        rw [lay, u8s_append]
        have e2 : List.drop (Nat.min xs.length ys.length) (u8s ys) = u8s (ys.drop xs.length) := by
          unfold u8s
          rw [← List.map_drop]
          congr 1
          rcases Nat.le_total xs.length ys.length with hle | hle
          · rw [show Nat.min xs.length ys.length = xs.length from Nat.min_eq_left hle]
          · rw [show Nat.min xs.length ys.length = ys.length from Nat.min_eq_right hle, List.drop_eq_nil_of_le (Nat.le_refl _), List.drop_eq_nil_of_le hle]
        rw [e2]
        simp only [List.append_assoc]
        rfl
      simp only []
      rw [e]
      exact h _ (Blk.setRow hb) (grown_setRow _ _ _) (by simp [World.setRow])
end
theorem Blk.setCells {g : Nat} {ty : TypeId} {post : List Value} : ∀ (vs mid pre : List Value) (o : Nat) (w : World), Blk w g ty (pre ++ mid ++ post) → pre.length = o → vs.length = mid.length →
    Blk (w.setCells g o vs) g ty (pre ++ vs ++ post) ∧ w.grownBy (w.setCells g o vs) (some g) ∧ (w.setCells g o vs).heap.size = w.heap.size
  | [], mid, pre, o, w, hb, ho, hl => by
    obtain rfl : mid = [] := List.eq_nil_of_length_eq_zero hl.symm
    exact ⟨hb, World.grownBy.refl _ _, rfl⟩
  | v :: vs, [], pre, o, w, hb, ho, hl => by simp at hl
  | v :: vs, m :: mid, pre, o, w, hb, ho, hl => by
    subst ho
    have h1 := hb.set pre.length v
    have e : (pre ++ m :: mid ++ post).set pre.length v = (pre ++ [v]) ++ mid ++ post := by
      rw [List.append_assoc, List.set_append_right _ _ (Nat.le_refl _), Nat.sub_self]
      simp
    rw [e] at h1
    obtain ⟨h2, h3, h4⟩ := Blk.setCells vs mid (pre ++ [v]) (pre.length + 1) _ h1 (by simp) (by simpa using hl)
    refine ⟨?_, World.grownBy.trans (grown_set w g pre.length v) h3, h4.trans (size_set _ _ _)⟩
    have : pre ++ v :: vs ++ post = pre ++ [v] ++ vs ++ post := by simp
    rw [this]
    exact h2
section
variable {w : World} {ops : Array Oper} {rest : List Oper} {o : Oper} {a : Act} {Q : Exit → Act → World → Prop}
theorem wpList_clear_blk (hgd : o.guard = none) (s : Operand) (ho : o.op = .call { callee := .builtin .clear, args := #[s], argTypes := #[66] })
    (g off n c : Nat) (ys : List UInt8) (hs : a.eval s = .slice (some ⟨g, off, none⟩) n c) (hyl : ys.length = n) (hn : 0 < n)
    (ty : TypeId) (pre post : List Value) (hb : Blk w g ty (pre ++ u8s ys ++ post)) (hp : pre.length = off)
    (h : ∀ w', Blk w' g ty (pre ++ u8s (zs n) ++ post) → w.grownBy w' (some g) → w'.heap.size = w.heap.size → wpList Tryd.prog ops Q rest (a.put o.dst (.tuple #[])) w') :
    wpList Tryd.prog ops Q (o :: rest) a w := by
  subst hp
  have hc : ∀ j, j < n → (w.cell? ⟨g, pre.length + j, none⟩).isSome = true := fun j hj => by
    rw [hb.cell (pre.length + j) (by simp only [List.length_append, u8s_length]; omega)]
    rfl
  have hr := Lib.run_clear_slice (P := Tryd.prog) w 66 5 o.type (.int .u8 0) Tryd.underlying66 (fun w => by kernel_rfl) rfl rfl g pre.length n c hn hc (fun j _ => hb.frozen _)
  obtain ⟨h1, h2, h3⟩ := Blk.setCells (List.replicate n (Value.int .u8 0)) (u8s ys) pre pre.length w hb rfl (by rw [u8s_length]; simp [hyl])
  have e : List.replicate n (Value.int .u8 0) = u8s (zs n) := by simp [u8s, zs]
  rw [e] at h1 h2 h3 hr
  refine wpList_plain hgd fun K hK => ?_
  unfold Oper.wp execOp
  simp only [ho, resolve, invoke, builtin, Sem.run_bind, Sem.run_pure, Result.andThen_ok, List.map_toArray, List.map_cons, List.map_nil, hs, hr]
  exact hK _ _ (h _ h1 h2 h3)
end
open Go.RowKit
theorem made_u8 (s : Nat) : (madeCells #[Value.int .u8 0] s).toList = u8s (List.replicate s 0) := by
  rw [toList_madeCells_one]
  simp [u8s]
theorem Blk.of_owns {w : World} {base g n : Nat} {xs : List Value} (h : w.ownsRow base 5 1 (.slice (some ⟨g, 0, none⟩) n n) n xs) : Blk w g 5 xs := by
  rcases h.2 with ⟨e, _⟩ | ⟨g', cap, cur, e, _, hg, _, _, hs, ht⟩
  · cases e
  · cases e
    unfold Blk
    rw [hg]
    have : cur.toList = xs := by
      rw [← ht, List.take_of_length_le]
      simp [hs]
    rw [← this]
theorem lay_le (xs ys : List UInt8) (h : xs.length ≤ ys.length) : lay xs ys = xs ++ ys.drop xs.length := by rw [lay, List.take_of_length_le h]
theorem write_n {w : World} {g o c n m : Nat} {N : Int} {ty : TypeId} {pre post : List Value} {ys : List UInt8} (hb : Blk w g ty (pre ++ u8s ys ++ post)) (ho : pre.length = o) (hy : ys.length = m) (hl : m ≤ 8) (hN : N = (n : Int)) :
    Calls Tryd.prog 68 #[.slice (some ⟨g, o, none⟩) m c, .int .u64 N] w fun e w' => e = .returned (.tuple #[]) ∧ Blk w' g ty (pre ++ u8s (be m n) ++ post) ∧ w.grownBy w' (some g) ∧ w'.heap.size = w.heap.size := by
  subst hy hN; exact write_any hb ho hl
set_option maxHeartbeats 1600000 in
theorem filled_any {w : World} {ok : Nat → Prop} {A : Option Addr} {rs : List UInt8} {r c n s : Nat} (hx : Byt w ok A rs) (hok : ∀ b, ok b → b < w.heap.size) (hr : rs.length = r) (hrn : r = n % 64) (hn : n < 2305843009213693952) (hs : (fill rs n).length = s) :
    Calls Tryd.prog 67 #[.slice A r c, .int .u64 n, .int .i64 64, .int .i64 8] w fun e w' => e = .returned (.slice (some ⟨w.heap.size, 0, none⟩) s s) ∧ Blk w' w.heap.size 5 (u8s (fill rs n)) ∧ w.grownBy w' none := by
  have hfl := fill_length rs n (by omega)
  have hs2 : s = (r + 72) / 64 * 64 := by omega
  have hsr : r + 9 ≤ s := by omega
  have hs128 : s ≤ 128 := by omega
  have hr64 : r < 64 := by omega
  have hsz : ((r : Int) + 1 + 8 + 64 - 1) / 64 * 64 = (s : Int) := by omega
  obtain ⟨i0, hi, hz0, hz1, hz2⟩ := info_parts Tryd.info5
  have HF := Lib.hid hs
  have HX := Lib.hid hx
  have HR := Lib.hid hr
  have HN := Lib.hid hrn
  have HL := Lib.hid hfl
  have H2 := Lib.hid hs2
  clear hs hx hr hrn hfl hs2
  go_enter Tryd.func67, Tryd.ntmps67
  go_wp2_with (with_reducible refine wpList_make_full _ rfl _ _ 66 rfl w.heap.size 5 i0 (.int .u8 0) 1 Tryd.underlying66 hi hz0 hz1 .i64 .i64 _ _ s rfl rfl rfl rfl ?c1 ?c2 ?c3 ?_)
  case c1 => rw [hz2]; omega
  case c2 => unfold maxLen; omega
  case c3 => exact Nat.le_refl _
  intro w1 hown hg1
  rw [made_u8] at hown
  have hb1 := Blk.of_owns hown
  have HB1 := Lib.hid hb1
  have HG1 := Lib.hid hg1
  clear hown hb1 hg1
  go_wp2_with (with_reducible refine wpList_copy_blk rfl _ _ rfl w.heap.size 0 s s r c A rs (List.replicate s 0) rfl rfl HR.out (by simp) 5 [] [] (HB1.out.to (by simp)) rfl ok (HX.out.grown HG1.out (fun b hb => ⟨hok b hb, by simp⟩)) r (by rw [HR.out, List.length_replicate]; exact Nat.min_eq_left (by omega)) ?_)
  intro w2 hb2 hg2 hz2'
  have hrl := HR.out
  have hg := World.grownBy.andThen HG1.out hg2 (by rintro _ ⟨⟩; exact .inl (Nat.le_refl _)) (row := none)
  have hlay : lay rs (List.replicate s 0) = rs ++ List.replicate (s - r) 0 := by rw [lay_le _ _ (by simp; omega), List.drop_replicate, hrl]
  rw [hlay] at hb2
  have hcell := hb2.get r (.int .u8 0) (by
    unfold u8s
    rw [List.getElem?_map, List.getElem?_append_right (by omega), hrl, Nat.sub_self, List.getElem?_replicate, if_pos (by omega)]
    rfl)
  have hf := hb2.frozen r
  have hb3 := hb2.set r (.int .u8 ((128 : UInt8).toNat : Int))
  have hset : (rs ++ List.replicate (s - r) 0).set r (128 : UInt8) = (rs ++ 128 :: List.replicate (s - r - 9) 0) ++ List.replicate 8 0 := by
    rw [List.set_append_right _ _ (by omega), hrl, Nat.sub_self, show s - r = (s - r - 9) + 8 + 1 by omega, List.replicate_succ, List.set_cons_zero, List.append_assoc, List.cons_append, List.replicate_append_replicate]
    congr 3
  rw [u8s_set, hset, u8s_append] at hb3
  replace hb3 : Blk (w2.setCell ⟨w.heap.size, r, none⟩ (.int .u8 128)) w.heap.size 5 (u8s (rs ++ 128 :: List.replicate (s - r - 9) 0) ++ u8s (List.replicate 8 0) ++ []) := hb3.to (by simp)
  have hpl : (u8s (rs ++ 128 :: List.replicate (s - r - 9) 0)).length = s - 8 := by rw [u8s_length]; simp only [List.length_append, List.length_cons, List.length_replicate]; omega
  have HB3 := Lib.hid hb3
  have HP := Lib.hid hpl
  have HRL := Lib.hid hrl
  have HG := Lib.hid hg
  clear hb2 hb3 hpl hlay hset hrl hg hg2 hz2'
  go_wp2_with (go_at_call 68; refine (write_n (n := 8 * n) HB3.out HP.out (by rw [List.length_replicate]; omega) (by omega) (by omega)).mono ?_; rintro _ w4 ⟨rfl, hb4, hg4, hz4⟩)
  go_ret
  have hz : zpad n = s - r - 9 := by
    have h1 := HL.out; have h2 := HF.out; have h3 := HN.out
    rw [zpad]; omega
  refine ⟨rfl, hb4.to ?_, World.grownBy.andThen (World.grownBy.andThen HG.out (grown_set _ _ _ _) (by rintro _ ⟨⟩; exact .inl (Nat.le_refl _))) hg4 (by rintro _ ⟨⟩; exact .inl (Nat.le_refl _))⟩
  rw [show s - (s - 8) = 8 by omega, fill, hz, List.append_nil, ← u8s_append, List.append_assoc, List.cons_append]
open Go.RowKit
/-- The cells of a hash under way. -/
def hcells (s : St) (bs : List UInt8) (n : Nat) : List Value := u32s s.list ++ (u8s bs ++ [.int .u64 n])
/-- At p lies a hash under way, to which xs was put. -/
def HashAt (w : World) (p : Nat) (xs : List UInt8) : Prop := Blk w p 126 (hcells (st xs) (rst xs ++ List.replicate (64 - (rst xs).length) 0) xs.length)
def z41 : List Value := u32s (upto 8 []) ++ (u8s (List.replicate 64 0) ++ [.int .u64 (0 : Nat)])
theorem run_build41 (w : World) : (Instr.build 126 #[]).run Tryd.prog w = .ok (.agg z41.toArray) w := by kernel_rfl
theorem run_box41 (w : World) : (Instr.box 126 (.agg z41.toArray)).run Tryd.prog w = .ok (.pointer (some ⟨w.heap.size, 0, none⟩)) (w.alloc (.cells z41.toArray 126)) := by kernel_rfl
section
variable {w : World} {ops : Array Oper} {rest : List Oper} {o : Oper} {a : Act} {Q : Exit → Act → World → Prop}
theorem wpList_build41 (hgd : o.guard = none) (ho : o.op = .build 126 #[]) (h : wpList Tryd.prog ops Q rest (a.put o.dst (.agg z41.toArray)) w) : wpList Tryd.prog ops Q (o :: rest) a w := by
  refine wpList_plain hgd fun K hK => ?_
  have hrun := run_build41 w
  generalize z41 = z at hrun h
  unfold Oper.wp
  simp only [execOp, ho, List.map_toArray, List.map_nil, Sem.run_bind, hrun, Result.andThen_ok, Sem.run_pure]
  exact hK _ _ h
theorem wpList_box41 (hgd : o.guard = none) (x : Operand) (ho : o.op = .box 126 x) (hx : a.eval x = .agg z41.toArray)
    (h : ∀ w', Blk w' w.heap.size 126 z41 → w.grownBy w' none → w'.heap.size = w.heap.size + 1 → wpList Tryd.prog ops Q rest (a.put o.dst (.pointer (some ⟨w.heap.size, 0, none⟩))) w') : wpList Tryd.prog ops Q (o :: rest) a w := by
  refine wpList_plain hgd fun K hK => ?_
  have hrun := run_box41 w
  generalize z41 = z at hrun h hx
  unfold Oper.wp
  simp only [execOp, ho, hx, Sem.run_bind, hrun, Result.andThen_ok, Sem.run_pure]
  exact hK _ _ (h _ (Blk.of_alloc w _ 126) (World.grownBy_alloc w _ none) (World.size_alloc w _))
end
def sqV : List Value := sqN.map fun (n : Nat) => Value.int .u64 (n : Int)
theorem run_index42 (k : Nat) (hk : k < 8) (W : World) : (Instr.index 127 (.agg sqV.toArray) (.int .i64 (k : Int))).run Tryd.prog W = .ok (.int .u64 ((sqN.getD k 0 : Nat) : Int)) W := by
  obtain rfl | rfl | rfl | rfl | rfl | rfl | rfl | rfl : k = 0 ∨ k = 1 ∨ k = 2 ∨ k = 3 ∨ k = 4 ∨ k = 5 ∨ k = 6 ∨ k = 7 := by omega
  all_goals kernel_rfl
/-- The k first of the first words. -/
def sq (k : Nat) : List UInt32 := (List.range k).map fun i => UInt32.ofNat (sqN.getD i 0 / 4294967296)
theorem sq_length (k : Nat) : (sq k).length = k := by simp [sq]
theorem sq_succ (k : Nat) : sq (k + 1) = sq k ++ [UInt32.ofNat (sqN.getD k 0 / 4294967296)] := by simp [sq, List.range_succ]
theorem sq_all : sq 8 = H0.list := by decide
theorem size42 : (Tryd.prog.info? 127).map (·.size) = some 8 := by kernel_rfl
theorem range_sq {w : World} (hS : ∀ i, i < 8 → w.cell? ⟨0, i, none⟩ = some (.int .u64 (sqN.getD i 0 : Nat))) : w.rangeAt 0 0 sqV := fun j v hv => by
  have hj : j < 8 := (List.getElem?_eq_some_iff.1 hv).1
  rw [Nat.zero_add, hS j hj]
  unfold sqV at hv
  rw [List.getElem?_map] at hv
  have hj' : j < sqN.length := hj
  rw [List.getElem?_eq_getElem hj'] at hv
  rw [List.getD_eq_getElem?_getD, List.getElem?_eq_getElem hj']
  exact hv
set_option maxRecDepth 100000 in
set_option maxHeartbeats 1600000 in
theorem new_any {w : World} (hS : ∀ i, i < 8 → w.cell? ⟨0, i, none⟩ = some (.int .u64 (sqN.getD i 0 : Nat))) :
    Calls Tryd.prog 62 #[] w fun e w' => e = .returned (.pointer (some ⟨w.heap.size, 0, none⟩)) ∧ HashAt w' w.heap.size [] ∧ w.grownBy w' none := by
  go_enter Tryd.func62, Tryd.ntmps62
  go_wp2_with (first | (refine wpList_build41 rfl rfl ?_) | (refine wpList_box41 rfl _ rfl rfl ?_))
  intro w1 hb1 hg1 hz1
  have hr1 := range_sq (w := w1) fun i hi => hg1.cell (hS i hi) (by simp)
  go_wp2_with (refine wpList_load_mid rfl 127 _ rfl 0 0 rfl sqV _ hr1 Tryd.underlying127 rfl (by rw [size42]; rfl) ?_)
  generalize hsv : sqV = sv
  have HSV := Lib.hid hsv
  clear hr1 hsv
  go_loopw [7] (fun i wr => ∃ k : Nat, k ≤ 8 ∧ i = .int .i64 k ∧ Blk wr w.heap.size 126 (u32s (upto 8 (sq k)) ++ (u8s (List.replicate 64 0) ++ [.int .u64 (0 : Nat)])) ∧ w.grownBy wr none) (fun i _ => 8 - (intOf i).toNat)
  case atStart => exact ⟨0, Nat.zero_le _, rfl, hb1, hg1⟩
  case round =>
    clear hb1 hg1 hz1 hS
    obtain ⟨k, hk, rfl, hb, hg⟩ := hrel
    by_cases hlt : k < 8
    · have hul := upto_length 8 (sq k) (by rw [sq_length]; omega)
      have hc := hb.get k _ (by rw [List.getElem?_append_left (by rw [u32s_length]; omega)]; exact u32s_get _ _ (by omega))
      have hf := hb.frozen k
      have hix := run_index42 k hlt
      rw [HSV.out] at hix
      have hq : ((sqN.getD k 0 : Nat) : Int) / 4294967296 % 4294967296 = ((UInt32.ofNat (sqN.getD k 0 / 4294967296)).toNat : Int) := by rw [w_ofNat]; rfl
      have HQ := Lib.hid hq
      have HB := Lib.hid hb
      clear hq hb
      go_wp2
      go_roundw
      case rel =>
        simp only [← List.getD_eq_getElem?_getD]
        rw [HQ.out]
        refine ⟨k + 1, by omega, by go_num, ?_, grown_new hg (Nat.le_refl _) _ _⟩
        have hs := HB.out.set k (.int .u32 ((UInt32.ofNat (sqN.getD k 0 / 4294967296)).toNat : Int))
        rw [List.set_append_left _ _ (by rw [u32s_length]; omega), u32s_set, upto_set 8 k _ _ (by rw [sq_length]; omega) (sq_length k), ← sq_succ] at hs
        exact hs
      case measure => simp [intOf]; omega
    · have ek : k = 8 := by omega
      rw [ek, upto_full 8 _ (sq_length 8), sq_all] at hb
      go_wp2
      go_ret
      exact ⟨rfl, hb, hg⟩
end Go.Proofs.YtdnkeaokgkiloaaDoor.S
