/- probe -/
import Derived.Test.YtgphopahlgfogaaDoorBytes
import Derived.Test.YtgphopahlgfogaaDoorSha
import Derived.StillTailTactics
namespace Go.Proofs.YtgphopahlgfogaaDoor
open Go.RowKit
def u32s (xs : List UInt32) : List Value := xs.map fun x => Value.int .u32 (x.toNat : Int)
theorem u32s_length (xs : List UInt32) : (u32s xs).length = xs.length := by simp [u32s]
theorem u32s_append (xs ys : List UInt32) : u32s (xs ++ ys) = u32s xs ++ u32s ys := by simp [u32s]
theorem u32s_set (xs : List UInt32) (j : Nat) (x : UInt32) : (u32s xs).set j (.int .u32 (x.toNat : Int)) = u32s (xs.set j x) := by simp [u32s, List.map_set]
theorem u32s_get (xs : List UInt32) (j : Nat) (h : j < xs.length) : (u32s xs)[j]? = some (.int .u32 (xs.getD j 0).toNat) := by
  unfold u32s
  rw [List.getElem?_map, List.getElem?_eq_getElem h, List.getD_eq_getElem?_getD, List.getElem?_eq_getElem h]
  rfl
/-- A table of words, filled up with words 0. -/
def upto (n : Nat) (l : List UInt32) : List UInt32 := l ++ List.replicate (n - l.length) 0
theorem upto_length (n : Nat) (l : List UInt32) (h : l.length ≤ n) : (upto n l).length = n := by simp [upto]; omega
theorem upto_set (n k : Nat) (l : List UInt32) (x : UInt32) (h : l.length < n) (hk : l.length = k) : (upto n l).set k x = upto n (l ++ [x]) := by
  subst hk
  unfold upto
  rw [List.set_append_right _ _ (Nat.le_refl _), Nat.sub_self, show n - l.length = (n - (l.length + 1)) + 1 by omega, List.replicate_succ, List.set_cons_zero, List.append_assoc]
  simp
theorem upto_get (n j : Nat) (l : List UInt32) (h : j < l.length) : (upto n l).getD j 0 = l.getD j 0 := by
  unfold upto
  rw [List.getD_eq_getElem?_getD, List.getElem?_append_left h, ← List.getD_eq_getElem?_getD]
theorem run_alloc49 (w : World) : (Instr.alloc 59 true (.tuple #[])).run Tryd.prog w = .ok (.pointer (some ⟨w.heap.size, 0, none⟩)) (w.alloc (.cells (u32s (upto 64 [])).toArray 59)) := by kernel_rfl
set_option maxRecDepth 100000 in
theorem wpList_alloc49 {w : World} {ops : Array Oper} {rest : List Oper} {o : Oper} {a : Act} {Q : Exit → Act → World → Prop} (hgd : o.guard = none) (ho : o.op = .alloc 59)
    (h : ∀ w', Blk w' w.heap.size 59 (u32s (upto 64 [])) → w.grownBy w' none → w'.heap.size = w.heap.size + 1 → wpList Tryd.prog ops Q rest (a.put o.dst (.pointer (some ⟨w.heap.size, 0, none⟩))) w') : wpList Tryd.prog ops Q (o :: rest) a w := by
  refine wpList_plain hgd fun K hK => ?_
  have hrun := run_alloc49 w
  generalize u32s (upto 64 []) = z at hrun h
  unfold Oper.wp
  simp only [execOp, ho, Sem.run_bind, hrun, Result.andThen_ok, Sem.run_pure]
  exact hK _ _ (h _ (Blk.of_alloc w _ 59) (World.grownBy_alloc w _ none) (World.size_alloc w _))

theorem grown_new {w wr : World} {g : Nat} (hg : w.grownBy wr none) (hB : w.heap.size ≤ g) (i : Nat) (v : Value) : w.grownBy (wr.setCell ⟨g, i, none⟩ v) none :=
  World.grownBy.andThen hg (grown_set _ _ _ _) (by rintro _ ⟨⟩; exact .inl hB)
theorem rotr_still (x : UInt32) (n : Nat) (w : World) (h1 : 1 ≤ n) (h2 : n < 32) :
    Calls Tryd.prog 32 #[.int .u32 x.toNat, .int .i64 n] w fun e w' => e = .returned (.int .u32 (rotr x n).toNat) ∧ w' = w := (rotr_any x n w h1 h2).mono fun _ _ ⟨a, b⟩ => ⟨a, b.symm⟩
theorem nxt_eq (v0 v1 v9 v14 : UInt32) : ((v0.toNat : Int) + bits .xor .u32 (bits .xor .u32 (rotr v1 7).toNat (rotr v1 18).toNat) ((v1.toNat : Int) / 8) + v9.toNat
      + bits .xor .u32 (bits .xor .u32 (rotr v14 17).toNat (rotr v14 19).toNat) ((v14.toNat : Int) / 1024)) % 4294967296 = ((v0 + s0 v1 + v9 + s1 v14).toNat : Int) := by
  have e1 : (v1.toNat : Int) / 8 = ((shr v1 3).toNat : Int) := (w_shr v1 3).symm
  have e2 : (v14.toNat : Int) / 1024 = ((shr v14 10).toNat : Int) := (w_shr v14 10).symm
  rw [e1, e2, w_xor, w_xor, w_xor, w_xor, w_add, w_add, w_add]
  simp only [s0, s1]
  omega
theorem e_not (x : UInt32) : bits .xor .u32 (if IntKind.u32.signed = true then -1 else IntKind.u32.max) (x.toNat : Int) = ((~~~x).toNat : Int) := by
  have h := w_xor 4294967295 x
  rw [show ((4294967295 : UInt32).toNat : Int) = (if IntKind.u32.signed = true then -1 else IntKind.u32.max) from rfl] at h
  rw [h]
  congr 2
theorem t1_eq (r : St) (q : Nat) (v : UInt32) : ((r.h.toNat : Int) + bits .xor .u32 (bits .xor .u32 (rotr r.e 6).toNat (rotr r.e 11).toNat) (rotr r.e 25).toNat
      + bits .xor .u32 (bits .and .u32 r.e.toNat r.f.toNat) (bits .and .u32 (bits .xor .u32 (if IntKind.u32.signed = true then -1 else IntKind.u32.max) r.e.toNat) r.g.toNat) + (q : Int) / 4294967296 + v.toNat) % 4294967296
    = ((t1 r (UInt32.ofNat (q / 4294967296)) v).toNat : Int) := by
  rw [e_not, w_xor, w_xor, w_and, w_and, w_xor, t1, w_add, w_add, w_add, w_add, w_ofNat]
  simp only [S1]
  omega
theorem t2_eq (r : St) : (bits .xor .u32 (bits .xor .u32 (rotr r.a 2).toNat (rotr r.a 13).toNat) (rotr r.a 22).toNat
      + bits .xor .u32 (bits .xor .u32 (bits .and .u32 r.a.toNat r.b.toNat) (bits .and .u32 r.a.toNat r.c.toNat)) (bits .and .u32 r.b.toNat r.c.toNat)) % 4294967296 = ((t2 r).toNat : Int) := by
  rw [w_xor, w_xor, w_and, w_and, w_and, w_xor, w_xor, t2, w_add]
  simp only [S0]
/-- The k first of eight words, each with its other one. -/
def mix (s r : St) (k : Nat) : List UInt32 := (List.range 8).map fun j => s.list.getD j 0 + if j < k then r.list.getD j 0 else 0
theorem mix_length (s r : St) (k : Nat) : (mix s r k).length = 8 := by simp [mix]
theorem mix_zero (s r : St) : mix s r 0 = s.list := by
  cases s
  simp [mix, St.list, List.range, List.range.loop]
theorem mix_all (s r : St) : mix s r 8 = (s.plus r).list := by
  cases s; cases r
  simp [mix, St.list, St.plus, List.range, List.range.loop]
theorem mix_step (s r : St) (k : Nat) : (mix s r k).set k (s.list.getD k 0 + r.list.getD k 0) = mix s r (k + 1) := by
  apply List.ext_getElem (by simp [mix])
  intro j h1 h2
  rw [mix_length] at h2
  simp only [List.getElem_set, mix, List.getElem_map, List.getElem_range]
  by_cases e : k = j
  · subst e
    rw [if_pos rfl, if_pos (by omega)]
  · rw [if_neg e]
    by_cases h3 : j < k
    · rw [if_pos h3, if_pos (by omega)]
    · rw [if_neg h3, if_neg (by omega)]
theorem mix_get (s r : St) (k : Nat) (hk : k < 8) : (mix s r k).getD k 0 = s.list.getD k 0 := by
  rw [List.getD_eq_getElem?_getD, List.getElem?_eq_getElem (by rw [mix_length]; exact hk)]
  simp [mix]
theorem run_index8 (r : St) (k : Nat) (hk : k < 8) (W : World) : (Instr.index 46 (.agg #[.int .u32 (r.a.toNat : Int), .int .u32 (r.b.toNat : Int), .int .u32 (r.c.toNat : Int), .int .u32 (r.d.toNat : Int), .int .u32 (r.e.toNat : Int), .int .u32 (r.f.toNat : Int), .int .u32 (r.g.toNat : Int), .int .u32 (r.h.toNat : Int)]) (.int .i64 (k : Int))).run Tryd.prog W
    = .ok (.int .u32 ((r.list.getD k 0).toNat : Int)) W := by
  obtain rfl | rfl | rfl | rfl | rfl | rfl | rfl | rfl : k = 0 ∨ k = 1 ∨ k = 2 ∨ k = 3 ∨ k = 4 ∨ k = 5 ∨ k = 6 ∨ k = 7 := by omega
  all_goals kernel_rfl
theorem grown_drew {w wr w2 : World} {n : Nat} {row : Option Nat} (h : w.grownBy wr row) (e : w2 = (wr.drewN n).drew) : w.grownBy w2 row := by
  subst e; exact ⟨h.os, h.tape, h.output, h.size, h.block⟩
theorem grown_drewN {w wr : World} (n : Nat) {row : Option Nat} (h : w.grownBy wr row) : w.grownBy (wr.drewN n) row := ⟨h.os, h.tape, h.output, h.size, h.block⟩
theorem upto_full (n : Nat) (l : List UInt32) (h : l.length = n) : upto n l = l := by simp [upto, h]
theorem Byt.sub {w : World} {ok : Nat → Prop} {ad : Addr} {xs : List UInt8} (h : Byt w ok (some ad) xs) (o n : Nat) : Byt w ok (some (ad.add o)) ((xs.drop o).take n) := fun j hj => by
  rw [List.length_take, List.length_drop] at hj
  obtain ⟨_, e, ho, hc⟩ := h (o + j) (by omega)
  cases e
  refine ⟨_, rfl, by rw [block_of_plus]; exact ho, ?_⟩
  rw [plus_plus, hc]
  simp
theorem sub_length {xs : List UInt8} {o n m : Nat} (hl : xs.length = m) (h : o + n ≤ m) : ((xs.drop o).take n).length = n := by
  rw [List.length_take, List.length_drop]; omega
theorem read_n {w : World} {ok : Nat → Prop} {A : Option Addr} {xs : List UInt8} {c n : Nat} (hx : Byt w ok A xs) (hn : xs.length = n) (h0 : 0 < n) (hm : n ≤ 8) :
    Calls Tryd.prog 31 #[.slice A n c] w fun e w' => e = .returned (.int .u64 (nb xs)) ∧ w = w' := by
  subst hn; exact read_any hx h0 hm
theorem wd_conv (xs : List UInt8) (k : Nat) : ((nb ((xs.drop (4 * k)).take 4) : Nat) : Int) % 4294967296 = ((wd xs k).toNat : Int) := by
  rw [wd, w_ofNat]; rfl

set_option maxRecDepth 100000 in
set_option maxHeartbeats 1600000 in
theorem take_any {w : World} {g c : Nat} {ty : TypeId} {post : List Value} {s : St} {ok : Nat → Prop} {ad : Addr} {xs : List UInt8} (hb : Blk w g ty (u32s s.list ++ post)) (hx : Byt w ok (some ad) xs) (hok : ∀ b, ok b → b < w.heap.size) (hl : xs.length = 64)
    (hc64 : 64 ≤ c) (hK : ∀ i, i < 80 → w.cell? ⟨1, i, none⟩ = some (.int .u64 (cuN.getD i 0 : Nat))) :
    Calls Tryd.prog 23 #[.pointer (some ⟨g, 0, none⟩), .slice (some ad) 64 c] w fun e w' => e = .returned (.tuple #[]) ∧ Blk w' g ty (u32s (comp s xs).list ++ post) ∧ w.grownBy w' (some g) := by
  go_enter Tryd.func23, Tryd.ntmps23
  go_wp2_with (refine wpList_alloc49 rfl rfl ?_)
  intro w1 hk1 hg1 hz1
  go_wp2
  go_loopw [22] (fun i wr => ∃ k : Nat, k ≤ 16 ∧ i = .int .i64 k ∧ Blk wr w.heap.size 59 (u32s (upto 64 (wds xs k))) ∧ w.grownBy wr none ∧ wr.heap.size = w.heap.size + 1) (fun i _ => 16 - (intOf i).toNat)
  case atStart => exact ⟨0, Nat.zero_le _, rfl, hk1, hg1, hz1⟩
  case round =>
    obtain ⟨k, hk, rfl, hbr, hgr, hsz⟩ := hrel
    clear hk1 hg1 hz1
    have hxr : Byt wr ok (some ad) xs := hx.grown hgr (fun b hb => ⟨hok b hb, by simp⟩)
    by_cases hlt : k < 16
    · have hs := hxr.sub (4 * k) 4
      have hsl := sub_length hl (show 4 * k + 4 ≤ 64 by omega)
      have hwl := wds_length xs k
      have hul := upto_length 64 (wds xs k) (by omega)
      have hcell := hbr.get k _ (u32s_get _ k (by omega))
      have hf := hbr.frozen k
      have hcv := wd_conv xs k
      have HX := Lib.hid hx
      have HB := Lib.hid hbr
      have HXR := Lib.hid hxr
      have HW := Lib.hid hwl
      clear hx hbr hxr hb hwl
      go_wp2_with (go_at_call 31; refine (read_n hs hsl (by omega) (by omega)).mono ?_; rintro _ _ ⟨rfl, rfl⟩)
      go_roundw
      case rel =>
        refine ⟨k + 1, by omega, by go_num, ?_, grown_new hgr (Nat.le_refl _) _ _, (size_set _ _ _).trans hsz⟩
        have hs := HB.out.set k (.int .u32 ((wd xs k).toNat : Int))
        rw [u32s_set, upto_set 64 k _ _ (by rw [HW.out]; omega) HW.out, ← wds_succ] at hs
        exact hs
      case measure => simp [intOf]; omega
    · have ek : k = 16 := by omega
      have e16 : (k : Int) = 16 := by omega
      rw [ek] at hbr
      rw [e16]
      clear hk hlt ek e16
      obtain ⟨L0, hL0⟩ : ∃ L, L = wds xs 16 := ⟨_, rfl⟩
      have hL0l : L0.length = 16 := by rw [hL0, wds_length]
      rw [← hL0] at hbr
      have HL0 := Lib.hid hL0
      clear hL0 hx hxr
      go_wp2
      go_loopw [37] (fun i wr => ∃ k : Nat, k ≤ 48 ∧ i = .int .i64 k ∧ Blk wr w.heap.size 59 (u32s (upto 64 (sch L0 k))) ∧ w.grownBy wr none ∧ wr.heap.size = w.heap.size + 1) (fun i _ => 48 - (intOf i).toNat)
      case atStart => exact ⟨0, Nat.zero_le _, rfl, hbr, hgr, hsz⟩
      case round =>
        clear hbr hgr hsz
        obtain ⟨k, hk, rfl, hbr, hgr, hsz⟩ := hrel
        by_cases hlt : k < 48
        · obtain ⟨L, hL⟩ : ∃ L, L = sch L0 k := ⟨_, rfl⟩
          have hll : L.length = 16 + k := by rw [hL, sch_length, hL0l]
          rw [← hL] at hbr
          have hul := upto_length 64 L (by omega)
          have hf := hbr.frozen (k + 16)
          have c16 := hbr.get (k + 16) _ (u32s_get _ _ (by omega))
          have c0 := hbr.get k _ (u32s_get _ _ (by omega))
          have c1 := hbr.get (k + 1) _ (u32s_get _ _ (by omega))
          have c9 := hbr.get (k + 9) _ (u32s_get _ _ (by omega))
          have c14 := hbr.get (k + 14) _ (u32s_get _ _ (by omega))
          rw [upto_get _ _ _ (by omega)] at c0 c1 c9 c14
          obtain ⟨x, hx⟩ : ∃ x, x = nxt L k := ⟨_, rfl⟩
          have HN := Lib.hid hx
          unfold nxt at hx
          generalize L.getD k 0 = v0 at c0 hx
          generalize L.getD (k + 1) 0 = v1 at c1 hx
          generalize L.getD (k + 9) 0 = v9 at c9 hx
          generalize L.getD (k + 14) 0 = v14 at c14 hx
          have HX := Lib.hid hx
          have HB := Lib.hid hbr
          have HL := Lib.hid hL
          have HLL := Lib.hid hll
          clear hx hbr hL hll hb hL0l hK
          go_wp2_with (fail)
          go_quiet (fail)
          go_wp2_with (fail)
          have l0 : (k : Int) < 64 := by omega
          have l9 : (k : Int) + 9 < 64 := by omega
          have l16 : (k : Int) + 16 < 64 := by omega
          have p9 : (0 : Int) ≤ (k : Int) + 9 := by omega
          have p16 : (0 : Int) ≤ (k : Int) + 16 := by omega
          have t9 : ((k : Int) + 9).toNat = k + 9 := by omega
          have t16 : ((k : Int) + 16).toNat = k + 16 := by omega
          have w9 : IntKind.i64.wrap ((k : Int) + 9) = (k : Int) + 9 := by rw [IntKind.wrap_i64]; omega
          have w16 : IntKind.i64.wrap ((k : Int) + 16) = (k : Int) + 16 := by rw [IntKind.wrap_i64]; omega
          refine wp_region_still_tail 29 (by kernel_rfl) (by kernel_rfl) ?_
          change wpStill _ _ (wr.drewN nq).drew (fun a' => wpList _ _ _ _ a' (wr.drewN nq).drew) _ _
          obtain ⟨w2, hw2⟩ : ∃ w2, w2 = (wr.drewN nq).drew := ⟨_, rfl⟩
          rw [← hw2]
          have e2 : w2.heap = wr.heap := by rw [hw2]; rfl
          have ec : ∀ A, wr.cell? A = w2.cell? A := by intro A; rw [hw2]; rfl
          have ef : ∀ A, wr.frozen? A = w2.frozen? A := by intro A; rw [hw2]; rfl
          rw [ec] at c0 c1 c9 c14 c16
          rw [ef] at hf
          have HW2 := Lib.hid hw2
          clear hw2 ec ef
          simp only [List.take_succ_cons, List.take_zero, List.drop_succ_cons, List.drop_zero]
          repeat still_step
          still_call (rotr_still v1 7 _ (by omega) (by omega))
          repeat still_step
          still_call (rotr_still v1 18 _ (by omega) (by omega))
          repeat still_step
          still_call (rotr_still v14 17 _ (by omega) (by omega))
          repeat still_step
          still_call (rotr_still v14 19 _ (by omega) (by omega))
          repeat still_step
          refine wpStill_nil ?_
          go_wp2
          go_roundw
          case rel =>
            rw [nxt_eq, ← HX.out]
            refine ⟨k + 1, by omega, by go_num, ?_, grown_new (grown_drew hgr HW2.out) (Nat.le_refl _) _ _, ?_⟩
            · have hs := (HB.out.keep (w' := w2) (by rw [e2])).set (k + 16) (.int .u32 (x.toNat : Int))
              rw [u32s_set, upto_set 64 (k + 16) _ _ (by rw [HLL.out]; omega) (by rw [HLL.out]; omega), show L ++ [x] = sch L0 (k + 1) by rw [sch, ← HL.out, ← HN.out]] at hs
              exact hs
            · rw [size_set, e2]; exact hsz
          case measure => simp [intOf]; omega
        · have ek : k = 48 := by omega
          have e48 : (k : Int) = 48 := by omega
          rw [ek] at hbr
          rw [e48]
          clear hk hlt ek e48
          obtain ⟨L, hL⟩ : ∃ L, L = sch L0 48 := ⟨_, rfl⟩
          have hll : L.length = 64 := by rw [hL, sch_length, hL0l]
          rw [← hL, upto_full _ _ hll] at hbr
          have hbg := hb.grown hgr (by simp)
          have c0 := hbg.get 0 _ rfl
          have c1 := hbg.get 1 _ rfl
          have c2 := hbg.get 2 _ rfl
          have c3 := hbg.get 3 _ rfl
          have c4 := hbg.get 4 _ rfl
          have c5 := hbg.get 5 _ rfl
          have c6 := hbg.get 6 _ rfl
          have c7 := hbg.get 7 _ rfl
          have HB := Lib.hid hbr
          have HG := Lib.hid hbg
          have HL := Lib.hid hL
          clear hbr hbg hb hL hL0l
          go_wp2_with (go_at_call 33; refine (each_any wr g s.a s.b s.c s.d s.e s.f s.g s.h c0 c1 c2 c3 c4 c5 c6 c7).mono ?_; rintro _ _ ⟨rfl, m, rfl⟩)
          go_loopw [9, 10, 11, 12, 13, 14, 15, 16, 89] (fun a b c d e f g' h i wr' => ∃ k : Nat, k ≤ 64 ∧ i = .int .i64 k ∧ a = .int .u32 (rnds L s k).a.toNat ∧ b = .int .u32 (rnds L s k).b.toNat ∧ c = .int .u32 (rnds L s k).c.toNat ∧ d = .int .u32 (rnds L s k).d.toNat
              ∧ e = .int .u32 (rnds L s k).e.toNat ∧ f = .int .u32 (rnds L s k).f.toNat ∧ g' = .int .u32 (rnds L s k).g.toNat ∧ h = .int .u32 (rnds L s k).h.toNat ∧ wr'.heap = wr.heap ∧ w.grownBy wr' none) (fun _ _ _ _ _ _ _ _ i _ => 64 - (intOf i).toNat)
          case atStart => exact ⟨0, Nat.zero_le _, rfl, rfl, rfl, rfl, rfl, rfl, rfl, rfl, rfl, rfl, grown_drewN m hgr⟩
          case round =>
            clear c0 c1 c2 c3 c4 c5 c6 c7
            obtain ⟨k, hk, rfl, rfl, rfl, rfl, rfl, rfl, rfl, rfl, rfl, hh, hg⟩ := hrel
            obtain ⟨r, hr⟩ : ∃ r, r = rnds L s k := ⟨_, rfl⟩
            rw [← hr]
            by_cases hlt : k < 64
            · have cw := (HB.out.keep (w' := wr) (by rw [hh])).get k _ (u32s_get _ _ (by omega))
              have ck := hg.cell (hK k (by omega)) (by simp)
              obtain ⟨v, hv⟩ : ∃ v, v = L.getD k 0 := ⟨_, rfl⟩
              rw [← hv] at cw
              generalize hq : cuN.getD k 0 = q at ck
              have HQ := Lib.hid hq
              have HV := Lib.hid hv
              have HR := Lib.hid hr
              have HH := Lib.hid hh
              have HHK := Lib.hid hK
              clear hq hv hr hh hK
              have R6 : ∀ W, Calls Tryd.prog 32 #[.int .u32 r.e.toNat, .int .i64 6] W fun e w' => e = .returned (.int .u32 (rotr r.e 6).toNat) ∧ w' = W := fun W => rotr_still r.e 6 W (by omega) (by omega)
              have R11 : ∀ W, Calls Tryd.prog 32 #[.int .u32 r.e.toNat, .int .i64 11] W fun e w' => e = .returned (.int .u32 (rotr r.e 11).toNat) ∧ w' = W := fun W => rotr_still r.e 11 W (by omega) (by omega)
              have R25 : ∀ W, Calls Tryd.prog 32 #[.int .u32 r.e.toNat, .int .i64 25] W fun e w' => e = .returned (.int .u32 (rotr r.e 25).toNat) ∧ w' = W := fun W => rotr_still r.e 25 W (by omega) (by omega)
              have R2 : ∀ W, Calls Tryd.prog 32 #[.int .u32 r.a.toNat, .int .i64 2] W fun e w' => e = .returned (.int .u32 (rotr r.a 2).toNat) ∧ W = w' := fun W => rotr_any r.a 2 W (by omega) (by omega)
              have R13 : ∀ W, Calls Tryd.prog 32 #[.int .u32 r.a.toNat, .int .i64 13] W fun e w' => e = .returned (.int .u32 (rotr r.a 13).toNat) ∧ W = w' := fun W => rotr_any r.a 13 W (by omega) (by omega)
              have R22 : ∀ W, Calls Tryd.prog 32 #[.int .u32 r.a.toNat, .int .i64 22] W fun e w' => e = .returned (.int .u32 (rotr r.a 22).toNat) ∧ W = w' := fun W => rotr_any r.a 22 W (by omega) (by omega)
              go_wp2_with (fail)
              go_quiet (first | (with_reducible exact Calls.quiet_of_same (R6 _)) | (with_reducible exact Calls.quiet_of_same (R11 _)) | (with_reducible exact Calls.quiet_of_same (R25 _)))
              clear R6 R11 R25
              go_wp2_with (go_at_call 32; (first | (with_reducible refine (R2 _).mono ?_) | (with_reducible refine (R13 _).mono ?_) | (with_reducible refine (R22 _).mono ?_)); rintro _ _ ⟨rfl, rfl⟩)
              go_roundw
              case rel =>
                have er : rnds L s (k + 1) = rnd r (UInt32.ofNat (q / 4294967296)) v := by rw [rnds, ← HR.out, kw, HQ.out, HV.out]
                rw [t1_eq, t2_eq, ← w_add, ← w_add]
                refine ⟨k + 1, by omega, by go_num, ?_⟩
                rw [er]
                exact ⟨rfl, rfl, rfl, rfl, rfl, rfl, rfl, rfl, HH.out, grown_drewN _ hg⟩
              case measure => simp [intOf]; omega
            · have ek : k = 64 := by omega
              have e64 : (k : Int) = 64 := by omega
              rw [e64]
              rw [ek] at hr
              clear hk hlt ek e64
              have hbg := HG.out.keep (w' := wr) (by rw [hh])
              have HR := Lib.hid hr
              clear hr
              go_wp2
              go_loopw [163] (fun i wr => ∃ k : Nat, k ≤ 8 ∧ i = .int .i64 k ∧ Blk wr g ty (u32s (mix s r k) ++ post) ∧ w.grownBy wr (some g)) (fun i _ => 8 - (intOf i).toNat)
              case atStart => exact ⟨0, Nat.zero_le _, rfl, by rw [mix_zero]; exact hbg, World.grownBy.but hg _⟩
              case round =>
                clear hbg hh hg hgr hsz
                obtain ⟨k, hk, rfl, hbg, hg⟩ := hrel
                by_cases hlt : k < 8
                · have hml := mix_length s r k
                  have hc := hbg.get k _ (by rw [List.getElem?_append_left (by rw [u32s_length]; omega)]; exact u32s_get _ _ (by omega))
                  have hf := hbg.frozen k
                  rw [mix_get s r k hlt] at hc
                  have HB := Lib.hid hbg
                  clear hbg hK
                  have hix := run_index8 r k hlt
                  go_wp2_with (fail)
                  go_region
                  go_wp2
                  go_roundw
                  case rel =>
                    simp only [← List.getD_eq_getElem?_getD]
                    rw [← w_add]
                    refine ⟨k + 1, by omega, by go_num, ?_, ?_⟩
                    · have hs := HB.out.set k (.int .u32 ((s.list.getD k 0 + r.list.getD k 0).toNat : Int))
                      rw [List.set_append_left _ _ (by rw [u32s_length]; omega), u32s_set, mix_step] at hs
                      exact hs.keep rfl
                    · have hs := World.grownBy.trans hg (grown_set wr g k (.int .u32 ((s.list.getD k 0 + r.list.getD k 0).toNat : Int)))
                      exact ⟨hs.os, hs.tape, hs.output, hs.size, hs.block⟩
                  case measure => simp [intOf]; omega
                · have ek : k = 8 := by omega
                  rw [ek, mix_all] at hbg
                  clear hK
                  go_wp2
                  go_end0
                  refine ⟨rfl, ?_, hg⟩
                  unfold comp
                  rw [← HL0.out, ← HL.out, ← HR.out]
                  exact hbg
end Go.Proofs.YtgphopahlgfogaaDoor
