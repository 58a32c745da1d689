/- What a hash under way tells. Conditions: none. -/
import Derived.Test.YtgphopahlgfogaaDoorPut2
namespace Go.Proofs.YtgphopahlgfogaaDoor
open Go.RowKit
theorem put_any {w : World} {p c n : Nat} {ok : Nat → Prop} {A : Option Addr} {xs ys : List UInt8} (hp : 1 < p) (hh : HashAt w p xs) (hx : Byt w ok A ys) (hok : ∀ b, ok b → b < w.heap.size ∧ b ≠ p) (hn : ys.length = n) (hc : n ≤ c) (hcm : c ≤ maxLen) (hs : xs.length + n < 2305843009213693952)
    (hK : ∀ i, i < 80 → w.cell? ⟨1, i, none⟩ = some (.int .u64 (cuN.getD i 0 : Nat))) :
    Calls Tryd.prog 19 #[.pointer (some ⟨p, 0, none⟩), .slice A n c] w fun e w' => e = .returned (.tuple #[]) ∧ HashAt w' p (xs ++ ys) ∧ w.grownBy w' (some p) := by
  by_cases h0 : xs.length % 64 = 0
  · exact put_zero hp hh hx hok hn hc hcm hs h0 hK
  by_cases h1 : xs.length % 64 + n < 64
  · exact put_short hh hx hok hn hs rfl (by omega) h1
  · exact put_long hp hh hx hok hn hc hcm hs rfl (by omega) (by omega) hK
theorem run_alloc24 (w : World) : (Instr.alloc 24 true (.tuple #[])).run Tryd.prog w = .ok (.pointer (some ⟨w.heap.size, 0, none⟩)) (w.alloc (.cells (u8s (zs 32)).toArray 24)) := by kernel_rfl
theorem run_alloc38 (w : World) : (Instr.alloc 46 true (.tuple #[])).run Tryd.prog w = .ok (.pointer (some ⟨w.heap.size, 0, none⟩)) (w.alloc (.cells (u32s (upto 8 [])).toArray 46)) := by kernel_rfl
section
variable {w : World} {ops : Array Oper} {rest : List Oper} {o : Oper} {a : Act} {Q : Exit → Act → World → Prop}
theorem wpList_alloc24 (hgd : o.guard = none) (ho : o.op = .alloc 24)
    (h : ∀ w', Blk w' w.heap.size 24 (u8s (zs 32)) → w.grownBy w' none → w'.heap.size = w.heap.size + 1 → wpList Tryd.prog ops Q rest (a.put o.dst (.pointer (some ⟨w.heap.size, 0, none⟩))) w') : wpList Tryd.prog ops Q (o :: rest) a w := by
  refine wpList_plain hgd fun K hK => ?_
  have hrun := run_alloc24 w
  generalize u8s (zs 32) = z at hrun h
  unfold Oper.wp
  simp only [execOp, ho, Sem.run_bind, hrun, Result.andThen_ok, Sem.run_pure]
  exact hK _ _ (h _ (Blk.of_alloc w _ 24) (World.grownBy_alloc w _ none) (World.size_alloc w _))
theorem wpList_alloc38 (hgd : o.guard = none) (ho : o.op = .alloc 46)
    (h : ∀ w', Blk w' w.heap.size 46 (u32s (upto 8 [])) → w.grownBy w' none → w'.heap.size = w.heap.size + 1 → wpList Tryd.prog ops Q rest (a.put o.dst (.pointer (some ⟨w.heap.size, 0, none⟩))) w') : wpList Tryd.prog ops Q (o :: rest) a w := by
  refine wpList_plain hgd fun K hK => ?_
  have hrun := run_alloc38 w
  generalize u32s (upto 8 []) = z at hrun h
  unfold Oper.wp
  simp only [execOp, ho, Sem.run_bind, hrun, Result.andThen_ok, Sem.run_pure]
  exact hK _ _ (h _ (Blk.of_alloc w _ 46) (World.grownBy_alloc w _ none) (World.size_alloc w _))
end
theorem size38 : (Tryd.prog.info? 46).map (·.size) = some 8 := by kernel_rfl
theorem size24 : (Tryd.prog.info? 24).map (·.size) = some 32 := by kernel_rfl
theorem Blk.range {w : World} {g : Nat} {ty : TypeId} {pre mid post : List Value} (h : Blk w g ty (pre ++ mid ++ post)) {o : Nat} (ho : pre.length = o) : w.rangeAt g o mid := fun j v hv => by
  have hj : j < mid.length := (List.getElem?_eq_some_iff.1 hv).1
  subst ho
  refine h.get _ _ ?_
  rw [List.append_assoc, List.getElem?_append_right (by omega), Nat.add_sub_cancel_left, List.getElem?_append_left hj]
  exact hv
theorem u32s_one (xs : List UInt32) : ∀ u ∈ u32s xs, u.oneCell' = true := by
  intro u hu
  obtain ⟨x, _, rfl⟩ := List.mem_map.1 hu
  rfl
theorem wide (v : UInt32) : IntKind.u64.wrap (v.toNat : Int) = (v.toNat : Int) := by
  have := lt32 v
  rw [IntKind.wrap_u64]; omega
theorem outs_step (l : List UInt32) (k : Nat) (h : k < l.length) : outs (l.take (k + 1)) = outs (l.take k) ++ be 4 (l.getD k 0).toNat := by
  rw [outs, List.take_succ_eq_append_getElem h, List.flatMap_append, List.getD_eq_getElem?_getD, List.getElem?_eq_getElem h]
  simp only [outs, List.flatMap_cons, List.flatMap_nil, List.append_nil, Option.getD_some]
/-- While the last blocks are taken. -/
def SumAt (w : World) (S : St) (L : List UInt8) (s : Nat) (b : Value) (wr : World) : Prop :=
  ∃ j A', b = .slice A' (s - 64 * j) (s - 64 * j) ∧ 64 * j ≤ s ∧ Byt wr (fun b => b = w.heap.size + 2) A' (L.drop (64 * j)) ∧ Blk wr (w.heap.size + 1) 46 (u32s (runs j S L).list) ∧ Blk wr w.heap.size 24 (u8s (zs 32)) ∧ w.grownBy wr none ∧ w.heap.size + 2 < wr.heap.size
set_option maxRecDepth 100000 in
set_option maxHeartbeats 1600000 in
theorem sum_any {w : World} {p : Nat} {xs : List UInt8} (hh : HashAt w p xs) (hs : xs.length < 2305843009213693952)
    (hK : ∀ i, i < 80 → w.cell? ⟨1, i, none⟩ = some (.int .u64 (cuN.getD i 0 : Nat))) :
    Calls Tryd.prog 20 #[.pointer (some ⟨p, 0, none⟩)] w fun e w' => e = .returned (.agg (u8s (sha256 xs)).toArray) ∧ w.grownBy w' none := by
  obtain ⟨n, hn⟩ : ∃ n, n = xs.length := ⟨_, rfl⟩
  have hrl : (rst xs).length = n % 64 := by rw [rst_length, hn]
  have hb : Blk w p 49 (u32s (st xs).list ++ (u8s (rst xs ++ zs (64 - n % 64)) ++ [Value.int .u64 (n : Nat)])) := by
    unfold HashAt hcells at hh
    rw [hrl, ← hn] at hh
    exact hh
  have h72 : ((u32s (st xs).list ++ u8s (rst xs ++ zs (64 - n % 64))).length) = 72 := by
    rw [List.length_append, u32s_length, u8s_length, list_length, List.length_append, hrl, zs_length]; omega
  have hc72 := hb.get 72 (.int .u64 (n : Nat)) (by rw [← List.append_assoc, List.getElem?_append_right (by omega), h72]; rfl)
  have hwr : w.rangeAt p 0 (u32s (st xs).list) := Blk.range (pre := []) hb rfl
  have hrs : Byt w (fun b => b = p) (some ⟨p, 8, none⟩) (rst xs) := (hb.to (by rw [u8s_append]; simp only [List.append_assoc])).byt (pre := u32s (st xs).list) (post := u8s (zs (64 - n % 64)) ++ [Value.int .u64 (n : Nat)]) (by rw [u32s_length]; rfl)
  have hpl := hb.lt
  have HB := Lib.hid hb
  have HW := Lib.hid hwr
  have HR := Lib.hid hrs
  have HRL := Lib.hid hrl
  have HN := Lib.hid hn
  have HK := Lib.hid hK
  have HH := Lib.hid hh
  rw [← hn] at hs
  clear hb hwr hrs hrl hn hK hh h72
  go_enter Tryd.func20, Tryd.ntmps20
  go_wp2_with (refine wpList_alloc24 rfl rfl ?_)
  intro w1 hb1 hg1 hz1
  have hw1 : w1.rangeAt p 0 (u32s (st xs).list) := fun j v hv => hg1.cell (HW.out j v hv) (by simp)
  have hc1 := hg1.cell hc72 (by simp)
  have HB1 := Lib.hid hb1
  have HW1 := Lib.hid hw1
  have HC72 := Lib.hid hc72
  clear hb1 hw1 hc72
  go_wp2_with (fail)
  obtain ⟨S, hS⟩ : ∃ S, S = st xs := ⟨_, rfl⟩
  have hwr2 : w1.rangeAt p 0 (u32s S.list) := by rw [hS]; exact HW1.out
  have c0 : w1.cell? ⟨p, 0, none⟩ = _ := hwr2 0 (.int .u32 S.a.toNat) rfl
  have c1 : w1.cell? ⟨p, 1, none⟩ = _ := hwr2 1 (.int .u32 S.b.toNat) rfl
  have c2 : w1.cell? ⟨p, 2, none⟩ = _ := hwr2 2 (.int .u32 S.c.toNat) rfl
  have c3 : w1.cell? ⟨p, 3, none⟩ = _ := hwr2 3 (.int .u32 S.d.toNat) rfl
  have c4 : w1.cell? ⟨p, 4, none⟩ = _ := hwr2 4 (.int .u32 S.e.toNat) rfl
  have c5 : w1.cell? ⟨p, 5, none⟩ = _ := hwr2 5 (.int .u32 S.f.toNat) rfl
  have c6 : w1.cell? ⟨p, 6, none⟩ = _ := hwr2 6 (.int .u32 S.g.toNat) rfl
  have c7 : w1.cell? ⟨p, 7, none⟩ = _ := hwr2 7 (.int .u32 S.h.toNat) rfl
  obtain ⟨r, hr⟩ : ∃ r, r = n % 64 := ⟨_, rfl⟩
  have htm : (n : Int).tmod 64 = (r : Int) := by rw [hr]; rfl
  have htm2 : (n : Int) % 64 = (r : Int) := by rw [hr]; rfl
  have hm0 : (0 : Int) ≤ (r : Int) := by omega
  have hm1 : (r : Int) ≤ 64 := by omega
  have HRR := Lib.hid hr
  have HS := Lib.hid hS
  clear hr hwr2 hS
  go_region
  clear c0 c1 c2 c3 c4 c5 c6 c7
  obtain ⟨w2, hw2⟩ : ∃ w2, w2 = (w1.alloc (.cells (u32s S.list).toArray 46)).drew := ⟨_, rfl⟩
  have hg2 : w.grownBy w2 none := by rw [hw2]; exact grown_drew (n := 0) (World.grownBy.trans hg1 (World.grownBy_alloc w1 (.cells (u32s S.list).toArray 46) none)) rfl
  have hbw : Blk w2 (w.heap.size + 1) 46 (u32s S.list) := by rw [hw2, ← hz1]; exact (Blk.of_alloc w1 (u32s S.list).toArray 46).keep rfl
  have hb2 : Blk w2 w.heap.size 24 (u8s (zs 32)) := by rw [hw2]; exact (HB1.out.grown (World.grownBy_alloc w1 (.cells (u32s S.list).toArray 46) none) (by simp)).keep rfl
  have hz2 : w2.heap.size = w.heap.size + 2 := by rw [hw2]; exact (World.size_alloc w1 _).trans (by rw [hz1])
  rw [show (w1.alloc (.cells #[.int .u32 (S.a.toNat : Int), .int .u32 (S.b.toNat : Int), .int .u32 (S.c.toNat : Int), .int .u32 (S.d.toNat : Int), .int .u32 (S.e.toNat : Int), .int .u32 (S.f.toNat : Int), .int .u32 (S.g.toNat : Int), .int .u32 (S.h.toNat : Int)] 46)).drew = w2 from hw2.symm]
  have hc2 : w2.cell? ⟨p, 72, none⟩ = some (.int .u64 (n : Nat)) := hg2.cell HC72.out (by simp)
  obtain ⟨L, hL⟩ : ∃ L, L = fill (rst xs) n := ⟨_, rfl⟩
  obtain ⟨s, hsl⟩ : ∃ s, s = L.length := ⟨_, rfl⟩
  have hx20 := HR.out.grown hg2 (fun b hb => ⟨by rw [hb]; exact hpl, by simp⟩)
  have ho20 : ∀ b, b = p → b < w2.heap.size := fun b hb => by rw [hb, hz2]; omega
  have hr20 : (rst xs).length = r := by rw [HRL.out, HRR.out]
  have hs20 : (fill (rst xs) n).length = s := by rw [hsl, hL]
  have hsm : s = (r + 72) / 64 * 64 := by rw [← hs20, fill_length _ _ HRL.out, ← HRR.out]
  have HG2 := Lib.hid hg2
  have HBW := Lib.hid hbw
  have HB2 := Lib.hid hb2
  have HX20 := Lib.hid hx20
  have HR20 := Lib.hid hr20
  have HS20 := Lib.hid hs20
  have HSL := Lib.hid hsl
  have HL := Lib.hid hL
  have HSM := Lib.hid hsm
  clear hw2 hg2 hbw hb2 hx20 hr20 hs20 hsl hL hsm HB1 HW1 hc1 hg1 hz1 htm htm2 hm0 hm1
  go_wp2_with (go_at_call 24; refine (filled_any HX20.out ho20 HR20.out HRR.out hs HS20.out).mono ?_; rintro _ w3 ⟨rfl, hb3, hg3⟩)
  have hb4 : Blk w3 (w.heap.size + 2) 5 (u8s L) := by rw [← hz2, HL.out]; exact hb3
  have hg4 : w.grownBy w3 none := World.grownBy.trans HG2.out hg3
  have hbw4 := HBW.out.grown hg3 (by simp)
  have hb24 := HB2.out.grown hg3 (by simp)
  have hx4 : Byt w3 (fun b => b = w.heap.size + 2) (some ⟨w.heap.size + 2, 0, none⟩) L := (hb4.to (by rw [List.append_nil]; rfl)).byt (pre := []) (post := []) rfl
  have HX4 := Lib.hid hx4
  have hlt4 := hb4.lt
  clear hb3 hb4 hx4 HB HW HR HX20 HBW HB2
  obtain ⟨G, hG⟩ : ∃ G, G = w.heap.size := ⟨_, rfl⟩
  go_loopw [5] (fun b wr => SumAt w S L s b wr) (fun b _ => lenV b)
  case atStart => exact ⟨0, _, by simp, by omega, HX4.out, hbw4, hb24, hg4, hlt4⟩
  case round =>
    clear hbw4 hb24 hg4 hg3 HX4 hc2 hz2 ho20 hlt4
    obtain ⟨j, A', rfl, hj, hx, hbw, hb24, hg, hlt4⟩ := hrel
    have HX := Lib.hid hx
    have HW := Lib.hid hbw
    have HB := Lib.hid hb24
    clear hx hbw hb24
    by_cases hlt : 0 < s - 64 * j
    · have h64 : 64 ≤ s - 64 * j := by have := HSM.out; omega
      have hxl : (L.drop (64 * j)).length = s - 64 * j := by rw [List.length_drop, ← HSL.out]
      obtain ⟨ad, rfl, hadb, -⟩ := HX.out.some_ (by omega)
      have HAD := Lib.hid hadb
      clear hadb
      have hl19 : ((L.drop (64 * j)).take 64).length = 64 := by rw [List.length_take, hxl]; omega
      have hp4 : ∀ b, b = w.heap.size + 2 → b < wr.heap.size := fun b hb => by omega
      have hk4 : ∀ i, i < 80 → wr.cell? ⟨1, i, none⟩ = some (.int .u64 (cuN.getD i 0 : Nat)) := fun i hi => hg.cell (HK.out i hi) (by simp)
      have K4 := Lib.hid hk4
      clear hk4
      have hnext : ∀ w5, Blk w5 (w.heap.size + 1) 46 (u32s (comp (runs j S L) ((L.drop (64 * j)).take 64)).list ++ []) → wr.grownBy w5 (some (w.heap.size + 1)) → ∀ A2, (s - 64 * j ≠ 64 → A2 = some (ad.add 64)) → SumAt w S L s (.slice A2 (s - 64 * j - 64) (s - 64 * j - 64)) w5 := by
        intro w5 hb6 hg6 A2 hA
        have hg7 : w.grownBy w5 none := World.grownBy.andThen hg hg6 (by rintro _ ⟨⟩; exact .inl (by omega))
        refine ⟨j + 1, A2, by rw [Nat.sub_sub, Nat.mul_succ], by omega, ?_, ?_, HB.out.grown hg6 (by simp), hg7, Nat.lt_of_lt_of_le hlt4 hg6.size⟩
        · by_cases e : s - 64 * j = 64
          · rw [List.drop_eq_nil_of_le (by rw [← HSL.out]; omega)]; exact Byt.nil
          · rw [hA e, Nat.mul_succ, ← List.drop_drop]
            have := (HX.out.grown hg6 (fun b hb => ⟨by omega, by rw [hb]; simp⟩)).drop (k := 64) (c := s - 64 * j) (by rw [hxl]; exact h64) (by rw [hxl]; exact Nat.le_refl _)
            rw [if_neg e] at this
            exact this
        · rw [List.append_nil] at hb6
          rw [runs_add j 1 S L]
          exact hb6
      have HNX := Lib.hid hnext
      clear hnext
      by_cases hcc : s - 64 * j = 64
      · go_wp2_with (go_at_call 23; rw [hcc] at h64; refine (take_any (post := []) (HW.out.to (by rw [List.append_nil])) (HX.out.take 64) hp4 hl19 h64 K4.out).mono ?_; rintro _ w5 ⟨rfl, hb6, hg6⟩)
        go_roundw
        case rel =>
          have h := HNX.out w5 hb6 hg6 (some ad) (fun e => absurd hcc e)
          rw [hcc] at h
          exact h
        case measure => simp [lenV]; omega
      · go_wp2_with (go_at_call 23; refine (take_any (post := []) (HW.out.to (by rw [List.append_nil])) (HX.out.take 64) hp4 hl19 h64 K4.out).mono ?_; rintro _ w5 ⟨rfl, hb6, hg6⟩)
        go_roundw
        case rel => exact HNX.out w5 hb6 hg6 _ (fun _ => rfl)
        case measure => simp [lenV]; omega
    · have hj2 : j = s / 64 := by omega
      obtain ⟨F, hF⟩ : ∃ F, F = runs j S L := ⟨_, rfl⟩
      have hwF : wr.rangeAt (w.heap.size + 1) 0 (u32s F.list) := Blk.range (pre := []) (post := []) (HW.out.to (by rw [List.append_nil, hF]; rfl)) rfl
      have hFin : F = fin xs := by rw [hF, hj2, fin, ← HN.out, ← HL.out, ← HSL.out, HS.out]
      have HF := Lib.hid hFin
      have HWF := Lib.hid hwF
      clear hF hwF hFin hj2
      go_wp2_with (refine wpList_load_mid rfl 46 _ rfl (w.heap.size + 1) 0 rfl (u32s F.list) _ HWF.out Tryd.underlying46 rfl (by rw [size38]; rfl) ?_)
      have hix8 : ∀ k : Nat, k < 8 → ∀ W, (Instr.index 46 (.agg (u32s F.list).toArray) (.int .i64 (k : Int))).run Tryd.prog W = .ok (.int .u32 ((F.list.getD k 0).toNat : Int)) W := fun k hk W => run_index8 F k hk W
      obtain ⟨fl, hfl⟩ : ∃ fl, fl = u32s F.list := ⟨_, rfl⟩
      rw [← hfl] at hix8 ⊢
      have HIX := Lib.hid hix8
      clear hfl hix8
      go_loopw [36] (fun i wr => ∃ k : Nat, k ≤ 8 ∧ i = .int .i64 k ∧ Blk wr w.heap.size 24 (u8s (outs (F.list.take k)) ++ u8s (zs (32 - 4 * k))) ∧ w.grownBy wr none) (fun i _ => 8 - (intOf i).toNat)
      case atStart => exact ⟨0, Nat.zero_le _, rfl, HB.out, hg⟩
      case round =>
        clear HX HW HWF HB hg hlt4
        obtain ⟨k, hk, rfl, hb, hg⟩ := hrel
        by_cases hlt8 : k < 8
        · have hix := HIX.out k hlt8
          have hol : (u8s (outs (F.list.take k))).length = 4 * k := by rw [u8s_length, outs_length, List.length_take, list_length, Nat.min_eq_left hk]
          have hz : u8s (zs (32 - 4 * k)) = u8s (zs 4) ++ u8s (zs (28 - 4 * k)) := by
            rw [← u8s_append]
            simp only [zs]
            rw [List.replicate_append_replicate, show 4 + (28 - 4 * k) = 32 - 4 * k by omega]
          have hb2 : Blk wr w.heap.size 24 (u8s (outs (F.list.take k)) ++ u8s (zs 4) ++ u8s (zs (28 - 4 * k))) := hb.to (by rw [hz, List.append_assoc])
          have f1 : (0 : Int) ≤ 4 * (k : Int) := by omega
          have f2 : 4 * (k : Int) ≤ 4 * (k : Int) + 4 := by omega
          have f3 : 4 * (k : Int) + 4 ≤ 32 := by omega
          have HB := Lib.hid hb2
          have HO := Lib.hid hol
          clear hb hb2 hol hz
          obtain ⟨v, hv⟩ : ∃ v, v = F.list.getD k 0 := ⟨_, rfl⟩
          rw [← hv] at hix
          have HV := Lib.hid hv
          have hwv := wide v
          clear hv
          go_wp2_with (go_at_call 25; refine (write_n (n := v.toNat) HB.out HO.out (zs_length 4) (by omega) (by first | rfl | exact hwv)).mono ?_; rintro _ w6 ⟨rfl, hb6, hg6, hz6⟩)
          go_roundw
          case rel =>
            refine ⟨k + 1, by omega, by go_num, ?_, World.grownBy.andThen hg hg6 (by rintro _ ⟨⟩; exact .inl (Nat.le_refl _))⟩
            rw [outs_step _ _ (by rw [list_length]; exact hlt8), u8s_append, ← HV.out, show 32 - 4 * (k + 1) = 28 - 4 * k by omega]
            exact hb6
          case measure => simp [intOf]; omega
        · have ek : k = 8 := by omega
          rw [ek, List.take_of_length_le (by rw [list_length]; exact Nat.le_refl _), HF.out] at hb
          have hb2 : Blk wr w.heap.size 24 (u8s (sha256 xs)) := hb.to (by rw [sha256]; simp [zs, u8s])
          have hrg : wr.rangeAt w.heap.size 0 (u8s (sha256 xs)) := Blk.range (pre := []) (post := []) (hb2.to (by rw [List.append_nil]; rfl)) rfl
          have HB := Lib.hid hb2
          have HRG := Lib.hid hrg
          clear hb hb2 hrg
          go_wp2_with (first | (refine wpList_load_mid rfl 24 _ rfl w.heap.size 0 rfl (u8s (sha256 xs)) _ HRG.out Tryd.underlying24 rfl (by rw [size24, u8s_length, sha256_length]) ?_) | (refine wpList_store_row rfl 24 _ _ rfl w.heap.size (u8s (sha256 xs)).toArray rfl rfl 24 _ HB.out (by rw [size24, List.size_toArray, u8s_length, sha256_length]) (by rfl) (all_oneCell_toArray (u8s_one _)) ?_))
          refine bodyPost_ret (results_cell_row rfl _ _ w.heap.size 24 (u8s (sha256 xs)).toArray (0, 0) _ rfl (setRow_heap wr w.heap.size _ _ 24 (0, 0) HB.out) Tryd.underlying24 rfl (by rw [size24, List.size_toArray, u8s_length, sha256_length])) rfl ⟨rfl, World.grownBy.andThen hg (grown_setRow _ _ _) (by rintro _ ⟨⟩; exact .inl (Nat.le_refl _))⟩

set_option maxRecDepth 100000 in
set_option maxHeartbeats 1600000 in
theorem sum256_any {w : World} {c n : Nat} {ok : Nat → Prop} {A : Option Addr} {xs : List UInt8} (hx : Byt w ok A xs) (hok : ∀ b, ok b → b < w.heap.size) (hn : xs.length = n) (hc : n ≤ c) (hcm : c ≤ maxLen) (hm : n < 2305843009213693952)
    (hS : ∀ i, i < 8 → w.cell? ⟨0, i, none⟩ = some (.int .u64 (sqN.getD i 0 : Nat))) (hK : ∀ i, i < 80 → w.cell? ⟨1, i, none⟩ = some (.int .u64 (cuN.getD i 0 : Nat))) :
    Calls Tryd.prog 14 #[.slice A n c] w fun e w' => e = .returned (.agg (u8s (sha256 xs)).toArray) ∧ w.grownBy w' none := by
  have hw1 : 1 < w.heap.size := by
    have := hK 0 (by omega)
    rcases Nat.lt_or_ge 1 w.heap.size with h | h
    · exact h
    · simp [World.cell?, Array.getElem?_eq_none h] at this
  have HS := Lib.hid hS
  have HK := Lib.hid hK
  have HN := Lib.hid hn
  clear hS hK hn
  go_enter Tryd.func14, Tryd.ntmps14
  go_wp2_with (refine wpList_alloc24 rfl rfl ?_)
  intro w1 hb1 hg1 hz1
  have s1 : ∀ i, i < 8 → w1.cell? ⟨0, i, none⟩ = some (.int .u64 (sqN.getD i 0 : Nat)) := fun i hi => hg1.cell (HS.out i hi) (by simp)
  have hx1 : ∀ w2, w1.grownBy w2 none → Byt w2 ok A xs := fun w2 hg => (hx.grown hg1 (fun b hb => ⟨hok b hb, by simp⟩)).grown hg (fun b hb => ⟨by have := hok b hb; omega, by simp⟩)
  have hk1 : ∀ w2, w1.grownBy w2 none → ∀ i, i < 80 → w2.cell? ⟨1, i, none⟩ = some (.int .u64 (cuN.getD i 0 : Nat)) := fun w2 hg i hi => hg.cell (hg1.cell (HK.out i hi) (by simp)) (by simp)
  have S1 := Lib.hid s1
  have B1 := Lib.hid hb1
  have G1 := Lib.hid hg1
  have X1 := Lib.hid hx1
  have K1 := Lib.hid hk1
  clear s1 hb1 hg1 hx1 hk1 hx
  go_wp2_with (first
    | (go_at_call 18; refine (new_any S1.out).mono ?_; rintro _ w2 ⟨rfl, hh2, hg2⟩; rw [hz1] at hh2)
    | (go_at_call 19; refine (put_any (by omega) hh2 (X1.out w2 hg2) (fun b hb => ⟨by have h1 := hok b hb; have h2 := hg2.size; omega, by have h1 := hok b hb; omega⟩) HN.out hc hcm (by simpa using hm) (K1.out w2 hg2)).mono ?_; rintro _ w3 ⟨rfl, hh3, hg3⟩)
    | (go_at_call 20; (refine (sum_any (xs := xs) (by rw [List.nil_append] at hh3; exact hh3) (by rw [HN.out]; exact hm) (fun i hi => hg3.cell (K1.out w2 hg2 i hi) (fun e => by have h1 : 1 = w.heap.size + 1 := Option.some.inj e; omega))).mono ?_; rintro _ w4 ⟨rfl, hg4⟩))
    | (refine wpList_store_row rfl 24 _ _ rfl w.heap.size (u8s (sha256 xs)).toArray rfl rfl 24 _ (((B1.out.grown hg2 (by simp)).grown hg3 (by simp)).grown hg4 (by simp)) (by rw [size24, List.size_toArray, u8s_length, sha256_length]) (by simp [u8s_length, sha256_length, zs_length]) (all_oneCell_toArray (u8s_one _)) ?_))
  have hb4 := ((B1.out.grown hg2 (by simp)).grown hg3 (by simp)).grown hg4 (by simp)
  refine bodyPost_ret (results_cell_row rfl _ _ w.heap.size 24 (u8s (sha256 xs)).toArray (0, 0) _ rfl (setRow_heap w4 w.heap.size _ _ 24 (0, 0) hb4) Tryd.underlying24 rfl (by rw [size24, List.size_toArray, u8s_length, sha256_length])) rfl ⟨rfl, ?_⟩
  have h3 : w.grownBy w3 none := World.grownBy.andThen (World.grownBy.trans G1.out hg2) hg3 (by rintro _ ⟨⟩; exact .inl (by omega))
  exact World.grownBy.andThen (World.grownBy.trans h3 hg4) (grown_setRow _ _ _) (by rintro _ ⟨⟩; exact .inl (Nat.le_refl _))
end Go.Proofs.YtgphopahlgfogaaDoor
