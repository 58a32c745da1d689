/- A store's record is read. Conditions: the half lies on the disk, the disk isn't dead, the block stands within the half. -/
import Derived.Test.YtonpcenjipigpaaGreatZ23
import Derived.Test.YtonpcenjipigpaaGreatZ19
namespace Go.Proofs.YtonpcenjipigpaaGreat
open Go.RowKit
/-- What lies on a disk, as it is read now. -/
def St.img (s : St) : List UInt8 := redo s.K s.L
/-- k blocks from block i on. -/
def secs (B : List UInt8) (i k : Nat) : List UInt8 := (B.drop (64 * i)).take (64 * k)
theorem secs_one (B : List UInt8) (i : Nat) : blk B i = secs B i 1 := rfl
theorem secs_succ (B : List UInt8) (i k : Nat) : secs B i k ++ blk B (i + k) = secs B i (k + 1) := by
  unfold secs blk
  rw [show 64 * (k + 1) = 64 * k + 64 by omega, List.take_add, List.drop_drop, show 64 * (i + k) = 64 * i + 64 * k by omega]
theorem secs_length {n i k : Nat} {B : List UInt8} (h : B.length = 64 * n) (hi : i + k ≤ n) : (secs B i k).length = 64 * k := by
  unfold secs
  rw [List.length_take, List.length_drop, h]
  omega
theorem secs_head (B : List UInt8) (i k m : Nat) (hk : 1 ≤ k) (hm : m ≤ 64) : (secs B i k).take m = (blk B i).take m := by
  unfold secs blk
  rw [List.take_take, List.take_take, Nat.min_eq_left (by omega), Nat.min_eq_left hm]
/-- What a record tells that begins at a block of the half that begins at 'base': its changes, where it ends. -/
def readT (B : List UInt8) (base e n at_ k : Nat) : Option (List Chg × Nat) :=
  if n ≤ at_ then none
  else if n < at_ + nblk (8 + nb ((blk B (base + at_)).take 4)) then none
  else if (blk B (base + at_)).take 8 = frontB e k (((secs B (base + at_) (nblk (8 + nb ((blk B (base + at_)).take 4)))).drop 8).take (nb ((blk B (base + at_)).take 4))) then
    (chgsT (((secs B (base + at_) (nblk (8 + nb ((blk B (base + at_)).take 4)))).drop 8).take (nb ((blk B (base + at_)).take 4)))).map fun l => (l, at_ + nblk (8 + nb ((blk B (base + at_)).take 4)))
  else none
/-- How reading a record ends. -/
def ReadE (w : World) (t : Option (List Chg × Nat)) (r : Ending) (w' : World) : Prop :=
  Below w.heap.size w w' ∧ match t with
    | none => ∃ v u, r = .returned (.tuple #[v, u, .bool false])
    | some (l, en) => ∃ g, r = .returned (.tuple #[.slice (some ⟨g, 0, none⟩) l.length l.length, .int .u64 (en : Int), .bool true]) ∧ Chs w' (fun b => w.heap.size ≤ b ∧ b < w'.heap.size) (some ⟨g, 0, none⟩) l ∧ (∀ c ∈ l, c.err = 0) ∧ l.length ≤ 64
theorem own_of_blk {w : World} {base g : Nat} {xs : List UInt8} (h : Blk w g 5 (u8s xs)) (hg : base ≤ g) (hm : xs.length ≤ maxLen) : w.ownsRow base 5 1 (.slice (some ⟨g, 0, none⟩) xs.length xs.length) xs.length (u8s xs) :=
  ⟨by simp [u8s_length], .inr ⟨g, xs.length, (u8s xs).toArray, rfl, hg, h, Nat.le_refl _, hm, by simp [u8s_length], by rw [Nat.mul_one]; exact List.take_of_length_le (by rw [u8s_length]; exact Nat.le_refl _)⟩⟩
theorem own_some {w : World} {base n : Nat} {v : Value} {xs : List UInt8} (h : w.ownsRow base 5 1 v n (u8s xs)) (hn : 0 < n) : ∃ g c, v = .slice (some ⟨g, 0, none⟩) n c ∧ n = xs.length ∧ n ≤ c ∧ c ≤ maxLen ∧ Byt w (fun b => b < w.heap.size) (some ⟨g, 0, none⟩) xs := by
  rcases h.2 with ⟨-, rfl⟩ | ⟨g, cap, cur, rfl, _⟩
  · omega
  · obtain ⟨h1, h2, h3, h4⟩ := Byt.of_own h
    exact ⟨g, cap, rfl, h1, h2, h3, h4.imp fun b hb => hb.2.2⟩
theorem Byt.mid {w : World} {ok : Nat → Prop} {g : Nat} {xs : List UInt8} (h : Byt w ok (some ⟨g, 0, none⟩) xs) (o n : Nat) : Byt w ok (some ⟨g, o, none⟩) ((xs.drop o).take n) := fun j hj => by
  rw [List.length_take, List.length_drop] at hj
  obtain ⟨ad, e, h1, h2⟩ := h (o + j) (by omega)
  cases e
  refine ⟨_, rfl, h1, ?_⟩
  rw [List.getElem_take, List.getElem_drop, ← h2, Addr.add_mid, Addr.add_mid, Nat.zero_add]
set_option maxRecDepth 100000 in
set_option maxHeartbeats 4000000 in
theorem read_any {foot : Nat → Prop} {w : World} {sp dp hf e c n : Nat} {mv : Value} {s : St} (hb : Blk w sp 75 (scells dp hf e c n mv)) (hd : Dsk w foot dp s) (hdd : s.dead = false) (hhf : hf ≤ 1) (hn : n ≤ s.n / 2) (he : e < 18446744073709551616) (a k : Nat) (ha : a ≤ 4096) (hk : k < 4294967296) :
    Calls Tryz.prog 55 #[.pointer (some ⟨sp, 0, none⟩), .int .u64 (a : Int), .int .u64 (k : Int)] w (ReadE w (readT s.img (hf * (s.n / 2)) e n a k)) := by
  have hnn := hd.ok.2.1
  have hil : s.img.length = 64 * s.n := redo_length hd.ok.2.2.2.1 hd.ok.2.2.1
  have hsl := hb.lt
  have hhn : hf * (s.n / 2) + s.n / 2 ≤ s.n := by
    have := Nat.mul_le_mul hhf (Nat.le_refl (s.n / 2))
    omega
  have kB : Hid (∀ W a', w.grownBy W none → a' < n → Calls Tryz.prog 53 #[.pointer (some ⟨sp, 0, none⟩), .int .i64 (hf : Int), .int .u64 (a' : Int)] W (BlockE W (blk s.img (hf * (s.n / 2) + a')))) := Lib.hid fun W a' hW ha' =>
    block_sto ⟨e, c, n, mv, hb.grown hW (by simp)⟩ (hd.grown hW) hf a' _ hhf (by omega) rfl (by omega) hdd
  have kC : Hid (∀ W, w.grownBy W none → W.cell? ⟨sp, 1, none⟩ = some (.int .i64 (hf : Int)) ∧ W.cell? ⟨sp, 2, none⟩ = some (.int .u64 (e : Int)) ∧ W.cell? ⟨sp, 4, none⟩ = some (.int .u64 (n : Int))) := Lib.hid fun W hW => by
    have := hb.grown hW (by simp)
    exact ⟨this.get 1 _ rfl, this.get 2 _ rfl, this.get 4 _ rfl⟩
  obtain ⟨q1, q2, q4⟩ := kC.out w (World.grownBy.refl _ _)
  obtain ⟨base, hbase⟩ : ∃ base, base = hf * (s.n / 2) := ⟨_, rfl⟩
  obtain ⟨B, hB⟩ : ∃ B, B = s.img := ⟨_, rfl⟩
  rw [← hbase] at kB hhn ⊢
  rw [← hB] at kB hil ⊢
  have hnn2 : n ≤ 2048 := by omega
  have hbn : base + n ≤ s.n := by omega
  obtain ⟨N, hN⟩ : ∃ N, N = s.n := ⟨_, rfl⟩
  rw [← hN] at hil hbn hnn
  clear hd hdd hb hB hbase hN hn hhn
  by_cases h1 : n ≤ a
  · rw [show readT B base e n a k = none by rw [readT, if_pos h1]]
    go_enter Tryz.func55, Tryz.ntmps55
    go_wp2
    refine bodyPost_ret (results_tmp3 rfl _ _ _) rfl ?_
    exact ⟨Below.refl _ _, _, _, rfl⟩
  · obtain ⟨size, hsz⟩ : ∃ size, size = nb ((blk B (base + a)).take 4) := ⟨_, rfl⟩
    obtain ⟨m, hm⟩ : ∃ m, m = nblk (8 + size) := ⟨_, rfl⟩
    have hbl64 : (blk B (base + a)).length = 64 := blk_length hil (by omega)
    have hszl : size < 4294967296 := by rw [hsz]; exact nb_lt 4 _ (by rw [List.length_take, hbl64]; decide)
    have hT : readT B base e n a k = if n < a + m then none else if (blk B (base + a)).take 8 = frontB e k (((secs B (base + a) m).drop 8).take size) then (chgsT (((secs B (base + a) m).drop 8).take size)).map fun l => (l, a + m) else none := by
      rw [readT, if_neg h1, ← hsz, ← hm]
    have hm1 : 1 ≤ m := by rw [hm]; unfold nblk; omega
    have hm2 : 8 + size ≤ 64 * m := by rw [hm]; unfold nblk; omega
    have hml : m ≤ 67108866 := by rw [hm]; unfold nblk; omega
    have kS : Hid (∀ W g, Blk W g 5 (u8s (blk B (base + a))) → Calls Tryz.prog 75 #[.slice (some ⟨g, 0, none⟩) 4 64] W fun r w' => r = .returned (.int .u64 (size : Int)) ∧ W = w') := Lib.hid fun W g hg => by
      have := hg.bytAt (o := 0) (n := 4) (by omega)
      rw [List.drop_zero] at this
      rw [hsz]
      exact sget_any this (by rw [List.length_take, hbl64]; decide) (by decide) (by decide)
    have kN := fun W => blocks_sto (8 + size) W (by omega)
    rw [← hm, show ((8 + size : Nat) : Int) = 8 + (size : Int) by simp] at kN
    rw [hT]
    have HM := Lib.hid hm
    have HSZ := Lib.hid hsz
    clear hsz hm hT
    have h8 : 8 + size < 18446744073709551616 := by omega
    by_cases h2 : n < a + m
    · rw [if_pos h2]
      go_enter Tryz.func55, Tryz.ntmps55
      go_wp2_with (first
        | (go_at_call 53; (with_reducible refine (kB.out w a (World.grownBy.refl _ _) (by omega)).mono ?_); rintro _ w1 ⟨g1, rfl, hb1, hg1, hgr1⟩; obtain ⟨q1, q2, q4⟩ := kC.out w1 hgr1)
        | (go_at_call 75; (with_reducible refine (kS.out _ g1 hb1).mono ?_); rintro _ _ ⟨rfl, rfl⟩)
        | (go_at_call 68; (with_reducible refine (kN _).mono ?_); rintro _ _ ⟨rfl, rfl⟩)
        | fail)
      refine bodyPost_ret (results_tmp3 rfl _ _ _) rfl ?_
      exact ⟨below_of_grown hgr1, _, _, rfl⟩
    · rw [if_neg h2]
      obtain ⟨i0, hi, hz0, hz1, hz2⟩ := info_parts Tryz.info5
      obtain ⟨xs, hxs⟩ : ∃ xs, xs = secs B (base + a) m := ⟨_, rfl⟩
      have hxl : xs.length = 64 * m := by rw [hxs]; exact secs_length hil (by omega)
      have hh8 : (blk B (base + a)).take 8 = xs.take 8 := by rw [hxs]; exact (secs_head B _ m 8 hm1 (by decide)).symm
      rw [hh8, ← hxs]
      obtain ⟨p, hp⟩ : ∃ p, p = (xs.drop 8).take size := ⟨_, rfl⟩
      rw [← hp]
      have hpl : p.length = size := by rw [hp, List.length_take, List.length_drop]; omega
      have hfl := frontB_length e k p
      obtain ⟨f, hf⟩ : ∃ f, f = frontB e k p := ⟨_, rfl⟩
      rw [← hf] at hfl ⊢
      obtain ⟨T, hT⟩ : ∃ T, T = if xs.take 8 = f then (chgsT p).map fun l => (l, a + m) else none := ⟨_, rfl⟩
      rw [← hT]
      have HT := Lib.hid hT
      have HF := Lib.hid hf
      have HP := Lib.hid hp
      have HX := Lib.hid hxs
      have HPL := Lib.hid hpl
      have HFL := Lib.hid hfl
      have HXL := Lib.hid hxl
      clear hT hf hp hxs hh8 hpl hfl hxl
      go_enter Tryz.func55, Tryz.ntmps55
      go_wp2_with (first
        | (go_at_call 53; (with_reducible refine (kB.out w a (World.grownBy.refl _ _) (by omega)).mono ?_); rintro _ w1 ⟨g1, rfl, hb1, hg1, hgr1⟩; obtain ⟨q1, q2, q4⟩ := kC.out w1 hgr1)
        | (go_at_call 75; (with_reducible refine (kS.out _ g1 hb1).mono ?_); rintro _ _ ⟨rfl, rfl⟩)
        | (go_at_call 68; (with_reducible refine (kN _).mono ?_); rintro _ _ ⟨rfl, rfl⟩)
        | fail)
      have ho1 := own_of_blk hb1 hg1 (by rw [hbl64]; decide)
      rw [hbl64] at ho1
      clear hb1 kS kN
      go_loopw [9, 12] (fun u x wr => ∃ (j : Nat) (v : Value), 1 ≤ j ∧ j ≤ m ∧ x = .int .u64 ((a + j : Nat) : Int) ∧ v = u ∧ wr.ownsRow w.heap.size 5 1 v (64 * j) (u8s (secs B (base + a) j)) ∧ Below w.heap.size w wr) (fun _ x _ => a + m - (intOf x).toNat)
      case atStart => exact ⟨1, _, Nat.le_refl _, hm1, by simp, rfl, ho1, below_of_grown hgr1⟩
      case round =>
        obtain ⟨j, v, hj1, hj2, rfl, hvu, ho, hbw⟩ := hrel
        subst hvu
        clear ho1 hgr1 hg1
        obtain ⟨q1, q2, q4⟩ := kC.out wr (grown_of_below hbw)
        obtain ⟨q, hq⟩ : ∃ q, q = a + j := ⟨_, rfl⟩
        rw [← hq]
        by_cases hlt : j < m
        · have hqn : q < n := by omega
          have hl : (blk B (base + q)).length = 64 := blk_length hil (by omega)
          have hqm : q < a + m := by omega
          have HO := Lib.hid ho
          have HB := Lib.hid hbw
          have HQ := Lib.hid hq
          clear ho hbw hq
          have hs64 : 64 * j + (blk B (base + q)).length ≤ 140737488355328 := by rw [hl]; omega
          go_wp2_with (first
            | (go_at_call 53; (with_reducible refine (kB.out wr q (grown_of_below HB.out) hqn).mono ?_); rintro _ w3 ⟨g3, rfl, hb3, hg3, hgr3⟩)
            | (at_builtin; refine wpList_append_byt _ rfl _ _ 40 rfl w.heap.size i0 (.int .u8 0) Tryz.underlying40 hi hz0 hz1 hz2 rfl v (64 * j) _ rfl (own_keep HO.out hgr3) (fun b => b = g3) (some ⟨g3, 0, none⟩) 64 (blk B (base + q)) (by rw [hl]; rfl) (by have := Blk.byt (pre := []) (post := []) (xs := blk B (base + q)) (g := g3) (o := 0) (w := w3) (ty := 5) (by simpa using hb3) rfl; exact this) hs64 (Nat.le_trans HB.out.size hgr3.size) ?_; intro v4 w4 ho4 hg4 _)
            | fail)
          go_roundw
          case rel =>
            have hqq := HQ.out
            refine ⟨j + 1, _, by omega, hlt, by simp [hqq, Int.add_assoc], rfl, ?_, ?_⟩
            · rw [hl, show 64 * j + 64 = 64 * (j + 1) by omega, show base + q = base + a + j by omega, secs_succ] at ho4
              exact ho4
            · have hb3' : Below w.heap.size w w3 := HB.out.trans ((below_of_grown hgr3).mono HB.out.size)
              exact hb3'.grown hg4 hb3'.size fun g hg => (HO.out.lt g hg).1
          case measure => simp [intOf]; omega
        · obtain rfl : j = m := by omega
          rw [← HX.out] at ho
          obtain ⟨g5, c5, rfl, -, l5, m5, y5⟩ := own_some ho (by omega)
          have yp := y5.mid 8 size
          rw [← HP.out] at yp
          have hfr := front_any (n := size) (c := c5 - 8) e k yp (fun _ hb => hb) HPL.out (by omega) (by omega) (by omega) he hk
          rw [← HF.out] at hfr
          have hc8 : ¬ c5 = 8 := by omega
          have hqm : ¬ q < a + j := by omega
          have h88 : (8 + size - 8) = size := by omega
          have hcc : 8 + size ≤ c5 := by omega
          clear ho h2
          have HB := Lib.hid hbw
          have HY5 := Lib.hid y5
          have HYP := Lib.hid yp
          clear hbw y5 yp
          go_wp2_with (first
            | (go_at_call 78; (with_reducible refine hfr.mono ?_); rintro _ w6 ⟨v6, rfl, ho6, hb6⟩; obtain ⟨A6, c6, rfl, -, l6, m6, y6⟩ := own_byt ho6)
            | fail)
          have hbw6 : Below w.heap.size w w6 := HB.out.trans (hb6.mono HB.out.size)
          have hpre := prefix_any (c := c5) (d := c6) (HY5.out.old hb6) y6 HXL.out rfl (by rw [HFL.out]; omega) l5
          have hch := changes_any (cp := c5 - 8) (HYP.out.old hb6) (fun _ hb => hb) HPL.out (by omega) (by omega)
          have HB6 := Lib.hid hbw6
          clear hfr ho6 hb6 y6 l6 m6 hbw6
          by_cases h3 : xs.take 8 = f
          · have h3' : decide (xs.take f.length = f) = true := by rw [HFL.out]; exact decide_eq_true h3
            rw [h3'] at hpre
            have HTT : Hid (T = (chgsT p).map fun l => (l, a + j)) := Lib.hid (by rw [HT.out, if_pos h3])
            clear h3 h3'
            cases hcT : chgsT p with
            | none =>
              rw [hcT] at hch
              have HTN : Hid (T = none) := Lib.hid (by rw [HTT.out, hcT]; rfl)
              clear hcT
              go_wp2_with (first
                | (go_at_call 76; (with_reducible refine hpre.mono ?_); rintro _ _ ⟨rfl, rfl⟩)
                | (go_at_call 79; (with_reducible refine hch.mono ?_); rintro _ w8 ⟨hb8, v8, rfl⟩)
                | fail)
              refine bodyPost_ret (results_tmp3 rfl _ _ _) rfl ?_
              rw [HTN.out]
              exact ⟨HB6.out.trans (hb8.mono HB6.out.size), _, _, rfl⟩
            | some l =>
              rw [hcT] at hch
              have HTN : Hid (T = some (l, a + j)) := Lib.hid (by rw [HTT.out, hcT]; rfl)
              clear hcT
              go_wp2_with (first
                | (go_at_call 76; (with_reducible refine hpre.mono ?_); rintro _ _ ⟨rfl, rfl⟩)
                | (go_at_call 79; (with_reducible refine hch.mono ?_); rintro _ w8 ⟨hb8, g8, rfl, hx8, he8, hl8⟩)
                | fail)
              refine bodyPost_ret (results_tmp3 rfl _ _ _) rfl ?_
              rw [HTN.out]
              refine ⟨HB6.out.trans (hb8.mono HB6.out.size), g8, by simp, hx8.imp fun b hb => ⟨Nat.le_trans HB6.out.size hb.1, hb.2⟩, he8, hl8⟩
          · have h3' : decide (xs.take f.length = f) = false := by rw [HFL.out]; exact decide_eq_false h3
            rw [h3'] at hpre
            have HTN : Hid (T = none) := Lib.hid (by rw [HT.out, if_neg h3])
            clear h3 h3'
            go_wp2_with (first
              | (go_at_call 76; (with_reducible refine hpre.mono ?_); rintro _ _ ⟨rfl, rfl⟩)
              | fail)
            refine bodyPost_ret (results_tmp3 rfl _ _ _) rfl ?_
            rw [HTN.out]
            exact ⟨HB6.out, _, _, rfl⟩
end Go.Proofs.YtonpcenjipigpaaGreat
