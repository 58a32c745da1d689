/- The last blocks of a text are filled up. Conditions: none. -/
import Derived.Test.YtgphopahlgfogaaDoorTake
import Derived.Test.YtgphopahlgfogaaDoorMov
namespace Go.Proofs.YtgphopahlgfogaaDoor
open Go.RowKit
theorem made_u8 (s : Nat) : (madeCells #[Value.int .u8 0] s).toList = u8s (List.replicate s 0) := by
  rw [toList_madeCells_one]
  simp [u8s]
theorem Blk.of_owns {w : World} {base g n : Nat} {xs : List Value} (h : w.ownsRow base 5 1 (.slice (some ⟨g, 0, none⟩) n n) n xs) : Blk w g 5 xs := by
  rcases h.2 with ⟨e, _⟩ | ⟨g', cap, cur, e, _, hg, _, _, hs, ht⟩
  · cases e
  · cases e
    unfold Blk
    rw [hg]
    have : cur.toList = xs := by
      rw [← ht, List.take_of_length_le]
      simp [hs]
    rw [← this]
theorem lay_le (xs ys : List UInt8) (h : xs.length ≤ ys.length) : lay xs ys = xs ++ ys.drop xs.length := by rw [lay, List.take_of_length_le h]

theorem write_n {w : World} {g o c n m : Nat} {N : Int} {ty : TypeId} {pre post : List Value} {ys : List UInt8} (hb : Blk w g ty (pre ++ u8s ys ++ post)) (ho : pre.length = o) (hy : ys.length = m) (hl : m ≤ 8) (hN : N = (n : Int)) :
    Calls Tryd.prog 25 #[.slice (some ⟨g, o, none⟩) m c, .int .u64 N] w fun e w' => e = .returned (.tuple #[]) ∧ Blk w' g ty (pre ++ u8s (be m n) ++ post) ∧ w.grownBy w' (some g) ∧ w'.heap.size = w.heap.size := by
  subst hy hN; exact write_any hb ho hl

set_option maxHeartbeats 1600000 in
theorem filled_any {w : World} {ok : Nat → Prop} {A : Option Addr} {rs : List UInt8} {r c n s : Nat} (hx : Byt w ok A rs) (hok : ∀ b, ok b → b < w.heap.size) (hr : rs.length = r) (hrn : r = n % 64) (hn : n < 2305843009213693952) (hs : (fill rs n).length = s) :
    Calls Tryd.prog 24 #[.slice A r c, .int .u64 n, .int .i64 64, .int .i64 8] w fun e w' => e = .returned (.slice (some ⟨w.heap.size, 0, none⟩) s s) ∧ Blk w' w.heap.size 5 (u8s (fill rs n)) ∧ w.grownBy w' none := by
  have hfl := fill_length rs n (by omega)
  have hs2 : s = (r + 72) / 64 * 64 := by omega
  have hsr : r + 9 ≤ s := by omega
  have hs128 : s ≤ 128 := by omega
  have hr64 : r < 64 := by omega
  have hsz : ((r : Int) + 1 + 8 + 64 - 1) / 64 * 64 = (s : Int) := by omega
  obtain ⟨i0, hi, hz0, hz1, hz2⟩ := info_parts Tryd.info5
  have HF := Lib.hid hs
  have HX := Lib.hid hx
  have HR := Lib.hid hr
  have HN := Lib.hid hrn
  have HL := Lib.hid hfl
  have H2 := Lib.hid hs2
  clear hs hx hr hrn hfl hs2
  go_enter Tryd.func24, Tryd.ntmps24
  go_wp2_with (with_reducible refine wpList_make_full _ rfl _ _ 22 rfl w.heap.size 5 i0 (.int .u8 0) 1 Tryd.underlying22 hi hz0 hz1 .i64 .i64 _ _ s rfl rfl rfl rfl ?c1 ?c2 ?c3 ?_)
  case c1 => rw [hz2]; omega
  case c2 => unfold maxLen; omega
  case c3 => exact Nat.le_refl _
  intro w1 hown hg1
  rw [made_u8] at hown
  have hb1 := Blk.of_owns hown
  have HB1 := Lib.hid hb1
  have HG1 := Lib.hid hg1
  clear hown hb1 hg1
  go_wp2_with (with_reducible refine wpList_copy_blk rfl _ _ rfl w.heap.size 0 s s r c A rs (List.replicate s 0) rfl rfl HR.out (by simp) 5 [] [] (HB1.out.to (by simp)) rfl ok (HX.out.grown HG1.out (fun b hb => ⟨hok b hb, by simp⟩)) r (by rw [HR.out, List.length_replicate]; exact Nat.min_eq_left (by omega)) ?_)
  intro w2 hb2 hg2 hz2'
  have hrl := HR.out
  have hg := World.grownBy.andThen HG1.out hg2 (by rintro _ ⟨⟩; exact .inl (Nat.le_refl _)) (row := none)
  have hlay : lay rs (List.replicate s 0) = rs ++ List.replicate (s - r) 0 := by rw [lay_le _ _ (by simp; omega), List.drop_replicate, hrl]
  rw [hlay] at hb2
  have hcell := hb2.get r (.int .u8 0) (by
    unfold u8s
    rw [List.getElem?_map, List.getElem?_append_right (by omega), hrl, Nat.sub_self, List.getElem?_replicate, if_pos (by omega)]
    rfl)
  have hf := hb2.frozen r
  have hb3 := hb2.set r (.int .u8 ((128 : UInt8).toNat : Int))
  have hset : (rs ++ List.replicate (s - r) 0).set r (128 : UInt8) = (rs ++ 128 :: List.replicate (s - r - 9) 0) ++ List.replicate 8 0 := by
    rw [List.set_append_right _ _ (by omega), hrl, Nat.sub_self, show s - r = (s - r - 9) + 8 + 1 by omega, List.replicate_succ, List.set_cons_zero, List.append_assoc, List.cons_append, List.replicate_append_replicate]
    congr 3
  rw [u8s_set, hset, u8s_append] at hb3
  replace hb3 : Blk (w2.setCell ⟨w.heap.size, r, none⟩ (.int .u8 128)) w.heap.size 5 (u8s (rs ++ 128 :: List.replicate (s - r - 9) 0) ++ u8s (List.replicate 8 0) ++ []) := hb3.to (by simp)
  have hpl : (u8s (rs ++ 128 :: List.replicate (s - r - 9) 0)).length = s - 8 := by rw [u8s_length]; simp only [List.length_append, List.length_cons, List.length_replicate]; omega
  have HB3 := Lib.hid hb3
  have HP := Lib.hid hpl
  have HRL := Lib.hid hrl
  have HG := Lib.hid hg
  clear hb2 hb3 hpl hlay hset hrl hg hg2 hz2'
  go_wp2_with (go_at_call 25; refine (write_n (n := 8 * n) HB3.out HP.out (by rw [List.length_replicate]; omega) (by omega) (by omega)).mono ?_; rintro _ w4 ⟨rfl, hb4, hg4, hz4⟩)
  go_ret
  have hz : zpad n = s - r - 9 := by
    have h1 := HL.out; have h2 := HF.out; have h3 := HN.out
    rw [zpad]; omega
  refine ⟨rfl, hb4.to ?_, World.grownBy.andThen (World.grownBy.andThen HG.out (grown_set _ _ _ _) (by rintro _ ⟨⟩; exact .inl (Nat.le_refl _))) hg4 (by rintro _ ⟨⟩; exact .inl (Nat.le_refl _))⟩
  rw [show s - (s - 8) = 8 by omega, fill, hz, List.append_nil, ← u8s_append, List.append_assoc, List.cons_append]
end Go.Proofs.YtgphopahlgfogaaDoor
