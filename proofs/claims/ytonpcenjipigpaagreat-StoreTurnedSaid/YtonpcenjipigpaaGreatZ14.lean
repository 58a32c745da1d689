/- A store's cells beside its disk; its small methods: size, place, block, seal. Conditions: the half is 0 or 1, the block lies in the half. -/
import Derived.Test.YtonpcenjipigpaaGreatZ11
import Derived.Test.YtonpcenjipigpaaGreatZ13
import Derived.Test.YtonpcenjipigpaaGreatRows
import Derived.Shelf.Strconv.Clone
import Derived.Shelf.SlMaps.Clone
import Derived.Shelf.SlIter.Nil
import Derived.Shelf.SortM.Plain
import Derived.Shelf.SortM.SortNone
namespace Go.Proofs.YtonpcenjipigpaaGreat
open Go.RowKit
/-- The six cells of a store. -/
def scells (dp half e c n : Nat) (mv : Value) : List Value := [.pointer (some ⟨dp, 0, none⟩), .int .i64 (half : Int), .int .u64 (e : Int), .int .u64 (c : Int), .int .u64 (n : Int), mv]
/-- A disk's answer to a write, and what it makes of it. -/
def St.wroteE (s : St) : Nat := if s.goes = true then 0 else 150
def St.wrote (s : St) (i : Nat) (b : List UInt8) : St := if s.goes = true then s.burn.write i b else s.burn
def St.keptE (s : St) : Nat := if s.goes = true then 0 else 150
/-- What a header written and synced makes of a disk: the error, the disk. -/
def St.sealed (s : St) (i : Nat) (b : List UInt8) : Nat × St := if s.wroteE = 0 then ((s.wrote i b).keptE, (s.wrote i b).synced) else (150, s.wrote i b)
theorem Nxt.of_md {w w' : World} {foot : Nat → Prop} {p : Nat} {s : St} (h : Dsk w' foot p s) (hm : Md foot w w') : Nxt w foot p s w' := ⟨foot, h, fun _ hk => .inl hk, hm⟩
theorem Nxt.left {w w1 w' : World} {foot : Nat → Prop} {p : Nat} {s : St} (hg : w.grownBy w1 none) (h : Nxt w1 foot p s w') : Nxt w foot p s w' := by
  obtain ⟨f, hd, hf, hm⟩ := h
  exact ⟨f, hd, fun k hk => (hf k hk).imp id fun ⟨a, b⟩ => ⟨Nat.le_trans hg.size a, b⟩, (Md.of_grown hg (by simp)).trans hm⟩
theorem Nxt.trans {w w1 w' : World} {foot : Nat → Prop} {p : Nat} {s s1 : St} (h : Nxt w foot p s w1) (k : ∀ f1, Dsk w1 f1 p s → (∀ k, f1 k → foot k ∨ (w.heap.size ≤ k ∧ k < w1.heap.size)) → Md foot w w1 → Nxt w1 f1 p s1 w') : Nxt w foot p s1 w' := by
  obtain ⟨f, hd, hf, hm⟩ := h
  obtain ⟨f', hd', hf', hm'⟩ := k f hd hf hm
  refine ⟨f', hd', fun k hk => ?_, hm.trans_ext hm' hf⟩
  rcases hf' k hk with h1 | ⟨h1, h2⟩
  · exact (hf k h1).imp id fun ⟨a, b⟩ => ⟨a, Nat.lt_of_lt_of_le b hm'.size⟩
  · exact .inr ⟨Nat.le_trans hm.size h1, h2⟩
theorem Nxt.md {w w1 w' : World} {foot f : Nat → Prop} {p : Nat} {s1 : St} (hf : ∀ k, f k → foot k ∨ (w.heap.size ≤ k ∧ k < w1.heap.size)) (hm : Md foot w w1) (hd : Dsk w' f p s1) (hm' : Md f w1 w') : Nxt w foot p s1 w' :=
  ⟨f, hd, fun k hk => (hf k hk).imp id fun ⟨a, b⟩ => ⟨a, Nat.lt_of_lt_of_le b hm'.size⟩, hm.trans_ext hm' hf⟩
theorem write_any {foot : Nat → Prop} {w : World} {p : Nat} {s : St} (h : Dsk w foot p s) {i : Nat} (hi : i < s.n) {ok : Nat → Prop} {A : Option Addr} {c m : Nat} {b : List UInt8} (hb : Byt w ok A b) (hbl : b.length = 64) (hm : m = 64) (hok : ∀ k, ok k → k < w.heap.size ∧ ¬ foot k) (hL : s.L.length ≤ 1048576) :
    Calls Tryz.prog 24 #[.pointer (some ⟨p, 0, none⟩), .int .i64 (i : Int), .slice A m c] w fun e w' => e = .returned (.int .i64 (s.wroteE : Nat)) ∧ Nxt w foot p (s.wrote i b) w' := by
  subst hm
  unfold St.wroteE St.wrote
  cases hg : s.goes with
  | true => exact (write_yes h hi hb hbl hok hg hL).mono fun e w' ⟨h1, h2⟩ => ⟨by rw [h1]; rfl, h2⟩
  | false => exact (write_dead h hi hg).mono fun e w' ⟨h1, h2, h3⟩ => ⟨by rw [h1]; rfl, Nxt.of_md h2 h3⟩
theorem keep_any {foot : Nat → Prop} {w : World} {p : Nat} {s : St} (h : Dsk w foot p s) : Calls Tryz.prog 26 #[.pointer (some ⟨p, 0, none⟩)] w fun e w' => e = .returned (.int .i64 (s.keptE : Nat)) ∧ Dsk w' foot p s.synced ∧ Md foot w w' :=
  (sync_any h).mono fun e w' ⟨h1, h2, h3⟩ => ⟨by rw [h1]; unfold St.syncE St.keptE; cases s.goes <;> rfl, h2, h3⟩
/-- Nothing is said of a store but where its disk is, and which half. -/
def Beg (w : World) (sp dp half : Nat) : Prop := ∃ e c n mv, Blk w sp 75 (scells dp half e c n mv)
theorem Beg.keep {w w' : World} {sp dp half : Nat} (h : Beg w sp dp half) (hk : w'.heap[sp]? = w.heap[sp]?) : Beg w' sp dp half := by
  obtain ⟨e, c, n, mv, hb⟩ := h
  exact ⟨e, c, n, mv, hb.keep hk⟩
theorem Beg.lt {w : World} {sp dp half : Nat} (h : Beg w sp dp half) : sp < w.heap.size := by
  obtain ⟨e, c, n, mv, hb⟩ := h
  exact hb.lt
section
variable {foot : Nat → Prop} {w : World} {sp dp half : Nat} {s : St}
theorem size_sto (hs : Beg w sp dp half) (hd : Dsk w foot dp s) : Calls Tryz.prog 54 #[.pointer (some ⟨sp, 0, none⟩)] w fun e w' => e = .returned (.int .u64 (s.n / 2 : Nat)) ∧ w = w' := by
  have hn := hd.ok.2.1
  have hc := blocks_any hd
  obtain ⟨e, c, n, mv, hb⟩ := hs
  have c0 : w.cell? ⟨sp, 0, none⟩ = some (.pointer (some ⟨dp, 0, none⟩)) := hb.get 0 _ rfl
  obtain ⟨N, hN⟩ : ∃ N, N = s.n := ⟨_, rfl⟩
  rw [← hN] at hn hc ⊢
  clear hb hd hN
  go_enter Tryz.func54, Tryz.ntmps54
  go_wp2_with (go_at_call 23; refine hc.mono ?_; rintro _ _ ⟨rfl, rfl⟩)
  go_ret
  exact ⟨rfl, rfl⟩
theorem place_any (hs : Beg w sp dp half) (hd : Dsk w foot dp s) (h a : Nat) (hh : h ≤ 1) (ha : a ≤ 4096) : Calls Tryz.prog 56 #[.pointer (some ⟨sp, 0, none⟩), .int .i64 (h : Int), .int .u64 (a : Int)] w fun e w' => e = .returned (.int .i64 ((h * (s.n / 2) + a : Nat) : Int)) ∧ w = w' := by
  have hc := size_sto hs hd
  have hn := hd.ok.2.1
  obtain ⟨N, hN⟩ : ∃ N, N = s.n / 2 := ⟨_, rfl⟩
  rw [← hN] at hc ⊢
  have hNl : N ≤ 2048 := by omega
  have hp : h * N ≤ 2048 := by
    have := Nat.mul_le_mul hh hNl
    omega
  have hp1 : (h : Int) * (N : Int) ≤ 2048 := by
    have : (((h * N : Nat)) : Int) ≤ 2048 := by omega
    simpa using this
  have hp0 : (0 : Int) ≤ (h : Int) * (N : Int) := Int.mul_nonneg (by omega) (by omega)
  clear hd hN hp
  go_enter Tryz.func56, Tryz.ntmps56
  go_wp2_with (go_at_call 54; refine hc.mono ?_; rintro _ _ ⟨rfl, rfl⟩)
  go_ret
  exact ⟨by simp, rfl⟩
/-- New memory holds the block. -/
def BlockE (w : World) (b : List UInt8) (e : Ending) (w' : World) : Prop := ∃ g, e = .returned (.slice (some ⟨g, 0, none⟩) 64 64) ∧ Blk w' g 5 (u8s b) ∧ w.heap.size ≤ g ∧ w.grownBy w' none
set_option maxHeartbeats 1000000 in
theorem block_sto (hs : Beg w sp dp half) (hd : Dsk w foot dp s) (h a i : Nat) (hh : h ≤ 1) (ha : a ≤ 4096) (hi : i = h * (s.n / 2) + a) (hin : i < s.n) (hdd : s.dead = false) :
    Calls Tryz.prog 53 #[.pointer (some ⟨sp, 0, none⟩), .int .i64 (h : Int), .int .u64 (a : Int)] w (BlockE w (blk (redo s.K s.L) i)) := by
  have hc := place_any (w := w.drew) hs (hd.grown (grown_drewN 1)) h a hh ha
  rw [← hi] at hc
  have hr := read_yes (w := w.drew) (hd.grown (grown_drewN 1)) hin hdd
  obtain ⟨e, c, n, mv, hb⟩ := hs
  have c0 : w.cell? ⟨sp, 0, none⟩ = some (.pointer (some ⟨dp, 0, none⟩)) := hb.get 0 _ rfl
  obtain ⟨B, hB⟩ : ∃ B, B = blk (redo s.K s.L) i := ⟨_, rfl⟩
  rw [← hB] at hr ⊢
  have c1 : w.drew.cell? ⟨sp, 0, none⟩ = some (.pointer (some ⟨dp, 0, none⟩)) := c0
  clear hb hd hB hi hin
  go_enter Tryz.func53, Tryz.ntmps53
  go_wp2
  go_region_held3 (fun W => W.cell? ⟨sp, 0, none⟩ = some (.pointer (some ⟨dp, 0, none⟩))) (first | exact c1 | exact c2) (first
    | (go_at_call 56; with_reducible refine hc.mono ?_; rintro _ _ ⟨rfl, rfl⟩)
    | (go_at_call 77; (with_reducible refine hr.mono ?_); rintro _ w2 ⟨g, rfl, hb2, hg2, hgr⟩; have c2 : w2.cell? ⟨sp, 0, none⟩ = some (.pointer (some ⟨dp, 0, none⟩)) := hgr.cell c1 (by simp))
    | fail)
  all_goals
    go_wp2
    go_ret
    exact ⟨g, rfl, hb2, hg2, (grown_drewN 1 : w.grownBy w.drew none).trans hgr⟩
set_option maxHeartbeats 1000000 in
theorem seal_any (hs : Beg w sp dp half) (hd : Dsk w foot dp s) (hsf : ¬ foot sp) (h e c n : Nat) (hh : h ≤ 1) (hn2 : 2 ≤ s.n) (he : e < 18446744073709551616) (hc : c < 4294967296) (hn : n < 4294967296) (hL : s.L.length ≤ 1000000) :
    Calls Tryz.prog 31 #[.pointer (some ⟨sp, 0, none⟩), .int .i64 (h : Int), .agg (hcells e c n).toArray] w fun r w' => r = .returned (.int .i64 ((s.sealed (h * (s.n / 2)) (hdrB e c n)).1 : Nat)) ∧ Nxt w foot dp (s.sealed (h * (s.n / 2)) (hdrB e c n)).2 w' := by
  have hi : h * (s.n / 2) < s.n := by
    have := Nat.mul_le_mul hh (Nat.le_refl (s.n / 2))
    omega
  obtain ⟨i, hi0⟩ : ∃ i, i = h * (s.n / 2) := ⟨_, rfl⟩
  rw [← hi0] at hi ⊢
  have hg1 := World.grownBy_alloc w (.cells #[.int .u64 (e : Int), .int .u64 (c : Int), .int .u64 (n : Int)] 73) none
  have hb0 := Blk.of_alloc w #[.int .u64 (e : Int), .int .u64 (c : Int), .int .u64 (n : Int)] 73
  obtain ⟨w1, hw1⟩ : ∃ w1, w1 = w.alloc (.cells #[.int .u64 (e : Int), .int .u64 (c : Int), .int .u64 (n : Int)] 73) := ⟨_, rfl⟩
  obtain ⟨g, hgg⟩ : ∃ g, g = w.heap.size := ⟨_, rfl⟩
  rw [← hw1, ← hgg] at hb0
  rw [← hw1] at hg1
  have hs1 : Beg w1.drew sp dp half := (hs.keep (hg1.block _ hs.lt (by simp)) : Beg w1 sp dp half)
  have hd1 : Dsk w1.drew foot dp s := (hd.grown hg1).grown (grown_drewN 1)
  have HD := Lib.hid hd1
  have KP : Hid (∀ W, Below w1.drew.heap.size w1.drew W → W.cell? ⟨sp, 0, none⟩ = some (.pointer (some ⟨dp, 0, none⟩)) ∧ W.cell? ⟨g, 0, none⟩ = some (.int .u64 (e : Int)) ∧ W.cell? ⟨g, 1, none⟩ = some (.int .u64 (c : Int)) ∧ W.cell? ⟨g, 2, none⟩ = some (.int .u64 (n : Int))) := fun W hW => by
    obtain ⟨e', c', n', mv, hb⟩ := hs1
    have hb0' : Blk w1.drew g 73 (hcells e c n) := hb0
    exact ⟨(hb.below hW hb.lt).get 0 _ rfl, (hb0'.below hW hb0'.lt).get 0 _ rfl, (hb0'.below hW hb0'.lt).get 1 _ rfl, (hb0'.below hW hb0'.lt).get 2 _ rfl⟩
  have hplace : Hid (∀ W, Below w1.drew.heap.size w1.drew W → Calls Tryz.prog 56 #[.pointer (some ⟨sp, 0, none⟩), .int .i64 (h : Int), .int .u64 0] W fun e w' => e = .returned (.int .i64 (i : Int)) ∧ W = w') := fun W hW => by
    have := place_any (hs1.keep (hW.block _ hs1.lt)) (hd1.grown (grown_of_below hW)) h 0 hh (by omega)
    rw [Nat.add_zero, ← hi0] at this
    exact this
  have hq0 : Below w1.drew.heap.size w1.drew w1.drew := Below.refl _ _
  have hbk := fun W => block_any e c n W he hc hn
  have HG1 : Hid (w.grownBy w1.drew none) := hg1.trans (grown_drewN 1)
  have HGW : Hid (w.heap.size = g) := hgg.symm
  have HS1 := Lib.hid hs1.lt
  have HSZ : Hid (g < w1.drew.heap.size) := (hb0.lt : g < w1.heap.size)
  have HFG : Hid (¬ foot g) := fun hf => by have := hd.lt g hf; omega
  have HFT : Hid (∀ k, foot k → k < w.heap.size) := hd.lt
  unfold St.sealed
  clear hs hd hgg hb0 hg1 hs1 hd1 hi0
  cases hgo : s.goes with
  | false =>
    have e1 : s.wroteE = 150 := by simp [St.wroteE, hgo]
    rw [e1, if_neg (by decide)]
    have hwr : ∀ (W : World) (A : Option Addr) (c' : Nat), Below w1.drew.heap.size w1.drew W → Byt W (fun k => w1.drew.heap.size ≤ k ∧ k < W.heap.size) A (hdrB e c n) → Calls Tryz.prog 24 #[.pointer (some ⟨dp, 0, none⟩), .int .i64 (i : Int), .slice A 64 c'] W fun e' w' => e' = .returned (.int .i64 150) ∧ Nxt W foot dp (s.wrote i (hdrB e c n)) w' := fun W A c' hW hB => by
      have := write_any (w := W) (c := c') (HD.out.grown (grown_of_below hW)) hi hB (hdrB_length e c n) rfl (fun k hk => ⟨hk.2, fun hf => by have := HD.out.lt k hf; omega⟩) (by omega)
      rw [e1] at this
      exact this
    have HWR := Lib.hid hwr
    clear hwr e1 hgo
    have HW1 : Hid (w.alloc (.cells (hcells e c n).toArray 73) = w1) := hw1.symm
    have hgd : w1.drew.grownBy w1.drew none := World.grownBy.refl _ _
    clear hw1
    go_enter Tryz.func31, Tryz.ntmps31
    go_wp2
    rw [HW1.out, HGW.out]
    go_region_held3 (fun W => W.cell? ⟨sp, 0, none⟩ = some (.pointer (some ⟨dp, 0, none⟩)) ∧ W.cell? ⟨g, 0, none⟩ = some (.int .u64 (e : Int)) ∧ W.cell? ⟨g, 1, none⟩ = some (.int .u64 (c : Int)) ∧ W.cell? ⟨g, 2, none⟩ = some (.int .u64 (n : Int))) (first | exact KP.out _ hq0 | exact KP.out _ hb2 | exact k3) (first
      | (go_at_call 56; (with_reducible refine (hplace.out _ (by assumption)).mono ?_); rintro _ _ ⟨rfl, rfl⟩)
      | (go_at_call 57; (with_reducible refine (hbk _).mono ?_); rintro _ w2 ⟨v, rfl, ho, hb2⟩; obtain ⟨A2, c2, rfl, -, l2, m2, y2⟩ := own_form ho; rw [hdrB_length])
      | (go_at_call 24; (with_reducible refine (HWR.out _ _ _ hb2 (y2.imp fun _ hk => hk.2)).mono ?_); rintro _ w3 ⟨rfl, hn3⟩; have k3 : w3.cell? ⟨sp, 0, none⟩ = some (.pointer (some ⟨dp, 0, none⟩)) ∧ w3.cell? ⟨g, 0, none⟩ = some (.int .u64 (e : Int)) ∧ w3.cell? ⟨g, 1, none⟩ = some (.int .u64 (c : Int)) ∧ w3.cell? ⟨g, 2, none⟩ = some (.int .u64 (n : Int)) := by (obtain ⟨f3, hd3, hf3, hm3⟩ := hn3; obtain ⟨q1, q2, q3, q4⟩ := KP.out _ hb2; have hs2 := hb2.size; exact ⟨(hm3.cell (by have := HS1.out; exact Nat.lt_of_lt_of_le this hs2) hsf).trans q1, (hm3.cell (Nat.lt_of_lt_of_le HSZ.out hs2) HFG.out).trans q2, (hm3.cell (Nat.lt_of_lt_of_le HSZ.out hs2) HFG.out).trans q3, (hm3.cell (Nat.lt_of_lt_of_le HSZ.out hs2) HFG.out).trans q4⟩))
      | fail)
    all_goals
      have hn4 := Nxt.left HG1.out (Nxt.left (grown_of_below hb2) hn3)
      clear hn3 k3 y2 ho hb2
      go_wp2
      go_ret
      exact ⟨rfl, hn4⟩
  | true =>
    have e1 : s.wroteE = 0 := by simp [St.wroteE, hgo]
    rw [e1, if_pos rfl]
    have hwr : ∀ (W : World) (A : Option Addr) (c' : Nat), Below w1.drew.heap.size w1.drew W → Byt W (fun k => w1.drew.heap.size ≤ k ∧ k < W.heap.size) A (hdrB e c n) → Calls Tryz.prog 24 #[.pointer (some ⟨dp, 0, none⟩), .int .i64 (i : Int), .slice A 64 c'] W fun e' w' => e' = .returned (.int .i64 0) ∧ Nxt W foot dp (s.wrote i (hdrB e c n)) w' := fun W A c' hW hB => by
      have := write_any (w := W) (c := c') (HD.out.grown (grown_of_below hW)) hi hB (hdrB_length e c n) rfl (fun k hk => ⟨hk.2, fun hf => by have := HD.out.lt k hf; omega⟩) (by omega)
      rw [e1] at this
      exact this
    have HWR := Lib.hid hwr
    clear hwr e1 hgo
    have HW1 : Hid (w.alloc (.cells (hcells e c n).toArray 73) = w1) := hw1.symm
    have hgd : w1.drew.grownBy w1.drew none := World.grownBy.refl _ _
    clear hw1
    go_enter Tryz.func31, Tryz.ntmps31
    go_wp2
    rw [HW1.out, HGW.out]
    go_region_held3 (fun W => W.cell? ⟨sp, 0, none⟩ = some (.pointer (some ⟨dp, 0, none⟩)) ∧ W.cell? ⟨g, 0, none⟩ = some (.int .u64 (e : Int)) ∧ W.cell? ⟨g, 1, none⟩ = some (.int .u64 (c : Int)) ∧ W.cell? ⟨g, 2, none⟩ = some (.int .u64 (n : Int))) (first | exact KP.out _ hq0 | exact KP.out _ hb2 | exact k3) (first
      | (go_at_call 56; (with_reducible refine (hplace.out _ (by assumption)).mono ?_); rintro _ _ ⟨rfl, rfl⟩)
      | (go_at_call 57; (with_reducible refine (hbk _).mono ?_); rintro _ w2 ⟨v, rfl, ho, hb2⟩; obtain ⟨A2, c2, rfl, -, l2, m2, y2⟩ := own_form ho; rw [hdrB_length])
      | (go_at_call 24; (with_reducible refine (HWR.out _ _ _ hb2 (y2.imp fun _ hk => hk.2)).mono ?_); rintro _ w3 ⟨rfl, hn3⟩; have k3 : w3.cell? ⟨sp, 0, none⟩ = some (.pointer (some ⟨dp, 0, none⟩)) ∧ w3.cell? ⟨g, 0, none⟩ = some (.int .u64 (e : Int)) ∧ w3.cell? ⟨g, 1, none⟩ = some (.int .u64 (c : Int)) ∧ w3.cell? ⟨g, 2, none⟩ = some (.int .u64 (n : Int)) := by (obtain ⟨f3, hd3, hf3, hm3⟩ := hn3; obtain ⟨q1, q2, q3, q4⟩ := KP.out _ hb2; have hs2 := hb2.size; exact ⟨(hm3.cell (by have := HS1.out; exact Nat.lt_of_lt_of_le this hs2) hsf).trans q1, (hm3.cell (Nat.lt_of_lt_of_le HSZ.out hs2) HFG.out).trans q2, (hm3.cell (Nat.lt_of_lt_of_le HSZ.out hs2) HFG.out).trans q3, (hm3.cell (Nat.lt_of_lt_of_le HSZ.out hs2) HFG.out).trans q4⟩))
      | fail)
    all_goals
      obtain ⟨f3, hd3, hf3, hm3⟩ := Nxt.left HG1.out (Nxt.left (grown_of_below hb2) hn3)
      have c3 := k3.1
      have hk := keep_any hd3
      have HM3 := Lib.hid hm3
      have HF3 := Lib.hid hf3
      clear hd3 hf3 hm3 hn3 k3 y2 ho hb2
      go_wp2_with (go_at_call 26; refine hk.mono ?_; rintro _ w4 ⟨rfl, hd4, hm4⟩)
      go_ret
      exact ⟨rfl, Nxt.md HF3.out HM3.out hd4 hm4⟩
end
end Go.Proofs.YtonpcenjipigpaaGreat
/- Where the functions of the library that the store calls lie in this program, for the contracts of the library: strings.Clone, maps.Clone, maps.Keys, slices.Sorted, slices.Sort. Conditions: none. -/
namespace Go.Proofs.YtonpcenjipigpaaGreat
open Go.RowKit Go.Maps Go.Sort Go.Shelf
def Tryz.cloneS_ren : Go.Shelf.Ren := ⟨fun | 316 => 85 | n => n, fun | 9 => 9 | 3 => 3 | 4 => 4 | 37 => 40 | 0 => 0 | 127 => 144 | 5 => 5 | n => n, fun | n => n⟩
theorem Tryz.cloneS : Go.Proofs.LaysM.n316 Tryz.prog Tryz.cloneS_ren := {
  mixed := by kernel_rfl,
  f316 := Tryz.func85.trans (congrArg some (by kernel_rfl)),
  t0 := Tryz.underlying0,
  a0 := Tryz.isAgg0,
  z0 := Tryz.sizeOf0,
  v0 := Tryz.zeroValue0,
  t3 := Tryz.underlying3,
  a3 := Tryz.isAgg3,
  z3 := Tryz.sizeOf3,
  v3 := Tryz.zeroValue3,
  t4 := Tryz.underlying4,
  a4 := Tryz.isAgg4,
  z4 := Tryz.sizeOf4,
  v4 := Tryz.zeroValue4,
  t9 := Tryz.underlying9,
  a9 := Tryz.isAgg9,
  z9 := Tryz.sizeOf9,
  v9 := Tryz.zeroValue9,
  t37 := Tryz.underlying40,
  a37 := Tryz.isAgg40,
  z37 := Tryz.sizeOf40,
  v37 := Tryz.zeroValue40,
  t127 := Tryz.underlying144,
  a127 := Tryz.isAgg144,
  z127 := Tryz.sizeOf144,
  v127 := Tryz.zeroValue144,
  t5 := Tryz.underlying5,
  a5 := Tryz.isAgg5,
  z5 := Tryz.sizeOf5,
  v5 := Tryz.zeroValue5,
  i0 := by kernel_rfl,
  i3 := by kernel_rfl,
  i4 := by kernel_rfl,
  i5 := by kernel_rfl,
  i9 := by kernel_rfl,
  i37 := by kernel_rfl,
  i127 := by kernel_rfl }
def Tryz.cloneM_ren : Go.Shelf.Ren := ⟨fun | 5 => 39 | 7 => 64 | n => n, fun | 23 => 71 | 25 => 9 | 3 => 40 | 4 => 4 | 20 => 20 | n => n, fun | n => n⟩
theorem Tryz.cloneM : Go.Proofs.SlLaysW.n5 Tryz.prog Tryz.cloneM_ren := {
  mixed := by kernel_rfl,
  f5 := ⟨Tryz.f39.name, by decide, Tryz.func39.trans (congrArg some (by kernel_rfl))⟩,
  f7 := Tryz.func64.trans (congrArg some (by kernel_rfl)),
  t4 := Tryz.underlying4,
  a4 := Tryz.isAgg4,
  z4 := Tryz.sizeOf4,
  v4 := Tryz.zeroValue4,
  t20 := Tryz.underlying20,
  a20 := Tryz.isAgg20,
  z20 := Tryz.sizeOf20,
  v20 := Tryz.zeroValue20,
  t23 := Tryz.underlying71,
  a23 := Tryz.isAgg71,
  z23 := Tryz.sizeOf71,
  v23 := Tryz.zeroValue71 }
def Tryz.keys_ren : Go.Shelf.Ren := ⟨fun | 7 => 72 | 10 => 91 | n => n, fun | 23 => 71 | 26 => 9 | 3 => 40 | 28 => 123 | 0 => 0 | 27 => 122 | 33 => 139 | 4 => 4 | n => n, fun | n => n⟩
theorem Tryz.keys : Go.Proofs.SlLaysZ.n7 Tryz.prog Tryz.keys_ren := {
  mixed := by kernel_rfl,
  f7 := ⟨Tryz.f72.name, by decide, Tryz.func72.trans (congrArg some (by kernel_rfl))⟩,
  f10 := ⟨Tryz.f91.name, by decide, Tryz.func91.trans (congrArg some (by kernel_rfl))⟩,
  t0 := Tryz.underlying0,
  a0 := Tryz.isAgg0,
  z0 := Tryz.sizeOf0,
  v0 := Tryz.zeroValue0,
  t4 := Tryz.underlying4,
  a4 := Tryz.isAgg4,
  z4 := Tryz.sizeOf4,
  v4 := Tryz.zeroValue4,
  t23 := Tryz.underlying71,
  a23 := Tryz.isAgg71,
  z23 := Tryz.sizeOf71,
  v23 := Tryz.zeroValue71,
  t26 := Tryz.underlying9,
  a26 := Tryz.isAgg9,
  z26 := Tryz.sizeOf9,
  v26 := Tryz.zeroValue9,
  t27 := Tryz.underlying122,
  a27 := Tryz.isAgg122,
  z27 := Tryz.sizeOf122,
  v27 := Tryz.zeroValue122,
  t28 := Tryz.underlying123,
  a28 := Tryz.isAgg123,
  z28 := Tryz.sizeOf123,
  v28 := Tryz.zeroValue123,
  t33 := Tryz.underlying139,
  a33 := Tryz.isAgg139,
  z33 := Tryz.sizeOf139,
  v33 := Tryz.zeroValue139 }
def Tryz.sorted_ren : Go.Shelf.Ren := ⟨fun | 6 => 71 | 8 => 89 | 9 => 90 | 11 => 98 | 13 => 100 | 12 => 99 | 23 => 110 | 24 => 111 | 14 => 101 | 15 => 102 | 16 => 103 | 17 => 104 | 18 => 105 | 19 => 106 | 20 => 107 | 21 => 108 | 22 => 109 | 25 => 112 | 26 => 113 | 27 => 114 | 28 => 115 | 29 => 116 | 30 => 117 | 31 => 118 | n => n, fun | 26 => 9 | 28 => 123 | 24 => 120 | 0 => 0 | 3 => 3 | 37 => 65 | 48 => 159 | 50 => 49 | 4 => 4 | 40 => 151 | 39 => 150 | 45 => 156 | 5 => 5 | 9 => 9 | 51 => 161 | 55 => 164 | 57 => 166 | 58 => 167 | 33 => 139 | n => n, fun | n => n⟩
theorem Tryz.sorted : Go.Proofs.SlLaysZ.n6 Tryz.prog Tryz.sorted_ren := {
  mixed := by kernel_rfl,
  f6 := ⟨Tryz.f71.name, by decide, Tryz.func71.trans (congrArg some (by kernel_rfl))⟩,
  f8 := ⟨Tryz.f89.name, by decide, Tryz.func89.trans (congrArg some (by kernel_rfl))⟩,
  f11 := ⟨Tryz.f98.name, by decide, Tryz.func98.trans (congrArg some (by kernel_rfl))⟩,
  t0 := Tryz.underlying0,
  a0 := Tryz.isAgg0,
  z0 := Tryz.sizeOf0,
  v0 := Tryz.zeroValue0,
  t24 := Tryz.underlying120,
  a24 := Tryz.isAgg120,
  z24 := Tryz.sizeOf120,
  v24 := Tryz.zeroValue120,
  t26 := Tryz.underlying9,
  a26 := Tryz.isAgg9,
  z26 := Tryz.sizeOf9,
  v26 := Tryz.zeroValue9,
  t28 := Tryz.underlying123,
  a28 := Tryz.isAgg123,
  z28 := Tryz.sizeOf123,
  v28 := Tryz.zeroValue123,
  i26 := by kernel_rfl }
def Tryz.sort_ren : Go.Shelf.Ren := ⟨fun | 6 => 90 | 8 => 100 | 9 => 99 | 19 => 110 | 20 => 111 | 21 => 101 | 22 => 102 | 23 => 103 | 24 => 104 | 25 => 105 | 26 => 106 | 27 => 107 | 28 => 108 | 29 => 109 | 36 => 112 | 31 => 113 | 32 => 114 | 37 => 115 | 38 => 116 | 39 => 117 | 41 => 118 | n => n, fun | 27 => 120 | 29 => 9 | 3 => 3 | 32 => 65 | 26 => 120 | 0 => 0 | 44 => 159 | 46 => 49 | 4 => 4 | 36 => 151 | 35 => 150 | 41 => 156 | 5 => 5 | 9 => 9 | 53 => 161 | 57 => 164 | 63 => 166 | 64 => 167 | n => n, fun | n => n⟩
theorem Tryz.sort : Go.Proofs.SlLaysM.n6 Tryz.prog Tryz.sort_ren := {
  mixed := by kernel_rfl,
  f6 := ⟨Tryz.f90.name, by decide, Tryz.func90.trans (congrArg some (by kernel_rfl))⟩,
  f8 := Tryz.func100.trans (congrArg some (by kernel_rfl)),
  f9 := ⟨Tryz.f99.name, by decide, Tryz.func99.trans (congrArg some (by kernel_rfl))⟩,
  f19 := Tryz.func110.trans (congrArg some (by kernel_rfl)),
  f20 := Tryz.func111.trans (congrArg some (by kernel_rfl)),
  f21 := ⟨Tryz.f101.name, by decide, Tryz.func101.trans (congrArg some (by kernel_rfl))⟩,
  f22 := ⟨Tryz.f102.name, by decide, Tryz.func102.trans (congrArg some (by kernel_rfl))⟩,
  f23 := ⟨Tryz.f103.name, by decide, Tryz.func103.trans (congrArg some (by kernel_rfl))⟩,
  f24 := ⟨Tryz.f104.name, by decide, Tryz.func104.trans (congrArg some (by kernel_rfl))⟩,
  f25 := ⟨Tryz.f105.name, by decide, Tryz.func105.trans (congrArg some (by kernel_rfl))⟩,
  f26 := ⟨Tryz.f106.name, by decide, Tryz.func106.trans (congrArg some (by kernel_rfl))⟩,
  f27 := ⟨Tryz.f107.name, by decide, Tryz.func107.trans (congrArg some (by kernel_rfl))⟩,
  f28 := ⟨Tryz.f108.name, by decide, Tryz.func108.trans (congrArg some (by kernel_rfl))⟩,
  f29 := ⟨Tryz.f109.name, by decide, Tryz.func109.trans (congrArg some (by kernel_rfl))⟩,
  f31 := Tryz.func113.trans (congrArg some (by kernel_rfl)),
  f32 := Tryz.func114.trans (congrArg some (by kernel_rfl)),
  f36 := ⟨Tryz.f112.name, by decide, Tryz.func112.trans (congrArg some (by kernel_rfl))⟩,
  f37 := ⟨Tryz.f115.name, by decide, Tryz.func115.trans (congrArg some (by kernel_rfl))⟩,
  f38 := ⟨Tryz.f116.name, by decide, Tryz.func116.trans (congrArg some (by kernel_rfl))⟩,
  f39 := ⟨Tryz.f117.name, by decide, Tryz.func117.trans (congrArg some (by kernel_rfl))⟩,
  f41 := ⟨Tryz.f118.name, by decide, Tryz.func118.trans (congrArg some (by kernel_rfl))⟩,
  t0 := Tryz.underlying0,
  a0 := Tryz.isAgg0,
  z0 := Tryz.sizeOf0,
  v0 := Tryz.zeroValue0,
  t3 := Tryz.underlying3,
  a3 := Tryz.isAgg3,
  z3 := Tryz.sizeOf3,
  v3 := Tryz.zeroValue3,
  t4 := Tryz.underlying4,
  a4 := Tryz.isAgg4,
  z4 := Tryz.sizeOf4,
  v4 := Tryz.zeroValue4,
  t5 := Tryz.underlying5,
  a5 := Tryz.isAgg5,
  z5 := Tryz.sizeOf5,
  v5 := Tryz.zeroValue5,
  t9 := Tryz.underlying9,
  a9 := Tryz.isAgg9,
  z9 := Tryz.sizeOf9,
  v9 := Tryz.zeroValue9,
  t26 := Tryz.underlying120,
  a26 := Tryz.isAgg120,
  z26 := Tryz.sizeOf120,
  v26 := Tryz.zeroValue120,
  t27 := Tryz.underlying120,
  a27 := Tryz.isAgg120,
  z27 := Tryz.sizeOf120,
  v27 := Tryz.zeroValue120,
  t29 := Tryz.underlying9,
  a29 := Tryz.isAgg9,
  z29 := Tryz.sizeOf9,
  v29 := Tryz.zeroValue9,
  t32 := Tryz.underlying65,
  a32 := Tryz.isAgg65,
  z32 := Tryz.sizeOf65,
  v32 := Tryz.zeroValue65,
  t35 := Tryz.underlying150,
  a35 := Tryz.isAgg150,
  z35 := Tryz.sizeOf150,
  v35 := Tryz.zeroValue150,
  t36 := Tryz.underlying151,
  a36 := Tryz.isAgg151,
  z36 := Tryz.sizeOf151,
  v36 := Tryz.zeroValue151,
  t41 := Tryz.underlying156,
  a41 := Tryz.isAgg156,
  z41 := Tryz.sizeOf156,
  v41 := Tryz.zeroValue156,
  t44 := Tryz.underlying159,
  a44 := Tryz.isAgg159,
  z44 := Tryz.sizeOf159,
  v44 := Tryz.zeroValue159,
  t46 := Tryz.underlying49,
  a46 := Tryz.isAgg49,
  z46 := Tryz.sizeOf49,
  v46 := Tryz.zeroValue49,
  t53 := Tryz.underlying161,
  a53 := Tryz.isAgg161,
  z53 := Tryz.sizeOf161,
  v53 := Tryz.zeroValue161,
  t57 := Tryz.underlying164,
  a57 := Tryz.isAgg164,
  z57 := Tryz.sizeOf164,
  v57 := Tryz.zeroValue164,
  t63 := Tryz.underlying166,
  a63 := Tryz.isAgg166,
  z63 := Tryz.sizeOf166,
  v63 := Tryz.zeroValue166,
  t64 := Tryz.underlying167,
  a64 := Tryz.isAgg167,
  z64 := Tryz.sizeOf167,
  v64 := Tryz.zeroValue167 }
end Go.Proofs.YtonpcenjipigpaaGreat
