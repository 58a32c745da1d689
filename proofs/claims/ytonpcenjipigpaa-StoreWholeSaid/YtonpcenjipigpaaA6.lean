/- A store's cells beside its disk; its small methods: size, place, block, seal. Conditions: the half is 0 or 1, the block lies in the half. -/
import Derived.Test.YtonpcenjipigpaaA5
import Derived.Test.YtonpcenjipigpaaDWri
namespace Go.Proofs.Ytonpcenjipigpaa
open Go.RowKit
/-- The six cells of a store. -/
def scells (dp half e c n : Nat) (mv : Value) : List Value := [.pointer (some ⟨dp, 0, none⟩), .int .i64 (half : Int), .int .u64 (e : Int), .int .u64 (c : Int), .int .u64 (n : Int), mv]
/-- A disk's answer to a write, and what it makes of it. -/
def St.wroteE (s : St) : Nat := if s.goes = true then 0 else 150
def St.wrote (s : St) (i : Nat) (b : List UInt8) : St := if s.goes = true then s.burn.write i b else s.burn
def St.keptE (s : St) : Nat := if s.goes = true then 0 else 150
/-- What a header written and synced makes of a disk: the error, the disk. -/
def St.sealed (s : St) (i : Nat) (b : List UInt8) : Nat × St := if s.wroteE = 0 then ((s.wrote i b).keptE, (s.wrote i b).synced) else (150, s.wrote i b)
theorem Nxt.of_md {w w' : World} {foot : Nat → Prop} {p : Nat} {s : St} (h : Dsk w' foot p s) (hm : Md foot w w') : Nxt w foot p s w' := ⟨foot, h, fun _ hk => .inl hk, hm⟩
theorem Nxt.left {w w1 w' : World} {foot : Nat → Prop} {p : Nat} {s : St} (hg : w.grownBy w1 none) (h : Nxt w1 foot p s w') : Nxt w foot p s w' := by
  obtain ⟨f, hd, hf, hm⟩ := h
  exact ⟨f, hd, fun k hk => (hf k hk).imp id fun ⟨a, b⟩ => ⟨Nat.le_trans hg.size a, b⟩, (Md.of_grown hg (by simp)).trans hm⟩
theorem Nxt.trans {w w1 w' : World} {foot : Nat → Prop} {p : Nat} {s s1 : St} (h : Nxt w foot p s w1) (k : ∀ f1, Dsk w1 f1 p s → (∀ k, f1 k → foot k ∨ (w.heap.size ≤ k ∧ k < w1.heap.size)) → Md foot w w1 → Nxt w1 f1 p s1 w') : Nxt w foot p s1 w' := by
  obtain ⟨f, hd, hf, hm⟩ := h
  obtain ⟨f', hd', hf', hm'⟩ := k f hd hf hm
  refine ⟨f', hd', fun k hk => ?_, hm.trans_ext hm' hf⟩
  rcases hf' k hk with h1 | ⟨h1, h2⟩
  · exact (hf k h1).imp id fun ⟨a, b⟩ => ⟨a, Nat.lt_of_lt_of_le b hm'.size⟩
  · exact .inr ⟨Nat.le_trans hm.size h1, h2⟩
theorem Nxt.md {w w1 w' : World} {foot f : Nat → Prop} {p : Nat} {s1 : St} (hf : ∀ k, f k → foot k ∨ (w.heap.size ≤ k ∧ k < w1.heap.size)) (hm : Md foot w w1) (hd : Dsk w' f p s1) (hm' : Md f w1 w') : Nxt w foot p s1 w' :=
  ⟨f, hd, fun k hk => (hf k hk).imp id fun ⟨a, b⟩ => ⟨a, Nat.lt_of_lt_of_le b hm'.size⟩, hm.trans_ext hm' hf⟩
theorem write_any {foot : Nat → Prop} {w : World} {p : Nat} {s : St} (h : Dsk w foot p s) {i : Nat} (hi : i < s.n) {ok : Nat → Prop} {A : Option Addr} {c m : Nat} {b : List UInt8} (hb : Byt w ok A b) (hbl : b.length = 64) (hm : m = 64) (hok : ∀ k, ok k → k < w.heap.size ∧ ¬ foot k) (hL : s.L.length ≤ 1048576) :
    Calls Try.prog 35 #[.pointer (some ⟨p, 0, none⟩), .int .i64 (i : Int), .slice A m c] w fun e w' => e = .returned (.int .i64 (s.wroteE : Nat)) ∧ Nxt w foot p (s.wrote i b) w' := by
  subst hm
  unfold St.wroteE St.wrote
  cases hg : s.goes with
  | true => exact (write_yes h hi hb hbl hok hg hL).mono fun e w' ⟨h1, h2⟩ => ⟨by rw [h1]; rfl, h2⟩
  | false => exact (write_dead h hi hg).mono fun e w' ⟨h1, h2, h3⟩ => ⟨by rw [h1]; rfl, Nxt.of_md h2 h3⟩
theorem keep_any {foot : Nat → Prop} {w : World} {p : Nat} {s : St} (h : Dsk w foot p s) : Calls Try.prog 38 #[.pointer (some ⟨p, 0, none⟩)] w fun e w' => e = .returned (.int .i64 (s.keptE : Nat)) ∧ Dsk w' foot p s.synced ∧ Md foot w w' :=
  (sync_any h).mono fun e w' ⟨h1, h2, h3⟩ => ⟨by rw [h1]; unfold St.syncE St.keptE; cases s.goes <;> rfl, h2, h3⟩
/-- Nothing is said of a store but where its disk is, and which half. -/
def Beg (w : World) (sp dp half : Nat) : Prop := ∃ e c n mv, Blk w sp 58 (scells dp half e c n mv)
theorem Beg.keep {w w' : World} {sp dp half : Nat} (h : Beg w sp dp half) (hk : w'.heap[sp]? = w.heap[sp]?) : Beg w' sp dp half := by
  obtain ⟨e, c, n, mv, hb⟩ := h
  exact ⟨e, c, n, mv, hb.keep hk⟩
theorem Beg.lt {w : World} {sp dp half : Nat} (h : Beg w sp dp half) : sp < w.heap.size := by
  obtain ⟨e, c, n, mv, hb⟩ := h
  exact hb.lt
section
variable {foot : Nat → Prop} {w : World} {sp dp half : Nat} {s : St}
theorem size_sto (hs : Beg w sp dp half) (hd : Dsk w foot dp s) : Calls Try.prog 33 #[.pointer (some ⟨sp, 0, none⟩)] w fun e w' => e = .returned (.int .u64 (s.n / 2 : Nat)) ∧ w = w' := by
  have hn := hd.ok.2.1
  have hc := blocks_any hd
  obtain ⟨e, c, n, mv, hb⟩ := hs
  have c0 : w.cell? ⟨sp, 0, none⟩ = some (.pointer (some ⟨dp, 0, none⟩)) := hb.get 0 _ rfl
  obtain ⟨N, hN⟩ : ∃ N, N = s.n := ⟨_, rfl⟩
  rw [← hN] at hn hc ⊢
  clear hb hd hN
  go_enter Try.func33, Try.ntmps33
  go_wp2_with (go_at_call 18; refine hc.mono ?_; rintro _ _ ⟨rfl, rfl⟩)
  go_ret
  exact ⟨rfl, rfl⟩
theorem place_any (hs : Beg w sp dp half) (hd : Dsk w foot dp s) (h a : Nat) (hh : h ≤ 1) (ha : a ≤ 4096) : Calls Try.prog 36 #[.pointer (some ⟨sp, 0, none⟩), .int .i64 (h : Int), .int .u64 (a : Int)] w fun e w' => e = .returned (.int .i64 ((h * (s.n / 2) + a : Nat) : Int)) ∧ w = w' := by
  have hc := size_sto hs hd
  have hn := hd.ok.2.1
  obtain ⟨N, hN⟩ : ∃ N, N = s.n / 2 := ⟨_, rfl⟩
  rw [← hN] at hc ⊢
  have hNl : N ≤ 2048 := by omega
  have hp : h * N ≤ 2048 := by
    have := Nat.mul_le_mul hh hNl
    omega
  have hp1 : (h : Int) * (N : Int) ≤ 2048 := by
    have : (((h * N : Nat)) : Int) ≤ 2048 := by omega
    simpa using this
  have hp0 : (0 : Int) ≤ (h : Int) * (N : Int) := Int.mul_nonneg (by omega) (by omega)
  clear hd hN hp
  go_enter Try.func36, Try.ntmps36
  go_wp2_with (go_at_call 33; refine hc.mono ?_; rintro _ _ ⟨rfl, rfl⟩)
  go_ret
  exact ⟨by simp, rfl⟩
/-- New memory holds the block. -/
def BlockE (w : World) (b : List UInt8) (e : Ending) (w' : World) : Prop := ∃ g, e = .returned (.slice (some ⟨g, 0, none⟩) 64 64) ∧ Blk w' g 5 (u8s b) ∧ w.heap.size ≤ g ∧ w.grownBy w' none
set_option maxHeartbeats 1000000 in
theorem block_sto (hs : Beg w sp dp half) (hd : Dsk w foot dp s) (h a i : Nat) (hh : h ≤ 1) (ha : a ≤ 4096) (hi : i = h * (s.n / 2) + a) (hin : i < s.n) (hdd : s.dead = false) :
    Calls Try.prog 32 #[.pointer (some ⟨sp, 0, none⟩), .int .i64 (h : Int), .int .u64 (a : Int)] w (BlockE w (blk (redo s.K s.L) i)) := by
  have hc := place_any (w := w.drew) hs (hd.grown (grown_drewN 1)) h a hh ha
  rw [← hi] at hc
  have hr := read_yes (w := w.drew) (hd.grown (grown_drewN 1)) hin hdd
  obtain ⟨e, c, n, mv, hb⟩ := hs
  have c0 : w.cell? ⟨sp, 0, none⟩ = some (.pointer (some ⟨dp, 0, none⟩)) := hb.get 0 _ rfl
  obtain ⟨B, hB⟩ : ∃ B, B = blk (redo s.K s.L) i := ⟨_, rfl⟩
  rw [← hB] at hr ⊢
  have c1 : w.drew.cell? ⟨sp, 0, none⟩ = some (.pointer (some ⟨dp, 0, none⟩)) := c0
  clear hb hd hB hi hin
  go_enter Try.func32, Try.ntmps32
  go_wp2
  go_region_held3 (fun W => W.cell? ⟨sp, 0, none⟩ = some (.pointer (some ⟨dp, 0, none⟩))) (first | exact c1 | exact c2) (first
    | (go_at_call 36; with_reducible refine hc.mono ?_; rintro _ _ ⟨rfl, rfl⟩)
    | (go_at_call 51; (with_reducible refine hr.mono ?_); rintro _ w2 ⟨g, rfl, hb2, hg2, hgr⟩; have c2 : w2.cell? ⟨sp, 0, none⟩ = some (.pointer (some ⟨dp, 0, none⟩)) := hgr.cell c1 (by simp))
    | fail)
  all_goals
    go_wp2
    go_ret
    exact ⟨g, rfl, hb2, hg2, (grown_drewN 1 : w.grownBy w.drew none).trans hgr⟩
set_option maxHeartbeats 1000000 in
theorem seal_any (hs : Beg w sp dp half) (hd : Dsk w foot dp s) (hsf : ¬ foot sp) (h e c n : Nat) (hh : h ≤ 1) (hn2 : 2 ≤ s.n) (he : e < 18446744073709551616) (hc : c < 4294967296) (hn : n < 4294967296) (hL : s.L.length ≤ 1000000) :
    Calls Try.prog 22 #[.pointer (some ⟨sp, 0, none⟩), .int .i64 (h : Int), .agg (hcells e c n).toArray] w fun r w' => r = .returned (.int .i64 ((s.sealed (h * (s.n / 2)) (hdrB e c n)).1 : Nat)) ∧ Nxt w foot dp (s.sealed (h * (s.n / 2)) (hdrB e c n)).2 w' := by
  have hi : h * (s.n / 2) < s.n := by
    have := Nat.mul_le_mul hh (Nat.le_refl (s.n / 2))
    omega
  obtain ⟨i, hi0⟩ : ∃ i, i = h * (s.n / 2) := ⟨_, rfl⟩
  rw [← hi0] at hi ⊢
  have hg1 := World.grownBy_alloc w (.cells #[.int .u64 (e : Int), .int .u64 (c : Int), .int .u64 (n : Int)] 56) none
  have hb0 := Blk.of_alloc w #[.int .u64 (e : Int), .int .u64 (c : Int), .int .u64 (n : Int)] 56
  obtain ⟨w1, hw1⟩ : ∃ w1, w1 = w.alloc (.cells #[.int .u64 (e : Int), .int .u64 (c : Int), .int .u64 (n : Int)] 56) := ⟨_, rfl⟩
  obtain ⟨g, hgg⟩ : ∃ g, g = w.heap.size := ⟨_, rfl⟩
  rw [← hw1, ← hgg] at hb0
  rw [← hw1] at hg1
  have hs1 : Beg w1.drew sp dp half := (hs.keep (hg1.block _ hs.lt (by simp)) : Beg w1 sp dp half)
  have hd1 : Dsk w1.drew foot dp s := (hd.grown hg1).grown (grown_drewN 1)
  have HD := Lib.hid hd1
  have KP : Hid (∀ W, Below w1.drew.heap.size w1.drew W → W.cell? ⟨sp, 0, none⟩ = some (.pointer (some ⟨dp, 0, none⟩)) ∧ W.cell? ⟨g, 0, none⟩ = some (.int .u64 (e : Int)) ∧ W.cell? ⟨g, 1, none⟩ = some (.int .u64 (c : Int)) ∧ W.cell? ⟨g, 2, none⟩ = some (.int .u64 (n : Int))) := fun W hW => by
    obtain ⟨e', c', n', mv, hb⟩ := hs1
    have hb0' : Blk w1.drew g 56 (hcells e c n) := hb0
    exact ⟨(hb.below hW hb.lt).get 0 _ rfl, (hb0'.below hW hb0'.lt).get 0 _ rfl, (hb0'.below hW hb0'.lt).get 1 _ rfl, (hb0'.below hW hb0'.lt).get 2 _ rfl⟩
  have hplace : Hid (∀ W, Below w1.drew.heap.size w1.drew W → Calls Try.prog 36 #[.pointer (some ⟨sp, 0, none⟩), .int .i64 (h : Int), .int .u64 0] W fun e w' => e = .returned (.int .i64 (i : Int)) ∧ W = w') := fun W hW => by
    have := place_any (hs1.keep (hW.block _ hs1.lt)) (hd1.grown (grown_of_below hW)) h 0 hh (by omega)
    rw [Nat.add_zero, ← hi0] at this
    exact this
  have hq0 : Below w1.drew.heap.size w1.drew w1.drew := Below.refl _ _
  have hbk := fun W => block_any e c n W he hc hn
  have HG1 : Hid (w.grownBy w1.drew none) := hg1.trans (grown_drewN 1)
  have HGW : Hid (w.heap.size = g) := hgg.symm
  have HS1 := Lib.hid hs1.lt
  have HSZ : Hid (g < w1.drew.heap.size) := (hb0.lt : g < w1.heap.size)
  have HFG : Hid (¬ foot g) := fun hf => by have := hd.lt g hf; omega
  have HFT : Hid (∀ k, foot k → k < w.heap.size) := hd.lt
  unfold St.sealed
  clear hs hd hgg hb0 hg1 hs1 hd1 hi0
  cases hgo : s.goes with
  | false =>
    have e1 : s.wroteE = 150 := by simp [St.wroteE, hgo]
    rw [e1, if_neg (by decide)]
    have hwr : ∀ (W : World) (A : Option Addr) (c' : Nat), Below w1.drew.heap.size w1.drew W → Byt W (fun k => w1.drew.heap.size ≤ k ∧ k < W.heap.size) A (hdrB e c n) → Calls Try.prog 35 #[.pointer (some ⟨dp, 0, none⟩), .int .i64 (i : Int), .slice A 64 c'] W fun e' w' => e' = .returned (.int .i64 150) ∧ Nxt W foot dp (s.wrote i (hdrB e c n)) w' := fun W A c' hW hB => by
      have := write_any (w := W) (c := c') (HD.out.grown (grown_of_below hW)) hi hB (hdrB_length e c n) rfl (fun k hk => ⟨hk.2, fun hf => by have := HD.out.lt k hf; omega⟩) (by omega)
      rw [e1] at this
      exact this
    have HWR := Lib.hid hwr
    clear hwr e1 hgo
    have HW1 : Hid (w.alloc (.cells (hcells e c n).toArray 56) = w1) := hw1.symm
    have hgd : w1.drew.grownBy w1.drew none := World.grownBy.refl _ _
    clear hw1
    go_enter Try.func22, Try.ntmps22
    go_wp2
    rw [HW1.out, HGW.out]
    go_region_held3 (fun W => W.cell? ⟨sp, 0, none⟩ = some (.pointer (some ⟨dp, 0, none⟩)) ∧ W.cell? ⟨g, 0, none⟩ = some (.int .u64 (e : Int)) ∧ W.cell? ⟨g, 1, none⟩ = some (.int .u64 (c : Int)) ∧ W.cell? ⟨g, 2, none⟩ = some (.int .u64 (n : Int))) (first | exact KP.out _ hq0 | exact KP.out _ hb2 | exact k3) (first
      | (go_at_call 36; (with_reducible refine (hplace.out _ (by assumption)).mono ?_); rintro _ _ ⟨rfl, rfl⟩)
      | (go_at_call 37; (with_reducible refine (hbk _).mono ?_); rintro _ w2 ⟨v, rfl, ho, hb2⟩; obtain ⟨A2, c2, rfl, -, l2, m2, y2⟩ := own_form ho; rw [hdrB_length])
      | (go_at_call 35; (with_reducible refine (HWR.out _ _ _ hb2 (y2.imp fun _ hk => hk.2)).mono ?_); rintro _ w3 ⟨rfl, hn3⟩; have k3 : w3.cell? ⟨sp, 0, none⟩ = some (.pointer (some ⟨dp, 0, none⟩)) ∧ w3.cell? ⟨g, 0, none⟩ = some (.int .u64 (e : Int)) ∧ w3.cell? ⟨g, 1, none⟩ = some (.int .u64 (c : Int)) ∧ w3.cell? ⟨g, 2, none⟩ = some (.int .u64 (n : Int)) := by (obtain ⟨f3, hd3, hf3, hm3⟩ := hn3; obtain ⟨q1, q2, q3, q4⟩ := KP.out _ hb2; have hs2 := hb2.size; exact ⟨(hm3.cell (by have := HS1.out; exact Nat.lt_of_lt_of_le this hs2) hsf).trans q1, (hm3.cell (Nat.lt_of_lt_of_le HSZ.out hs2) HFG.out).trans q2, (hm3.cell (Nat.lt_of_lt_of_le HSZ.out hs2) HFG.out).trans q3, (hm3.cell (Nat.lt_of_lt_of_le HSZ.out hs2) HFG.out).trans q4⟩))
      | fail)
    all_goals
      have hn4 := Nxt.left HG1.out (Nxt.left (grown_of_below hb2) hn3)
      clear hn3 k3 y2 ho hb2
      go_wp2
      go_ret
      exact ⟨rfl, hn4⟩
  | true =>
    have e1 : s.wroteE = 0 := by simp [St.wroteE, hgo]
    rw [e1, if_pos rfl]
    have hwr : ∀ (W : World) (A : Option Addr) (c' : Nat), Below w1.drew.heap.size w1.drew W → Byt W (fun k => w1.drew.heap.size ≤ k ∧ k < W.heap.size) A (hdrB e c n) → Calls Try.prog 35 #[.pointer (some ⟨dp, 0, none⟩), .int .i64 (i : Int), .slice A 64 c'] W fun e' w' => e' = .returned (.int .i64 0) ∧ Nxt W foot dp (s.wrote i (hdrB e c n)) w' := fun W A c' hW hB => by
      have := write_any (w := W) (c := c') (HD.out.grown (grown_of_below hW)) hi hB (hdrB_length e c n) rfl (fun k hk => ⟨hk.2, fun hf => by have := HD.out.lt k hf; omega⟩) (by omega)
      rw [e1] at this
      exact this
    have HWR := Lib.hid hwr
    clear hwr e1 hgo
    have HW1 : Hid (w.alloc (.cells (hcells e c n).toArray 56) = w1) := hw1.symm
    have hgd : w1.drew.grownBy w1.drew none := World.grownBy.refl _ _
    clear hw1
    go_enter Try.func22, Try.ntmps22
    go_wp2
    rw [HW1.out, HGW.out]
    go_region_held3 (fun W => W.cell? ⟨sp, 0, none⟩ = some (.pointer (some ⟨dp, 0, none⟩)) ∧ W.cell? ⟨g, 0, none⟩ = some (.int .u64 (e : Int)) ∧ W.cell? ⟨g, 1, none⟩ = some (.int .u64 (c : Int)) ∧ W.cell? ⟨g, 2, none⟩ = some (.int .u64 (n : Int))) (first | exact KP.out _ hq0 | exact KP.out _ hb2 | exact k3) (first
      | (go_at_call 36; (with_reducible refine (hplace.out _ (by assumption)).mono ?_); rintro _ _ ⟨rfl, rfl⟩)
      | (go_at_call 37; (with_reducible refine (hbk _).mono ?_); rintro _ w2 ⟨v, rfl, ho, hb2⟩; obtain ⟨A2, c2, rfl, -, l2, m2, y2⟩ := own_form ho; rw [hdrB_length])
      | (go_at_call 35; (with_reducible refine (HWR.out _ _ _ hb2 (y2.imp fun _ hk => hk.2)).mono ?_); rintro _ w3 ⟨rfl, hn3⟩; have k3 : w3.cell? ⟨sp, 0, none⟩ = some (.pointer (some ⟨dp, 0, none⟩)) ∧ w3.cell? ⟨g, 0, none⟩ = some (.int .u64 (e : Int)) ∧ w3.cell? ⟨g, 1, none⟩ = some (.int .u64 (c : Int)) ∧ w3.cell? ⟨g, 2, none⟩ = some (.int .u64 (n : Int)) := by (obtain ⟨f3, hd3, hf3, hm3⟩ := hn3; obtain ⟨q1, q2, q3, q4⟩ := KP.out _ hb2; have hs2 := hb2.size; exact ⟨(hm3.cell (by have := HS1.out; exact Nat.lt_of_lt_of_le this hs2) hsf).trans q1, (hm3.cell (Nat.lt_of_lt_of_le HSZ.out hs2) HFG.out).trans q2, (hm3.cell (Nat.lt_of_lt_of_le HSZ.out hs2) HFG.out).trans q3, (hm3.cell (Nat.lt_of_lt_of_le HSZ.out hs2) HFG.out).trans q4⟩))
      | fail)
    all_goals
      obtain ⟨f3, hd3, hf3, hm3⟩ := Nxt.left HG1.out (Nxt.left (grown_of_below hb2) hn3)
      have c3 := k3.1
      have hk := keep_any hd3
      have HM3 := Lib.hid hm3
      have HF3 := Lib.hid hf3
      clear hd3 hf3 hm3 hn3 k3 y2 ho hb2
      go_wp2_with (go_at_call 38; refine hk.mono ?_; rintro _ w4 ⟨rfl, hd4, hm4⟩)
      go_ret
      exact ⟨rfl, Nxt.md HF3.out HM3.out hd4 hm4⟩
end
end Go.Proofs.Ytonpcenjipigpaa
