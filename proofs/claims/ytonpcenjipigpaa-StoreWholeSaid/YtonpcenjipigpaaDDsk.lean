/- A disk in memory; its small methods: Blocks, Waits, Dead, Fuse, has, burn, Sync. Conditions: none. -/
import Derived.Test.YtonpcenjipigpaaDMem
import Derived.Test.YtonpcenjipigpaaDMath
namespace Go.Proofs.Ytonpcenjipigpaa
open Go.RowKit
theorem size3 : (Try.prog.info? 3).map (·.size) = some 1 := by kernel_rfl
theorem size4 : (Try.prog.info? 4).map (·.size) = some 1 := by kernel_rfl
theorem size53 : (Try.prog.info? 50).map (·.size) = some 1 := by kernel_rfl
theorem size57 : (Try.prog.info? 91).map (·.size) = some 64 := by kernel_rfl
/-- Of the blocks that were there just those of 'foot' may have turned. -/
structure Md (foot : Nat → Prop) (w w' : World) : Prop where
  os : w'.os = w.os
  tape : w'.tape = w.tape
  output : w'.output = w.output
  size : w.heap.size ≤ w'.heap.size
  block : ∀ k, k < w.heap.size → ¬ foot k → w'.heap[k]? = w.heap[k]?
section
variable {foot foot' : Nat → Prop} {w w1 w' : World}
theorem Md.refl (foot : Nat → Prop) (w : World) : Md foot w w := ⟨rfl, rfl, rfl, Nat.le_refl _, fun _ _ _ => rfl⟩
theorem Md.trans (h : Md foot w w1) (k : Md foot w1 w') : Md foot w w' :=
  ⟨k.os.trans h.os, k.tape.trans h.tape, k.output.trans h.output, Nat.le_trans h.size k.size, fun i hi hf => (k.block i (Nat.lt_of_lt_of_le hi h.size) hf).trans (h.block i hi hf)⟩
theorem Md.trans_ext (h : Md foot w w1) (k : Md foot' w1 w') (hf : ∀ i, foot' i → foot i ∨ (w.heap.size ≤ i ∧ i < w1.heap.size)) : Md foot w w' :=
  ⟨k.os.trans h.os, k.tape.trans h.tape, k.output.trans h.output, Nat.le_trans h.size k.size, fun i hi hn =>
    (k.block i (Nat.lt_of_lt_of_le hi h.size) fun hc => by rcases hf i hc with h1 | h1; exact hn h1; omega).trans (h.block i hi hn)⟩
theorem Md.mono (h : Md foot w w') (hi : ∀ k, foot k → foot' k) : Md foot' w w' := ⟨h.os, h.tape, h.output, h.size, fun k hk hn => h.block k hk fun hf => hn (hi k hf)⟩
theorem Md.of_grown {row : Option Nat} (h : w.grownBy w' row) (hr : ∀ r, row = some r → foot r) : Md foot w w' :=
  ⟨h.os, h.tape, h.output, h.size, fun k hk hn => h.block k hk fun e => hn (hr k e.symm)⟩
theorem Md.of_wr {b : Nat} (h : Wr b w w') (hb : foot b) : Md foot w w' := ⟨h.os, h.tape, h.output, Nat.le_of_eq h.size.symm, fun k _ hn => h.block k fun e => hn (e ▸ hb)⟩
theorem Md.grown (h : Md foot w w') {B : World} (hB : B.grownBy w none) (hf : ∀ k, foot k → B.heap.size ≤ k) : B.grownBy w' none :=
  ⟨h.os.trans hB.os, h.tape.trans hB.tape, h.output.trans hB.output, Nat.le_trans hB.size h.size, fun k hk _ => (h.block k (Nat.lt_of_lt_of_le hk hB.size) fun hc => by have := hf k hc; omega).trans (hB.block k hk (by simp))⟩
theorem Md.cell (h : Md foot w w') {a : Addr} (ha : a.block < w.heap.size) (hf : ¬ foot a.block) : w'.cell? a = w.cell? a := World.cell?_of_block (h.block _ ha hf)
end
theorem Wr.grown {b : Nat} {w w' : World} (h : Wr b w w') : w.grownBy w' (some b) := ⟨h.os, h.tape, h.output, Nat.le_of_eq h.size.symm, fun k _ hk => h.block k fun e => hk (by rw [e])⟩
/-- The cells of what waits. -/
def wcells (W : List (Nat × List UInt8)) : List Value := W.flatMap fun x => Value.int .i64 (x.1 : Int) :: u8s x.2
theorem wcells_snoc (W : List (Nat × List UInt8)) (x : Nat × List UInt8) : wcells (W ++ [x]) = wcells W ++ (Value.int .i64 (x.1 : Int) :: u8s x.2) := by simp [wcells]
/-- The four cells of a disk. -/
def dcells (gb n : Nat) (Wv : Value) (f : Int) (dead : Bool) : List Value := [.slice (some ⟨gb, 0, none⟩) n n, Wv, .int .i64 f, .bool dead]
structure Places (foot : Nat → Prop) (w : World) (p gb : Nat) (Wv : Value) : Prop where
  hp : foot p
  hgb : foot gb
  ne : p ≠ gb
  wv : ∀ k, Wv.ownBlock = some k → foot k ∧ k ≠ p ∧ k ≠ gb
  lt : ∀ k, foot k → k < w.heap.size
structure Fits (s : St) (B : List UInt8) (W : List (Nat × List UInt8)) : Prop where
  ok : s.ok
  len : B.length = 64 * s.n
  fit : Fit s.n W
  inv : Inv s.K s.L B W
/-- At p lies a disk in state s; its memory is in the blocks of 'foot'. -/
def Dsk (w : World) (foot : Nat → Prop) (p : Nat) (s : St) : Prop := ∃ gb Wv B W, Blk w p 52 (dcells gb s.n Wv s.f s.dead) ∧ Blk w gb 91 (u8s B) ∧ w.ownsRow 0 93 65 Wv W.length (wcells W) ∧ Places foot w p gb Wv ∧ Fits s B W
section
variable {foot : Nat → Prop} {w w' : World} {p gb : Nat} {Wv : Value} {s : St}
theorem Places.size (h : Places foot w p gb Wv) (hs : w.heap.size ≤ w'.heap.size) : Places foot w' p gb Wv := ⟨h.hp, h.hgb, h.ne, h.wv, fun k hk => Nat.lt_of_lt_of_le (h.lt k hk) hs⟩
theorem Dsk.lt (h : Dsk w foot p s) : ∀ k, foot k → k < w.heap.size := by
  obtain ⟨_, _, _, _, _, _, _, h4, _⟩ := h
  exact h4.lt
theorem Dsk.ok (h : Dsk w foot p s) : s.ok := by
  obtain ⟨_, _, _, _, _, _, _, _, h5⟩ := h
  exact h5.ok
theorem Dsk.at_p (h : Dsk w foot p s) : foot p := by
  obtain ⟨_, _, _, _, _, _, _, h4, _⟩ := h
  exact h4.hp
theorem Dsk.keep (h : Dsk w foot p s) (hs : w.heap.size ≤ w'.heap.size) (hk : ∀ k, foot k → w'.heap[k]? = w.heap[k]?) : Dsk w' foot p s := by
  obtain ⟨gb, Wv, B, W, h1, h2, h3, h4, h5⟩ := h
  refine ⟨gb, Wv, B, W, h1.keep (hk _ h4.hp), h2.keep (hk _ h4.hgb), ⟨h3.1, ?_⟩, h4.size hs, h5⟩
  rcases h3.2 with hn | ⟨g, cap, cur, rfl, hb, hgg, rest⟩
  · exact .inl hn
  · exact .inr ⟨g, cap, cur, rfl, hb, (hk g (h4.wv g rfl).1).trans hgg, rest⟩
theorem Dsk.grown (h : Dsk w foot p s) (hg : w.grownBy w' none) : Dsk w' foot p s := h.keep hg.size fun k hk => hg.block k (h.lt k hk) (by simp)
theorem Dsk.md {ft : Nat → Prop} (h : Dsk w foot p s) (hg : Md ft w w') (hd : ∀ k, foot k → ¬ ft k) : Dsk w' foot p s := h.keep hg.size fun k hk => hg.block k (h.lt k hk) (hd k hk)
end
theorem grown_drewN (n : Nat) {w : World} : w.grownBy (w.drewN n) none := ⟨rfl, rfl, rfl, Nat.le_refl _, fun _ _ _ => rfl⟩
section
variable {foot : Nat → Prop} {w : World} {p : Nat} {s : St}
theorem blocks_any (h : Dsk w foot p s) : Calls Try.prog 18 #[.pointer (some ⟨p, 0, none⟩)] w fun e w' => e = .returned (.int .i64 (s.n : Int)) ∧ w = w' := by
  obtain ⟨gb, Wv, B, W, h1, h2, h3, h4, h5⟩ := h
  have c0 : w.cell? ⟨p, 0, none⟩ = some (.slice (some ⟨gb, 0, none⟩) s.n s.n) := h1.get 0 _ rfl
  clear h1 h2 h3 h4 h5
  go_enter Try.func18, Try.ntmps18
  go_wp2
  go_ret
  exact ⟨rfl, rfl⟩
theorem own_shape {w : World} {b : Nat} {e : TypeId} {sz : Nat} {v : Value} {n : Nat} {xs : List Value} (h : w.ownsRow b e sz v n xs) : ∃ A c, v = .slice A n c := by
  rcases h.2 with ⟨rfl, rfl⟩ | ⟨g, cap, cur, rfl, _⟩
  · exact ⟨_, _, rfl⟩
  · exact ⟨_, _, rfl⟩
theorem dead_any (h : Dsk w foot p s) : Calls Try.prog 19 #[.pointer (some ⟨p, 0, none⟩)] w fun e w' => e = .returned (.bool s.dead) ∧ w = w' := by
  obtain ⟨gb, Wv, B, W, h1, h2, h3, h4, h5⟩ := h
  have c0 : w.cell? ⟨p, 3, none⟩ = some (.bool s.dead) := h1.get 3 _ rfl
  clear h1 h2 h3 h4 h5
  go_enter Try.func19, Try.ntmps19
  go_wp2
  go_ret
  exact ⟨rfl, rfl⟩
theorem fuse_any (h : Dsk w foot p s) (f : Int) (hf1 : -9223372036854775808 ≤ f) (hf2 : f ≤ 9223372036854775807) :
    Calls Try.prog 11 #[.pointer (some ⟨p, 0, none⟩), .int .i64 f] w fun e w' => e = .returned (.tuple #[]) ∧ Dsk w' foot p (s.fuse f) ∧ Md foot w w' := by
  obtain ⟨gb, Wv, B, W, h1, h2, h3, h4, h5⟩ := h
  have H1 := Lib.hid h1
  clear h1
  go_enter Try.func11, Try.ntmps11
  go_wp2_with (first | (refine wpList_store_cell rfl 3 _ _ rfl size3 p 2 (.int .i64 f) rfl rfl rfl _ _ H1.out (by simp [dcells]) ?_) | fail)
  intro w1 g1 r1
  go_wp2
  go_end0
  have hg := r1.out.grown
  refine ⟨rfl, ⟨gb, Wv, B, W, g1.out, h2.grown hg (by have := h4.ne; simp; omega), h3.kept hg ?_, h4.size hg.size, ⟨St.fuse_ok h5.ok hf1 hf2, h5.len, h5.fit, h5.inv⟩⟩, Md.of_wr r1.out h4.hp⟩
  right
  intro e
  exact (h4.wv p e).2.1 rfl
end
end Go.Proofs.Ytonpcenjipigpaa
