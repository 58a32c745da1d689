/- The disk in plain mathematics: blocks of 64 bytes laid behind one another, writes done and taken back. Conditions: none. -/
import Derived.Lib.Hide
import Derived.Test.YtonpcenjipigpaaGreatZ1
namespace Go.Proofs.YtonpcenjipigpaaGreat
/-- Block i. -/
def blk (B : List UInt8) (i : Nat) : List UInt8 := (B.drop (64 * i)).take 64
/-- Block i is b from now on. -/
def put (i : Nat) (b B : List UInt8) : List UInt8 := B.take (64 * i) ++ (b ++ B.drop (64 * i + 64))
/-- Writes done, in their order. -/
def redo (K : List UInt8) (L : List (Nat × List UInt8)) : List UInt8 := L.foldl (fun B x => put x.1 x.2 B) K
/-- Writes taken back, the last one first. -/
def undo (B : List UInt8) (W : List (Nat × List UInt8)) : List UInt8 := W.foldr (fun x B => put x.1 x.2 B) B
/-- Each is a block of 64 bytes, at a place of which there are n. -/
def Fit (n : Nat) (L : List (Nat × List UInt8)) : Prop := ∀ x ∈ L, x.1 < n ∧ x.2.length = 64
theorem blk_length {n : Nat} {B : List UInt8} (h : B.length = 64 * n) {i : Nat} (hi : i < n) : (blk B i).length = 64 := by
  unfold blk
  rw [List.length_take, List.length_drop, h]
  omega
theorem put_length {n : Nat} {B b : List UInt8} (h : B.length = 64 * n) {i : Nat} (hi : i < n) (hb : b.length = 64) : (put i b B).length = 64 * n := by
  unfold put
  rw [List.length_append, List.length_append, List.length_take, List.length_drop, h, hb]
  omega
theorem parts (B : List UInt8) (i : Nat) : B = B.take (64 * i) ++ (blk B i ++ B.drop (64 * i + 64)) := by
  unfold blk
  rw [← List.drop_drop, List.take_append_drop, List.take_append_drop]
theorem put_blk {n : Nat} {B b : List UInt8} (h : B.length = 64 * n) {i : Nat} (hi : i < n) (hb : b.length = 64) : put i (blk B i) (put i b B) = B := by
  have h1 : (put i b B).take (64 * i) = B.take (64 * i) := by
    unfold put
    rw [List.take_left' (by rw [List.length_take, h]; omega)]
  have h2 : (put i b B).drop (64 * i + 64) = B.drop (64 * i + 64) := by
    unfold put
    rw [← List.append_assoc, List.drop_left' (by rw [List.length_append, List.length_take, h, hb]; omega)]
  have := parts B i
  conv => rhs; rw [this]
  rw [put, h1, h2]
theorem blk_put {n : Nat} {B b : List UInt8} (h : B.length = 64 * n) {i : Nat} (hi : i < n) (hb : b.length = 64) : blk (put i b B) i = b := by
  unfold blk put
  rw [List.drop_left' (by rw [List.length_take, h]; omega), List.take_left' hb]
theorem blk_get (B : List UInt8) (i j : Nat) (hj : j < 64) : (blk B i)[j]? = B[64 * i + j]? := by
  unfold blk
  rw [List.getElem?_take, if_pos hj, List.getElem?_drop]
theorem put_get {n : Nat} {B b : List UInt8} (h : B.length = 64 * n) {i : Nat} (hi : i < n) (hb : b.length = 64) (k : Nat) : (put i b B)[k]? = if 64 * i ≤ k ∧ k < 64 * i + 64 then b[k - 64 * i]? else B[k]? := by
  have ht : (B.take (64 * i)).length = 64 * i := by rw [List.length_take, h]; omega
  unfold put
  rw [List.getElem?_append]
  by_cases h1 : k < 64 * i
  · rw [if_pos (by omega), if_neg (by omega), List.getElem?_take, if_pos h1]
  · rw [if_neg (by omega), List.getElem?_append, ht]
    by_cases h2 : k < 64 * i + 64
    · rw [if_pos (by omega), if_pos (by omega)]
    · rw [if_neg (by omega), if_neg (by omega), List.getElem?_drop, hb]
      congr 1
      omega
theorem blk_put_ne {n : Nat} {B b : List UInt8} (h : B.length = 64 * n) {i j : Nat} (hi : i < n) (hb : b.length = 64) (hij : i ≠ j) : blk (put i b B) j = blk B j := by
  apply List.ext_getElem?
  intro k
  by_cases hk : k < 64
  · rw [blk_get _ _ _ hk, blk_get _ _ _ hk, put_get h hi hb, if_neg (by omega)]
  · rw [List.getElem?_eq_none, List.getElem?_eq_none]
    · unfold blk; rw [List.length_take]; omega
    · unfold blk; rw [List.length_take]; omega
theorem Fit.nil (n : Nat) : Fit n [] := fun _ h => by simp at h
theorem Fit.snoc {n i : Nat} {L : List (Nat × List UInt8)} {b : List UInt8} (h : Fit n L) (hi : i < n) (hb : b.length = 64) : Fit n (L ++ [(i, b)]) := fun x hx => by
  rcases List.mem_append.1 hx with hx | hx
  · exact h x hx
  · simp at hx; subst hx; exact ⟨hi, hb⟩
theorem Fit.take {n : Nat} {L : List (Nat × List UInt8)} (h : Fit n L) (k : Nat) : Fit n (L.take k) := fun x hx => h x (List.mem_of_mem_take hx)
theorem Fit.drop {n : Nat} {L : List (Nat × List UInt8)} (h : Fit n L) (k : Nat) : Fit n (L.drop k) := fun x hx => h x (List.mem_of_mem_drop hx)
theorem redo_length {n : Nat} : ∀ {L : List (Nat × List UInt8)} {K : List UInt8}, Fit n L → K.length = 64 * n → (redo K L).length = 64 * n
  | [], _, _, h => h
  | x :: L, K, hf, h => by
    have hx := hf x (List.mem_cons_self ..)
    exact redo_length (L := L) (K := put x.1 x.2 K) (fun y hy => hf y (List.mem_cons_of_mem _ hy)) (put_length h hx.1 hx.2)
theorem redo_snoc (K : List UInt8) (L : List (Nat × List UInt8)) (x : Nat × List UInt8) : redo K (L ++ [x]) = put x.1 x.2 (redo K L) := by simp [redo]
theorem undo_length {n : Nat} {B : List UInt8} (h : B.length = 64 * n) : ∀ {W : List (Nat × List UInt8)}, Fit n W → (undo B W).length = 64 * n
  | [], _ => h
  | x :: W, hf => by
    have hx := hf x (List.mem_cons_self ..)
    exact put_length (undo_length h (fun y hy => hf y (List.mem_cons_of_mem _ hy))) hx.1 hx.2
theorem undo_snoc (B : List UInt8) (W : List (Nat × List UInt8)) (x : Nat × List UInt8) : undo B (W ++ [x]) = undo (put x.1 x.2 B) W := by simp [undo]
theorem undo_cons (B : List UInt8) (W : List (Nat × List UInt8)) (x : Nat × List UInt8) : undo B (x :: W) = put x.1 x.2 (undo B W) := rfl
/-- What lies on a disk, and how the writes that wait are taken back, against what is kept and what waits. -/
def Inv (K : List UInt8) (L : List (Nat × List UInt8)) (B : List UInt8) (W : List (Nat × List UInt8)) : Prop :=
  W.length = L.length ∧ ∀ k, k ≤ L.length → undo B (W.drop k) = redo K (L.take k)
theorem Inv.nil (K : List UInt8) : Inv K [] K [] := ⟨rfl, fun k _ => by simp [undo, redo]⟩
theorem Inv.now {K B : List UInt8} {L W : List (Nat × List UInt8)} (h : Inv K L B W) : B = redo K L := by
  have := h.2 L.length (Nat.le_refl _)
  rw [List.take_length, ← h.1, List.drop_length] at this
  exact this
theorem Inv.kept {K B : List UInt8} {L W : List (Nat × List UInt8)} (h : Inv K L B W) : undo B W = K := by
  have := h.2 0 (Nat.zero_le _)
  simpa [redo] using this
theorem Inv.write {n : Nat} {K B : List UInt8} {L W : List (Nat × List UInt8)} (h : Inv K L B W) (hB : B.length = 64 * n) {i : Nat} (hi : i < n) {b : List UInt8} (hb : b.length = 64) :
    Inv K (L ++ [(i, b)]) (put i b B) (W ++ [(i, blk B i)]) := by
  refine ⟨by simp [h.1], fun k hk => ?_⟩
  by_cases hkl : k ≤ L.length
  · rw [List.drop_append_of_le_length (by rw [h.1]; exact hkl), List.take_append_of_le_length hkl, undo_snoc, put_blk hB hi hb]
    exact h.2 k hkl
  · have hk' : k = L.length + 1 := by simp at hk; omega
    subst hk'
    rw [List.drop_eq_nil_of_le (by simp [h.1]), List.take_of_length_le (by simp), redo_snoc, ← h.now]
    rfl
/-- A disk: how many blocks, what is kept, what waits, the fuse, whether it is dead. -/
structure St where
  n : Nat
  K : List UInt8
  L : List (Nat × List UInt8)
  f : Int
  dead : Bool
def St.ok (s : St) : Prop := 1 ≤ s.n ∧ s.n ≤ 4096 ∧ s.K.length = 64 * s.n ∧ Fit s.n s.L ∧ -9223372036854775808 ≤ s.f ∧ s.f ≤ 9223372036854775807
/-- Bytes 0. -/
def zb (k : Nat) : List UInt8 := List.replicate k 0
theorem zb_length (k : Nat) : (zb k).length = k := by simp [zb]
/-- A new one. -/
def St.mk0 (n : Nat) : St := { n := n, K := zb (64 * n), L := [], f := -1, dead := false }
theorem St.mk0_ok {n : Nat} (h1 : 1 ≤ n) (h2 : n ≤ 4096) : (St.mk0 n).ok := ⟨h1, h2, zb_length _, Fit.nil _, by simp [St.mk0], by simp [St.mk0]⟩
/-- Whether a call that writes or syncs is done. -/
def St.goes (s : St) : Bool := !(s.dead || s.f == 0)
/-- What such a call makes of fuse and life. -/
def St.burn (s : St) : St := { s with f := if s.goes = true ∧ 0 < s.f then s.f - 1 else s.f, dead := s.dead || s.f == 0 }
def St.write (s : St) (i : Nat) (b : List UInt8) : St := { s with L := s.L ++ [(i, b)] }
def St.sync (s : St) : St := { s with K := redo s.K s.L, L := [] }
def St.crash (s : St) (k : Int) : St := { s with K := redo s.K (s.L.take k.toNat), L := [], f := -1, dead := false }
def St.fuse (s : St) (f : Int) : St := { s with f := f }
theorem St.burn_ok {s : St} (h : s.ok) : s.burn.ok := by
  obtain ⟨h1, h2, h3, h4, h5, h6⟩ := h
  refine ⟨h1, h2, h3, h4, ?_, ?_⟩
  all_goals
    simp only [St.burn]
    split <;> omega
theorem St.write_ok {s : St} (h : s.ok) {i : Nat} (hi : i < s.n) {b : List UInt8} (hb : b.length = 64) : (s.write i b).ok := by
  obtain ⟨h1, h2, h3, h4, h5, h6⟩ := h
  exact ⟨h1, h2, h3, h4.snoc hi hb, h5, h6⟩
theorem St.sync_ok {s : St} (h : s.ok) : s.sync.ok := by
  obtain ⟨h1, h2, h3, h4, h5, h6⟩ := h
  exact ⟨h1, h2, redo_length h4 h3, Fit.nil _, h5, h6⟩
theorem St.crash_ok {s : St} (h : s.ok) (k : Int) : (s.crash k).ok := by
  obtain ⟨h1, h2, h3, h4, h5, h6⟩ := h
  exact ⟨h1, h2, redo_length (h4.take _) h3, Fit.nil _, by simp [St.crash], by simp [St.crash]⟩
theorem St.fuse_ok {s : St} (h : s.ok) {f : Int} (h1 : -9223372036854775808 ≤ f) (h2 : f ≤ 9223372036854775807) : (s.fuse f).ok := by
  obtain ⟨a1, a2, a3, a4, a5, a6⟩ := h
  exact ⟨a1, a2, a3, a4, h1, h2⟩
end Go.Proofs.YtonpcenjipigpaaGreat
/- A disk in memory; its small methods: Blocks, Waits, Dead, Fuse, has, burn, Sync. Conditions: none. -/
namespace Go.Proofs.YtonpcenjipigpaaGreat
open Go.RowKit
theorem size3 : (Tryz.prog.info? 3).map (·.size) = some 1 := by kernel_rfl
theorem size4 : (Tryz.prog.info? 4).map (·.size) = some 1 := by kernel_rfl
theorem size53 : (Tryz.prog.info? 68).map (·.size) = some 1 := by kernel_rfl
theorem size57 : (Tryz.prog.info? 96).map (·.size) = some 64 := by kernel_rfl
/-- Of the blocks that were there just those of 'foot' may have turned. -/
structure Md (foot : Nat → Prop) (w w' : World) : Prop where
  os : w'.os = w.os
  tape : w'.tape = w.tape
  output : w'.output = w.output
  size : w.heap.size ≤ w'.heap.size
  block : ∀ k, k < w.heap.size → ¬ foot k → w'.heap[k]? = w.heap[k]?
section
variable {foot foot' : Nat → Prop} {w w1 w' : World}
theorem Md.refl (foot : Nat → Prop) (w : World) : Md foot w w := ⟨rfl, rfl, rfl, Nat.le_refl _, fun _ _ _ => rfl⟩
theorem Md.trans (h : Md foot w w1) (k : Md foot w1 w') : Md foot w w' :=
  ⟨k.os.trans h.os, k.tape.trans h.tape, k.output.trans h.output, Nat.le_trans h.size k.size, fun i hi hf => (k.block i (Nat.lt_of_lt_of_le hi h.size) hf).trans (h.block i hi hf)⟩
theorem Md.trans_ext (h : Md foot w w1) (k : Md foot' w1 w') (hf : ∀ i, foot' i → foot i ∨ (w.heap.size ≤ i ∧ i < w1.heap.size)) : Md foot w w' :=
  ⟨k.os.trans h.os, k.tape.trans h.tape, k.output.trans h.output, Nat.le_trans h.size k.size, fun i hi hn =>
    (k.block i (Nat.lt_of_lt_of_le hi h.size) fun hc => by rcases hf i hc with h1 | h1; exact hn h1; omega).trans (h.block i hi hn)⟩
theorem Md.mono (h : Md foot w w') (hi : ∀ k, foot k → foot' k) : Md foot' w w' := ⟨h.os, h.tape, h.output, h.size, fun k hk hn => h.block k hk fun hf => hn (hi k hf)⟩
theorem Md.of_grown {row : Option Nat} (h : w.grownBy w' row) (hr : ∀ r, row = some r → foot r) : Md foot w w' :=
  ⟨h.os, h.tape, h.output, h.size, fun k hk hn => h.block k hk fun e => hn (hr k e.symm)⟩
theorem Md.of_wr {b : Nat} (h : Wr b w w') (hb : foot b) : Md foot w w' := ⟨h.os, h.tape, h.output, Nat.le_of_eq h.size.symm, fun k _ hn => h.block k fun e => hn (e ▸ hb)⟩
theorem Md.grown (h : Md foot w w') {B : World} (hB : B.grownBy w none) (hf : ∀ k, foot k → B.heap.size ≤ k) : B.grownBy w' none :=
  ⟨h.os.trans hB.os, h.tape.trans hB.tape, h.output.trans hB.output, Nat.le_trans hB.size h.size, fun k hk _ => (h.block k (Nat.lt_of_lt_of_le hk hB.size) fun hc => by have := hf k hc; omega).trans (hB.block k hk (by simp))⟩
theorem Md.cell (h : Md foot w w') {a : Addr} (ha : a.block < w.heap.size) (hf : ¬ foot a.block) : w'.cell? a = w.cell? a := World.cell?_of_block (h.block _ ha hf)
end
theorem Wr.grown {b : Nat} {w w' : World} (h : Wr b w w') : w.grownBy w' (some b) := ⟨h.os, h.tape, h.output, Nat.le_of_eq h.size.symm, fun k _ hk => h.block k fun e => hk (by rw [e])⟩
/-- The cells of what waits. -/
def wcells (W : List (Nat × List UInt8)) : List Value := W.flatMap fun x => Value.int .i64 (x.1 : Int) :: u8s x.2
theorem wcells_snoc (W : List (Nat × List UInt8)) (x : Nat × List UInt8) : wcells (W ++ [x]) = wcells W ++ (Value.int .i64 (x.1 : Int) :: u8s x.2) := by simp [wcells]
/-- The four cells of a disk. -/
def dcells (gb n : Nat) (Wv : Value) (f : Int) (dead : Bool) : List Value := [.slice (some ⟨gb, 0, none⟩) n n, Wv, .int .i64 f, .bool dead]
structure Places (foot : Nat → Prop) (w : World) (p gb : Nat) (Wv : Value) : Prop where
  hp : foot p
  hgb : foot gb
  ne : p ≠ gb
  wv : ∀ k, Wv.ownBlock = some k → foot k ∧ k ≠ p ∧ k ≠ gb
  lt : ∀ k, foot k → k < w.heap.size
structure Fits (s : St) (B : List UInt8) (W : List (Nat × List UInt8)) : Prop where
  ok : s.ok
  len : B.length = 64 * s.n
  fit : Fit s.n W
  inv : Inv s.K s.L B W
/-- At p lies a disk in state s; its memory is in the blocks of 'foot'. -/
def Dsk (w : World) (foot : Nat → Prop) (p : Nat) (s : St) : Prop := ∃ gb Wv B W, Blk w p 70 (dcells gb s.n Wv s.f s.dead) ∧ Blk w gb 96 (u8s B) ∧ w.ownsRow 0 99 65 Wv W.length (wcells W) ∧ Places foot w p gb Wv ∧ Fits s B W
section
variable {foot : Nat → Prop} {w w' : World} {p gb : Nat} {Wv : Value} {s : St}
theorem Places.size (h : Places foot w p gb Wv) (hs : w.heap.size ≤ w'.heap.size) : Places foot w' p gb Wv := ⟨h.hp, h.hgb, h.ne, h.wv, fun k hk => Nat.lt_of_lt_of_le (h.lt k hk) hs⟩
theorem Dsk.lt (h : Dsk w foot p s) : ∀ k, foot k → k < w.heap.size := by
  obtain ⟨_, _, _, _, _, _, _, h4, _⟩ := h
  exact h4.lt
theorem Dsk.ok (h : Dsk w foot p s) : s.ok := by
  obtain ⟨_, _, _, _, _, _, _, _, h5⟩ := h
  exact h5.ok
theorem Dsk.at_p (h : Dsk w foot p s) : foot p := by
  obtain ⟨_, _, _, _, _, _, _, h4, _⟩ := h
  exact h4.hp
theorem Dsk.keep (h : Dsk w foot p s) (hs : w.heap.size ≤ w'.heap.size) (hk : ∀ k, foot k → w'.heap[k]? = w.heap[k]?) : Dsk w' foot p s := by
  obtain ⟨gb, Wv, B, W, h1, h2, h3, h4, h5⟩ := h
  refine ⟨gb, Wv, B, W, h1.keep (hk _ h4.hp), h2.keep (hk _ h4.hgb), ⟨h3.1, ?_⟩, h4.size hs, h5⟩
  rcases h3.2 with hn | ⟨g, cap, cur, rfl, hb, hgg, rest⟩
  · exact .inl hn
  · exact .inr ⟨g, cap, cur, rfl, hb, (hk g (h4.wv g rfl).1).trans hgg, rest⟩
theorem Dsk.grown (h : Dsk w foot p s) (hg : w.grownBy w' none) : Dsk w' foot p s := h.keep hg.size fun k hk => hg.block k (h.lt k hk) (by simp)
theorem Dsk.md {ft : Nat → Prop} (h : Dsk w foot p s) (hg : Md ft w w') (hd : ∀ k, foot k → ¬ ft k) : Dsk w' foot p s := h.keep hg.size fun k hk => hg.block k (h.lt k hk) (hd k hk)
end
theorem grown_drewN (n : Nat) {w : World} : w.grownBy (w.drewN n) none := ⟨rfl, rfl, rfl, Nat.le_refl _, fun _ _ _ => rfl⟩
section
variable {foot : Nat → Prop} {w : World} {p : Nat} {s : St}
theorem blocks_any (h : Dsk w foot p s) : Calls Tryz.prog 23 #[.pointer (some ⟨p, 0, none⟩)] w fun e w' => e = .returned (.int .i64 (s.n : Int)) ∧ w = w' := by
  obtain ⟨gb, Wv, B, W, h1, h2, h3, h4, h5⟩ := h
  have c0 : w.cell? ⟨p, 0, none⟩ = some (.slice (some ⟨gb, 0, none⟩) s.n s.n) := h1.get 0 _ rfl
  clear h1 h2 h3 h4 h5
  go_enter Tryz.func23, Tryz.ntmps23
  go_wp2
  go_ret
  exact ⟨rfl, rfl⟩
theorem own_shape {w : World} {b : Nat} {e : TypeId} {sz : Nat} {v : Value} {n : Nat} {xs : List Value} (h : w.ownsRow b e sz v n xs) : ∃ A c, v = .slice A n c := by
  rcases h.2 with ⟨rfl, rfl⟩ | ⟨g, cap, cur, rfl, _⟩
  · exact ⟨_, _, rfl⟩
  · exact ⟨_, _, rfl⟩
theorem dead_any (h : Dsk w foot p s) : Calls Tryz.prog 28 #[.pointer (some ⟨p, 0, none⟩)] w fun e w' => e = .returned (.bool s.dead) ∧ w = w' := by
  obtain ⟨gb, Wv, B, W, h1, h2, h3, h4, h5⟩ := h
  have c0 : w.cell? ⟨p, 3, none⟩ = some (.bool s.dead) := h1.get 3 _ rfl
  clear h1 h2 h3 h4 h5
  go_enter Tryz.func28, Tryz.ntmps28
  go_wp2
  go_ret
  exact ⟨rfl, rfl⟩
theorem fuse_any (h : Dsk w foot p s) (f : Int) (hf1 : -9223372036854775808 ≤ f) (hf2 : f ≤ 9223372036854775807) :
    Calls Tryz.prog 12 #[.pointer (some ⟨p, 0, none⟩), .int .i64 f] w fun e w' => e = .returned (.tuple #[]) ∧ Dsk w' foot p (s.fuse f) ∧ Md foot w w' := by
  obtain ⟨gb, Wv, B, W, h1, h2, h3, h4, h5⟩ := h
  have H1 := Lib.hid h1
  clear h1
  go_enter Tryz.func12, Tryz.ntmps12
  go_wp2_with (first | (refine wpList_store_cell rfl 3 _ _ rfl size3 p 2 (.int .i64 f) rfl rfl rfl _ _ H1.out (by simp [dcells]) ?_) | fail)
  intro w1 g1 r1
  go_wp2
  go_end0
  have hg := r1.out.grown
  refine ⟨rfl, ⟨gb, Wv, B, W, g1.out, h2.grown hg (by have := h4.ne; simp; omega), h3.kept hg ?_, h4.size hg.size, ⟨St.fuse_ok h5.ok hf1 hf2, h5.len, h5.fit, h5.inv⟩⟩, Md.of_wr r1.out h4.hp⟩
  right
  intro e
  exact (h4.wv p e).2.1 rfl
end
end Go.Proofs.YtonpcenjipigpaaGreat
/- has, burn and Sync of a disk. Conditions: none. -/
namespace Go.Proofs.YtonpcenjipigpaaGreat
open Go.RowKit
theorem bool_end {a b : Bool} (h : a = b) : Ending.returned (.bool a) = .returned (.bool b) := by rw [h]
section
variable {foot : Nat → Prop} {w : World} {p : Nat} {s : St}
theorem has_any (h : Dsk w foot p s) (at_ : Int) : Calls Tryz.prog 49 #[.pointer (some ⟨p, 0, none⟩), .int .i64 at_] w fun e w' => e = .returned (.bool (decide (0 ≤ at_ ∧ at_ < (s.n : Int)))) ∧ w = w' := by
  obtain ⟨gb, Wv, B, W, h1, h2, h3, h4, h5⟩ := h
  have c0 : w.cell? ⟨p, 0, none⟩ = some (.slice (some ⟨gb, 0, none⟩) s.n s.n) := h1.get 0 _ rfl
  clear h1 h2 h3 h4 h5
  by_cases hat : 0 ≤ at_
  · have d1 : decide (0 ≤ at_) = true := by simpa using hat
    go_enter Tryz.func49, Tryz.ntmps49
    go_wp2
    go_ret
    exact ⟨bool_end (by rw [Bool.eq_iff_iff]; simp [hat]), rfl⟩
  · have d1 : decide (0 ≤ at_) = false := by simpa using hat
    go_enter Tryz.func49, Tryz.ntmps49
    go_wp2
    go_ret
    exact ⟨bool_end (by simp), rfl⟩
/-- What burn leaves behind. -/
theorem Dsk.burnt {w' : World} {gb : Nat} {Wv : Value} {B : List UInt8} {W : List (Nat × List UInt8)} {n : Nat} {f : Int} {d : Bool}
    (hb : Blk w' p 70 (dcells gb n Wv f d)) (hn : n = s.n) (hf : f = s.burn.f) (hd : d = s.burn.dead) (h2 : Blk w gb 96 (u8s B)) (h3 : w.ownsRow 0 99 65 Wv W.length (wcells W)) (h4 : Places foot w p gb Wv) (h5 : Fits s B W)
    (hg : w.grownBy w' (some p)) : Dsk w' foot p s.burn ∧ Md foot w w' := by
  subst hn hf hd
  refine ⟨⟨gb, Wv, B, W, hb, h2.grown hg (by have := h4.ne; simp; omega), h3.kept hg ?_, h4.size hg.size, ⟨St.burn_ok h5.ok, h5.len, h5.fit, h5.inv⟩⟩, Md.of_grown hg (by rintro _ ⟨⟩; exact h4.hp)⟩
  right
  intro e
  exact (h4.wv p e).2.1 rfl
theorem burn_any (h : Dsk w foot p s) : Calls Tryz.prog 50 #[.pointer (some ⟨p, 0, none⟩)] w fun e w' => e = .returned (.bool s.goes) ∧ Dsk w' foot p s.burn ∧ Md foot w w' := by
  obtain ⟨gb, Wv, B, W, h1, h2, h3, h4, h5⟩ := h
  obtain ⟨o1, o2, o3, o4, o5, o6⟩ := h5.ok
  have c2 : w.cell? ⟨p, 2, none⟩ = some (.int .i64 s.f) := h1.get 2 _ rfl
  have c3 : w.cell? ⟨p, 3, none⟩ = some (.bool s.dead) := h1.get 3 _ rfl
  have H1 := Lib.hid h1
  have H5 := Lib.hid h5
  clear h1 o1 o2 o3 o4 h5
  by_cases hz : s.f = 0
  · have e0 : (s.f == 0) = true := by simpa using hz
    have Hz := Lib.hid hz
    clear hz c3
    go_enter Tryz.func50, Tryz.ntmps50
    go_wp2_with (first | (refine wpList_store_cell rfl 4 _ _ rfl size4 p 3 (.bool true) rfl rfl rfl _ _ H1.out (by simp [dcells]) ?_) | fail)
    intro w1 g1 r1
    have c3 : w1.cell? ⟨p, 3, none⟩ = some (.bool true) := Blk.get g1.out 3 _ rfl
    go_wp2
    go_ret
    refine ⟨by rw [St.goes, e0]; simp, Dsk.burnt (s := s) g1.out rfl ?_ ?_ h2 h3 h4 H5.out r1.out.grown⟩
    · simp [St.burn, Hz.out]
    · simp [St.burn, e0]
  · have e0 : (s.f == 0) = false := by simpa using hz
    cases hdd : s.dead with
    | true =>
      rw [hdd] at c3
      have Hd := Lib.hid hdd
      clear hdd
      go_enter Tryz.func50, Tryz.ntmps50
      go_wp2
      go_ret
      refine ⟨by rw [St.goes, Hd.out]; simp, Dsk.burnt (s := s) H1.out rfl ?_ ?_ h2 h3 h4 H5.out (World.grownBy.refl _ _)⟩
      · simp [St.burn, St.goes, Hd.out]
      · simp [St.burn, Hd.out]
    | false =>
      rw [hdd] at c3
      have Hd := Lib.hid hdd
      clear hdd
      by_cases hp : 0 < s.f
      · have d1 : decide (0 < s.f) = true := by simpa using hp
        have hw : IntKind.i64.wrap (s.f - 1) = s.f - 1 := IntWalk.i64_in _ (by omega)
        go_enter Tryz.func50, Tryz.ntmps50
        go_wp2_with (first | (refine wpList_store_cell rfl 3 _ _ rfl size3 p 2 (.int .i64 (s.f - 1)) rfl rfl rfl _ _ H1.out (by simp [dcells]) ?_) | fail)
        intro w1 g1 r1
        go_wp2
        go_ret
        refine ⟨by rw [St.goes, Hd.out, e0]; simp, Dsk.burnt (s := s) g1.out rfl ?_ ?_ h2 h3 h4 H5.out r1.out.grown⟩
        · simp [St.burn, St.goes, Hd.out, e0, hp]
        · simp [St.burn, Hd.out, e0]
      · have d1 : decide (0 < s.f) = false := by simpa using hp
        go_enter Tryz.func50, Tryz.ntmps50
        go_wp2
        go_ret
        refine ⟨by rw [St.goes, Hd.out, e0]; simp, Dsk.burnt (s := s) H1.out rfl ?_ ?_ h2 h3 h4 H5.out (World.grownBy.refl _ _)⟩
        · rw [St.burn, if_neg (fun h => by have := h.2; omega)]
        · simp [St.burn, Hd.out, e0]
/-- What Sync answers, and makes of the state. -/
def St.syncE (s : St) : Int := if s.goes = true then 0 else 150
def St.synced (s : St) : St := if s.goes = true then s.burn.sync else s.burn
theorem sync_any (h : Dsk w foot p s) : Calls Tryz.prog 26 #[.pointer (some ⟨p, 0, none⟩)] w fun e w' => e = .returned (.int .i64 s.syncE) ∧ Dsk w' foot p s.synced ∧ Md foot w w' := by
  have hc := burn_any h
  cases hg : s.goes with
  | true =>
    rw [hg] at hc
    have Hg := Lib.hid hg
    have HC := Lib.hid hc
    clear hg h hc
    go_enter Tryz.func26, Tryz.ntmps26
    go_wp2_with (first | (go_at_call 50; refine HC.out.mono ?_; rintro e w1 ⟨rfl, hd, hm⟩; obtain ⟨gb, Wv, B, W, h1, h2, h3, h4, h5⟩ := hd; have H1 := Lib.hid h1; clear h1) | (refine wpList_store_cell rfl 68 _ _ rfl size53 p 1 (.slice none 0 0) rfl rfl rfl _ _ H1.out (by simp [dcells]) ?_) | fail)
    intro w2 g1 r1
    go_wp2
    go_ret
    have hg := r1.out.grown
    have e : s.synced = s.burn.sync := by rw [St.synced, if_pos Hg.out]
    refine ⟨by rw [St.syncE, if_pos Hg.out]; rfl, ?_, hm.trans (Md.of_wr r1.out h4.hp)⟩
    rw [e]
    refine ⟨gb, .slice none 0 0, B, [], g1.out, h2.grown hg (by have := h4.ne; simp; omega), World.ownsRow_nil _ _ _ _, ⟨h4.hp, h4.hgb, h4.ne, fun k hk => by simp [Value.ownBlock] at hk, fun k hk => Nat.lt_of_lt_of_le (h4.lt k hk) hg.size⟩, ⟨St.sync_ok h5.ok, h5.len, Fit.nil _, ?_⟩⟩
    show Inv (redo s.burn.K s.burn.L) [] B []
    rw [← h5.inv.now]
    exact Inv.nil B
  | false =>
    rw [hg] at hc
    have Hg := Lib.hid hg
    have HC := Lib.hid hc
    clear hg h hc
    go_enter Tryz.func26, Tryz.ntmps26
    go_wp2_with (first | (go_at_call 50; refine HC.out.mono ?_; rintro e w1 ⟨rfl, hd, hm⟩) | fail)
    go_ret
    refine ⟨by rw [St.syncE, Hg.out]; rfl, ?_, hm⟩
    rw [St.synced, Hg.out]
    exact hd
end
end Go.Proofs.YtonpcenjipigpaaGreat
