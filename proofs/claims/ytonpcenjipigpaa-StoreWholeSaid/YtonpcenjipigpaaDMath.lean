/- The disk in plain mathematics: blocks of 64 bytes laid behind one another, writes done and taken back. Conditions: none. -/
import Derived.Lib.Hide
namespace Go.Proofs.Ytonpcenjipigpaa
/-- Block i. -/
def blk (B : List UInt8) (i : Nat) : List UInt8 := (B.drop (64 * i)).take 64
/-- Block i is b from now on. -/
def put (i : Nat) (b B : List UInt8) : List UInt8 := B.take (64 * i) ++ (b ++ B.drop (64 * i + 64))
/-- Writes done, in their order. -/
def redo (K : List UInt8) (L : List (Nat × List UInt8)) : List UInt8 := L.foldl (fun B x => put x.1 x.2 B) K
/-- Writes taken back, the last one first. -/
def undo (B : List UInt8) (W : List (Nat × List UInt8)) : List UInt8 := W.foldr (fun x B => put x.1 x.2 B) B
/-- Each is a block of 64 bytes, at a place of which there are n. -/
def Fit (n : Nat) (L : List (Nat × List UInt8)) : Prop := ∀ x ∈ L, x.1 < n ∧ x.2.length = 64
theorem blk_length {n : Nat} {B : List UInt8} (h : B.length = 64 * n) {i : Nat} (hi : i < n) : (blk B i).length = 64 := by
  unfold blk
  rw [List.length_take, List.length_drop, h]
  omega
theorem put_length {n : Nat} {B b : List UInt8} (h : B.length = 64 * n) {i : Nat} (hi : i < n) (hb : b.length = 64) : (put i b B).length = 64 * n := by
  unfold put
  rw [List.length_append, List.length_append, List.length_take, List.length_drop, h, hb]
  omega
theorem parts (B : List UInt8) (i : Nat) : B = B.take (64 * i) ++ (blk B i ++ B.drop (64 * i + 64)) := by
  unfold blk
  rw [← List.drop_drop, List.take_append_drop, List.take_append_drop]
theorem put_blk {n : Nat} {B b : List UInt8} (h : B.length = 64 * n) {i : Nat} (hi : i < n) (hb : b.length = 64) : put i (blk B i) (put i b B) = B := by
  have h1 : (put i b B).take (64 * i) = B.take (64 * i) := by
    unfold put
    rw [List.take_left' (by rw [List.length_take, h]; omega)]
  have h2 : (put i b B).drop (64 * i + 64) = B.drop (64 * i + 64) := by
    unfold put
    rw [← List.append_assoc, List.drop_left' (by rw [List.length_append, List.length_take, h, hb]; omega)]
  have := parts B i
  conv => rhs; rw [this]
  rw [put, h1, h2]
theorem blk_put {n : Nat} {B b : List UInt8} (h : B.length = 64 * n) {i : Nat} (hi : i < n) (hb : b.length = 64) : blk (put i b B) i = b := by
  unfold blk put
  rw [List.drop_left' (by rw [List.length_take, h]; omega), List.take_left' hb]
theorem blk_get (B : List UInt8) (i j : Nat) (hj : j < 64) : (blk B i)[j]? = B[64 * i + j]? := by
  unfold blk
  rw [List.getElem?_take, if_pos hj, List.getElem?_drop]
theorem put_get {n : Nat} {B b : List UInt8} (h : B.length = 64 * n) {i : Nat} (hi : i < n) (hb : b.length = 64) (k : Nat) : (put i b B)[k]? = if 64 * i ≤ k ∧ k < 64 * i + 64 then b[k - 64 * i]? else B[k]? := by
  have ht : (B.take (64 * i)).length = 64 * i := by rw [List.length_take, h]; omega
  unfold put
  rw [List.getElem?_append]
  by_cases h1 : k < 64 * i
  · rw [if_pos (by omega), if_neg (by omega), List.getElem?_take, if_pos h1]
  · rw [if_neg (by omega), List.getElem?_append, ht]
    by_cases h2 : k < 64 * i + 64
    · rw [if_pos (by omega), if_pos (by omega)]
    · rw [if_neg (by omega), if_neg (by omega), List.getElem?_drop, hb]
      congr 1
      omega
theorem blk_put_ne {n : Nat} {B b : List UInt8} (h : B.length = 64 * n) {i j : Nat} (hi : i < n) (hb : b.length = 64) (hij : i ≠ j) : blk (put i b B) j = blk B j := by
  apply List.ext_getElem?
  intro k
  by_cases hk : k < 64
  · rw [blk_get _ _ _ hk, blk_get _ _ _ hk, put_get h hi hb, if_neg (by omega)]
  · rw [List.getElem?_eq_none, List.getElem?_eq_none]
    · unfold blk; rw [List.length_take]; omega
    · unfold blk; rw [List.length_take]; omega
theorem Fit.nil (n : Nat) : Fit n [] := fun _ h => by simp at h
theorem Fit.snoc {n i : Nat} {L : List (Nat × List UInt8)} {b : List UInt8} (h : Fit n L) (hi : i < n) (hb : b.length = 64) : Fit n (L ++ [(i, b)]) := fun x hx => by
  rcases List.mem_append.1 hx with hx | hx
  · exact h x hx
  · simp at hx; subst hx; exact ⟨hi, hb⟩
theorem Fit.take {n : Nat} {L : List (Nat × List UInt8)} (h : Fit n L) (k : Nat) : Fit n (L.take k) := fun x hx => h x (List.mem_of_mem_take hx)
theorem Fit.drop {n : Nat} {L : List (Nat × List UInt8)} (h : Fit n L) (k : Nat) : Fit n (L.drop k) := fun x hx => h x (List.mem_of_mem_drop hx)
theorem redo_length {n : Nat} : ∀ {L : List (Nat × List UInt8)} {K : List UInt8}, Fit n L → K.length = 64 * n → (redo K L).length = 64 * n
  | [], _, _, h => h
  | x :: L, K, hf, h => by
    have hx := hf x (List.mem_cons_self ..)
    exact redo_length (L := L) (K := put x.1 x.2 K) (fun y hy => hf y (List.mem_cons_of_mem _ hy)) (put_length h hx.1 hx.2)
theorem redo_snoc (K : List UInt8) (L : List (Nat × List UInt8)) (x : Nat × List UInt8) : redo K (L ++ [x]) = put x.1 x.2 (redo K L) := by simp [redo]
theorem undo_length {n : Nat} {B : List UInt8} (h : B.length = 64 * n) : ∀ {W : List (Nat × List UInt8)}, Fit n W → (undo B W).length = 64 * n
  | [], _ => h
  | x :: W, hf => by
    have hx := hf x (List.mem_cons_self ..)
    exact put_length (undo_length h (fun y hy => hf y (List.mem_cons_of_mem _ hy))) hx.1 hx.2
theorem undo_snoc (B : List UInt8) (W : List (Nat × List UInt8)) (x : Nat × List UInt8) : undo B (W ++ [x]) = undo (put x.1 x.2 B) W := by simp [undo]
theorem undo_cons (B : List UInt8) (W : List (Nat × List UInt8)) (x : Nat × List UInt8) : undo B (x :: W) = put x.1 x.2 (undo B W) := rfl
/-- What lies on a disk, and how the writes that wait are taken back, against what is kept and what waits. -/
def Inv (K : List UInt8) (L : List (Nat × List UInt8)) (B : List UInt8) (W : List (Nat × List UInt8)) : Prop :=
  W.length = L.length ∧ ∀ k, k ≤ L.length → undo B (W.drop k) = redo K (L.take k)
theorem Inv.nil (K : List UInt8) : Inv K [] K [] := ⟨rfl, fun k _ => by simp [undo, redo]⟩
theorem Inv.now {K B : List UInt8} {L W : List (Nat × List UInt8)} (h : Inv K L B W) : B = redo K L := by
  have := h.2 L.length (Nat.le_refl _)
  rw [List.take_length, ← h.1, List.drop_length] at this
  exact this
theorem Inv.kept {K B : List UInt8} {L W : List (Nat × List UInt8)} (h : Inv K L B W) : undo B W = K := by
  have := h.2 0 (Nat.zero_le _)
  simpa [redo] using this
theorem Inv.write {n : Nat} {K B : List UInt8} {L W : List (Nat × List UInt8)} (h : Inv K L B W) (hB : B.length = 64 * n) {i : Nat} (hi : i < n) {b : List UInt8} (hb : b.length = 64) :
    Inv K (L ++ [(i, b)]) (put i b B) (W ++ [(i, blk B i)]) := by
  refine ⟨by simp [h.1], fun k hk => ?_⟩
  by_cases hkl : k ≤ L.length
  · rw [List.drop_append_of_le_length (by rw [h.1]; exact hkl), List.take_append_of_le_length hkl, undo_snoc, put_blk hB hi hb]
    exact h.2 k hkl
  · have hk' : k = L.length + 1 := by simp at hk; omega
    subst hk'
    rw [List.drop_eq_nil_of_le (by simp [h.1]), List.take_of_length_le (by simp), redo_snoc, ← h.now]
    rfl
/-- A disk: how many blocks, what is kept, what waits, the fuse, whether it is dead. -/
structure St where
  n : Nat
  K : List UInt8
  L : List (Nat × List UInt8)
  f : Int
  dead : Bool
def St.ok (s : St) : Prop := 1 ≤ s.n ∧ s.n ≤ 4096 ∧ s.K.length = 64 * s.n ∧ Fit s.n s.L ∧ -9223372036854775808 ≤ s.f ∧ s.f ≤ 9223372036854775807
/-- Bytes 0. -/
def zb (k : Nat) : List UInt8 := List.replicate k 0
theorem zb_length (k : Nat) : (zb k).length = k := by simp [zb]
/-- A new one. -/
def St.mk0 (n : Nat) : St := { n := n, K := zb (64 * n), L := [], f := -1, dead := false }
theorem St.mk0_ok {n : Nat} (h1 : 1 ≤ n) (h2 : n ≤ 4096) : (St.mk0 n).ok := ⟨h1, h2, zb_length _, Fit.nil _, by simp [St.mk0], by simp [St.mk0]⟩
/-- Whether a call that writes or syncs is done. -/
def St.goes (s : St) : Bool := !(s.dead || s.f == 0)
/-- What such a call makes of fuse and life. -/
def St.burn (s : St) : St := { s with f := if s.goes = true ∧ 0 < s.f then s.f - 1 else s.f, dead := s.dead || s.f == 0 }
def St.write (s : St) (i : Nat) (b : List UInt8) : St := { s with L := s.L ++ [(i, b)] }
def St.sync (s : St) : St := { s with K := redo s.K s.L, L := [] }
def St.crash (s : St) (k : Int) : St := { s with K := redo s.K (s.L.take k.toNat), L := [], f := -1, dead := false }
def St.fuse (s : St) (f : Int) : St := { s with f := f }
theorem St.burn_ok {s : St} (h : s.ok) : s.burn.ok := by
  obtain ⟨h1, h2, h3, h4, h5, h6⟩ := h
  refine ⟨h1, h2, h3, h4, ?_, ?_⟩
  all_goals
    simp only [St.burn]
    split <;> omega
theorem St.write_ok {s : St} (h : s.ok) {i : Nat} (hi : i < s.n) {b : List UInt8} (hb : b.length = 64) : (s.write i b).ok := by
  obtain ⟨h1, h2, h3, h4, h5, h6⟩ := h
  exact ⟨h1, h2, h3, h4.snoc hi hb, h5, h6⟩
theorem St.sync_ok {s : St} (h : s.ok) : s.sync.ok := by
  obtain ⟨h1, h2, h3, h4, h5, h6⟩ := h
  exact ⟨h1, h2, redo_length h4 h3, Fit.nil _, h5, h6⟩
theorem St.crash_ok {s : St} (h : s.ok) (k : Int) : (s.crash k).ok := by
  obtain ⟨h1, h2, h3, h4, h5, h6⟩ := h
  exact ⟨h1, h2, redo_length (h4.take _) h3, Fit.nil _, by simp [St.crash], by simp [St.crash]⟩
theorem St.fuse_ok {s : St} (h : s.ok) {f : Int} (h1 : -9223372036854775808 ≤ f) (h2 : f ≤ 9223372036854775807) : (s.fuse f).ok := by
  obtain ⟨a1, a2, a3, a4, a5, a6⟩ := h
  exact ⟨a1, a2, a3, a4, h1, h2⟩
end Go.Proofs.Ytonpcenjipigpaa
