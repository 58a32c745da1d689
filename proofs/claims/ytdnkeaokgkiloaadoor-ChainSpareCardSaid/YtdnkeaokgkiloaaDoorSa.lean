/- Plain mathematics of numbers as bytes. Conditions: none. What a slice of bytes, and a slice of slices of bytes, reads as in memory: how that is kept, made into a string, and appended. Conditions: none. Words of 32 bits: what the language's operators make of them, in words of 32 bits and in those of 64. Conditions: none. Small calls: a word is turned to the right; eight words are told one by one. Conditions: none. A block of cells, as a list: what is read of it, and what a written cell makes of it. Conditions: none. A number is read out of bytes, and written into them, the greatest byte first. Conditions: none. SHA-256 as plain mathematics: words of 32 bits, rounds, blocks, and what a text is filled up with. Conditions: none. -/
import Derived.Test.YtdnkeaokgkiloaaDoorRows
import Derived.WalkKit
import Derived.WalkSpells
import Derived.WalkLawsBesides
import Derived.Maps.AppendAt
import Derived.IntWalk
import Derived.Lib.Hide
import Derived.Laws.BitsAll
import Derived.BigQuiet
namespace Go.Proofs.YtdnkeaokgkiloaaDoor.S
/-- A number as k bytes, the greatest first. -/
def be : Nat → Nat → List UInt8
  | 0, _ => []
  | k + 1, n => be k (n / 256) ++ [UInt8.ofNat n]
theorem be_length : ∀ k n, (be k n).length = k
  | 0, _ => rfl
  | k + 1, n => by simp [be, be_length k]
/-- The number that bytes say. -/
def nb (xs : List UInt8) : Nat := xs.foldl (fun a x => a * 256 + x.toNat) 0
theorem nb_nil : nb [] = 0 := rfl
theorem nb_snoc (xs : List UInt8) (x : UInt8) : nb (xs ++ [x]) = nb xs * 256 + x.toNat := by simp [nb, List.foldl_append]
theorem nb_take (xs : List UInt8) (k : Nat) (h : k < xs.length) : nb (xs.take (k + 1)) = nb (xs.take k) * 256 + xs[k].toNat := by
  rw [List.take_succ_eq_append_getElem h, nb_snoc]
theorem nb_lt : ∀ (k : Nat) (xs : List UInt8), xs.length = k → nb xs < 256 ^ k := by
  intro k
  induction k with
  | zero => intro xs h; rw [List.eq_nil_of_length_eq_zero h]; simp [nb]
  | succ k ih =>
    intro xs h
    have hne : xs ≠ [] := by intro e; simp [e] at h
    obtain ⟨ys, y, rfl⟩ : ∃ ys y, xs = ys ++ [y] := ⟨_, _, (List.dropLast_concat_getLast hne).symm⟩
    rw [nb_snoc, Nat.pow_succ]
    have := ih ys (by simpa using h)
    have h2 := y.toNat_lt
    omega
theorem u8_ofNat (n : Nat) : (UInt8.ofNat n).toNat = n % 256 := by simp
theorem be_get : ∀ k n i, (h : i < k) → (be k n)[i]'(by rw [be_length]; exact h) = UInt8.ofNat (n / 256 ^ (k - 1 - i))
  | 0, _, _, h => absurd h (by omega)
  | k + 1, n, i, h => by
    by_cases e : i = k
    · subst e
      have : (be (i + 1) n)[i]'(by rw [be_length]; exact h) = (be i (n / 256) ++ [UInt8.ofNat n])[i]'(by simp [be_length]) := rfl
      rw [this, List.getElem_append_right (by rw [be_length]; exact Nat.le_refl _)]
      simp [be_length]
    · have hk : i < k := by omega
      have : (be (k + 1) n)[i]'(by rw [be_length]; exact h) = (be k (n / 256) ++ [UInt8.ofNat n])[i]'(by simp [be_length]; omega) := rfl
      rw [this, List.getElem_append_left (by rw [be_length]; exact hk), be_get k (n / 256) i hk, Nat.div_div_eq_div_mul, show k + 1 - 1 - i = (k - 1 - i) + 1 by omega, Nat.pow_succ, Nat.mul_comm 256]
open Go.RowKit
theorem Tryd.info5 : (Tryd.prog.info? 5).map (fun i => (i.zero, i.size, i.bytes)) = some (some (.int .u8 0), 1, 1) := by kernel_rfl
theorem Tryd.info66 : (Tryd.prog.info? 66).map (fun i => (i.zero, i.size, i.bytes)) = some (some (.slice none 0 0), 1, 24) := by kernel_rfl
/-- Bytes as values. -/
def u8s (xs : List UInt8) : List Value := xs.map fun x => Value.int .u8 (x.toNat : Int)
theorem u8s_append (xs ys : List UInt8) : u8s (xs ++ ys) = u8s xs ++ u8s ys := by simp [u8s]
theorem u8s_length (xs : List UInt8) : (u8s xs).length = xs.length := by simp [u8s]
theorem u8s_get (xs : List UInt8) (j : Nat) (v : Value) (h : (u8s xs)[j]? = some v) : ∃ hj : j < xs.length, v = .int .u8 (xs[j].toNat : Int) := by
  unfold u8s at h
  rw [List.getElem?_map] at h
  by_cases hj : j < xs.length
  · rw [List.getElem?_eq_getElem hj] at h
    exact ⟨hj, by simpa using h.symm⟩
  · rw [List.getElem?_eq_none (by omega)] at h; simp at h
theorem u8s_one (xs : List UInt8) : ∀ u ∈ u8s xs, u.oneCell' = true := by
  intro u hu
  obtain ⟨x, _, rfl⟩ := List.mem_map.1 hu
  rfl
/-- The bytes xs lie at A, in blocks that are 'ok'. -/
def Byt (w : World) (ok : Nat → Prop) (A : Option Addr) (xs : List UInt8) : Prop :=
  ∀ j (h : j < xs.length), ∃ ad, A = some ad ∧ ok ad.block ∧ w.cell? (ad.add j) = some (.int .u8 (xs[j].toNat : Int))
section
variable {w w' : World} {ok ok' : Nat → Prop} {A : Option Addr} {xs : List UInt8}
theorem Byt.nil : Byt w ok A [] := fun _ h => absurd h (by simp)
theorem Byt.some_ (h : Byt w ok A xs) (hl : 0 < xs.length) : ∃ ad, A = some ad ∧ ok ad.block ∧ ∀ j (h : j < xs.length), w.cell? (ad.add j) = some (.int .u8 (xs[j].toNat : Int)) := by
  obtain ⟨ad, rfl, hok, _⟩ := h 0 hl
  refine ⟨ad, rfl, hok, fun j hj => ?_⟩
  obtain ⟨ad', e, _, hc⟩ := h j hj
  cases e
  exact hc
theorem Byt.imp (h : Byt w ok A xs) (hi : ∀ b, ok b → ok' b) : Byt w ok' A xs := fun j hj => by
  obtain ⟨ad, e, ho, hc⟩ := h j hj
  exact ⟨ad, e, hi _ ho, hc⟩
theorem block_of_plus (a : Addr) (n : Nat) : (a.add n).block = a.block := by unfold Addr.add; split <;> rfl
theorem Byt.keep (h : Byt w ok A xs) (hk : ∀ b, ok b → w'.heap[b]? = w.heap[b]?) : Byt w' ok A xs := fun j hj => by
  obtain ⟨ad, e, ho, hc⟩ := h j hj
  exact ⟨ad, e, ho, (World.cell?_of_block (by rw [block_of_plus]; exact hk _ ho)).trans hc⟩
theorem Byt.below {B : Nat} (h : Byt w ok A xs) (hb : Below B w w') (hok : ∀ b, ok b → b < B) : Byt w' ok A xs := h.keep fun b hbb => hb.block b (hok b hbb)
theorem Byt.grown {row : Option Nat} (h : Byt w ok A xs) (hg : w.grownBy w' row) (hok : ∀ b, ok b → b < w.heap.size ∧ some b ≠ row) : Byt w' ok A xs := h.keep fun b hbb => hg.block b (hok b hbb).1 (hok b hbb).2
theorem plus_plus (a : Addr) (i j : Nat) : (a.add i).add j = a.add (i + j) := by
  by_cases hi : i = 0 <;> by_cases hj : j = 0 <;> simp [Addr.add, hi, hj, Nat.add_assoc]
theorem Byt.drop {k c : Nat} (h : Byt w ok A xs) (hk : k ≤ xs.length) (hc : xs.length ≤ c) : Byt w ok (if c = k then A else A.map (·.add k)) (xs.drop k) := fun j hj => by
  have hj' : k + j < xs.length := by simp at hj; omega
  obtain ⟨ad, rfl, ho, hcell⟩ := h (k + j) hj'
  rw [if_neg (by omega)]
  refine ⟨ad.add k, rfl, by rw [block_of_plus]; exact ho, ?_⟩
  rw [plus_plus, hcell]
  simp
theorem Byt.take (h : Byt w ok A xs) (k : Nat) : Byt w ok A (xs.take k) := fun j hj => by
  have hj' : j < xs.length := by simp at hj; omega
  obtain ⟨ad, rfl, ho, hcell⟩ := h j hj'
  refine ⟨ad, rfl, ho, ?_⟩
  rw [hcell]
  simp
theorem Byt.str (h : Byt w ok A xs) (c : Nat) : (convert 66 9 (.slice A xs.length c)).run Tryd.prog w = .ok (.string ⟨xs.toArray⟩) w := by
  rcases A with _ | ad
  · have : xs = [] := by
      rcases xs with _ | ⟨x, xs⟩
      · rfl
      · obtain ⟨_, e, _⟩ := h 0 (by simp)
        cases e
    subst this
    rw [run_convert_bytes_nil w 66 5 Tryd.underlying66 Tryd.underlying5 _ _ 9 Tryd.underlying9]
    rfl
  · refine run_convert_bytes_back w 66 9 5 ad c xs Tryd.underlying66 Tryd.underlying5 Tryd.underlying9 fun j hj => ?_
    obtain ⟨ad', e, _, hc⟩ := h j hj
    cases e
    exact hc
/-- What a row of the call's own reads as. -/
theorem Byt.of_own {base n c : Nat} (h : w.ownsRow base 5 1 (.slice A n c) n (u8s xs)) : n = xs.length ∧ n ≤ c ∧ c ≤ maxLen ∧ Byt w (fun b => (Value.slice A n c).ownBlock = some b ∧ base ≤ b ∧ b < w.heap.size) A xs := by
  have hl : n = xs.length := by have := h.1; rw [u8s_length] at this; omega
  refine ⟨hl, ?_, ?_, fun j hj => ?_⟩
  · rcases h.2 with ⟨e, _⟩ | ⟨g, cap, cur, e, _, _, h1, _⟩
    · cases e; omega
    · cases e; exact h1
  · rcases h.2 with ⟨e, _⟩ | ⟨g, cap, cur, e, _, _, _, h1, _⟩
    · cases e; unfold maxLen; omega
    · cases e; exact h1
  · rcases h.2 with ⟨e, _⟩ | ⟨g, cap, cur, e, hb, hg, _⟩
    · cases e; omega
    · cases e
      have hlt : g < w.heap.size := (Array.getElem?_eq_some_iff.1 hg).1
      refine ⟨_, rfl, ⟨rfl, hb, hlt⟩, h.cells (g := g) rfl j _ ?_⟩
      unfold u8s
      rw [List.getElem?_map, List.getElem?_eq_getElem hj]
      rfl
end
/-- A row of the call's own, as a slice of bytes. -/
theorem own_form {w : World} {base n : Nat} {v : Value} {xs : List UInt8} (h : w.ownsRow base 5 1 v n (u8s xs)) :
    ∃ A c, v = .slice A xs.length c ∧ n = xs.length ∧ xs.length ≤ c ∧ c ≤ maxLen ∧ Byt w (fun b => v.ownBlock = some b ∧ base ≤ b ∧ b < w.heap.size) A xs := by
  rcases h.2 with ⟨rfl, rfl⟩ | ⟨g, cap, cur, rfl, _⟩
  · obtain ⟨h1, h2, h3, h4⟩ := Byt.of_own h
    exact ⟨none, 0, by rw [← h1], h1, by omega, h3, h4⟩
  · obtain ⟨h1, h2, h3, h4⟩ := Byt.of_own h
    exact ⟨_, cap, by rw [← h1], h1, by omega, h3, h4⟩
/-- A list of bytes' slices lies at A, all of it in blocks that are 'ok'. -/
def Lst (w : World) (ok : Nat → Prop) (A : Option Addr) (ps : List (List UInt8)) : Prop :=
  ∀ j (h : j < ps.length), ∃ ad A' c', A = some ad ∧ ok ad.block ∧ w.cell? (ad.add j) = some (.slice A' ps[j].length c') ∧ ps[j].length ≤ c' ∧ c' ≤ maxLen ∧ Byt w ok A' ps[j]
section
variable {w w' : World} {ok ok' : Nat → Prop} {A : Option Addr} {ps : List (List UInt8)}
theorem Lst.nil : Lst w ok A [] := fun _ h => absurd h (by simp)
theorem Lst.imp (h : Lst w ok A ps) (hi : ∀ b, ok b → ok' b) : Lst w ok' A ps := fun j hj => by
  obtain ⟨ad, A', c', e, ho, hc, h1, h2, h3⟩ := h j hj
  exact ⟨ad, A', c', e, hi _ ho, hc, h1, h2, h3.imp hi⟩
theorem Lst.keep (h : Lst w ok A ps) (hk : ∀ b, ok b → w'.heap[b]? = w.heap[b]?) : Lst w' ok A ps := fun j hj => by
  obtain ⟨ad, A', c', e, ho, hc, h1, h2, h3⟩ := h j hj
  exact ⟨ad, A', c', e, ho, (World.cell?_of_block (by rw [block_of_plus]; exact hk _ ho)).trans hc, h1, h2, h3.keep hk⟩
theorem Lst.below {B : Nat} (h : Lst w ok A ps) (hb : Below B w w') (hok : ∀ b, ok b → b < B) : Lst w' ok A ps := h.keep fun b hbb => hb.block b (hok b hbb)
end
section
variable {P : Program} (w : World)
/-- append onto a row of the call's own, whatever bytes come behind. -/
theorem run_append_byt (base : Nat) (t ty : TypeId) (i : TypeInfo) (z : Value) (ht : P.underlying t = some (.slice 5)) (hi : P.info? 5 = some i) (hz : i.zero = some z)
    (hsize : i.size = 1) (hby : i.bytes = 1) (hzs : z.cells.size = 1)
    (v : Value) (n : Nat) (ys : List UInt8) (hown : w.ownsRow base 5 1 v n (u8s ys)) (ok : Nat → Prop) (A : Option Addr) (c : Nat) (xs : List UInt8) (hr : Byt w ok A xs)
    (h63 : n + xs.length ≤ 140737488355328) (hbase : base ≤ w.heap.size) :
    ∃ v' w', (Builtin.append_ #[t, t] ty #[v, .slice A xs.length c]).run P w = .ok v' w' ∧ w'.ownsRow base 5 1 v' (n + xs.length) (u8s (ys ++ xs)) ∧ w.grownBy w' v.ownBlock ∧ (v'.ownBlock = v.ownBlock ∨ v'.ownBlock = some w.heap.size) := by
  rcases A with _ | ad
  · have : xs = [] := by
      rcases xs with _ | ⟨x, xs⟩
      · rfl
      · obtain ⟨_, e, _⟩ := hr 0 (by simp)
        cases e
    subst this
    refine ⟨v, w, ?_, by simpa using hown, World.grownBy.refl w _, .inl rfl⟩
    rcases hown.2 with ⟨rfl, rfl⟩ | ⟨g, cap, cur, rfl, _, _, hnc, _⟩
    · simp [Builtin.append_, run_underlying ht, sizeOf, typeInfo, hi, Builtin.lenOf, Builtin.firstCells]
    · simp [Builtin.append_, run_underlying ht, sizeOf, typeInfo, hi, Builtin.lenOf, Builtin.firstCells, hnc, storeCells]
  · have hcells : ∀ j u, (u8s xs)[j]? = some u → w.cell? (ad.add j) = some u := by
      intro j u hu
      obtain ⟨hj, rfl⟩ := u8s_get xs j u hu
      obtain ⟨ad', e, _, hc⟩ := hr j hj
      cases e
      exact hc
    obtain ⟨v', w', hrun, h2, h3, _, h5⟩ := run_append_own_at (P := P) w base t ty 5 i z 1 1 ht hi hz hsize hby hzs (by omega) v n (u8s ys) hown ad xs.length c (u8s xs) (by rw [u8s_length]; omega) hcells (u8s_one xs)
      (by unfold maxLen; omega) (by omega) hbase
    exact ⟨v', w', hrun, by rw [u8s_append]; exact h2, h3, h5⟩
theorem wpList_append_byt {ops : Array Oper} {rest : List Oper} {o : Oper} {a : Act} {Q : Exit → Act → World → Prop} (hgd : o.guard = none) (s x : Operand) (t : TypeId)
    (ho : o.op = .call { callee := .builtin .append, args := #[s, x], argTypes := #[t, t] })
    (base : Nat) (i : TypeInfo) (z : Value) (ht : P.underlying t = some (.slice 5)) (hi : P.info? 5 = some i) (hz : i.zero = some z)
    (hsize : i.size = 1) (hby : i.bytes = 1) (hzs : z.cells.size = 1)
    (v : Value) (n : Nat) (ys : List UInt8) (hs : a.eval s = v) (hown : w.ownsRow base 5 1 v n (u8s ys)) (ok : Nat → Prop) (A : Option Addr) (c : Nat) (xs : List UInt8) (hx : a.eval x = .slice A xs.length c) (hr : Byt w ok A xs)
    (h63 : n + xs.length ≤ 140737488355328) (hbase : base ≤ w.heap.size)
    (h : ∀ v' w', w'.ownsRow base 5 1 v' (n + xs.length) (u8s (ys ++ xs)) → w.grownBy w' v.ownBlock → (v'.ownBlock = v.ownBlock ∨ v'.ownBlock = some w.heap.size) → wpList P ops Q rest (a.put o.dst v') w') :
    wpList P ops Q (o :: rest) a w := by
  refine wpList_plain hgd fun K hK => ?_
  obtain ⟨v', w', hr, h2, h3, h4⟩ := run_append_byt (P := P) w base t o.type i z ht hi hz hsize hby hzs v n ys hown ok A c xs hr h63 hbase
  unfold Oper.wp execOp
  simp only [ho, resolve, invoke, builtin, Sem.run_bind, Sem.run_pure, Result.andThen_ok, List.map_toArray, List.map_cons, List.map_nil, hs, hx, hr]
  exact hK _ _ (h v' w' h2 h3 h4)
end
/-- Turned to the right. -/
def rotr (x : UInt32) (n : Nat) : UInt32 := UInt32.ofNat (x.toNat >>> n ||| x.toNat <<< (32 - n))
/-- Moved to the right. -/
def shr (x : UInt32) (n : Nat) : UInt32 := UInt32.ofNat (x.toNat >>> n)
theorem lt32 (x : UInt32) : x.toNat < 4294967296 := x.toNat_lt
theorem w_ofNat (n : Nat) : (UInt32.ofNat n).toNat = n % 4294967296 := by simp
theorem w_back (x : UInt32) : UInt32.ofNat x.toNat = x := by simp
theorem w_add (x y : UInt32) : ((x + y).toNat : Int) = ((x.toNat : Int) + y.toNat) % 4294967296 := by
  rw [UInt32.toNat_add]; omega
theorem w_xor (x y : UInt32) : bits .xor .u32 (x.toNat : Int) (y.toNat : Int) = ((x ^^^ y).toNat : Int) := by
  rw [u32_xor_nat _ _ (lt32 x) (lt32 y), UInt32.toNat_xor]
theorem w_and (x y : UInt32) : bits .and .u32 (x.toNat : Int) (y.toNat : Int) = ((x &&& y).toNat : Int) := by
  rw [u32_and_nat _ _ (lt32 x) (lt32 y), UInt32.toNat_and]
theorem w_shr (x : UInt32) (n : Nat) : ((shr x n).toNat : Int) = (x.toNat : Int) / ((2 ^ n : Nat) : Int) := by
  rw [shr, w_ofNat, Nat.shiftRight_eq_div_pow, Nat.mod_eq_of_lt (Nat.lt_of_le_of_lt (Nat.div_le_self _ _) (lt32 x))]
  norm_cast
theorem or_mod (a b : Nat) : (a ||| b) % 4294967296 = (a % 4294967296 ||| b % 4294967296) := Nat.or_mod_two_pow (n := 32)
theorem rotr_nat (x : UInt32) (n : Nat) : (rotr x n).toNat = (x.toNat / 2 ^ n ||| x.toNat * 2 ^ (32 - n) % 4294967296) := by
  rw [rotr, w_ofNat, or_mod, Nat.shiftRight_eq_div_pow, Nat.shiftLeft_eq, Nat.mod_eq_of_lt (Nat.lt_of_le_of_lt (Nat.div_le_self _ _) (lt32 x))]
/-- In words of 64 bits. -/
theorem d_xor (x y : UInt32) : bits .xor .u64 (x.toNat : Int) (y.toNat : Int) = ((x ^^^ y).toNat : Int) := by
  have := lt32 x; have := lt32 y
  rw [u64_xor_nat _ _ (by omega) (by omega), UInt32.toNat_xor]
theorem d_and (x y : UInt32) : bits .and .u64 (x.toNat : Int) (y.toNat : Int) = ((x &&& y).toNat : Int) := by
  have := lt32 x; have := lt32 y
  rw [u64_and_nat _ _ (by omega) (by omega), UInt32.toNat_and]
theorem d_mask (n : Nat) (h : n < 18446744073709551616) : bits .and .u64 (n : Int) 4294967295 = ((UInt32.ofNat n).toNat : Int) := by
  have := u64_and_nat n 4294967295 h (by omega)
  rw [show ((4294967295 : Nat) : Int) = 4294967295 from rfl] at this
  rw [this, nat_mask32, w_ofNat]
theorem d_not (x : UInt32) : bits .xor .u64 4294967295 (x.toNat : Int) = ((~~~x).toNat : Int) := by
  have h := d_xor 4294967295 x
  rw [show ((4294967295 : UInt32).toNat : Int) = 4294967295 from rfl] at h
  rw [h]
  congr 2
open Go.RowKit
theorem rot_eq (x : UInt32) (n : Nat) (h1 : 1 ≤ n) (h2 : n < 32) :
    bits .or .u32 ((x.toNat : Int) * 2 ^ (32 - n) % 4294967296) ((x.toNat : Int) / 2 ^ (32 - (32 - n))) = ((rotr x n).toNat : Int) := by
  have hp : ∀ k : Nat, (2 : Int) ^ k = ((2 ^ k : Nat) : Int) := fun k => by rw [Int.natCast_pow]; rfl
  have e1 : (x.toNat : Int) * 2 ^ (32 - n) % 4294967296 = ((x.toNat * 2 ^ (32 - n) % 4294967296 : Nat) : Int) := by
    rw [hp, ← Int.natCast_mul]
    generalize x.toNat * 2 ^ (32 - n) = q
    omega
  have e2 : (x.toNat : Int) / 2 ^ (32 - (32 - n)) = ((x.toNat / 2 ^ n : Nat) : Int) := by
    rw [show 32 - (32 - n) = n by omega, hp]
    rfl
  rw [e1, e2, u32_or_nat _ _ (Nat.mod_lt _ (by omega)) (Nat.lt_of_le_of_lt (Nat.div_le_self _ _) (lt32 x)), rotr_nat, Nat.or_comm]
theorem rot_any (x : UInt32) (n : Nat) (w : World) (h1 : 1 ≤ n) (h2 : n < 32) :
    Calls Tryd.prog 72 #[.int .u32 x.toNat, .int .i64 (-(n : Int))] w fun e w' => e = .returned (.int .u32 (rotr x n).toNat) ∧ w = w' := by
  have hs : bits BinOp.and IntKind.u64 (IntKind.u64.wrap (-(n : Int))) 31 = ((32 - n : Nat) : Int) := by
    rw [show IntKind.u64.wrap (-(n : Int)) = ((18446744073709551616 - n : Nat) : Int) by rw [IntKind.wrap_u64]; omega, show (31 : Int) = ((31 : Nat) : Int) from rfl, u64_and_nat _ _ (by omega) (by omega), nat_mask5]
    omega
  have h3 : ((32 - n : Nat) : Int) ≤ 64 := by omega
  have h4 : (0 : Int) ≤ ((32 - n : Nat) : Int) := by omega
  have h5 := rot_eq x n h1 h2
  go_enter Tryd.func72, Tryd.ntmps72
  go_wp2
  go_ret
  exact ⟨rfl, rfl⟩
theorem rotr_any (x : UInt32) (n : Nat) (w : World) (h1 : 1 ≤ n) (h2 : n < 32) :
    Calls Tryd.prog 70 #[.int .u32 x.toNat, .int .i64 n] w fun e w' => e = .returned (.int .u32 (rotr x n).toNat) ∧ w = w' := by
  go_enter Tryd.func70, Tryd.ntmps70
  go_wp2_with (go_at_call 72; refine (rot_any x n _ h1 h2).mono ?_; rintro _ _ ⟨rfl, rfl⟩)
  go_ret
  exact ⟨rfl, rfl⟩
theorem results_8 {fn : Func} {t0 t1 t2 t3 t4 t5 t6 t7 : Tmp} (h : fn.results = #[.tmp t0, .tmp t1, .tmp t2, .tmp t3, .tmp t4, .tmp t5, .tmp t6, .tmp t7]) (tmps : Array Value) (P : Program) (w : World) :
    (results fn tmps).run P w = .ok (.tuple #[tmps.getD t0 undef, tmps.getD t1 undef, tmps.getD t2 undef, tmps.getD t3 undef, tmps.getD t4 undef, tmps.getD t5 undef, tmps.getD t6 undef, tmps.getD t7 undef]) w := by
  simp [results, h]
theorem each_any (w : World) (g : Nat) (a b c d e f g' h : UInt32) (hc0 : w.cell? ⟨g, 0, none⟩ = some (.int .u32 a.toNat)) (hc1 : w.cell? ⟨g, 1, none⟩ = some (.int .u32 b.toNat)) (hc2 : w.cell? ⟨g, 2, none⟩ = some (.int .u32 c.toNat)) (hc3 : w.cell? ⟨g, 3, none⟩ = some (.int .u32 d.toNat))
     (hc4 : w.cell? ⟨g, 4, none⟩ = some (.int .u32 e.toNat)) (hc5 : w.cell? ⟨g, 5, none⟩ = some (.int .u32 f.toNat)) (hc6 : w.cell? ⟨g, 6, none⟩ = some (.int .u32 g'.toNat)) (hc7 : w.cell? ⟨g, 7, none⟩ = some (.int .u32 h.toNat)) :
    Calls Tryd.prog 71 #[.pointer (some ⟨g, 0, none⟩)] w fun e' w' => e' = .returned (.tuple #[.int .u32 a.toNat, .int .u32 b.toNat, .int .u32 c.toNat, .int .u32 d.toNat, .int .u32 e.toNat, .int .u32 f.toNat, .int .u32 g'.toNat, .int .u32 h.toNat]) ∧ ∃ m, w' = w.drewN m := by
  go_enter Tryd.func71, Tryd.ntmps71
  go_wp2
  go_quiet (fail)
  go_wp2
  exact bodyPost_ret (results_8 rfl _ _ _) rfl ⟨rfl, _, rfl⟩
open Go.RowKit
/-- Block g is just these cells. -/
def Blk (w : World) (g : Nat) (ty : TypeId) (cs : List Value) : Prop := w.heap[g]? = some (.cells cs.toArray ty (0, 0))
section
variable {w w' : World} {g : Nat} {ty : TypeId} {cs : List Value}
theorem Blk.lt (h : Blk w g ty cs) : g < w.heap.size := (Array.getElem?_eq_some_iff.1 h).1
theorem Blk.get (h : Blk w g ty cs) (i : Nat) (v : Value) (hv : cs[i]? = some v) : w.cell? ⟨g, i, none⟩ = some v := by
  unfold Blk at h
  simp [World.cell?, h, hv]
theorem Blk.cell (h : Blk w g ty cs) (i : Nat) (hi : i < cs.length) : w.cell? ⟨g, i, none⟩ = some cs[i] := h.get i _ (List.getElem?_eq_getElem hi)
theorem Blk.frozen (h : Blk w g ty cs) (i : Nat) : w.frozen? ⟨g, i, none⟩ = false := by
  unfold Blk at h
  simp [World.frozen?, h]
theorem Blk.set (h : Blk w g ty cs) (i : Nat) (v : Value) : Blk (w.setCell ⟨g, i, none⟩ v) g ty (cs.set i v) := by
  unfold Blk at h ⊢
  have hlt := Blk.lt h
  simp only [World.setCell, Array.getElem?_modify, h]
  simp
theorem Blk.keep (h : Blk w g ty cs) (hk : w'.heap[g]? = w.heap[g]?) : Blk w' g ty cs := hk.trans h
theorem Blk.grown {row : Option Nat} (h : Blk w g ty cs) (hg : w.grownBy w' row) (hr : some g ≠ row) : Blk w' g ty cs := h.keep (hg.block g h.lt hr)
theorem Blk.to (h : Blk w g ty cs) {ds : List Value} (e : cs = ds) : Blk w g ty ds := e ▸ h
theorem Blk.byt {pre post : List Value} {xs : List UInt8} (h : Blk w g ty (pre ++ u8s xs ++ post)) {o : Nat} (ho : pre.length = o) : Byt w (fun b => b = g) (some ⟨g, o, none⟩) xs := fun j hj => by
  subst ho
  refine ⟨_, rfl, rfl, ?_⟩
  rw [Addr.add_lit]
  refine h.get _ _ ?_
  rw [List.append_assoc, List.getElem?_append_right (by omega), Nat.add_sub_cancel_left, List.getElem?_append_left (by rw [u8s_length]; exact hj)]
  unfold u8s
  rw [List.getElem?_map, List.getElem?_eq_getElem hj]
  rfl
end
theorem grown_set (w : World) (g i : Nat) (v : Value) : w.grownBy (w.setCell ⟨g, i, none⟩ v) (some g) :=
  ⟨rfl, rfl, rfl, by simp [World.setCell], fun k _ hk => Below.heap_setCell w ⟨g, i, none⟩ v k (fun e => hk (by rw [e]))⟩
theorem size_set (w : World) (a : Addr) (v : Value) : (w.setCell a v).heap.size = w.heap.size := by simp [World.setCell]
theorem Blk.of_alloc (w : World) (cs : Array Value) (ty : TypeId) : Blk (w.alloc (.cells cs ty)) w.heap.size ty cs.toList := by
  unfold Blk
  rw [heap_alloc_new]
open Go.RowKit
theorem read_or (xs : List UInt8) (k : Nat) (h : k < xs.length) (h8 : k < 8) :
    bits .or .u64 (IntKind.u64.wrap ((nb (xs.take k) : Int) * 256)) (xs[k].toNat : Int) = (nb (xs.take (k + 1)) : Int) := by
  have hb := xs[k].toNat_lt
  have hlt : nb (xs.take k) < 256 ^ k := nb_lt k _ (by simp; omega)
  have h7 : 256 ^ k ≤ 256 ^ 7 := Nat.pow_le_pow_right (by omega) (by omega)
  have e1 : IntKind.u64.wrap ((nb (xs.take k) : Int) * 256) = ((nb (xs.take k) * 256 : Nat) : Int) := by rw [IntKind.wrap_u64]; omega
  rw [e1, u64_or_nat _ _ (by omega) (by omega), nb_take xs k h, nat_join 8 _ _ (by omega) (by omega)]
set_option maxHeartbeats 800000 in
theorem read_any {w : World} {ok : Nat → Prop} {A : Option Addr} {xs : List UInt8} {c : Nat} (hx : Byt w ok A xs) (h0 : 0 < xs.length) (hm : xs.length ≤ 8) :
    Calls Tryd.prog 69 #[.slice A xs.length c] w fun e w' => e = .returned (.int .u64 (nb xs)) ∧ w = w' := by
  obtain ⟨ad, rfl, _, hcell⟩ := hx.some_ h0
  go_enter Tryd.func69, Tryd.ntmps69
  go_wp2
  go_loop [3, 8] (fun m i => ∃ k : Nat, k ≤ xs.length ∧ i = .int .i64 k ∧ m = .int .u64 (nb (xs.take k))) (fun _ i => xs.length - (intOf i).toNat)
  case atStart => exact ⟨0, Nat.zero_le _, rfl, rfl⟩
  case round =>
    obtain ⟨k, hk, rfl, rfl⟩ := hrel
    by_cases hlt : k < xs.length
    · have hc := hcell k hlt
      have hb := xs[k].toNat_lt
      have hs := read_or xs k hlt (by omega)
      clear hcell
      go_wp2
      go_round
      case rel => exact ⟨k + 1, by omega, by go_num, rfl⟩
      case measure => simp [intOf]; omega
    · clear hcell
      have h3 : xs.length ≤ k := by omega
      go_wp2
      go_ret
      have e : k = xs.length := by omega
      subst e
      rw [List.take_length]
      exact ⟨rfl, rfl⟩
/-- ys, its k last bytes those of a number. -/
def part (ys : List UInt8) (n k : Nat) : List UInt8 := (List.range ys.length).map fun j => if ys.length - k ≤ j then UInt8.ofNat (n / 256 ^ (ys.length - 1 - j)) else ys.getD j 0
theorem part_length (ys : List UInt8) (n k : Nat) : (part ys n k).length = ys.length := by simp [part]
theorem part_zero (ys : List UInt8) (n : Nat) : part ys n 0 = ys := by
  apply List.ext_getElem (by simp [part])
  intro j h1 h2
  simp only [part, List.getElem_map, List.getElem_range]
  rw [if_neg (by omega)]
  simp [h2]
theorem part_all (ys : List UInt8) (n : Nat) : part ys n ys.length = be ys.length n := by
  apply List.ext_getElem (by simp [part, be_length])
  intro j h1 h2
  rw [part_length] at h1
  rw [be_get ys.length n j h1]
  simp [part]
theorem part_step (ys : List UInt8) (n k : Nat) (h : k < ys.length) : (part ys n k).set (ys.length - 1 - k) (UInt8.ofNat (n / 256 ^ k)) = part ys n (k + 1) := by
  apply List.ext_getElem (by simp [part])
  intro j h1 h2
  rw [part_length] at h2
  simp only [List.getElem_set, part, List.getElem_map, List.getElem_range]
  by_cases e : ys.length - 1 - k = j
  · rw [if_pos e, if_pos (by omega), show ys.length - 1 - j = k by omega]
  · rw [if_neg e]
    by_cases h3 : ys.length - k ≤ j
    · rw [if_pos h3, if_pos (by omega)]
    · rw [if_neg h3, if_neg (by omega)]
theorem u8s_set (xs : List UInt8) (j : Nat) (x : UInt8) : (u8s xs).set j (.int .u8 (x.toNat : Int)) = u8s (xs.set j x) := by simp [u8s, List.map_set]
theorem set_mid {pre mid post : List Value} (j o : Nat) (v : Value) (ho : pre.length = o) (hj : j < mid.length) : (pre ++ mid ++ post).set (o + j) v = pre ++ mid.set j v ++ post := by
  subst ho
  rw [List.append_assoc, List.set_append_right _ _ (by omega), Nat.add_sub_cancel_left, List.set_append_left _ _ hj, List.append_assoc]
theorem pow8 (k : Nat) : (2 : Int) ^ (8 * k) = ((256 ^ k : Nat) : Int) := by
  rw [Int.pow_mul]; norm_cast
theorem shr_byte (n k : Nat) : (n : Int) / 2 ^ (8 * k) % 256 = ((UInt8.ofNat (n / 256 ^ k)).toNat : Int) := by
  rw [pow8, u8_ofNat, show (n : Int) / ((256 ^ k : Nat) : Int) = ((n / 256 ^ k : Nat) : Int) from rfl]
  omega
set_option maxHeartbeats 800000 in
theorem write_any {w : World} {g o c n : Nat} {ty : TypeId} {pre post : List Value} {ys : List UInt8} (hb : Blk w g ty (pre ++ u8s ys ++ post)) (ho : pre.length = o) (hl : ys.length ≤ 8) :
    Calls Tryd.prog 68 #[.slice (some ⟨g, o, none⟩) ys.length c, .int .u64 n] w fun e w' => e = .returned (.tuple #[]) ∧ Blk w' g ty (pre ++ u8s (be ys.length n) ++ post) ∧ w.grownBy w' (some g) ∧ w'.heap.size = w.heap.size := by
  go_enter Tryd.func68, Tryd.ntmps68
  go_wp2
  go_loopw [7] (fun i wr => ∃ k : Nat, k ≤ ys.length ∧ i = .int .i64 k ∧ Blk wr g ty (pre ++ u8s (part ys n k) ++ post) ∧ w.grownBy wr (some g) ∧ wr.heap.size = w.heap.size) (fun i _ => ys.length - (intOf i).toNat)
  case atStart => exact ⟨0, Nat.zero_le _, rfl, by rw [part_zero]; exact hb, World.grownBy.refl _ _, rfl⟩
  case round =>
    obtain ⟨k, hk, rfl, hbr, hgr, hsz⟩ := hrel
    clear hb
    by_cases hlt : k < ys.length
    · have hpl := part_length ys n k
      have hc := hbr.cell (o + (ys.length - 1 - k)) (by rw [List.length_append, List.length_append, u8s_length]; omega)
      have hf := hbr.frozen (o + (ys.length - 1 - k))
      have HB := Lib.hid hbr
      clear hbr
      go_wp2
      go_roundw

      case rel =>
        refine ⟨k + 1, by omega, by go_num, ?_, World.grownBy.trans hgr (grown_set _ _ _ _), (size_set _ _ _).trans hsz⟩
        have hs := HB.out.set (o + (ys.length - 1 - k)) (.int .u8 ((UInt8.ofNat (n / 256 ^ k)).toNat : Int))
        rw [set_mid _ _ _ ho (by rw [u8s_length]; omega), u8s_set, part_step ys n k hlt] at hs
        rw [shr_byte]
        exact hs
      case measure => simp [intOf]; omega
    · obtain rfl : k = ys.length := by omega
      rw [part_all] at hbr
      go_wp2
      go_end0
      exact ⟨rfl, hbr, hgr, hsz⟩
/-- The first words of SHA-512, and its rounds' words, out of which those of SHA-256 are made. -/
def sqN : List Nat := [7640891576956012808, 13503953896175478587, 4354685564936845355, 11912009170470909681, 5840696475078001361, 11170449401992604703, 2270897969802886507, 6620516959819538809]
def cuN : List Nat := [4794697086780616226, 8158064640168781261, 13096744586834688815, 16840607885511220156, 4131703408338449720, 6480981068601479193, 10538285296894168987, 12329834152419229976, 15566598209576043074, 1334009975649890238, 2608012711638119052, 6128411473006802146, 8268148722764581231, 9286055187155687089, 11230858885718282805, 13951009754708518548, 16472876342353939154, 17275323862435702243, 1135362057144423861, 2597628984639134821, 3308224258029322869, 5365058923640841347, 6679025012923562964, 8573033837759648693, 10970295158949994411, 12119686244451234320, 12683024718118986047, 13788192230050041572, 14330467153632333762, 15395433587784984357, 489312712824947311, 1452737877330783856, 2861767655752347644, 3322285676063803686, 5560940570517711597, 5996557281743188959, 7280758554555802590, 8532644243296465576, 9350256976987008742, 10552545826968843579, 11727347734174303076, 12113106623233404929, 14000437183269869457, 14369950271660146224, 15101387698204529176, 15463397548674623760, 17586052441742319658, 1182934255886127544, 1847814050463011016, 2177327727835720531, 2830643537854262169, 3796741975233480872, 4115178125766777443, 5681478168544905931, 6601373596472566643, 7507060721942968483, 8399075790359081724, 8693463985226723168, 9568029438360202098, 10144078919501101548, 10430055236837252648, 11840083180663258601, 13761210420658862357, 14299343276471374635, 14566680578165727644, 15097957966210449927, 16922976911328602910, 17689382322260857208, 500013540394364858, 748580250866718886, 1242879168328830382, 1977374033974150939, 2944078676154940804, 3659926193048069267, 4368137639120453308, 4836135668995329356, 5532061633213252278, 6448918945643986474, 6902733635092675308, 7801388544844847127]
/-- The rounds' words. -/
def kw (i : Nat) : UInt32 := UInt32.ofNat (cuN.getD i 0 / 4294967296)
def s0 (x : UInt32) : UInt32 := rotr x 7 ^^^ rotr x 18 ^^^ shr x 3
def s1 (x : UInt32) : UInt32 := rotr x 17 ^^^ rotr x 19 ^^^ shr x 10
def S0 (x : UInt32) : UInt32 := rotr x 2 ^^^ rotr x 13 ^^^ rotr x 22
def S1 (x : UInt32) : UInt32 := rotr x 6 ^^^ rotr x 11 ^^^ rotr x 25
/-- The words of a block. -/
def wd (xs : List UInt8) (i : Nat) : UInt32 := UInt32.ofNat (nb ((xs.drop (4 * i)).take 4))
def wds (xs : List UInt8) (k : Nat) : List UInt32 := (List.range k).map (wd xs)
/-- The next word of those that the rounds take. -/
def nxt (l : List UInt32) (i : Nat) : UInt32 := l.getD i 0 + s0 (l.getD (i + 1) 0) + l.getD (i + 9) 0 + s1 (l.getD (i + 14) 0)
def sch (l : List UInt32) : Nat → List UInt32
  | 0 => l
  | k + 1 => sch l k ++ [nxt (sch l k) k]
/-- Eight words. -/
structure St where (a b c d e f g h : UInt32)
def St.list (s : St) : List UInt32 := [s.a, s.b, s.c, s.d, s.e, s.f, s.g, s.h]
def t1 (s : St) (k w : UInt32) : UInt32 := s.h + S1 s.e + ((s.e &&& s.f) ^^^ (~~~s.e &&& s.g)) + k + w
def t2 (s : St) : UInt32 := S0 s.a + ((s.a &&& s.b) ^^^ (s.a &&& s.c) ^^^ (s.b &&& s.c))
def rnd (s : St) (k w : UInt32) : St := ⟨t1 s k w + t2 s, s.a, s.b, s.c, s.d + t1 s k w, s.e, s.f, s.g⟩
def rnds (l : List UInt32) (s : St) : Nat → St
  | 0 => s
  | i + 1 => rnd (rnds l s i) (kw i) (l.getD i 0)
def St.plus (s r : St) : St := ⟨s.a + r.a, s.b + r.b, s.c + r.c, s.d + r.d, s.e + r.e, s.f + r.f, s.g + r.g, s.h + r.h⟩
/-- What a block makes of eight words. -/
def comp (s : St) (xs : List UInt8) : St := s.plus (rnds (sch (wds xs 16) 48) s 64)
theorem wds_length (xs : List UInt8) (k : Nat) : (wds xs k).length = k := by simp [wds]
theorem wds_succ (xs : List UInt8) (k : Nat) : wds xs (k + 1) = wds xs k ++ [wd xs k] := by simp [wds, List.range_succ]
theorem sch_length (l : List UInt32) : ∀ k, (sch l k).length = l.length + k
  | 0 => rfl
  | k + 1 => by rw [sch, List.length_append, sch_length l k]; simp; omega
theorem list_length (s : St) : s.list.length = 8 := rfl
/-- How many bytes 0 a text of n bytes is filled up with. -/
def zpad (n : Nat) : Nat := (119 - n % 64) % 64
/-- The last blocks of a text of n bytes, of which rs stands behind the whole ones. -/
def fill (rs : List UInt8) (n : Nat) : List UInt8 := rs ++ (128 :: (List.replicate (zpad n) 0 ++ be 8 (8 * n)))
theorem fill_length (rs : List UInt8) (n : Nat) (h : rs.length = n % 64) : (fill rs n).length = (n % 64 + 72) / 64 * 64 := by
  simp only [fill, List.length_append, List.length_cons, List.length_replicate, be_length, h, zpad]
  omega
/-- What so many blocks make of eight words. -/
def runs : Nat → St → List UInt8 → St
  | 0, s, _ => s
  | k + 1, s, xs => runs k (comp s (xs.take 64)) (xs.drop 64)
theorem runs_add : ∀ (j k : Nat) (s : St) (xs : List UInt8), runs (j + k) s xs = runs k (runs j s xs) (xs.drop (64 * j))
  | 0, k, s, xs => by simp [runs]
  | j + 1, k, s, xs => by
    rw [show j + 1 + k = (j + k) + 1 by omega, runs, runs, runs_add j k, List.drop_drop, show 64 + 64 * j = 64 * (j + 1) by omega]
theorem runs_front : ∀ (j : Nat) (s : St) (xs ys : List UInt8), 64 * j ≤ xs.length → runs j s (xs ++ ys) = runs j s xs
  | 0, _, _, _, _ => rfl
  | j + 1, s, xs, ys, h => by
    rw [runs, runs, List.take_append_of_le_length (by omega), List.drop_append_of_le_length (by omega), runs_front j _ _ _ (by simp; omega)]
/-- The first words. -/
def H0 : St := ⟨1779033703, 3144134277, 1013904242, 2773480762, 1359893119, 2600822924, 528734635, 1541459225⟩
/-- The words behind the whole blocks, and the bytes behind these. -/
def st (xs : List UInt8) : St := runs (xs.length / 64) H0 xs
def rst (xs : List UInt8) : List UInt8 := xs.drop (64 * (xs.length / 64))
theorem rst_length (xs : List UInt8) : (rst xs).length = xs.length % 64 := by simp [rst]; omega
/-- The words behind the last block. -/
def fin (xs : List UInt8) : St := runs ((fill (rst xs) xs.length).length / 64) (st xs) (fill (rst xs) xs.length)
/-- The bytes of words. -/
def outs (l : List UInt32) : List UInt8 := l.flatMap fun x => be 4 x.toNat
theorem outs_length (l : List UInt32) : (outs l).length = 4 * l.length := by
  induction l with
  | nil => rfl
  | cons x l ih =>
    have : outs (x :: l) = be 4 x.toNat ++ outs l := rfl
    rw [this, List.length_append, be_length, ih, List.length_cons]; omega
/-- SHA-256. -/
def sha256 (xs : List UInt8) : List UInt8 := outs (fin xs).list
theorem sha256_length (xs : List UInt8) : (sha256 xs).length = 32 := by rw [sha256, outs_length, list_length]
/-- A text with what it is filled up with. -/
def whole (xs : List UInt8) : List UInt8 := xs ++ (128 :: (List.replicate (zpad xs.length) 0 ++ be 8 (8 * xs.length)))
theorem whole_is (xs : List UInt8) : whole xs = xs.take (64 * (xs.length / 64)) ++ fill (rst xs) xs.length := by
  rw [whole, fill, ← List.append_assoc, rst, List.take_append_drop]
theorem fin_whole (xs : List UInt8) : fin xs = runs ((whole xs).length / 64) H0 (whole xs) := by
  have hl : (xs.take (64 * (xs.length / 64))).length = 64 * (xs.length / 64) := by simp; omega
  have h1 := runs_add (xs.length / 64) ((fill (rst xs) xs.length).length / 64) H0 (whole xs)
  have h2 : (whole xs).length / 64 = xs.length / 64 + (fill (rst xs) xs.length).length / 64 := by
    rw [whole_is, List.length_append, hl]; omega
  rw [h2, h1, fin, st]
  have h3 : (whole xs).drop (64 * (xs.length / 64)) = fill (rst xs) xs.length := by
    rw [whole_is, List.drop_left' hl]
  have h4 : runs (xs.length / 64) H0 (whole xs) = runs (xs.length / 64) H0 xs := by
    rw [whole]; exact runs_front _ _ _ _ (by omega)
  rw [h3, h4]
/-- More bytes behind a text. -/
theorem st_short (xs ys : List UInt8) (h : xs.length % 64 + ys.length < 64) : st (xs ++ ys) = st xs ∧ rst (xs ++ ys) = rst xs ++ ys := by
  have e : (xs ++ ys).length / 64 = xs.length / 64 := by rw [List.length_append]; omega
  refine ⟨?_, ?_⟩
  · rw [st, st, e]; exact runs_front _ _ _ _ (by omega)
  · rw [rst, rst, e, List.drop_append_of_le_length (by omega)]
theorem st_block (xs ys : List UInt8) (h : xs.length % 64 + ys.length = 64) : st (xs ++ ys) = comp (st xs) (rst xs ++ ys) ∧ rst (xs ++ ys) = [] := by
  have e : (xs ++ ys).length / 64 = xs.length / 64 + 1 := by rw [List.length_append]; omega
  have hd : (xs ++ ys).drop (64 * (xs.length / 64)) = rst xs ++ ys := by rw [rst, List.drop_append_of_le_length (by omega)]
  refine ⟨?_, ?_⟩
  · rw [st, st, e, runs_add, hd, runs_front _ _ xs _ (by omega), runs, runs, List.take_of_length_le]
    rw [List.length_append, rst_length]; omega
  · rw [rst, e, List.drop_eq_nil_of_le]
    rw [List.length_append]; omega
end Go.Proofs.YtdnkeaokgkiloaaDoor.S
