/- Plain mathematics of numbers as bytes and of joined texts: what is joined is split into the same pieces, and what is cut off or put behind is not. Conditions: none. What a slice of bytes, and a slice of slices of bytes, reads as in memory: how that is kept, made into a string, and appended. Conditions: none. Bytes tells whether two slices hold the same bytes; Clone copies a slice's bytes into new memory; Get reads a number. Conditions: of Clone: at most 2^40 bytes. Put, and its reference, write a number as just so many bytes, the greatest first, or nothing. Conditions: none. Join, and its reference, write the joined text of a list. Conditions: none. -/
import Derived.Test.YtdnkeaokgkiloaaDoorRows
import Derived.WalkKit
import Derived.WalkSpells
import Derived.WalkLawsBesides
import Derived.Maps.AppendAt
import Derived.IntWalk
import Derived.Lib.Hide
namespace Go.Proofs.YtdnkeaokgkiloaaDoor.T
/-- A number as k bytes, the greatest first. -/
def be : Nat → Nat → List UInt8
  | 0, _ => []
  | k + 1, n => be k (n / 256) ++ [UInt8.ofNat n]
theorem be_length : ∀ k n, (be k n).length = k
  | 0, _ => rfl
  | k + 1, n => by simp [be, be_length k]
theorem u8_ofNat (n : Nat) : (UInt8.ofNat n).toNat = n % 256 := by simp
theorem be_get : ∀ k n i, (h : i < k) → (be k n)[i]'(by rw [be_length]; exact h) = UInt8.ofNat (n / 256 ^ (k - 1 - i))
  | 0, _, _, h => absurd h (by omega)
  | k + 1, n, i, h => by
    by_cases e : i = k
    · subst e
      have : (be (i + 1) n)[i]'(by rw [be_length]; exact h) = (be i (n / 256) ++ [UInt8.ofNat n])[i]'(by simp [be_length]) := rfl
      rw [this, List.getElem_append_right (by rw [be_length]; exact Nat.le_refl _)]
      simp [be_length]
    · have hk : i < k := by omega
      have : (be (k + 1) n)[i]'(by rw [be_length]; exact h) = (be k (n / 256) ++ [UInt8.ofNat n])[i]'(by simp [be_length]; omega) := rfl
      rw [this, List.getElem_append_left (by rw [be_length]; exact hk), be_get k (n / 256) i hk, Nat.div_div_eq_div_mul, show k + 1 - 1 - i = (k - 1 - i) + 1 by omega, Nat.pow_succ, Nat.mul_comm 256]
/-- A piece with its length ahead. -/
def enc (p : List UInt8) : List UInt8 := UInt8.ofNat (p.length / 256) :: UInt8.ofNat p.length :: p
theorem enc_length (p : List UInt8) : (enc p).length = p.length + 2 := rfl
/-- The joined text of a list. -/
def jn (ps : List (List UInt8)) : List UInt8 := UInt8.ofNat ps.length :: ps.flatMap enc
/-- A list that may be joined. -/
def Fit (ps : List (List UInt8)) : Prop := ps.length ≤ 64 ∧ ∀ p ∈ ps, p.length ≤ 4096
instance (ps : List (List UInt8)) : Decidable (Fit ps) := by unfold Fit; exact inferInstance
theorem flat_length : ∀ ps : List (List UInt8), (∀ p ∈ ps, p.length ≤ 4096) → (ps.flatMap enc).length ≤ 4098 * ps.length
  | [], _ => by simp
  | p :: ps, h => by
    have h1 := flat_length ps fun q hq => h q (by simp [hq])
    have h2 := h p (by simp)
    simp only [List.flatMap_cons, List.length_append, enc_length, List.length_cons]
    omega
theorem jn_length (ps : List (List UInt8)) (h : Fit ps) : (jn ps).length ≤ 262273 := by
  have := flat_length ps h.2
  have := h.1
  simp only [jn, List.length_cons]
  omega
/-- So many pieces are to come out of these bytes, these came: all the pieces and 0, or an error's number. -/
def spl : Nat → List UInt8 → List (List UInt8) → List (List UInt8) × Nat
  | 0, b, acc => if b = [] then (acc, 0) else ([], 21)
  | k + 1, x :: y :: b, acc => if 4096 < x.toNat * 256 + y.toNat then ([], 5) else if b.length < x.toNat * 256 + y.toNat then ([], 20) else spl k (b.drop (x.toNat * 256 + y.toNat)) (acc ++ [b.take (x.toNat * 256 + y.toNat)])
  | _ + 1, _, _ => ([], 20)
/-- What bytes say as pieces. -/
def split : List UInt8 → List (List UInt8) × Nat
  | [] => ([], 20)
  | x :: b => if 64 < x.toNat then ([], 4) else spl x.toNat b []
theorem enc_num (n : Nat) (h : n ≤ 4096) : (UInt8.ofNat (n / 256)).toNat * 256 + (UInt8.ofNat n).toNat = n := by
  rw [u8_ofNat, u8_ofNat]; omega
theorem spl_zero (b : List UInt8) (acc : List (List UInt8)) : spl 0 b acc = if b = [] then (acc, 0) else ([], 21) := by simp [spl]
theorem spl_cons (k : Nat) (x y : UInt8) (b : List UInt8) (acc : List (List UInt8)) :
    spl (k + 1) (x :: y :: b) acc = if 4096 < x.toNat * 256 + y.toNat then ([], 5) else if b.length < x.toNat * 256 + y.toNat then ([], 20) else spl k (b.drop (x.toNat * 256 + y.toNat)) (acc ++ [b.take (x.toNat * 256 + y.toNat)]) := rfl
theorem spl_enc (k : Nat) (p r : List UInt8) (acc : List (List UInt8)) (h : p.length ≤ 4096) : spl (k + 1) (enc p ++ r) acc = spl k r (acc ++ [p]) := by
  show spl (k + 1) (UInt8.ofNat (p.length / 256) :: UInt8.ofNat p.length :: (p ++ r)) acc = _
  rw [spl_cons, enc_num _ h, if_neg (by omega), if_neg (by rw [List.length_append]; omega), List.drop_left, List.take_left]
theorem spl_jn (more : List UInt8) : ∀ (ps acc : List (List UInt8)), (∀ p ∈ ps, p.length ≤ 4096) → spl ps.length (ps.flatMap enc ++ more) acc = if more = [] then (acc ++ ps, 0) else ([], 21)
  | [], acc, _ => by simp [spl_zero]
  | p :: ps, acc, h => by
    have ih := spl_jn more ps (acc ++ [p]) fun q hq => h q (by simp [hq])
    rw [List.flatMap_cons, List.append_assoc, List.length_cons, spl_enc _ _ _ _ (h p (by simp)), ih]
    simp
theorem split_more (ps : List (List UInt8)) (more : List UInt8) (h : Fit ps) : split (jn ps ++ more) = if more = [] then (ps, 0) else ([], 21) := by
  have h64 := h.1
  have hx : (UInt8.ofNat ps.length).toNat = ps.length := by rw [u8_ofNat]; omega
  show (if 64 < (UInt8.ofNat ps.length).toNat then ([], 4) else spl (UInt8.ofNat ps.length).toNat (ps.flatMap enc ++ more) []) = _
  rw [hx, if_neg (by omega), spl_jn _ _ _ h.2]
  simp
theorem split_jn (ps : List (List UInt8)) (h : Fit ps) : split (jn ps) = (ps, 0) := by
  have := split_more ps [] h
  simpa using this
open Go.RowKit
theorem Tryd.info5 : (Tryd.prog.info? 5).map (fun i => (i.zero, i.size, i.bytes)) = some (some (.int .u8 0), 1, 1) := by kernel_rfl
theorem Tryd.info66 : (Tryd.prog.info? 66).map (fun i => (i.zero, i.size, i.bytes)) = some (some (.slice none 0 0), 1, 24) := by kernel_rfl
/-- Bytes as values. -/
def u8s (xs : List UInt8) : List Value := xs.map fun x => Value.int .u8 (x.toNat : Int)
theorem u8s_append (xs ys : List UInt8) : u8s (xs ++ ys) = u8s xs ++ u8s ys := by simp [u8s]
theorem u8s_length (xs : List UInt8) : (u8s xs).length = xs.length := by simp [u8s]
theorem u8s_get (xs : List UInt8) (j : Nat) (v : Value) (h : (u8s xs)[j]? = some v) : ∃ hj : j < xs.length, v = .int .u8 (xs[j].toNat : Int) := by
  unfold u8s at h
  rw [List.getElem?_map] at h
  by_cases hj : j < xs.length
  · rw [List.getElem?_eq_getElem hj] at h
    exact ⟨hj, by simpa using h.symm⟩
  · rw [List.getElem?_eq_none (by omega)] at h; simp at h
theorem u8s_one (xs : List UInt8) : ∀ u ∈ u8s xs, u.oneCell' = true := by
  intro u hu
  obtain ⟨x, _, rfl⟩ := List.mem_map.1 hu
  rfl
/-- The bytes xs lie at A, in blocks that are 'ok'. -/
def Byt (w : World) (ok : Nat → Prop) (A : Option Addr) (xs : List UInt8) : Prop :=
  ∀ j (h : j < xs.length), ∃ ad, A = some ad ∧ ok ad.block ∧ w.cell? (ad.add j) = some (.int .u8 (xs[j].toNat : Int))
section
variable {w w' : World} {ok ok' : Nat → Prop} {A : Option Addr} {xs : List UInt8}
theorem Byt.nil : Byt w ok A [] := fun _ h => absurd h (by simp)
theorem Byt.some_ (h : Byt w ok A xs) (hl : 0 < xs.length) : ∃ ad, A = some ad ∧ ok ad.block ∧ ∀ j (h : j < xs.length), w.cell? (ad.add j) = some (.int .u8 (xs[j].toNat : Int)) := by
  obtain ⟨ad, rfl, hok, _⟩ := h 0 hl
  refine ⟨ad, rfl, hok, fun j hj => ?_⟩
  obtain ⟨ad', e, _, hc⟩ := h j hj
  cases e
  exact hc
theorem Byt.imp (h : Byt w ok A xs) (hi : ∀ b, ok b → ok' b) : Byt w ok' A xs := fun j hj => by
  obtain ⟨ad, e, ho, hc⟩ := h j hj
  exact ⟨ad, e, hi _ ho, hc⟩
theorem block_of_plus (a : Addr) (n : Nat) : (a.add n).block = a.block := by unfold Addr.add; split <;> rfl
theorem Byt.keep (h : Byt w ok A xs) (hk : ∀ b, ok b → w'.heap[b]? = w.heap[b]?) : Byt w' ok A xs := fun j hj => by
  obtain ⟨ad, e, ho, hc⟩ := h j hj
  exact ⟨ad, e, ho, (World.cell?_of_block (by rw [block_of_plus]; exact hk _ ho)).trans hc⟩
theorem Byt.below {B : Nat} (h : Byt w ok A xs) (hb : Below B w w') (hok : ∀ b, ok b → b < B) : Byt w' ok A xs := h.keep fun b hbb => hb.block b (hok b hbb)
theorem Byt.grown {row : Option Nat} (h : Byt w ok A xs) (hg : w.grownBy w' row) (hok : ∀ b, ok b → b < w.heap.size ∧ some b ≠ row) : Byt w' ok A xs := h.keep fun b hbb => hg.block b (hok b hbb).1 (hok b hbb).2
theorem plus_plus (a : Addr) (i j : Nat) : (a.add i).add j = a.add (i + j) := by
  by_cases hi : i = 0 <;> by_cases hj : j = 0 <;> simp [Addr.add, hi, hj, Nat.add_assoc]
theorem Byt.drop {k c : Nat} (h : Byt w ok A xs) (hk : k ≤ xs.length) (hc : xs.length ≤ c) : Byt w ok (if c = k then A else A.map (·.add k)) (xs.drop k) := fun j hj => by
  have hj' : k + j < xs.length := by simp at hj; omega
  obtain ⟨ad, rfl, ho, hcell⟩ := h (k + j) hj'
  rw [if_neg (by omega)]
  refine ⟨ad.add k, rfl, by rw [block_of_plus]; exact ho, ?_⟩
  rw [plus_plus, hcell]
  simp
theorem Byt.take (h : Byt w ok A xs) (k : Nat) : Byt w ok A (xs.take k) := fun j hj => by
  have hj' : j < xs.length := by simp at hj; omega
  obtain ⟨ad, rfl, ho, hcell⟩ := h j hj'
  refine ⟨ad, rfl, ho, ?_⟩
  rw [hcell]
  simp
theorem Byt.str (h : Byt w ok A xs) (c : Nat) : (convert 66 9 (.slice A xs.length c)).run Tryd.prog w = .ok (.string ⟨xs.toArray⟩) w := by
  rcases A with _ | ad
  · have : xs = [] := by
      rcases xs with _ | ⟨x, xs⟩
      · rfl
      · obtain ⟨_, e, _⟩ := h 0 (by simp)
        cases e
    subst this
    rw [run_convert_bytes_nil w 66 5 Tryd.underlying66 Tryd.underlying5 _ _ 9 Tryd.underlying9]
    rfl
  · refine run_convert_bytes_back w 66 9 5 ad c xs Tryd.underlying66 Tryd.underlying5 Tryd.underlying9 fun j hj => ?_
    obtain ⟨ad', e, _, hc⟩ := h j hj
    cases e
    exact hc
/-- What a row of the call's own reads as. -/
theorem Byt.of_own {base n c : Nat} (h : w.ownsRow base 5 1 (.slice A n c) n (u8s xs)) : n = xs.length ∧ n ≤ c ∧ c ≤ maxLen ∧ Byt w (fun b => (Value.slice A n c).ownBlock = some b ∧ base ≤ b ∧ b < w.heap.size) A xs := by
  have hl : n = xs.length := by have := h.1; rw [u8s_length] at this; omega
  refine ⟨hl, ?_, ?_, fun j hj => ?_⟩
  · rcases h.2 with ⟨e, _⟩ | ⟨g, cap, cur, e, _, _, h1, _⟩
    · cases e; omega
    · cases e; exact h1
  · rcases h.2 with ⟨e, _⟩ | ⟨g, cap, cur, e, _, _, _, h1, _⟩
    · cases e; unfold maxLen; omega
    · cases e; exact h1
  · rcases h.2 with ⟨e, _⟩ | ⟨g, cap, cur, e, hb, hg, _⟩
    · cases e; omega
    · cases e
      have hlt : g < w.heap.size := (Array.getElem?_eq_some_iff.1 hg).1
      refine ⟨_, rfl, ⟨rfl, hb, hlt⟩, h.cells (g := g) rfl j _ ?_⟩
      unfold u8s
      rw [List.getElem?_map, List.getElem?_eq_getElem hj]
      rfl
end
/-- A row of the call's own, as a slice of bytes. -/
theorem own_form {w : World} {base n : Nat} {v : Value} {xs : List UInt8} (h : w.ownsRow base 5 1 v n (u8s xs)) :
    ∃ A c, v = .slice A xs.length c ∧ n = xs.length ∧ xs.length ≤ c ∧ c ≤ maxLen ∧ Byt w (fun b => v.ownBlock = some b ∧ base ≤ b ∧ b < w.heap.size) A xs := by
  rcases h.2 with ⟨rfl, rfl⟩ | ⟨g, cap, cur, rfl, _⟩
  · obtain ⟨h1, h2, h3, h4⟩ := Byt.of_own h
    exact ⟨none, 0, by rw [← h1], h1, by omega, h3, h4⟩
  · obtain ⟨h1, h2, h3, h4⟩ := Byt.of_own h
    exact ⟨_, cap, by rw [← h1], h1, by omega, h3, h4⟩
/-- A list of bytes' slices lies at A, all of it in blocks that are 'ok'. -/
def Lst (w : World) (ok : Nat → Prop) (A : Option Addr) (ps : List (List UInt8)) : Prop :=
  ∀ j (h : j < ps.length), ∃ ad A' c', A = some ad ∧ ok ad.block ∧ w.cell? (ad.add j) = some (.slice A' ps[j].length c') ∧ ps[j].length ≤ c' ∧ c' ≤ maxLen ∧ Byt w ok A' ps[j]
section
variable {w w' : World} {ok ok' : Nat → Prop} {A : Option Addr} {ps : List (List UInt8)}
theorem Lst.nil : Lst w ok A [] := fun _ h => absurd h (by simp)
theorem Lst.imp (h : Lst w ok A ps) (hi : ∀ b, ok b → ok' b) : Lst w ok' A ps := fun j hj => by
  obtain ⟨ad, A', c', e, ho, hc, h1, h2, h3⟩ := h j hj
  exact ⟨ad, A', c', e, hi _ ho, hc, h1, h2, h3.imp hi⟩
theorem Lst.keep (h : Lst w ok A ps) (hk : ∀ b, ok b → w'.heap[b]? = w.heap[b]?) : Lst w' ok A ps := fun j hj => by
  obtain ⟨ad, A', c', e, ho, hc, h1, h2, h3⟩ := h j hj
  exact ⟨ad, A', c', e, ho, (World.cell?_of_block (by rw [block_of_plus]; exact hk _ ho)).trans hc, h1, h2, h3.keep hk⟩
theorem Lst.below {B : Nat} (h : Lst w ok A ps) (hb : Below B w w') (hok : ∀ b, ok b → b < B) : Lst w' ok A ps := h.keep fun b hbb => hb.block b (hok b hbb)
end
section
variable {P : Program} (w : World)
/-- append onto a row of the call's own, whatever bytes come behind. -/
theorem run_append_byt (base : Nat) (t ty : TypeId) (i : TypeInfo) (z : Value) (ht : P.underlying t = some (.slice 5)) (hi : P.info? 5 = some i) (hz : i.zero = some z)
    (hsize : i.size = 1) (hby : i.bytes = 1) (hzs : z.cells.size = 1)
    (v : Value) (n : Nat) (ys : List UInt8) (hown : w.ownsRow base 5 1 v n (u8s ys)) (ok : Nat → Prop) (A : Option Addr) (c : Nat) (xs : List UInt8) (hr : Byt w ok A xs)
    (h63 : n + xs.length ≤ 140737488355328) (hbase : base ≤ w.heap.size) :
    ∃ v' w', (Builtin.append_ #[t, t] ty #[v, .slice A xs.length c]).run P w = .ok v' w' ∧ w'.ownsRow base 5 1 v' (n + xs.length) (u8s (ys ++ xs)) ∧ w.grownBy w' v.ownBlock ∧ (v'.ownBlock = v.ownBlock ∨ v'.ownBlock = some w.heap.size) := by
  rcases A with _ | ad
  · have : xs = [] := by
      rcases xs with _ | ⟨x, xs⟩
      · rfl
      · obtain ⟨_, e, _⟩ := hr 0 (by simp)
        cases e
    subst this
    refine ⟨v, w, ?_, by simpa using hown, World.grownBy.refl w _, .inl rfl⟩
    rcases hown.2 with ⟨rfl, rfl⟩ | ⟨g, cap, cur, rfl, _, _, hnc, _⟩
    · simp [Builtin.append_, run_underlying ht, sizeOf, typeInfo, hi, Builtin.lenOf, Builtin.firstCells]
    · simp [Builtin.append_, run_underlying ht, sizeOf, typeInfo, hi, Builtin.lenOf, Builtin.firstCells, hnc, storeCells]
  · have hcells : ∀ j u, (u8s xs)[j]? = some u → w.cell? (ad.add j) = some u := by
      intro j u hu
      obtain ⟨hj, rfl⟩ := u8s_get xs j u hu
      obtain ⟨ad', e, _, hc⟩ := hr j hj
      cases e
      exact hc
    obtain ⟨v', w', hrun, h2, h3, _, h5⟩ := run_append_own_at (P := P) w base t ty 5 i z 1 1 ht hi hz hsize hby hzs (by omega) v n (u8s ys) hown ad xs.length c (u8s xs) (by rw [u8s_length]; omega) hcells (u8s_one xs)
      (by unfold maxLen; omega) (by omega) hbase
    exact ⟨v', w', hrun, by rw [u8s_append]; exact h2, h3, h5⟩
theorem wpList_append_byt {ops : Array Oper} {rest : List Oper} {o : Oper} {a : Act} {Q : Exit → Act → World → Prop} (hgd : o.guard = none) (s x : Operand) (t : TypeId)
    (ho : o.op = .call { callee := .builtin .append, args := #[s, x], argTypes := #[t, t] })
    (base : Nat) (i : TypeInfo) (z : Value) (ht : P.underlying t = some (.slice 5)) (hi : P.info? 5 = some i) (hz : i.zero = some z)
    (hsize : i.size = 1) (hby : i.bytes = 1) (hzs : z.cells.size = 1)
    (v : Value) (n : Nat) (ys : List UInt8) (hs : a.eval s = v) (hown : w.ownsRow base 5 1 v n (u8s ys)) (ok : Nat → Prop) (A : Option Addr) (c : Nat) (xs : List UInt8) (hx : a.eval x = .slice A xs.length c) (hr : Byt w ok A xs)
    (h63 : n + xs.length ≤ 140737488355328) (hbase : base ≤ w.heap.size)
    (h : ∀ v' w', w'.ownsRow base 5 1 v' (n + xs.length) (u8s (ys ++ xs)) → w.grownBy w' v.ownBlock → (v'.ownBlock = v.ownBlock ∨ v'.ownBlock = some w.heap.size) → wpList P ops Q rest (a.put o.dst v') w') :
    wpList P ops Q (o :: rest) a w := by
  refine wpList_plain hgd fun K hK => ?_
  obtain ⟨v', w', hr, h2, h3, h4⟩ := run_append_byt (P := P) w base t o.type i z ht hi hz hsize hby hzs v n ys hown ok A c xs hr h63 hbase
  unfold Oper.wp execOp
  simp only [ho, resolve, invoke, builtin, Sem.run_bind, Sem.run_pure, Result.andThen_ok, List.map_toArray, List.map_cons, List.map_nil, hs, hx, hr]
  exact hK _ _ (h v' w' h2 h3 h4)
end
open Go.RowKit
theorem bool_end {a b : Bool} (h : a = b) : Ending.returned (.bool a) = .returned (.bool b) := by rw [h]
set_option maxHeartbeats 400000 in
theorem bytes_any {w : World} {ok ok' : Nat → Prop} {A B : Option Addr} {xs ys : List UInt8} {c d : Nat} (ha : Byt w ok A xs) (hb : Byt w ok' B ys) :
    Calls Tryd.prog 51 #[.slice A xs.length c, .slice B ys.length d] w fun e w' => e = .returned (.bool (decide (xs = ys))) ∧ w = w' := by
  have r1 := ha.str c
  have r2 := hb.str d
  go_enter Tryd.func51, Tryd.ntmps51
  go_wp2
  go_ret
  exact ⟨bool_end (by rw [Bool.eq_iff_iff]; simp), rfl⟩
/-- In new memory lies just xs. -/
def NewB (w : World) (xs : List UInt8) (e : Ending) (w' : World) : Prop :=
  ∃ A c, e = .returned (.slice A xs.length c) ∧ xs.length ≤ c ∧ c ≤ maxLen ∧ Byt w' (fun b => w.heap.size ≤ b ∧ b < w'.heap.size) A xs ∧ Below w.heap.size w w'
open Go.RowKit
/-- What a number's bytes are when its k last ones are written. -/
def part (s n k : Nat) : List UInt8 := (List.range s).map fun j => if s - k ≤ j then UInt8.ofNat (n / 256 ^ (s - 1 - j)) else 0
theorem part_length (s n k : Nat) : (part s n k).length = s := by simp [part]
theorem part_zero (s n : Nat) : part s n 0 = List.replicate s 0 := by
  apply List.ext_getElem (by simp [part])
  intro j h1 h2
  rw [part_length] at h1
  simp [part]
  omega
theorem part_all (s n : Nat) : part s n s = be s n := by
  apply List.ext_getElem (by simp [part, be_length])
  intro j h1 h2
  rw [part_length] at h1
  rw [be_get s n j h1]
  simp [part]
theorem part_step (s n k : Nat) (h : k < s) : (part s n k).set (s - 1 - k) (UInt8.ofNat (n / 256 ^ k)) = part s n (k + 1) := by
  apply List.ext_getElem (by simp [part])
  intro j h1 h2
  rw [part_length] at h2
  simp only [List.getElem_set, part, List.getElem_map, List.getElem_range]
  by_cases e : s - 1 - k = j
  · rw [if_pos e, if_pos (by omega), show s - 1 - j = k by omega]
  · rw [if_neg e]
    by_cases h3 : s - k ≤ j
    · rw [if_pos h3, if_pos (by omega)]
    · rw [if_neg h3, if_neg (by omega)]
theorem u8s_set (xs : List UInt8) (j : Nat) (x : UInt8) : (u8s xs).set j (.int .u8 (x.toNat : Int)) = u8s (xs.set j x) := by simp [u8s, List.map_set]
theorem made_u8 (s : Nat) : (madeCells #[Value.int .u8 0] s).toList = u8s (List.replicate s 0) := by
  rw [toList_madeCells_one]
  simp [u8s]
/-- Nothing is answered, and nothing has turned. -/
def noB : Ending := .returned (.tuple #[.slice none 0 0, .bool false])
/-- In new memory lies just xs; and 'yes'. -/
def YesB (w : World) (xs : List UInt8) (e : Ending) (w' : World) : Prop :=
  ∃ A c, e = .returned (.tuple #[.slice A xs.length c, .bool true]) ∧ xs.length ≤ c ∧ c ≤ maxLen ∧ Byt w' (fun b => w.heap.size ≤ b ∧ b < w'.heap.size) A xs ∧ Below w.heap.size w w'
theorem yesB_mk {w w' : World} {xs : List UInt8} {A : Option Addr} {n c : Nat} (hl : xs.length = n) (hc : n ≤ c) (hm : c ≤ maxLen) (hb : Byt w' (fun b => w.heap.size ≤ b ∧ b < w'.heap.size) A xs) (h : Below w.heap.size w w') :
    YesB w xs (.returned (.tuple #[.slice A n c, .bool true])) w' := by
  subst hl
  exact ⟨A, c, rfl, hc, hm, hb, h⟩
theorem pow8 (k : Nat) : (2 : Int) ^ (8 * k) = ((256 ^ k : Nat) : Int) := by
  rw [Int.pow_mul]; norm_cast
theorem shr_ne (n s : Nat) : ((n : Int) / 2 ^ (8 * s) != 0) = decide (256 ^ s ≤ n) := by
  rw [pow8, Bool.eq_iff_iff]
  have hp : 0 < 256 ^ s := Nat.pow_pos (by omega)
  have h : n / 256 ^ s = 0 ↔ n < 256 ^ s := Nat.div_eq_zero_iff_lt hp
  rw [show (n : Int) / ((256 ^ s : Nat) : Int) = ((n / 256 ^ s : Nat) : Int) from rfl, bne_iff_ne, decide_eq_true_iff]
  generalize n / 256 ^ s = q at h
  omega
theorem shr_byte (n k : Nat) : (n : Int) / 2 ^ (8 * k) % 256 = ((UInt8.ofNat (n / 256 ^ k)).toNat : Int) := by
  rw [pow8, u8_ofNat, show (n : Int) / ((256 ^ k : Nat) : Int) = ((n / 256 ^ k : Nat) : Int) from rfl]
  omega
set_option maxHeartbeats 800000 in
theorem put_yes (n s : Nat) (w : World) (h1 : 1 ≤ s) (h8 : s ≤ 8) (hn : n < 256 ^ s) :
    Calls Tryd.prog 54 #[.int .u64 n, .int .i64 s] w (YesB w (be s n)) := by
  have d1 : decide ((s : Int) < 1) = false := by simp; omega
  have d2 : decide (8 < (s : Int)) = false := by simp; omega
  have d3 : ((n : Int) / 2 ^ (8 * s) != 0) = false := by rw [shr_ne]; simpa using hn
  obtain ⟨i0, hi, hz0, hz1, hz2⟩ := info_parts Tryd.info5
  go_enter Tryd.func54, Tryd.ntmps54
  go_wp2_with (with_reducible refine wpList_make_full _ rfl _ _ 66 rfl w.heap.size 5 i0 (.int .u8 0) 1 Tryd.underlying66 hi hz0 hz1 .i64 .i64 _ _ s rfl rfl rfl rfl ?c1 ?c2 ?c3 ?_)
  case c1 => rw [hz2]; omega
  case c2 => unfold maxLen; omega
  case c3 => exact Nat.le_refl _
  intro w1 hown hgrow
  rw [made_u8, ← part_zero s n] at hown
  have hb1 : Below w.heap.size w w1 := (Below.refl _ _).grown hgrow (Nat.le_refl _) (fun _ h => by cases h)
  go_wp2
  go_loopw [25] (fun i wr => ∃ k : Nat, k ≤ s ∧ i = .int .i64 k ∧ wr.ownsRow w.heap.size 5 1 (.slice (some ⟨w.heap.size, 0, none⟩) s s) s (u8s (part s n k)) ∧ Below w.heap.size w wr) (fun i _ => s - (intOf i).toNat)
  case atStart => exact ⟨0, Nat.zero_le _, rfl, hown, hb1⟩
  case round =>
    obtain ⟨k, hk, rfl, ho, hb⟩ := hrel
    clear hown hgrow hb1
    by_cases hlt : k < s
    · have hc : wr.cell? ⟨w.heap.size, s - 1 - k, none⟩ = some (.int .u8 ((part s n k)[s - 1 - k]'(by rw [part_length]; omega)).toNat) := by
        rw [ho.cellAt (s - 1 - k) (by omega)]
        unfold u8s
        rw [List.getElem?_map, List.getElem?_eq_getElem (by rw [part_length]; omega)]
        rfl
      have hf := ho.frozenAt (s - 1 - k)
      go_wp2
      go_roundw
      case rel =>
        refine ⟨k + 1, by omega, by go_num, ?_, hb.setCell (Nat.le_refl _) _⟩
        have hs := (ho.stored (s - 1 - k) (.int .u8 ((UInt8.ofNat (n / 256 ^ k)).toNat : Int))).1
        rw [u8s_set, part_step s n k hlt] at hs
        rw [shr_byte]
        exact hs
      case measure => simp [intOf]; omega
    · obtain rfl : k = s := by omega
      rw [part_all] at ho
      obtain ⟨-, -, h4, h5⟩ := Byt.of_own ho
      have hl := be_length k n
      go_wp2
      go_ret2
      exact yesB_mk hl (Nat.le_refl _) h4 (h5.imp fun b hb => hb.2) hb
/-- Just xs in new memory, if the number has room; else nothing. -/
def MayB (w : World) (n s : Nat) (e : Ending) (w' : World) : Prop := (n < 256 ^ s ∧ YesB w (be s n) e w') ∨ (256 ^ s ≤ n ∧ e = noB ∧ Below w.heap.size w w')
set_option maxRecDepth 100000 in
set_option maxHeartbeats 800000 in
theorem refput_any (n s : Nat) (w : World) (h1 : 1 ≤ s) (h8 : s ≤ 8) (h64 : n < 18446744073709551616) :
    Calls Tryd.prog 52 #[.int .u64 n, .int .i64 s] w (MayB w n s) := by
  have d1 : decide ((s : Int) < 1) = false := by simp; omega
  have d2 : decide (8 < (s : Int)) = false := by simp; omega
  obtain ⟨i0, hi, hz0, hz1, hz2⟩ := info_parts Tryd.info5
  go_enter Tryd.func52, Tryd.ntmps52
  go_wp2_with (with_reducible refine wpList_make_full _ rfl _ _ 66 rfl w.heap.size 5 i0 (.int .u8 0) 1 Tryd.underlying66 hi hz0 hz1 .i64 .i64 _ _ s rfl rfl rfl rfl ?c1 ?c2 ?c3 ?_)
  case c1 => rw [hz2]; omega
  case c2 => unfold maxLen; omega
  case c3 => exact Nat.le_refl _
  intro w1 hown hgrow
  rw [made_u8, ← part_zero s n] at hown
  have hb1 : Below w.heap.size w w1 := (Below.refl _ _).grown hgrow (Nat.le_refl _) (fun _ h => by cases h)
  go_wp2
  go_loopw [0, 7] (fun m i wr => ∃ k : Nat, k ≤ s ∧ i = .int .i64 ((s : Int) - 1 - k) ∧ m = .int .u64 ((n / 256 ^ k : Nat) : Int) ∧ wr.ownsRow w.heap.size 5 1 (.slice (some ⟨w.heap.size, 0, none⟩) s s) s (u8s (part s n k)) ∧ Below w.heap.size w wr) (fun _ i _ => (intOf i + 1).toNat)
  case atStart => exact ⟨0, Nat.zero_le _, by simp, by simp, hown, hb1⟩
  case round =>
    obtain ⟨k, hk, rfl, rfl, ho, hb⟩ := hrel
    clear hown hgrow hb1
    obtain ⟨q, hq⟩ : ∃ q, n / 256 ^ k = q := ⟨_, rfl⟩
    have hq64 : q ≤ 18446744073709551615 := by rw [← hq]; exact Nat.le_trans (Nat.div_le_self _ _) (by omega)
    have hq256 : n / 256 ^ (k + 1) = q / 256 := by rw [← hq, Nat.pow_succ, Nat.div_div_eq_div_mul]
    rw [hq]
    have HQ := Lib.hid hq
    have HR := Lib.hid hq256
    clear hq hq256
    by_cases hlt : k < s
    · have hc : wr.cell? ⟨w.heap.size, s - 1 - k, none⟩ = some (.int .u8 ((part s n k)[s - 1 - k]'(by rw [part_length]; omega)).toNat) := by
        rw [ho.cellAt (s - 1 - k) (by omega)]
        unfold u8s
        rw [List.getElem?_map, List.getElem?_eq_getElem (by rw [part_length]; omega)]
        rfl
      have hf := ho.frozenAt (s - 1 - k)
      go_wp2
      go_roundw
      case rel =>
        refine ⟨k + 1, by omega, by go_num, by rw [HR.out]; go_num, ?_, hb.setCell (Nat.le_refl _) _⟩
        have hs := (ho.stored (s - 1 - k) (.int .u8 ((UInt8.ofNat (n / 256 ^ k)).toNat : Int))).1
        rw [u8s_set, part_step s n k hlt, u8_ofNat, HQ.out] at hs
        exact hs
      case measure => simp [intOf]; omega
    · obtain rfl : k = s := by omega
      rw [part_all] at ho
      obtain ⟨-, -, h4, h5⟩ := Byt.of_own ho
      have hl := be_length k n
      by_cases h0 : n < 256 ^ k
      · have e0 : q = 0 := by rw [← HQ.out]; exact Nat.div_eq_of_lt h0
        subst e0
        go_wp2
        go_ret2
        exact .inl ⟨h0, yesB_mk hl (Nat.le_refl _) h4 (h5.imp fun b hb => hb.2) hb⟩
      · have e0 : 0 < q := by rw [← HQ.out]; exact Nat.div_pos (by omega) (Nat.pow_pos (by omega))
        have d3 : ((q : Int) != 0) = true := by simp; omega
        go_wp2
        go_ret2
        exact .inr ⟨by omega, rfl, hb⟩
open Go.RowKit
set_option maxRecDepth 100000 in
set_option maxHeartbeats 400000 in
theorem num_any (n : Nat) (w : World) (hn : n ≤ 4096) : Calls Tryd.prog 45 #[.int .i64 n, .int .i64 2] w (NewB w (be 2 n)) := by
  go_enter Tryd.func45, Tryd.ntmps45
  go_wp2_with fail
  go_at_call 52
  refine (refput_any n 2 _ (by omega) (by omega) (by omega)).mono ?_
  rintro e w1 (⟨_, A, c, rfl, h1, h2, h3, h4⟩ | ⟨h, _⟩)
  · go_wp2
    go_ret
    exact ⟨A, c, rfl, h1, h2, h3, h4⟩
  · omega
theorem upto_step {ps : List (List UInt8)} {k : Nat} (h : ∀ j (h : j < ps.length), j < k → ps[j].length ≤ 4096) {hk : k < ps.length} (h1 : ps[k].length ≤ 4096) : ∀ j (h : j < ps.length), j < k + 1 → ps[j].length ≤ 4096 := by
  intro j hj hjk
  by_cases e : j = k
  · subst e; exact h1
  · exact h j hj (by omega)
theorem own_below {w w' : World} {base e size n : Nat} {v : Value} {xs : List Value} (h : w.ownsRow base e size v n xs) (hb : Below w.heap.size w w') : w'.ownsRow base e size v n xs :=
  h.kept (row := none) ⟨hb.os, hb.tape, hb.output, hb.size, fun i hi _ => hb.block i hi⟩ (by cases hv : v.ownBlock <;> simp)
/-- What is joined when k pieces are. -/
def jk (ps : List (List UInt8)) (k : Nat) : List UInt8 := UInt8.ofNat ps.length :: (ps.take k).flatMap enc
theorem jk_all (ps : List (List UInt8)) (k : Nat) (h : ps.length ≤ k) : jk ps k = jn ps := by rw [jk, List.take_of_length_le h]; rfl
theorem jk_step (ps : List (List UInt8)) (k : Nat) (h : k < ps.length) : jk ps (k + 1) = (jk ps k ++ [UInt8.ofNat (ps[k].length / 256), UInt8.ofNat ps[k].length]) ++ ps[k] := by
  rw [jk, List.take_succ_eq_append_getElem h, List.flatMap_append]
  simp [jk, enc]
theorem jk_length (ps : List (List UInt8)) (k : Nat) (h : Fit ps) (hk : k ≤ ps.length) : (jk ps k).length ≤ 1 + 4098 * k := by
  have h1 := flat_length (ps.take k) fun p hp => h.2 p (List.mem_of_mem_take hp)
  rw [List.length_take, Nat.min_eq_left hk] at h1
  simp only [jk, List.length_cons]
  omega
theorem byt_one (w : World) {a : Int} {x : UInt8} (ha : a = x.toNat) : Byt (w.alloc (.cells #[.int .u8 a] 5)) (fun _ => True) (some ⟨w.heap.size, 0, none⟩) [x] := by
  intro j hj
  obtain rfl : j = 0 := by simp at hj; omega
  subst ha
  exact ⟨_, rfl, trivial, by simp [go_sem]⟩
theorem byt_two (w : World) {a b : Int} {x y : UInt8} (ha : a = x.toNat) (hb : b = y.toNat) : Byt (w.alloc (.cells #[.int .u8 a, .int .u8 b] 5)) (fun _ => True) (some ⟨w.heap.size, 0, none⟩) [x, y] := by
  intro j hj
  subst ha
  subst hb
  have : j = 0 ∨ j = 1 := by simp at hj; omega
  rcases this with rfl | rfl
  · exact ⟨_, rfl, trivial, by simp [go_sem]⟩
  · exact ⟨_, rfl, trivial, by simp [go_sem]⟩
set_option maxRecDepth 100000 in
set_option maxHeartbeats 400000 in
theorem join_no {w : World} {ok : Nat → Prop} {A : Option Addr} {ps : List (List UInt8)} {c : Nat} (hx : Lst w ok A ps) (hm : ps.length ≤ maxLen) (hf : ¬ Fit ps) :
    Calls Tryd.prog 41 #[.slice A ps.length c] w fun e w' => e = noB ∧ w = w' := by
  unfold maxLen at hm
  by_cases h64 : 64 < ps.length
  · go_enter Tryd.func41, Tryd.ntmps41
    go_wp2
    go_ret2
    exact ⟨rfl, rfl⟩
  have HF := Lib.hid hf
  clear hf
  go_enter Tryd.func41, Tryd.ntmps41
  go_wp2
  go_loop [4, 15] (fun n i => ∃ (k : Nat) (z : Int), k ≤ ps.length ∧ i = .int .i64 k ∧ 1 ≤ z ∧ z ≤ 1 + 4098 * k ∧ n = .int .i64 z ∧ Hid (∀ j (h : j < ps.length), j < k → ps[j].length ≤ 4096)) (fun _ i => ps.length - (intOf i).toNat)
  case atStart => exact ⟨0, 1, Nat.zero_le _, rfl, by omega, by omega, rfl, fun j _ h => absurd h (by omega)⟩
  case round =>
    obtain ⟨k, z, hk, rfl, hz0, hz1, rfl, hall⟩ := hrel
    by_cases hlt : k < ps.length
    · obtain ⟨ad, A', c', rfl, _, hc, hl1, hl2, _⟩ := hx k hlt
      unfold maxLen at hl2
      by_cases hbig : 4096 < ps[k].length
      · go_wp2
        go_ret2
        exact ⟨rfl, rfl⟩
      · go_wp2
        go_round
        case rel => exact ⟨k + 1, _, by omega, by go_num, by omega, by omega, rfl, upto_step hall.out (by omega)⟩
        case measure => simp [intOf]; omega
    · exfalso
      refine HF.out ⟨by omega, fun p hp => ?_⟩
      obtain ⟨j, hj, rfl⟩ := List.getElem_of_mem hp
      exact hall.out j hj (by omega)
set_option maxRecDepth 100000 in
set_option maxHeartbeats 1000000 in
theorem join_yes {w : World} {ok : Nat → Prop} {A : Option Addr} {ps : List (List UInt8)} {c : Nat} (hx : Lst w ok A ps) (hok : ∀ b, ok b → b < w.heap.size) (hf : Fit ps) :
    Calls Tryd.prog 41 #[.slice A ps.length c] w (YesB w (jn ps)) := by
  have h64 := hf.1
  have HF := Lib.hid hf
  clear hf
  obtain ⟨i0, hi, hz0, hz1, hz2⟩ := info_parts Tryd.info5
  go_enter Tryd.func41, Tryd.ntmps41
  go_wp2
  go_loop [4, 15] (fun n i => ∃ (k : Nat) (z : Nat), k ≤ ps.length ∧ i = .int .i64 k ∧ 1 ≤ z ∧ z ≤ 1 + 4098 * k ∧ n = .int .i64 z) (fun _ i => ps.length - (intOf i).toNat)
  case atStart => exact ⟨0, 1, Nat.zero_le _, rfl, by omega, by omega, rfl⟩
  case round =>
    obtain ⟨k, z, hk, rfl, hs0, hs1, rfl⟩ := hrel
    by_cases hlt : k < ps.length
    · obtain ⟨ad, A', c', rfl, _, hc, hl1, hl2, _⟩ := hx k hlt
      have hp := HF.out.2 ps[k] (List.getElem_mem hlt)
      unfold maxLen at hl2
      go_wp2
      go_round
      case rel => exact ⟨k + 1, z + (2 + ps[k].length), by omega, by go_num, by omega, by omega, by go_num⟩
      case measure => simp [intOf]; omega
    · go_wp2_with (with_reducible refine wpList_make_own _ rfl _ _ 66 rfl w.heap.size 5 i0 (.int .u8 0) 1 Tryd.underlying66 hi hz0 hz1 .i64 .i64 _ z rfl rfl rfl ?c1 ?c2 ?c3 ?_)
      case c1 => omega
      case c2 => unfold maxLen; omega
      intro w1 hown hgrow
      have hb1 : Below w.heap.size w w1 := (Below.refl _ _).grown hgrow (Nat.le_refl _) (fun _ h => by cases h)
      have hown1 := hown.alloc (.cells #[.int .u8 (ps.length : Int)] 5)
      go_wp2_with (at_builtin; refine wpList_append_byt _ rfl _ _ 66 rfl w.heap.size i0 (.int .u8 0) Tryd.underlying66 hi hz0 hz1 hz2 rfl _ 0 [] rfl hown1 (fun _ => True) _ _ [UInt8.ofNat ps.length] rfl (byt_one w1 ?d1) ?d2 ?d3 ?_)
      case d1 => rw [u8_ofNat]; omega
      case d2 => simp
      case d3 => simp; have := hgrow.size; omega
      intro v' w2 hown2 hgrow2 hat2
      have hb2 : Below w.heap.size w w2 := by
        refine (hb1.alloc hb1.size _).grown hgrow2 (by simp; have := hgrow.size; omega) ?_
        intro g hg
        simp [Value.ownBlock] at hg
        omega
      have hstart : w2.ownsRow w.heap.size 5 1 v' (jk ps 0).length (u8s (jk ps 0)) := hown2
      clear hown2 hown1 hown hgrow hgrow2 hat2 hb1
      go_wp2
      go_loopw [7, 37] (fun v i wr => ∃ k : Nat, k ≤ ps.length ∧ i = .int .i64 k ∧ wr.ownsRow w.heap.size 5 1 v (jk ps k).length (u8s (jk ps k)) ∧ Below w.heap.size w wr) (fun _ i _ => ps.length - (intOf i).toNat)
      case atStart => exact ⟨0, Nat.zero_le _, rfl, hstart, hb2⟩
      case round =>
        clear hstart hb2
        obtain ⟨k, hk, rfl, hown, hb⟩ := hrel
        have hjl := jk_length ps k HF.out hk
        by_cases hlt : k < ps.length
        · obtain ⟨ad, A', c', rfl, hoka, hc0, hl1, hl2, hbyt⟩ := hx k hlt
          have hp := HF.out.2 ps[k] (List.getElem_mem hlt)
          have hc : wr.cell? (ad.add k) = some (.slice A' ps[k].length c') := (hb.cell (by rw [block_of_plus]; exact hok _ hoka)).trans hc0
          unfold maxLen at hl2
          clear hc0
          go_wp2_with (at_builtin; (refine wpList_append_byt _ rfl _ _ 66 rfl w.heap.size i0 (.int .u8 0) Tryd.underlying66 hi hz0 hz1 hz2 rfl _ _ _ rfl (hown.alloc _) (fun _ => True) _ _ [UInt8.ofNat (ps[k].length / 256), UInt8.ofNat ps[k].length] rfl (byt_two wr ?d1 ?d2) ?d3 ?d4 ?_))
          case d1 => rw [u8_ofNat]; omega
          case d2 => rw [u8_ofNat]; omega
          case d3 => simp; omega
          case d4 => simp; have := hb.size; omega
          intro v1 w3 hown3 hgrow3 hat3
          have hb3 : Below w.heap.size w w3 := (hb.alloc hb.size _).grown hgrow3 (by simp; have := hb.size; omega) fun g hg => (hown.lt g hg).1
          have hby3 : Byt w3 ok A' ps[k] := hbyt.below hb3 hok
          go_wp2_with (at_builtin; refine wpList_append_byt _ rfl _ _ 66 rfl w.heap.size i0 (.int .u8 0) Tryd.underlying66 hi hz0 hz1 hz2 rfl _ _ _ rfl hown3 ok A' _ ps[k] rfl hby3 ?d5 ?d6 ?_)
          case d5 => omega
          case d6 => exact hb3.size
          intro v2 w4 hown4 hgrow4 hat4
          have hb4 : Below w.heap.size w w4 := hb3.grown hgrow4 hb3.size fun g hg => (hown3.lt g hg).1
          have hend : w4.ownsRow w.heap.size 5 1 v2 (jk ps (k + 1)).length (u8s (jk ps (k + 1))) := by
            rw [jk_step ps k hlt]
            simpa [Nat.add_assoc, Nat.add_comm 2] using hown4
          clear hown hown3 hgrow3 hat3 hby3 hown4 hgrow4 hat4 hb hb3
          go_wp2
          go_roundw
          case rel => exact ⟨k + 1, by omega, by go_num, hend, hb4⟩
          case measure => simp [intOf]; omega
        · rw [jk_all ps k (by omega)] at hown
          obtain ⟨A', c', rfl, -, h2, h3, h4⟩ := own_form hown
          go_wp2
          go_ret2
          exact yesB_mk rfl h2 h3 (h4.imp fun b hb => hb.2) hb
/-- The joined text in new memory, if the list may be joined; else nothing. -/
def MayJ (w : World) (ps : List (List UInt8)) (e : Ending) (w' : World) : Prop := (Fit ps ∧ YesB w (jn ps) e w') ∨ (¬ Fit ps ∧ e = noB ∧ Below w.heap.size w w')
set_option maxRecDepth 100000 in
set_option maxHeartbeats 1000000 in
theorem refjoin_any {w : World} {ok : Nat → Prop} {A : Option Addr} {ps : List (List UInt8)} {c : Nat} (hx : Lst w ok A ps) (hok : ∀ b, ok b → b < w.heap.size) (hm : ps.length ≤ maxLen) :
    Calls Tryd.prog 35 #[.slice A ps.length c] w (MayJ w ps) := by
  unfold maxLen at hm
  by_cases h64 : 64 < ps.length
  · have hno : ¬ Fit ps := fun h => by have := h.1; omega
    have HN := Lib.hid hno
    clear hno
    go_enter Tryd.func35, Tryd.ntmps35
    go_wp2
    go_ret2
    exact .inr ⟨HN.out, rfl, Below.refl _ _⟩
  have hp64 : ps.length ≤ 64 := by omega
  clear h64
  obtain ⟨i0, hi, hz0, hz1, hz2⟩ := info_parts Tryd.info5
  have hb0 : Below w.heap.size w (w.alloc (.cells #[.int .u8 (ps.length : Int)] 5)) := (Below.refl _ _).alloc (Nat.le_refl _) _
  have hown0 : (w.alloc (.cells #[.int .u8 (ps.length : Int)] 5)).ownsRow w.heap.size 5 1 (.slice (some ⟨w.heap.size, 0, none⟩) 1 1) (jk ps 0).length (u8s (jk ps 0)) := by
    have h := World.ownsRow_lit (base := w.heap.size) (e := 5) (size := 1) w #[.int .u8 (ps.length : Int)] 1 (Nat.le_refl _) (by unfold maxLen; omega) rfl
    have e : (#[Value.int .u8 (ps.length : Int)]).toList = u8s (jk ps 0) := by
      simp [u8s, jk]
      omega
    rw [e] at h
    exact h
  go_enter Tryd.func35, Tryd.ntmps35
  go_wp2
  go_loopw [4, 5] (fun v i wr => ∃ k : Nat, k ≤ ps.length ∧ i = .int .i64 k ∧ wr.ownsRow w.heap.size 5 1 v (jk ps k).length (u8s (jk ps k)) ∧ Below w.heap.size w wr ∧ Hid (∀ j (h : j < ps.length), j < k → ps[j].length ≤ 4096)) (fun _ i _ => ps.length - (intOf i).toNat)
  case atStart => exact ⟨0, Nat.zero_le _, rfl, hown0, hb0, fun j _ h => absurd h (by omega)⟩
  case round =>
    clear hown0 hb0
    obtain ⟨k, hk, rfl, hown, hb, hall⟩ := hrel
    by_cases hlt : k < ps.length
    · obtain ⟨ad, A', c', rfl, hoka, hc0, hl1, hl2, hbyt⟩ := hx k hlt
      have hc : wr.cell? (ad.add k) = some (.slice A' ps[k].length c') := (hb.cell (by rw [block_of_plus]; exact hok _ hoka)).trans hc0
      unfold maxLen at hl2
      clear hc0
      by_cases hbig : 4096 < ps[k].length
      · have hno : Hid (¬ Fit ps) := fun h => by have := h.2 ps[k] (List.getElem_mem hlt); omega
        go_wp2
        go_ret2
        exact .inr ⟨hno.out, rfl, hb⟩
      · have hjl : (jk ps k).length ≤ 1 + 4098 * k := by
          have h1 := flat_length (ps.take k) fun p hp => by
            obtain ⟨j, hj, rfl⟩ := List.getElem_of_mem hp
            have hj' : j < k ∧ j < ps.length := by simp at hj; omega
            have := hall.out j hj'.2 hj'.1
            simpa using this
          rw [List.length_take, Nat.min_eq_left hk] at h1
          simp only [jk, List.length_cons]
          omega
        go_wp2_with fail
        go_at_call 45
        refine (num_any ps[k].length _ (by omega)).mono ?_
        rintro e w2 ⟨A2, c2, rfl, hc21, hc22, hby2, hb2⟩
        have hb2' : Below w.heap.size w w2 := hb.trans (hb2.mono hb.size)
        have hown2 := own_below hown hb2
        go_wp2_with (at_builtin; refine wpList_append_byt _ rfl _ _ 66 rfl w.heap.size i0 (.int .u8 0) Tryd.underlying66 hi hz0 hz1 hz2 rfl _ _ _ rfl hown2 (fun b => wr.heap.size ≤ b ∧ b < w2.heap.size) A2 _ (be 2 ps[k].length) rfl hby2 ?d3 ?d4 ?_)
        case d3 => rw [be_length]; omega
        case d4 => exact hb2'.size
        intro v1 w3 hown3 hgrow3 hat3
        have hb3 : Below w.heap.size w w3 := hb2'.grown hgrow3 hb2'.size fun g hg => (hown2.lt g hg).1
        have hby3 : Byt w3 ok A' ps[k] := hbyt.below hb3 hok
        have hc3 : w3.cell? (ad.add k) = some (.slice A' ps[k].length c') := (hb3.cell (by rw [block_of_plus]; exact hok _ hoka)).trans ((hb.cell (by rw [block_of_plus]; exact hok _ hoka)).symm.trans hc)
        go_wp2_with (at_builtin; refine wpList_append_byt _ rfl _ _ 66 rfl w.heap.size i0 (.int .u8 0) Tryd.underlying66 hi hz0 hz1 hz2 rfl _ _ _ rfl hown3 ok A' _ ps[k] rfl hby3 ?d5 ?d6 ?_)
        case d5 => rw [be_length]; omega
        case d6 => exact hb3.size
        intro v2 w4 hown4 hgrow4 hat4
        have hb4 : Below w.heap.size w w4 := hb3.grown hgrow4 hb3.size fun g hg => (hown3.lt g hg).1
        have hend : w4.ownsRow w.heap.size 5 1 v2 (jk ps (k + 1)).length (u8s (jk ps (k + 1))) := by
          rw [jk_step ps k hlt]
          simpa [be, be_length, Nat.add_assoc, Nat.add_comm 2] using hown4
        clear hown hown3 hgrow3 hat3 hby3 hown4 hgrow4 hat4 hb hb3 hown2 hb2 hb2' hc3 hc
        have hup := upto_step (hk := hlt) hall.out (by omega)
        have HUP := Lib.hid hup
        clear hup
        go_wp2
        go_roundw
        case rel => exact ⟨k + 1, by omega, by go_num, hend, hb4, HUP⟩
        case measure => simp [intOf]; omega
    · rw [jk_all ps k (by omega)] at hown
      have hfit : Hid (Fit ps) := ⟨hp64, fun p hp => by
        obtain ⟨j, hj, rfl⟩ := List.getElem_of_mem hp
        exact hall.out j hj (by omega)⟩
      obtain ⟨A', c', rfl, -, h2, h3, h4⟩ := own_form hown
      go_wp2
      go_ret2
      exact .inl ⟨hfit.out, yesB_mk rfl h2 h3 (h4.imp fun b hb => hb.2) hb⟩
end Go.Proofs.YtdnkeaokgkiloaaDoor.T
