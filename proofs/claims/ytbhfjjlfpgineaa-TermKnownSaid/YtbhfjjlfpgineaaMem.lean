/- What a slice of bytes, and a slice of slices of bytes, reads as in memory: how that is kept, made into a string, and appended. Conditions: none. -/
import Derived.Test.YtbhfjjlfpgineaaMath
import Derived.Test.YtbhfjjlfpgineaaRows
import Derived.WalkKit
import Derived.WalkSpells
import Derived.WalkLawsBesides
import Derived.Maps.AppendAt
import Derived.IntWalk
import Derived.Lib.Hide
namespace Go.Proofs.Ytbhfjjlfpgineaa
open Go.RowKit

theorem Try.info5 : (Try.prog.info? 5).map (fun i => (i.zero, i.size, i.bytes)) = some (some (.int .u8 0), 1, 1) := by kernel_rfl
theorem Try.info41 : (Try.prog.info? 41).map (fun i => (i.zero, i.size, i.bytes)) = some (some (.slice none 0 0), 1, 24) := by kernel_rfl

/-- Bytes as values. -/
def u8s (xs : List UInt8) : List Value := xs.map fun x => Value.int .u8 (x.toNat : Int)
theorem u8s_append (xs ys : List UInt8) : u8s (xs ++ ys) = u8s xs ++ u8s ys := by simp [u8s]
theorem u8s_length (xs : List UInt8) : (u8s xs).length = xs.length := by simp [u8s]
theorem u8s_get (xs : List UInt8) (j : Nat) (v : Value) (h : (u8s xs)[j]? = some v) : ∃ hj : j < xs.length, v = .int .u8 (xs[j].toNat : Int) := by
  unfold u8s at h
  rw [List.getElem?_map] at h
  by_cases hj : j < xs.length
  · rw [List.getElem?_eq_getElem hj] at h
    exact ⟨hj, by simpa using h.symm⟩
  · rw [List.getElem?_eq_none (by omega)] at h; simp at h
theorem u8s_one (xs : List UInt8) : ∀ u ∈ u8s xs, u.oneCell' = true := by
  intro u hu
  obtain ⟨x, _, rfl⟩ := List.mem_map.1 hu
  rfl

/-- The bytes xs lie at A, in blocks that are 'ok'. -/
def Byt (w : World) (ok : Nat → Prop) (A : Option Addr) (xs : List UInt8) : Prop :=
  ∀ j (h : j < xs.length), ∃ ad, A = some ad ∧ ok ad.block ∧ w.cell? (ad.add j) = some (.int .u8 (xs[j].toNat : Int))

section
variable {w w' : World} {ok ok' : Nat → Prop} {A : Option Addr} {xs : List UInt8}
theorem Byt.nil : Byt w ok A [] := fun _ h => absurd h (by simp)
theorem Byt.some_ (h : Byt w ok A xs) (hl : 0 < xs.length) : ∃ ad, A = some ad ∧ ok ad.block ∧ ∀ j (h : j < xs.length), w.cell? (ad.add j) = some (.int .u8 (xs[j].toNat : Int)) := by
  obtain ⟨ad, rfl, hok, _⟩ := h 0 hl
  refine ⟨ad, rfl, hok, fun j hj => ?_⟩
  obtain ⟨ad', e, _, hc⟩ := h j hj
  cases e
  exact hc
theorem Byt.imp (h : Byt w ok A xs) (hi : ∀ b, ok b → ok' b) : Byt w ok' A xs := fun j hj => by
  obtain ⟨ad, e, ho, hc⟩ := h j hj
  exact ⟨ad, e, hi _ ho, hc⟩
theorem block_of_plus (a : Addr) (n : Nat) : (a.add n).block = a.block := by unfold Addr.add; split <;> rfl
theorem Byt.keep (h : Byt w ok A xs) (hk : ∀ b, ok b → w'.heap[b]? = w.heap[b]?) : Byt w' ok A xs := fun j hj => by
  obtain ⟨ad, e, ho, hc⟩ := h j hj
  exact ⟨ad, e, ho, (World.cell?_of_block (by rw [block_of_plus]; exact hk _ ho)).trans hc⟩
theorem Byt.below {B : Nat} (h : Byt w ok A xs) (hb : Below B w w') (hok : ∀ b, ok b → b < B) : Byt w' ok A xs := h.keep fun b hbb => hb.block b (hok b hbb)
theorem Byt.grown {row : Option Nat} (h : Byt w ok A xs) (hg : w.grownBy w' row) (hok : ∀ b, ok b → b < w.heap.size ∧ some b ≠ row) : Byt w' ok A xs := h.keep fun b hbb => hg.block b (hok b hbb).1 (hok b hbb).2
theorem plus_plus (a : Addr) (i j : Nat) : (a.add i).add j = a.add (i + j) := by
  by_cases hi : i = 0 <;> by_cases hj : j = 0 <;> simp [Addr.add, hi, hj, Nat.add_assoc]
theorem Byt.drop {k c : Nat} (h : Byt w ok A xs) (hk : k ≤ xs.length) (hc : xs.length ≤ c) : Byt w ok (if c = k then A else A.map (·.add k)) (xs.drop k) := fun j hj => by
  have hj' : k + j < xs.length := by simp at hj; omega
  obtain ⟨ad, rfl, ho, hcell⟩ := h (k + j) hj'
  rw [if_neg (by omega)]
  refine ⟨ad.add k, rfl, by rw [block_of_plus]; exact ho, ?_⟩
  rw [plus_plus, hcell]
  simp
theorem Byt.take (h : Byt w ok A xs) (k : Nat) : Byt w ok A (xs.take k) := fun j hj => by
  have hj' : j < xs.length := by simp at hj; omega
  obtain ⟨ad, rfl, ho, hcell⟩ := h j hj'
  refine ⟨ad, rfl, ho, ?_⟩
  rw [hcell]
  simp
theorem Byt.str (h : Byt w ok A xs) (c : Nat) : (convert 41 9 (.slice A xs.length c)).run Try.prog w = .ok (.string ⟨xs.toArray⟩) w := by
  rcases A with _ | ad
  · have : xs = [] := by
      rcases xs with _ | ⟨x, xs⟩
      · rfl
      · obtain ⟨_, e, _⟩ := h 0 (by simp)
        cases e
    subst this
    rw [run_convert_bytes_nil w 41 5 Try.underlying41 Try.underlying5 _ _ 9 Try.underlying9]
    rfl
  · refine run_convert_bytes_back w 41 9 5 ad c xs Try.underlying41 Try.underlying5 Try.underlying9 fun j hj => ?_
    obtain ⟨ad', e, _, hc⟩ := h j hj
    cases e
    exact hc

/-- What a row of the call's own reads as. -/
theorem Byt.of_own {base n c : Nat} (h : w.ownsRow base 5 1 (.slice A n c) n (u8s xs)) : n = xs.length ∧ n ≤ c ∧ c ≤ maxLen ∧ Byt w (fun b => (Value.slice A n c).ownBlock = some b ∧ base ≤ b ∧ b < w.heap.size) A xs := by
  have hl : n = xs.length := by have := h.1; rw [u8s_length] at this; omega
  refine ⟨hl, ?_, ?_, fun j hj => ?_⟩
  · rcases h.2 with ⟨e, _⟩ | ⟨g, cap, cur, e, _, _, h1, _⟩
    · cases e; omega
    · cases e; exact h1
  · rcases h.2 with ⟨e, _⟩ | ⟨g, cap, cur, e, _, _, _, h1, _⟩
    · cases e; unfold maxLen; omega
    · cases e; exact h1
  · rcases h.2 with ⟨e, _⟩ | ⟨g, cap, cur, e, hb, hg, _⟩
    · cases e; omega
    · cases e
      have hlt : g < w.heap.size := (Array.getElem?_eq_some_iff.1 hg).1
      refine ⟨_, rfl, ⟨rfl, hb, hlt⟩, h.cells (g := g) rfl j _ ?_⟩
      unfold u8s
      rw [List.getElem?_map, List.getElem?_eq_getElem hj]
      rfl
end

/-- A row of the call's own, as a slice of bytes. -/
theorem own_form {w : World} {base n : Nat} {v : Value} {xs : List UInt8} (h : w.ownsRow base 5 1 v n (u8s xs)) :
    ∃ A c, v = .slice A xs.length c ∧ n = xs.length ∧ xs.length ≤ c ∧ c ≤ maxLen ∧ Byt w (fun b => v.ownBlock = some b ∧ base ≤ b ∧ b < w.heap.size) A xs := by
  rcases h.2 with ⟨rfl, rfl⟩ | ⟨g, cap, cur, rfl, _⟩
  · obtain ⟨h1, h2, h3, h4⟩ := Byt.of_own h
    exact ⟨none, 0, by rw [← h1], h1, by omega, h3, h4⟩
  · obtain ⟨h1, h2, h3, h4⟩ := Byt.of_own h
    exact ⟨_, cap, by rw [← h1], h1, by omega, h3, h4⟩

/-- A list of bytes' slices lies at A, all of it in blocks that are 'ok'. -/
def Lst (w : World) (ok : Nat → Prop) (A : Option Addr) (ps : List (List UInt8)) : Prop :=
  ∀ j (h : j < ps.length), ∃ ad A' c', A = some ad ∧ ok ad.block ∧ w.cell? (ad.add j) = some (.slice A' ps[j].length c') ∧ ps[j].length ≤ c' ∧ c' ≤ maxLen ∧ Byt w ok A' ps[j]

section
variable {w w' : World} {ok ok' : Nat → Prop} {A : Option Addr} {ps : List (List UInt8)}
theorem Lst.nil : Lst w ok A [] := fun _ h => absurd h (by simp)
theorem Lst.imp (h : Lst w ok A ps) (hi : ∀ b, ok b → ok' b) : Lst w ok' A ps := fun j hj => by
  obtain ⟨ad, A', c', e, ho, hc, h1, h2, h3⟩ := h j hj
  exact ⟨ad, A', c', e, hi _ ho, hc, h1, h2, h3.imp hi⟩
theorem Lst.keep (h : Lst w ok A ps) (hk : ∀ b, ok b → w'.heap[b]? = w.heap[b]?) : Lst w' ok A ps := fun j hj => by
  obtain ⟨ad, A', c', e, ho, hc, h1, h2, h3⟩ := h j hj
  exact ⟨ad, A', c', e, ho, (World.cell?_of_block (by rw [block_of_plus]; exact hk _ ho)).trans hc, h1, h2, h3.keep hk⟩
theorem Lst.below {B : Nat} (h : Lst w ok A ps) (hb : Below B w w') (hok : ∀ b, ok b → b < B) : Lst w' ok A ps := h.keep fun b hbb => hb.block b (hok b hbb)
end

section
variable {P : Program} (w : World)

/-- append onto a row of the call's own, whatever bytes come behind. -/
theorem run_append_byt (base : Nat) (t ty : TypeId) (i : TypeInfo) (z : Value) (ht : P.underlying t = some (.slice 5)) (hi : P.info? 5 = some i) (hz : i.zero = some z)
    (hsize : i.size = 1) (hby : i.bytes = 1) (hzs : z.cells.size = 1)
    (v : Value) (n : Nat) (ys : List UInt8) (hown : w.ownsRow base 5 1 v n (u8s ys)) (ok : Nat → Prop) (A : Option Addr) (c : Nat) (xs : List UInt8) (hr : Byt w ok A xs)
    (h63 : n + xs.length ≤ 140737488355328) (hbase : base ≤ w.heap.size) :
    ∃ v' w', (Builtin.append_ #[t, t] ty #[v, .slice A xs.length c]).run P w = .ok v' w' ∧ w'.ownsRow base 5 1 v' (n + xs.length) (u8s (ys ++ xs)) ∧ w.grownBy w' v.ownBlock ∧ (v'.ownBlock = v.ownBlock ∨ v'.ownBlock = some w.heap.size) := by
  rcases A with _ | ad
  · have : xs = [] := by
      rcases xs with _ | ⟨x, xs⟩
      · rfl
      · obtain ⟨_, e, _⟩ := hr 0 (by simp)
        cases e
    subst this
    refine ⟨v, w, ?_, by simpa using hown, World.grownBy.refl w _, .inl rfl⟩
    rcases hown.2 with ⟨rfl, rfl⟩ | ⟨g, cap, cur, rfl, _, _, hnc, _⟩
    · simp [Builtin.append_, run_underlying ht, sizeOf, typeInfo, hi, Builtin.lenOf, Builtin.firstCells]
    · simp [Builtin.append_, run_underlying ht, sizeOf, typeInfo, hi, Builtin.lenOf, Builtin.firstCells, hnc, storeCells]
  · have hcells : ∀ j u, (u8s xs)[j]? = some u → w.cell? (ad.add j) = some u := by
      intro j u hu
      obtain ⟨hj, rfl⟩ := u8s_get xs j u hu
      obtain ⟨ad', e, _, hc⟩ := hr j hj
      cases e
      exact hc
    obtain ⟨v', w', hrun, h2, h3, _, h5⟩ := run_append_own_at (P := P) w base t ty 5 i z 1 1 ht hi hz hsize hby hzs (by omega) v n (u8s ys) hown ad xs.length c (u8s xs) (by rw [u8s_length]; omega) hcells (u8s_one xs)
      (by unfold maxLen; omega) (by omega) hbase
    exact ⟨v', w', hrun, by rw [u8s_append]; exact h2, h3, h5⟩

theorem wpList_append_byt {ops : Array Oper} {rest : List Oper} {o : Oper} {a : Act} {Q : Exit → Act → World → Prop} (hgd : o.guard = none) (s x : Operand) (t : TypeId)
    (ho : o.op = .call { callee := .builtin .append, args := #[s, x], argTypes := #[t, t] })
    (base : Nat) (i : TypeInfo) (z : Value) (ht : P.underlying t = some (.slice 5)) (hi : P.info? 5 = some i) (hz : i.zero = some z)
    (hsize : i.size = 1) (hby : i.bytes = 1) (hzs : z.cells.size = 1)
    (v : Value) (n : Nat) (ys : List UInt8) (hs : a.eval s = v) (hown : w.ownsRow base 5 1 v n (u8s ys)) (ok : Nat → Prop) (A : Option Addr) (c : Nat) (xs : List UInt8) (hx : a.eval x = .slice A xs.length c) (hr : Byt w ok A xs)
    (h63 : n + xs.length ≤ 140737488355328) (hbase : base ≤ w.heap.size)
    (h : ∀ v' w', w'.ownsRow base 5 1 v' (n + xs.length) (u8s (ys ++ xs)) → w.grownBy w' v.ownBlock → (v'.ownBlock = v.ownBlock ∨ v'.ownBlock = some w.heap.size) → wpList P ops Q rest (a.put o.dst v') w') :
    wpList P ops Q (o :: rest) a w := by
  refine wpList_plain hgd fun K hK => ?_
  obtain ⟨v', w', hr, h2, h3, h4⟩ := run_append_byt (P := P) w base t o.type i z ht hi hz hsize hby hzs v n ys hown ok A c xs hr h63 hbase
  unfold Oper.wp execOp
  simp only [ho, resolve, invoke, builtin, Sem.run_bind, Sem.run_pure, Result.andThen_ok, List.map_toArray, List.map_cons, List.map_nil, hs, hx, hr]
  exact hK _ _ (h v' w' h2 h3 h4)
end
end Go.Proofs.Ytbhfjjlfpgineaa
