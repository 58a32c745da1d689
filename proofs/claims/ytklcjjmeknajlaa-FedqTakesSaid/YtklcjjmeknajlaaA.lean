/- Bytes and lists of bytes in memory, how they are put together; octet.Join; blocks as lists of cells; a row of lists of bytes that a call puts together. Conditions: none. -/
import Derived.Test.YtklcjjmeknajlaaRows
import Derived.WalkKit
import Derived.WalkSpells
import Derived.WalkLawsBesides
import Derived.Maps.AppendAt
import Derived.IntWalk
import Derived.Lib.Hide
import Derived.Laws.CopyOwn
import Derived.Lib.SliceRun
import Derived.Deep.CutRange
import Derived.Deep.MidRow
import Derived.ArgAppend
import Derived.Deep.RegionHeld3
import Derived.Deep.AppendLies
namespace Go.Proofs.Ytklcjjmeknajlaa
theorem u8_ofNat (n : Nat) : (UInt8.ofNat n).toNat = n % 256 := by simp
/-- A piece with its length ahead. -/
def enc (p : List UInt8) : List UInt8 := UInt8.ofNat (p.length / 256) :: UInt8.ofNat p.length :: p
theorem enc_length (p : List UInt8) : (enc p).length = p.length + 2 := rfl
/-- The joined text of a list. -/
def jn (ps : List (List UInt8)) : List UInt8 := UInt8.ofNat ps.length :: ps.flatMap enc
/-- A list that may be joined. -/
def Fit (ps : List (List UInt8)) : Prop := ps.length ≤ 64 ∧ ∀ p ∈ ps, p.length ≤ 4096
instance (ps : List (List UInt8)) : Decidable (Fit ps) := by unfold Fit; exact inferInstance
theorem flat_length : ∀ ps : List (List UInt8), (∀ p ∈ ps, p.length ≤ 4096) → (ps.flatMap enc).length ≤ 4098 * ps.length
  | [], _ => by simp
  | p :: ps, h => by
    have h1 := flat_length ps fun q hq => h q (by simp [hq])
    have h2 := h p (by simp)
    simp only [List.flatMap_cons, List.length_append, enc_length, List.length_cons]
    omega
theorem jn_length (ps : List (List UInt8)) (h : Fit ps) : (jn ps).length ≤ 262273 := by
  have := flat_length ps h.2
  have := h.1
  simp only [jn, List.length_cons]
  omega
open Go.RowKit
theorem Try.info5 : (Try.prog.info? 5).map (fun i => (i.zero, i.size, i.bytes)) = some (some (.int .u8 0), 1, 1) := by kernel_rfl
theorem Try.info37 : (Try.prog.info? 37).map (fun i => (i.zero, i.size, i.bytes)) = some (some (.slice none 0 0), 1, 24) := by kernel_rfl
/-- Bytes as values. -/
def u8s (xs : List UInt8) : List Value := xs.map fun x => Value.int .u8 (x.toNat : Int)
theorem u8s_append (xs ys : List UInt8) : u8s (xs ++ ys) = u8s xs ++ u8s ys := by simp [u8s]
theorem u8s_length (xs : List UInt8) : (u8s xs).length = xs.length := by simp [u8s]
theorem u8s_get (xs : List UInt8) (j : Nat) (v : Value) (h : (u8s xs)[j]? = some v) : ∃ hj : j < xs.length, v = .int .u8 (xs[j].toNat : Int) := by
  unfold u8s at h
  rw [List.getElem?_map] at h
  by_cases hj : j < xs.length
  · rw [List.getElem?_eq_getElem hj] at h
    exact ⟨hj, by simpa using h.symm⟩
  · rw [List.getElem?_eq_none (by omega)] at h; simp at h
theorem u8s_one (xs : List UInt8) : ∀ u ∈ u8s xs, u.oneCell' = true := by
  intro u hu
  obtain ⟨x, _, rfl⟩ := List.mem_map.1 hu
  rfl
/-- The bytes xs lie at A, in blocks that are 'ok'. -/
def Byt (w : World) (ok : Nat → Prop) (A : Option Addr) (xs : List UInt8) : Prop :=
  ∀ j (h : j < xs.length), ∃ ad, A = some ad ∧ ok ad.block ∧ w.cell? (ad.add j) = some (.int .u8 (xs[j].toNat : Int))
section
variable {w w' : World} {ok ok' : Nat → Prop} {A : Option Addr} {xs : List UInt8}
theorem Byt.nil : Byt w ok A [] := fun _ h => absurd h (by simp)
theorem Byt.some_ (h : Byt w ok A xs) (hl : 0 < xs.length) : ∃ ad, A = some ad ∧ ok ad.block ∧ ∀ j (h : j < xs.length), w.cell? (ad.add j) = some (.int .u8 (xs[j].toNat : Int)) := by
  obtain ⟨ad, rfl, hok, _⟩ := h 0 hl
  refine ⟨ad, rfl, hok, fun j hj => ?_⟩
  obtain ⟨ad', e, _, hc⟩ := h j hj
  cases e
  exact hc
theorem Byt.imp (h : Byt w ok A xs) (hi : ∀ b, ok b → ok' b) : Byt w ok' A xs := fun j hj => by
  obtain ⟨ad, e, ho, hc⟩ := h j hj
  exact ⟨ad, e, hi _ ho, hc⟩
theorem block_of_plus (a : Addr) (n : Nat) : (a.add n).block = a.block := by unfold Addr.add; split <;> rfl
theorem Byt.keep (h : Byt w ok A xs) (hk : ∀ b, ok b → w'.heap[b]? = w.heap[b]?) : Byt w' ok A xs := fun j hj => by
  obtain ⟨ad, e, ho, hc⟩ := h j hj
  exact ⟨ad, e, ho, (World.cell?_of_block (by rw [block_of_plus]; exact hk _ ho)).trans hc⟩
theorem Byt.below {B : Nat} (h : Byt w ok A xs) (hb : Below B w w') (hok : ∀ b, ok b → b < B) : Byt w' ok A xs := h.keep fun b hbb => hb.block b (hok b hbb)
theorem Byt.grown {row : Option Nat} (h : Byt w ok A xs) (hg : w.grownBy w' row) (hok : ∀ b, ok b → b < w.heap.size ∧ some b ≠ row) : Byt w' ok A xs := h.keep fun b hbb => hg.block b (hok b hbb).1 (hok b hbb).2
theorem plus_plus (a : Addr) (i j : Nat) : (a.add i).add j = a.add (i + j) := by
  by_cases hi : i = 0 <;> by_cases hj : j = 0 <;> simp [Addr.add, hi, hj, Nat.add_assoc]
theorem Byt.drop {k c : Nat} (h : Byt w ok A xs) (hk : k ≤ xs.length) (hc : xs.length ≤ c) : Byt w ok (if c = k then A else A.map (·.add k)) (xs.drop k) := fun j hj => by
  have hj' : k + j < xs.length := by simp at hj; omega
  obtain ⟨ad, rfl, ho, hcell⟩ := h (k + j) hj'
  rw [if_neg (by omega)]
  refine ⟨ad.add k, rfl, by rw [block_of_plus]; exact ho, ?_⟩
  rw [plus_plus, hcell]
  simp
theorem Byt.take (h : Byt w ok A xs) (k : Nat) : Byt w ok A (xs.take k) := fun j hj => by
  have hj' : j < xs.length := by simp at hj; omega
  obtain ⟨ad, rfl, ho, hcell⟩ := h j hj'
  refine ⟨ad, rfl, ho, ?_⟩
  rw [hcell]
  simp
/-- What a row of the call's own reads as. -/
theorem Byt.of_own {base n c : Nat} (h : w.ownsRow base 5 1 (.slice A n c) n (u8s xs)) : n = xs.length ∧ n ≤ c ∧ c ≤ maxLen ∧ Byt w (fun b => (Value.slice A n c).ownBlock = some b ∧ base ≤ b ∧ b < w.heap.size) A xs := by
  have hl : n = xs.length := by have := h.1; rw [u8s_length] at this; omega
  refine ⟨hl, ?_, ?_, fun j hj => ?_⟩
  · rcases h.2 with ⟨e, _⟩ | ⟨g, cap, cur, e, _, _, h1, _⟩
    · cases e; omega
    · cases e; exact h1
  · rcases h.2 with ⟨e, _⟩ | ⟨g, cap, cur, e, _, _, _, h1, _⟩
    · cases e; unfold maxLen; omega
    · cases e; exact h1
  · rcases h.2 with ⟨e, _⟩ | ⟨g, cap, cur, e, hb, hg, _⟩
    · cases e; omega
    · cases e
      have hlt : g < w.heap.size := (Array.getElem?_eq_some_iff.1 hg).1
      refine ⟨_, rfl, ⟨rfl, hb, hlt⟩, h.cells (g := g) rfl j _ ?_⟩
      unfold u8s
      rw [List.getElem?_map, List.getElem?_eq_getElem hj]
      rfl
end
/-- A row of the call's own, as a slice of bytes. -/
theorem own_form {w : World} {base n : Nat} {v : Value} {xs : List UInt8} (h : w.ownsRow base 5 1 v n (u8s xs)) :
    ∃ A c, v = .slice A xs.length c ∧ n = xs.length ∧ xs.length ≤ c ∧ c ≤ maxLen ∧ Byt w (fun b => v.ownBlock = some b ∧ base ≤ b ∧ b < w.heap.size) A xs := by
  rcases h.2 with ⟨rfl, rfl⟩ | ⟨g, cap, cur, rfl, _⟩
  · obtain ⟨h1, h2, h3, h4⟩ := Byt.of_own h
    exact ⟨none, 0, by rw [← h1], h1, by omega, h3, h4⟩
  · obtain ⟨h1, h2, h3, h4⟩ := Byt.of_own h
    exact ⟨_, cap, by rw [← h1], h1, by omega, h3, h4⟩
/-- A list of bytes' slices lies at A, all of it in blocks that are 'ok'. -/
def Lst (w : World) (ok : Nat → Prop) (A : Option Addr) (ps : List (List UInt8)) : Prop :=
  ∀ j (h : j < ps.length), ∃ ad A' c', A = some ad ∧ ok ad.block ∧ w.cell? (ad.add j) = some (.slice A' ps[j].length c') ∧ ps[j].length ≤ c' ∧ c' ≤ maxLen ∧ Byt w ok A' ps[j]
section
variable {w w' : World} {ok ok' : Nat → Prop} {A : Option Addr} {ps : List (List UInt8)}
theorem Lst.nil : Lst w ok A [] := fun _ h => absurd h (by simp)
theorem Lst.imp (h : Lst w ok A ps) (hi : ∀ b, ok b → ok' b) : Lst w ok' A ps := fun j hj => by
  obtain ⟨ad, A', c', e, ho, hc, h1, h2, h3⟩ := h j hj
  exact ⟨ad, A', c', e, hi _ ho, hc, h1, h2, h3.imp hi⟩
theorem Lst.keep (h : Lst w ok A ps) (hk : ∀ b, ok b → w'.heap[b]? = w.heap[b]?) : Lst w' ok A ps := fun j hj => by
  obtain ⟨ad, A', c', e, ho, hc, h1, h2, h3⟩ := h j hj
  exact ⟨ad, A', c', e, ho, (World.cell?_of_block (by rw [block_of_plus]; exact hk _ ho)).trans hc, h1, h2, h3.keep hk⟩
theorem Lst.below {B : Nat} (h : Lst w ok A ps) (hb : Below B w w') (hok : ∀ b, ok b → b < B) : Lst w' ok A ps := h.keep fun b hbb => hb.block b (hok b hbb)
end
section
variable {P : Program} (w : World)
/-- append onto a row of the call's own, whatever bytes come behind. -/
theorem run_append_byt (base : Nat) (t ty : TypeId) (i : TypeInfo) (z : Value) (ht : P.underlying t = some (.slice 5)) (hi : P.info? 5 = some i) (hz : i.zero = some z)
    (hsize : i.size = 1) (hby : i.bytes = 1) (hzs : z.cells.size = 1)
    (v : Value) (n : Nat) (ys : List UInt8) (hown : w.ownsRow base 5 1 v n (u8s ys)) (ok : Nat → Prop) (A : Option Addr) (c : Nat) (xs : List UInt8) (hr : Byt w ok A xs)
    (h63 : n + xs.length ≤ 140737488355328) (hbase : base ≤ w.heap.size) :
    ∃ v' w', (Builtin.append_ #[t, t] ty #[v, .slice A xs.length c]).run P w = .ok v' w' ∧ w'.ownsRow base 5 1 v' (n + xs.length) (u8s (ys ++ xs)) ∧ w.grownBy w' v.ownBlock ∧ (v'.ownBlock = v.ownBlock ∨ v'.ownBlock = some w.heap.size) := by
  rcases A with _ | ad
  · have : xs = [] := by
      rcases xs with _ | ⟨x, xs⟩
      · rfl
      · obtain ⟨_, e, _⟩ := hr 0 (by simp)
        cases e
    subst this
    refine ⟨v, w, ?_, by simpa using hown, World.grownBy.refl w _, .inl rfl⟩
    rcases hown.2 with ⟨rfl, rfl⟩ | ⟨g, cap, cur, rfl, _, _, hnc, _⟩
    · simp [Builtin.append_, run_underlying ht, sizeOf, typeInfo, hi, Builtin.lenOf, Builtin.firstCells]
    · simp [Builtin.append_, run_underlying ht, sizeOf, typeInfo, hi, Builtin.lenOf, Builtin.firstCells, hnc, storeCells]
  · have hcells : ∀ j u, (u8s xs)[j]? = some u → w.cell? (ad.add j) = some u := by
      intro j u hu
      obtain ⟨hj, rfl⟩ := u8s_get xs j u hu
      obtain ⟨ad', e, _, hc⟩ := hr j hj
      cases e
      exact hc
    obtain ⟨v', w', hrun, h2, h3, _, h5⟩ := run_append_own_at (P := P) w base t ty 5 i z 1 1 ht hi hz hsize hby hzs (by omega) v n (u8s ys) hown ad xs.length c (u8s xs) (by rw [u8s_length]; omega) hcells (u8s_one xs)
      (by unfold maxLen; omega) (by omega) hbase
    exact ⟨v', w', hrun, by rw [u8s_append]; exact h2, h3, h5⟩
theorem wpList_append_byt {ops : Array Oper} {rest : List Oper} {o : Oper} {a : Act} {Q : Exit → Act → World → Prop} (hgd : o.guard = none) (s x : Operand) (t : TypeId)
    (ho : o.op = .call { callee := .builtin .append, args := #[s, x], argTypes := #[t, t] })
    (base : Nat) (i : TypeInfo) (z : Value) (ht : P.underlying t = some (.slice 5)) (hi : P.info? 5 = some i) (hz : i.zero = some z)
    (hsize : i.size = 1) (hby : i.bytes = 1) (hzs : z.cells.size = 1)
    (v : Value) (n : Nat) (ys : List UInt8) (hs : a.eval s = v) (hown : w.ownsRow base 5 1 v n (u8s ys)) (ok : Nat → Prop) (A : Option Addr) (c : Nat) (xs : List UInt8) (hx : a.eval x = .slice A xs.length c) (hr : Byt w ok A xs)
    (h63 : n + xs.length ≤ 140737488355328) (hbase : base ≤ w.heap.size)
    (h : ∀ v' w', w'.ownsRow base 5 1 v' (n + xs.length) (u8s (ys ++ xs)) → w.grownBy w' v.ownBlock → (v'.ownBlock = v.ownBlock ∨ v'.ownBlock = some w.heap.size) → wpList P ops Q rest (a.put o.dst v') w') :
    wpList P ops Q (o :: rest) a w := by
  refine wpList_plain hgd fun K hK => ?_
  obtain ⟨v', w', hr, h2, h3, h4⟩ := run_append_byt (P := P) w base t o.type i z ht hi hz hsize hby hzs v n ys hown ok A c xs hr h63 hbase
  unfold Oper.wp execOp
  simp only [ho, resolve, invoke, builtin, Sem.run_bind, Sem.run_pure, Result.andThen_ok, List.map_toArray, List.map_cons, List.map_nil, hs, hx, hr]
  exact hK _ _ (h v' w' h2 h3 h4)
end
open Go.RowKit
theorem bool_end {a b : Bool} (h : a = b) : Ending.returned (.bool a) = .returned (.bool b) := by rw [h]
open Go.RowKit
theorem u8s_set (xs : List UInt8) (j : Nat) (x : UInt8) : (u8s xs).set j (.int .u8 (x.toNat : Int)) = u8s (xs.set j x) := by simp [u8s, List.map_set]
/-- Nothing is answered, and nothing has turned. -/
def noB : Ending := .returned (.tuple #[.slice none 0 0, .bool false])
/-- In new memory lies just xs; and 'yes'. -/
def YesB (w : World) (xs : List UInt8) (e : Ending) (w' : World) : Prop :=
  ∃ A c, e = .returned (.tuple #[.slice A xs.length c, .bool true]) ∧ xs.length ≤ c ∧ c ≤ maxLen ∧ Byt w' (fun b => w.heap.size ≤ b ∧ b < w'.heap.size) A xs ∧ Below w.heap.size w w'
theorem yesB_mk {w w' : World} {xs : List UInt8} {A : Option Addr} {n c : Nat} (hl : xs.length = n) (hc : n ≤ c) (hm : c ≤ maxLen) (hb : Byt w' (fun b => w.heap.size ≤ b ∧ b < w'.heap.size) A xs) (h : Below w.heap.size w w') :
    YesB w xs (.returned (.tuple #[.slice A n c, .bool true])) w' := by
  subst hl
  exact ⟨A, c, rfl, hc, hm, hb, h⟩
open Go.RowKit
theorem upto_step {ps : List (List UInt8)} {k : Nat} (h : ∀ j (h : j < ps.length), j < k → ps[j].length ≤ 4096) {hk : k < ps.length} (h1 : ps[k].length ≤ 4096) : ∀ j (h : j < ps.length), j < k + 1 → ps[j].length ≤ 4096 := by
  intro j hj hjk
  by_cases e : j = k
  · subst e; exact h1
  · exact h j hj (by omega)
theorem own_below {w w' : World} {base e size n : Nat} {v : Value} {xs : List Value} (h : w.ownsRow base e size v n xs) (hb : Below w.heap.size w w') : w'.ownsRow base e size v n xs :=
  h.kept (row := none) ⟨hb.os, hb.tape, hb.output, hb.size, fun i hi _ => hb.block i hi⟩ (by cases hv : v.ownBlock <;> simp)
/-- What is joined when k pieces are. -/
def jk (ps : List (List UInt8)) (k : Nat) : List UInt8 := UInt8.ofNat ps.length :: (ps.take k).flatMap enc
theorem jk_all (ps : List (List UInt8)) (k : Nat) (h : ps.length ≤ k) : jk ps k = jn ps := by rw [jk, List.take_of_length_le h]; rfl
theorem jk_step (ps : List (List UInt8)) (k : Nat) (h : k < ps.length) : jk ps (k + 1) = (jk ps k ++ [UInt8.ofNat (ps[k].length / 256), UInt8.ofNat ps[k].length]) ++ ps[k] := by
  rw [jk, List.take_succ_eq_append_getElem h, List.flatMap_append]
  simp [jk, enc]
theorem jk_length (ps : List (List UInt8)) (k : Nat) (h : Fit ps) (hk : k ≤ ps.length) : (jk ps k).length ≤ 1 + 4098 * k := by
  have h1 := flat_length (ps.take k) fun p hp => h.2 p (List.mem_of_mem_take hp)
  rw [List.length_take, Nat.min_eq_left hk] at h1
  simp only [jk, List.length_cons]
  omega
theorem byt_one (w : World) {a : Int} {x : UInt8} (ha : a = x.toNat) : Byt (w.alloc (.cells #[.int .u8 a] 5)) (fun _ => True) (some ⟨w.heap.size, 0, none⟩) [x] := by
  intro j hj
  obtain rfl : j = 0 := by simp at hj; omega
  subst ha
  exact ⟨_, rfl, trivial, by simp [go_sem]⟩
theorem byt_two (w : World) {a b : Int} {x y : UInt8} (ha : a = x.toNat) (hb : b = y.toNat) : Byt (w.alloc (.cells #[.int .u8 a, .int .u8 b] 5)) (fun _ => True) (some ⟨w.heap.size, 0, none⟩) [x, y] := by
  intro j hj
  subst ha
  subst hb
  have : j = 0 ∨ j = 1 := by simp at hj; omega
  rcases this with rfl | rfl
  · exact ⟨_, rfl, trivial, by simp [go_sem]⟩
  · exact ⟨_, rfl, trivial, by simp [go_sem]⟩
set_option maxRecDepth 100000 in
set_option maxHeartbeats 1000000 in
theorem join_yes {w : World} {ok : Nat → Prop} {A : Option Addr} {ps : List (List UInt8)} {c : Nat} (hx : Lst w ok A ps) (hok : ∀ b, ok b → b < w.heap.size) (hf : Fit ps) :
    Calls Try.prog 33 #[.slice A ps.length c] w (YesB w (jn ps)) := by
  have h64 := hf.1
  have HF := Lib.hid hf
  clear hf
  obtain ⟨i0, hi, hz0, hz1, hz2⟩ := info_parts Try.info5
  go_enter Try.func33, Try.ntmps33
  go_wp2
  go_loop [4, 15] (fun n i => ∃ (k : Nat) (z : Nat), k ≤ ps.length ∧ i = .int .i64 k ∧ 1 ≤ z ∧ z ≤ 1 + 4098 * k ∧ n = .int .i64 z) (fun _ i => ps.length - (intOf i).toNat)
  case atStart => exact ⟨0, 1, Nat.zero_le _, rfl, by omega, by omega, rfl⟩
  case round =>
    obtain ⟨k, z, hk, rfl, hs0, hs1, rfl⟩ := hrel
    by_cases hlt : k < ps.length
    · obtain ⟨ad, A', c', rfl, _, hc, hl1, hl2, _⟩ := hx k hlt
      have hp := HF.out.2 ps[k] (List.getElem_mem hlt)
      unfold maxLen at hl2
      go_wp2
      go_round
      case rel => exact ⟨k + 1, z + (2 + ps[k].length), by omega, by go_num, by omega, by omega, by go_num⟩
      case measure => simp [intOf]; omega
    · go_wp2_with (with_reducible refine wpList_make_own _ rfl _ _ 37 rfl w.heap.size 5 i0 (.int .u8 0) 1 Try.underlying37 hi hz0 hz1 .i64 .i64 _ z rfl rfl rfl ?c1 ?c2 ?c3 ?_)
      case c1 => omega
      case c2 => unfold maxLen; omega
      intro w1 hown hgrow
      have hb1 : Below w.heap.size w w1 := (Below.refl _ _).grown hgrow (Nat.le_refl _) (fun _ h => by cases h)
      have hown1 := hown.alloc (.cells #[.int .u8 (ps.length : Int)] 5)
      go_wp2_with (at_builtin; refine wpList_append_byt _ rfl _ _ 37 rfl w.heap.size i0 (.int .u8 0) Try.underlying37 hi hz0 hz1 hz2 rfl _ 0 [] rfl hown1 (fun _ => True) _ _ [UInt8.ofNat ps.length] rfl (byt_one w1 ?d1) ?d2 ?d3 ?_)
      case d1 => rw [u8_ofNat]; omega
      case d2 => simp
      case d3 => simp; have := hgrow.size; omega
      intro v' w2 hown2 hgrow2 hat2
      have hb2 : Below w.heap.size w w2 := by
        refine (hb1.alloc hb1.size _).grown hgrow2 (by simp; have := hgrow.size; omega) ?_
        intro g hg
        simp [Value.ownBlock] at hg
        omega
      have hstart : w2.ownsRow w.heap.size 5 1 v' (jk ps 0).length (u8s (jk ps 0)) := hown2
      clear hown2 hown1 hown hgrow hgrow2 hat2 hb1
      go_wp2
      go_loopw [7, 37] (fun v i wr => ∃ k : Nat, k ≤ ps.length ∧ i = .int .i64 k ∧ wr.ownsRow w.heap.size 5 1 v (jk ps k).length (u8s (jk ps k)) ∧ Below w.heap.size w wr) (fun _ i _ => ps.length - (intOf i).toNat)
      case atStart => exact ⟨0, Nat.zero_le _, rfl, hstart, hb2⟩
      case round =>
        clear hstart hb2
        obtain ⟨k, hk, rfl, hown, hb⟩ := hrel
        have hjl := jk_length ps k HF.out hk
        by_cases hlt : k < ps.length
        · obtain ⟨ad, A', c', rfl, hoka, hc0, hl1, hl2, hbyt⟩ := hx k hlt
          have hp := HF.out.2 ps[k] (List.getElem_mem hlt)
          have hc : wr.cell? (ad.add k) = some (.slice A' ps[k].length c') := (hb.cell (by rw [block_of_plus]; exact hok _ hoka)).trans hc0
          unfold maxLen at hl2
          clear hc0
          go_wp2_with (at_builtin; (refine wpList_append_byt _ rfl _ _ 37 rfl w.heap.size i0 (.int .u8 0) Try.underlying37 hi hz0 hz1 hz2 rfl _ _ _ rfl (hown.alloc _) (fun _ => True) _ _ [UInt8.ofNat (ps[k].length / 256), UInt8.ofNat ps[k].length] rfl (byt_two wr ?d1 ?d2) ?d3 ?d4 ?_))
          case d1 => rw [u8_ofNat]; omega
          case d2 => rw [u8_ofNat]; omega
          case d3 => simp; omega
          case d4 => simp; have := hb.size; omega
          intro v1 w3 hown3 hgrow3 hat3
          have hb3 : Below w.heap.size w w3 := (hb.alloc hb.size _).grown hgrow3 (by simp; have := hb.size; omega) fun g hg => (hown.lt g hg).1
          have hby3 : Byt w3 ok A' ps[k] := hbyt.below hb3 hok
          go_wp2_with (at_builtin; refine wpList_append_byt _ rfl _ _ 37 rfl w.heap.size i0 (.int .u8 0) Try.underlying37 hi hz0 hz1 hz2 rfl _ _ _ rfl hown3 ok A' _ ps[k] rfl hby3 ?d5 ?d6 ?_)
          case d5 => omega
          case d6 => exact hb3.size
          intro v2 w4 hown4 hgrow4 hat4
          have hb4 : Below w.heap.size w w4 := hb3.grown hgrow4 hb3.size fun g hg => (hown3.lt g hg).1
          have hend : w4.ownsRow w.heap.size 5 1 v2 (jk ps (k + 1)).length (u8s (jk ps (k + 1))) := by
            rw [jk_step ps k hlt]
            simpa [Nat.add_assoc, Nat.add_comm 2] using hown4
          clear hown hown3 hgrow3 hat3 hby3 hown4 hgrow4 hat4 hb hb3
          go_wp2
          go_roundw
          case rel => exact ⟨k + 1, by omega, by go_num, hend, hb4⟩
          case measure => simp [intOf]; omega
        · rw [jk_all ps k (by omega)] at hown
          obtain ⟨A', c', rfl, -, h2, h3, h4⟩ := own_form hown
          go_wp2
          go_ret2
          exact yesB_mk rfl h2 h3 (h4.imp fun b hb => hb.2) hb
theorem ownsRow_keep {w w' : World} {base e size n : Nat} {v : Value} {xs : List Value} (h : w.ownsRow base e size v n xs) (hk : ∀ g, v.ownBlock = some g → w'.heap[g]? = w.heap[g]?) : w'.ownsRow base e size v n xs := by
  refine ⟨h.1, ?_⟩
  rcases h.2 with hn | ⟨g, cap, cur, rfl, hb, hgg, rest⟩
  · exact .inl hn
  · exact .inr ⟨g, cap, cur, rfl, hb, (hk g rfl).trans hgg, rest⟩
theorem cell_of_block {w : World} {g : Nat} {cs : Array Value} {t : TypeId} {fr : Nat × Nat} (h : w.heap[g]? = some (.cells cs t fr)) (j : Nat) : w.cell? ⟨g, j, none⟩ = cs[j]? := by simp [World.cell?, h]
theorem ownsRow_cell1 {w : World} {base e n g1 cap i : Nat} {xs : List Value} {u : Value} (h : w.ownsRow base e 1 (.slice (some ⟨g1, 0, none⟩) n cap) n xs) (hi : xs[i]? = some u) : w.cell? ⟨g1, i, none⟩ = some u := by
  rcases h.2 with ⟨e, _⟩ | ⟨g2, cap1, cur, e, h1, h2, h3, h4, h5, h6⟩
  · cases e
  · injection e with e1 e2 e3
    injection e1 with e1
    injection e1 with e1 _ _
    subst e1
    rw [cell_of_block h2]
    have e7 : cur.toList[i]? = some u := by
      rw [← h6, List.getElem?_take] at hi
      split at hi
      · exact hi
      · cases hi
    show cur[i]? = some u
    rw [← Array.getElem?_toList]; exact e7
/-- Block g is just these cells. -/
def Blk (w : World) (g : Nat) (ty : TypeId) (cs : List Value) : Prop := w.heap[g]? = some (.cells cs.toArray ty (0, 0))
section
variable {w w' : World} {g : Nat} {ty : TypeId} {cs : List Value}
theorem Blk.lt (h : Blk w g ty cs) : g < w.heap.size := (Array.getElem?_eq_some_iff.1 h).1
theorem Blk.get (h : Blk w g ty cs) (i : Nat) (v : Value) (hv : cs[i]? = some v) : w.cell? ⟨g, i, none⟩ = some v := by
  unfold Blk at h
  simp [World.cell?, h, hv]
theorem Blk.cell (h : Blk w g ty cs) (i : Nat) (hi : i < cs.length) : w.cell? ⟨g, i, none⟩ = some cs[i] := h.get i _ (List.getElem?_eq_getElem hi)
theorem Blk.frozen (h : Blk w g ty cs) (i : Nat) : w.frozen? ⟨g, i, none⟩ = false := by
  unfold Blk at h
  simp [World.frozen?, h]
theorem Blk.set (h : Blk w g ty cs) (i : Nat) (v : Value) : Blk (w.setCell ⟨g, i, none⟩ v) g ty (cs.set i v) := by
  unfold Blk at h ⊢
  have hlt := Blk.lt h
  simp only [World.setCell, Array.getElem?_modify, h]
  simp
theorem Blk.keep (h : Blk w g ty cs) (hk : w'.heap[g]? = w.heap[g]?) : Blk w' g ty cs := hk.trans h
theorem Blk.grown {row : Option Nat} (h : Blk w g ty cs) (hg : w.grownBy w' row) (hr : some g ≠ row) : Blk w' g ty cs := h.keep (hg.block g h.lt hr)
theorem Blk.below {B : Nat} (h : Blk w g ty cs) (hb : Below B w w') (hr : g < B) : Blk w' g ty cs := h.keep (hb.block g hr)
theorem Blk.to (h : Blk w g ty cs) {ds : List Value} (e : cs = ds) : Blk w g ty ds := e ▸ h
end
theorem grown_set (w : World) (g i : Nat) (v : Value) : w.grownBy (w.setCell ⟨g, i, none⟩ v) (some g) :=
  ⟨rfl, rfl, rfl, by simp [World.setCell], fun k _ hk => Below.heap_setCell w ⟨g, i, none⟩ v k (fun e => hk (by rw [e]))⟩
theorem size_set (w : World) (a : Addr) (v : Value) : (w.setCell a v).heap.size = w.heap.size := by simp [World.setCell]
theorem Blk.of_alloc (w : World) (cs : Array Value) (ty : TypeId) : Blk (w.alloc (.cells cs ty)) w.heap.size ty cs.toList := by
  unfold Blk
  rw [heap_alloc_new]
theorem grown_new {w wr : World} {g : Nat} (hg : w.grownBy wr none) (hB : w.heap.size ≤ g) (i : Nat) (v : Value) : w.grownBy (wr.setCell ⟨g, i, none⟩ v) none :=
  World.grownBy.andThen hg (grown_set _ _ _ _) (by rintro _ ⟨⟩; exact .inl hB)
theorem grown_below {w w' : World} (h : w.grownBy w' none) : Below w.heap.size w w' := ⟨h.os, h.tape, h.output, h.size, fun k hk => h.block k hk (by simp)⟩
theorem below_grown {w w' : World} (h : Below w.heap.size w w') : w.grownBy w' none := ⟨h.os, h.tape, h.output, h.size, fun k hk _ => h.block k hk⟩
theorem list_at {α : Type} {Q : Nat → α → Prop} : ∀ n, (∀ i, i < n → ∃ a, Q i a) → ∃ l : List α, l.length = n ∧ ∀ i (h : i < l.length), Q i l[i]
  | 0, _ => ⟨[], rfl, fun i h => by simp at h⟩
  | n + 1, h => by
    obtain ⟨l, hl, hq⟩ := list_at n fun i hi => h i (by omega)
    obtain ⟨a, ha⟩ := h n (by omega)
    refine ⟨l ++ [a], by simp [hl], fun i hi => ?_⟩
    by_cases hn : i < l.length
    · rw [List.getElem_append_left hn]
      exact hq i hn
    · have hin : i = n := by simp at hi; omega
      subst hin
      simp [hl, ha]
/-- A row of the call's own that holds these lists. -/
def Row22 (P : Nat → Prop) (B : Nat) (w : World) (v : Value) (n : Nat) (L : List (List UInt8)) : Prop :=
  ∃ ss : List Value, w.ownsRow B 37 1 v n ss ∧ L.length = n ∧ ∀ i (h : i < L.length), ∃ A c, ss[i]? = some (.slice A L[i].length c) ∧ L[i].length ≤ c ∧ c ≤ maxLen ∧ Byt w (fun b => P b ∧ b < w.heap.size ∧ some b ≠ v.ownBlock) A L[i]
section
variable {P : Nat → Prop} {B n m : Nat} {w w' : World} {v : Value} {L L2 : List (List UInt8)} {A A2 : Option Addr}
theorem Row22.up (h : Row22 P B w v n L) (hb : Below w.heap.size w w') : Row22 P B w' v n L := by
  obtain ⟨ss, h1, h2, h3⟩ := h
  refine ⟨ss, ownsRow_keep h1 fun g hg => hb.block g (h1.lt g hg).2, h2, fun i hi => ?_⟩
  obtain ⟨A, c, q1, q2, q3, q4⟩ := h3 i hi
  exact ⟨A, c, q1, q2, q3, (q4.keep fun b hb' => hb.block b hb'.2.1).imp fun b hb' => ⟨hb'.1, Nat.lt_of_lt_of_le hb'.2.1 hb.size, hb'.2.2⟩⟩
theorem Row22.own (h : Row22 P B w v n L) : ∀ g, v.ownBlock = some g → B ≤ g ∧ g < w.heap.size := by
  obtain ⟨ss, h1, _⟩ := h
  exact h1.lt
theorem Row22.new (hB : B ≤ w.heap.size) : Row22 P B (w.alloc (.cells #[] 37)) (.slice (some ⟨w.heap.size, 0, none⟩) 0 0) 0 [] :=
  ⟨[], ⟨rfl, .inr ⟨w.heap.size, 0, #[], rfl, hB, heap_alloc_new w _, Nat.le_refl _, Nat.zero_le _, rfl, rfl⟩⟩, rfl, fun i hi => by simp at hi⟩
theorem Row22.lst (h : Row22 P B w v n L) : ∃ A c, v = .slice A n c ∧ n ≤ c ∧ c ≤ maxLen ∧ Lst w (fun b => b < w.heap.size) A L := by
  obtain ⟨ss, o1, h2, o2⟩ := h
  rcases o1.2 with ⟨e, h0⟩ | ⟨gb, cap, cur, e, _, _, l1, l2, _⟩
  · refine ⟨none, 0, by rw [e, h0], by omega, by unfold maxLen; omega, fun j hj => by omega⟩
  · subst e
    refine ⟨_, cap, rfl, l1, l2, fun j hj => ?_⟩
    obtain ⟨A', c', q1, q2, q3, q4⟩ := o2 j hj
    have hgb := o1.lt gb rfl
    refine ⟨⟨gb, 0, none⟩, A', c', rfl, hgb.2, ?_, q2, q3, q4.imp fun b hb => hb.2.1⟩
    rw [Addr.add_lit, Nat.zero_add]
    exact ownsRow_cell1 o1 q1
theorem run_app22 {ty : TypeId} {c2 k : Nat} (h : Row22 P B w v n L) (h2 : Lst w (fun b => P b ∧ b < w.heap.size ∧ some b ≠ v.ownBlock) A2 L2) (hm : L2.length = m) (hk : n + m = k) (hle : k ≤ 1000) (hB : B ≤ w.heap.size) :
    ∃ A c w', (Builtin.append_ #[65, 65] ty #[v, .slice A2 m c2]).run Try.prog w = .ok (.slice A k c) w' ∧ Row22 P B w' (.slice A k c) k (L ++ L2) ∧ Below B w w' ∧ ∀ b, b < w.heap.size → some b ≠ v.ownBlock → w'.heap[b]? = w.heap[b]? ∧ some b ≠ (Value.slice A k c).ownBlock := by
  subst hk
  obtain ⟨i41, hi41, hx0, hx1, hx2⟩ := info_parts Try.info37
  obtain ⟨ss, o1, hL, o2⟩ := h
  have hown := o1.lt
  have hssl : ss.length = n := by have := o1.1; omega
  -- what is put behind
  have hsrc : ∃ ss2 : List Value, ss2.length = m ∧ (∀ ad, A2 = some ad → ∀ j u, ss2[j]? = some u → w.cell? (ad.add j) = some u) ∧ (∀ u ∈ ss2, u.oneCell' = true) ∧ ∀ i (h : i < L2.length), ∃ A c, ss2[i]? = some (.slice A L2[i].length c) ∧ L2[i].length ≤ c ∧ c ≤ maxLen ∧ Byt w (fun b => P b ∧ b < w.heap.size ∧ some b ≠ v.ownBlock) A L2[i] := by
    obtain ⟨ss2, hl, hq⟩ := list_at (Q := fun i (u : Value) => (∀ ad, A2 = some ad → w.cell? (ad.add i) = some u) ∧ u.oneCell' = true ∧ ∃ h : i < L2.length, ∃ A c, u = .slice A L2[i].length c ∧ L2[i].length ≤ c ∧ c ≤ maxLen ∧ Byt w (fun b => P b ∧ b < w.heap.size ∧ some b ≠ v.ownBlock) A L2[i]) m fun i hi => by
      have hi2 : i < L2.length := by omega
      obtain ⟨ad, A', c', rfl, _, q1, q2, q3, q4⟩ := h2 i hi2
      refine ⟨.slice A' L2[i].length c', fun ad' e => ?_, rfl, hi2, A', c', rfl, q2, q3, q4⟩
      cases e
      exact q1
    refine ⟨ss2, hl, fun ad e j u hu => ?_, fun u hu => ?_, fun i hi => ?_⟩
    · obtain ⟨hj, rfl⟩ := List.getElem?_eq_some_iff.1 hu
      exact (hq j hj).1 ad e
    · obtain ⟨j, hj, rfl⟩ := List.getElem_of_mem hu
      exact (hq j hj).2.1
    · obtain ⟨_, _, _, A, c, e, q2, q3, q4⟩ := hq i (by omega)
      exact ⟨A, c, by rw [List.getElem?_eq_getElem (by omega), e], q2, q3, q4⟩
  obtain ⟨ss2, hl2, hs1, hs2, hs3⟩ := hsrc
  rcases A2 with _ | ad
  · have hm0 : m = 0 := by
      rcases Nat.eq_zero_or_pos m with h0 | h0
      · exact h0
      · obtain ⟨ad, _, _, e, _⟩ := h2 0 (by omega)
        cases e
    subst hm0
    obtain rfl : L2 = [] := List.eq_nil_of_length_eq_zero hm
    obtain ⟨A, c, rfl⟩ : ∃ A c, v = .slice A n c := by
      rcases o1.2 with ⟨rfl, rfl⟩ | ⟨g, cap, cur, rfl, _⟩
      · exact ⟨none, 0, rfl⟩
      · exact ⟨_, cap, rfl⟩
    refine ⟨A, c, w, ?_, ⟨ss, by simpa using o1, by simpa using hL, by simpa using o2⟩, Below.refl _ _, fun b _ hb => ⟨rfl, hb⟩⟩
    rcases o1.2 with ⟨e, rfl⟩ | ⟨g, cap, cur, e, _, _, hnc, _⟩
    · cases e
      simp [Builtin.append_, run_underlying Try.underlying65, sizeOf, typeInfo, hi41, Builtin.lenOf, Builtin.firstCells]
    · cases e
      simp [Builtin.append_, run_underlying Try.underlying65, sizeOf, typeInfo, hi41, Builtin.lenOf, Builtin.firstCells, hnc, storeCells]
  · obtain ⟨v', w', hr, ho, hg, _, hat⟩ := run_append_own_at (P := Try.prog) w B 65 ty 37 i41 (.slice none 0 0) 1 24 Try.underlying65 hi41 hx0 hx1 hx2 rfl Nat.one_pos v n ss o1 ad m c2 ss2 (by omega) (hs1 ad rfl) hs2 (by unfold maxLen; omega) (by omega) hB
    have hbl : Below B w w' := ⟨hg.os, hg.tape, hg.output, hg.size, fun b hb => hg.block b (by omega) fun e => by have := (hown b e.symm).1; omega⟩
    have hne : ∀ b, b < w.heap.size → some b ≠ v.ownBlock → some b ≠ v'.ownBlock := fun b hb hn => by
      rcases hat with e | e
      · rw [e]; exact hn
      · rw [e]; intro e2; have := Option.some.inj e2; omega
    have hfin : Row22 P B w' v' (n + m) (L ++ L2) := by
      refine ⟨ss ++ ss2, ho, by simp [hL, hm], fun i hi => ?_⟩
      have hkeep : ∀ {A : Option Addr} {xs : List UInt8}, Byt w (fun b => P b ∧ b < w.heap.size ∧ some b ≠ v.ownBlock) A xs → Byt w' (fun b => P b ∧ b < w'.heap.size ∧ some b ≠ v'.ownBlock) A xs := fun q => (q.keep fun b hb => hg.block b hb.2.1 hb.2.2).imp fun b hb => ⟨hb.1, Nat.lt_of_lt_of_le hb.2.1 hg.size, hne b hb.2.1 hb.2.2⟩
      by_cases hin : i < L.length
      · obtain ⟨A, c, q1, q2, q3, q4⟩ := o2 i hin
        have e : (L ++ L2)[i] = L[i] := List.getElem_append_left hin
        rw [e]
        exact ⟨A, c, by rw [List.getElem?_append_left (by omega)]; exact q1, q2, q3, hkeep q4⟩
      · have hi2 : i - L.length < L2.length := by simp at hi; omega
        obtain ⟨A, c, q1, q2, q3, q4⟩ := hs3 (i - L.length) hi2
        have e : (L ++ L2)[i] = L2[i - L.length] := List.getElem_append_right (by omega)
        rw [e]
        exact ⟨A, c, by rw [List.getElem?_append_right (by omega), hssl, ← hL]; exact q1, q2, q3, hkeep q4⟩
    obtain ⟨A, c, rfl, _⟩ := hfin.lst
    exact ⟨A, c, w', hr, hfin, hbl, fun b hb1 hb2 => ⟨hg.block b hb1 hb2, hne b hb1 hb2⟩⟩
theorem op_app22 {o : Oper} {a : Act} {K : Act → World → Prop} {Q : Exit → Act → World → Prop} (s x : Operand) (ho : o.op = .call { callee := .builtin .append, args := #[s, x], argTypes := #[65, 65] })
    {c2 k : Nat} (hs : a.eval s = v) (hx : a.eval x = .slice A2 m c2) (h1 : Row22 P B w v n L) (h2 : Lst w (fun b => P b ∧ b < w.heap.size ∧ some b ≠ v.ownBlock) A2 L2) (hm : L2.length = m) (hk : n + m = k) (hle : k ≤ 1000) (hB : B ≤ w.heap.size)
    (h : ∀ A c w', Row22 P B w' (.slice A k c) k (L ++ L2) → Below B w w' → (∀ b, b < w.heap.size → some b ≠ v.ownBlock → w'.heap[b]? = w.heap[b]? ∧ some b ≠ (Value.slice A k c).ownBlock) → K (a.put o.dst (.slice A k c)) w') : Oper.wp Try.prog o a w K Q := by
  obtain ⟨A, c, w', hr, q1, q2, q3⟩ := run_app22 (ty := o.type) (c2 := c2) h1 h2 hm hk hle hB
  unfold Oper.wp execOp
  simp only [ho, resolve, invoke, builtin, Sem.run_bind, Sem.run_pure, Result.andThen_ok, List.map_toArray, List.map_cons, List.map_nil, hs, hx, hr]
  exact h A c w' q1 q2 q3
theorem wpList_app22 {ops : Array Oper} {rest : List Oper} {o : Oper} {a : Act} {Q : Exit → Act → World → Prop} (hgd : o.guard = none) (s x : Operand) (ho : o.op = .call { callee := .builtin .append, args := #[s, x], argTypes := #[65, 65] })
    {c2 k : Nat} (hs : a.eval s = v) (hx : a.eval x = .slice A2 m c2) (h1 : Row22 P B w v n L) (h2 : Lst w (fun b => P b ∧ b < w.heap.size ∧ some b ≠ v.ownBlock) A2 L2) (hm : L2.length = m) (hk : n + m = k) (hle : k ≤ 1000) (hB : B ≤ w.heap.size)
    (h : ∀ A c w', Row22 P B w' (.slice A k c) k (L ++ L2) → Below B w w' → (∀ b, b < w.heap.size → some b ≠ v.ownBlock → w'.heap[b]? = w.heap[b]? ∧ some b ≠ (Value.slice A k c).ownBlock) → wpList Try.prog ops Q rest (a.put o.dst (.slice A k c)) w') : wpList Try.prog ops Q (o :: rest) a w :=
  wpList_plain hgd fun _ hK => op_app22 s x ho hs hx h1 h2 hm hk hle hB fun A c w' q1 q2 q3 => hK _ _ (h A c w' q1 q2 q3)
theorem lst_lit1 {ok : Nat → Prop} {xs : List UInt8} {c xl : Nat} (hl : xs.length = xl) (h1 : xl ≤ c) (h2 : c ≤ maxLen) (hx : Byt w ok A xs) (hok : ∀ b, ok b → b < w.heap.size) :
    Lst (w.alloc (.cells #[.slice A xl c] 37)) (fun b => ok b ∨ b = w.heap.size) (some ⟨w.heap.size, 0, none⟩) [xs] := fun i hi => by
  obtain rfl : i = 0 := by simpa using hi
  subst hl
  refine ⟨_, A, c, rfl, .inr rfl, ?_, h1, h2, (hx.keep fun b hb => Below.heap_alloc _ _ _ (hok b hb)).imp fun b hb => .inl hb⟩
  rw [Addr.add_lit, Nat.zero_add, cell_of_block (heap_alloc_new w _)]
  rfl
end
end Go.Proofs.Ytklcjjmeknajlaa
