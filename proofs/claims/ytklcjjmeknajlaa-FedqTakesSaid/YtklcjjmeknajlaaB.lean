/- Items that ask: their cells, how they lie in memory, how lists of them are put together. Conditions: none. -/
import Derived.Test.YtklcjjmeknajlaaA
namespace Go.Proofs.Ytklcjjmeknajlaa
open Go.RowKit
/-- Zeros: bytes; a header; a letter and an object with such a list; a bundle. -/
def zk (n : Nat) : List Value := List.replicate n (.int .u8 0)
def hz : List Value := zk 32 ++ (.bool false :: (zk 96 ++ (.int .u16 0 :: (zk 32 ++ [.int .u16 0, .int .u16 0]))))
def lz (b : Value) : List Value := zk 2 ++ (hz ++ [b])
def bz : List Value := zk 65 ++ (.int .u16 0 :: zk 96)
def oz (b : Value) : List Value := zk 34 ++ (.int .u32 0 :: .int .u32 0 :: (zk 64 ++ [b]))
def nl : Value := .slice none 0 0
/-- An item with no more than a kind, an asker and a peer; an item that asks. -/
def ic (k a p : Int) : List Value := .int .u8 k :: .int .u8 a :: .int .u8 p :: (lz nl ++ (bz ++ oz nl))
abbrev Kep := Nat
def KOk (_ : Kep) : Prop := True
def kv (x : Kep) : List Value := ic 2 (x : Int) 0
theorem ic_length (k a p : Int) : (ic k a p).length = 433 := by kernel_rfl
theorem kv_length {x : Kep} (_ : KOk x) : (kv x).length = 433 := ic_length _ _ _
theorem zk_one (n : Nat) : ∀ u ∈ zk n, u.oneCell' = true := fun u hu => by
  obtain rfl := List.eq_of_mem_replicate hu
  rfl
theorem ic_one (k a p : Int) : ∀ u ∈ ic k a p, u.oneCell' = true := by
  intro u hu
  unfold ic lz hz bz oz nl at hu
  simp only [List.mem_cons, List.mem_append, List.not_mem_nil, or_false] at hu
  rcases hu with rfl | rfl | rfl | h
  · rfl
  · rfl
  · rfl
  · rcases h with (h | (h | rfl | h | rfl | h | rfl | rfl) | rfl) | (h | rfl | h) | h | rfl | rfl | h | rfl <;> first | rfl | exact zk_one _ u h
theorem kv_one (x : Kep) : ∀ u ∈ kv x, u.oneCell' = true := ic_one _ _ _
theorem kv_body (x : Kep) : (kv x)[169]? = some nl := by kernel_rfl
theorem kv_vouches (x : Kep) : (kv x)[432]? = some nl := by kernel_rfl
def KAll (L : List Kep) : Prop := ∀ x ∈ L, KOk x
def kvs (L : List Kep) : List Value := L.flatMap kv
theorem kvs_one (L : List Kep) : ∀ u ∈ kvs L, u.oneCell' = true := by
  intro u hu
  obtain ⟨x, _, hx⟩ := List.mem_flatMap.1 hu
  exact kv_one x u hx
theorem kvs_append (L M : List Kep) : kvs (L ++ M) = kvs L ++ kvs M := List.flatMap_append
theorem kvs_length : ∀ {L : List Kep}, KAll L → (kvs L).length = L.length * 433
  | [], _ => rfl
  | x :: L, h => by
    have e : kvs (x :: L) = kv x ++ kvs L := rfl
    rw [e, List.length_append, kv_length (h x (List.mem_cons_self ..)), kvs_length (fun y hy => h y (List.mem_cons_of_mem _ hy)), List.length_cons]
    omega
theorem kvs_at : ∀ {L : List Kep}, KAll L → ∀ (i : Nat) (hi : i < L.length) (j : Nat), j < 433 → (kvs L)[433 * i + j]? = (kv L[i])[j]?
  | x :: L, h, i, hi, j, hj => by
    have e : kvs (x :: L) = kv x ++ kvs L := rfl
    have hx := kv_length (h x (List.mem_cons_self ..))
    rw [e]
    cases i with
    | zero => rw [List.getElem?_append_left (by omega)]; simp
    | succ i =>
      rw [List.getElem?_append_right (by omega), hx, show 433 * (i + 1) + j - 433 = 433 * i + j by omega]
      exact kvs_at (fun y hy => h y (List.mem_cons_of_mem _ hy)) i (by simpa using hi) j hj
theorem KAll.append {L M : List Kep} (h : KAll L) (h2 : KAll M) : KAll (L ++ M) := fun x hx => (List.mem_append.1 hx).elim (h x) (h2 x)
theorem KAll.one {x : Kep} (h : KOk x) : KAll [x] := fun y hy => by obtain rfl := List.mem_singleton.1 hy; exact h
theorem KAll.nil : KAll [] := fun x hx => by cases hx
theorem KAll.take {L : List Kep} (h : KAll L) (n : Nat) : KAll (L.take n) := fun x hx => h x (List.mem_of_mem_take hx)
theorem KAll.drop {L : List Kep} (h : KAll L) (n : Nat) : KAll (L.drop n) := fun x hx => h x (List.mem_of_mem_drop hx)
theorem KAll.at {L : List Kep} (h : KAll L) (i : Nat) (hi : i < L.length) : KOk L[i] := h _ (List.getElem_mem hi)
/-- Kept keys lie at A, in blocks that are 'ok'. -/
def Kps (w : World) (ok : Nat → Prop) (A : Option Addr) (L : List Kep) : Prop := ∀ i (h : i < L.length), ∃ b o, A = some ⟨b, o, none⟩ ∧ ok b ∧ w.rangeAt b (o + 433 * i) (kv L[i])
section
variable {w w' : World} {ok ok' : Nat → Prop} {A : Option Addr} {L M : List Kep}
theorem Kps.keep (h : Kps w ok A L) (hk : ∀ b, ok b → b < w.heap.size → w'.heap[b]? = w.heap[b]?) : Kps w' ok A L := fun i hi => by
  obtain ⟨b, o, e, h1, h2⟩ := h i hi
  exact ⟨b, o, e, h1, fun q v hv => (World.cell?_of_block (hk b h1 (World.block_lt_of_cell? w _ (h2 q v hv)))).trans (h2 q v hv)⟩
theorem Kps.imp (h : Kps w ok A L) (hi : ∀ b, ok b → ok' b) : Kps w ok' A L := fun i hi' => by
  obtain ⟨b, o, e, h1, h2⟩ := h i hi'
  exact ⟨b, o, e, hi b h1, h2⟩
theorem Kps.below (h : Kps w ok A L) (hb : Below w.heap.size w w') : Kps w' ok A L := h.keep fun b _ hlt => hb.block b hlt
theorem Kps.grown (h : Kps w ok A L) (hb : w.grownBy w' none) : Kps w' ok A L := h.keep fun b _ hlt => hb.block b hlt (by simp)
theorem Kps.nil : Kps w ok A [] := fun _ hi => absurd hi (Nat.not_lt_zero _)
theorem Kps.lt (h : Kps w ok A L) (hK : KAll L) : Kps w (fun b => ok b ∧ b < w.heap.size) A L := fun i hi => by
  obtain ⟨b, o, e, h1, h2⟩ := h i hi
  refine ⟨b, o, e, ⟨h1, ?_⟩, h2⟩
  have hl := kv_length (hK.at i hi)
  exact World.block_lt_of_cell? w _ (h2 0 _ (List.getElem?_eq_getElem (by omega)))
theorem Kps.some_ (h : Kps w ok A L) (h0 : 0 < L.length) (hK : KAll L) : ∃ b o, A = some ⟨b, o, none⟩ ∧ ok b ∧ ∀ j u, (kvs L)[j]? = some u → w.cell? ⟨b, o + j, none⟩ = some u := by
  obtain ⟨b, o, rfl, h1, _⟩ := h 0 h0
  refine ⟨b, o, rfl, h1, fun j u hu => ?_⟩
  have hj : j < L.length * 433 := by rw [← kvs_length hK]; exact (List.getElem?_eq_some_iff.1 hu).1
  have hi : j / 433 < L.length := by omega
  obtain ⟨b', o', e, _, h2⟩ := h (j / 433) hi
  cases e
  have e2 : j = 433 * (j / 433) + j % 433 := by omega
  rw [e2, kvs_at hK _ hi _ (Nat.mod_lt _ (by omega))] at hu
  have := h2 _ _ hu
  rwa [Nat.add_assoc, ← e2] at this
theorem Kps.take (h : Kps w ok A L) (n : Nat) : Kps w ok A (L.take n) := fun i hi => by
  have hi2 : i < L.length := by rw [List.length_take] at hi; omega
  obtain ⟨b, o, e, h1, h2⟩ := h i hi2
  exact ⟨b, o, e, h1, by rw [List.getElem_take]; exact h2⟩
theorem Kps.drop {b o : Nat} (h : Kps w ok (some ⟨b, o, none⟩) L) (n : Nat) : Kps w ok (some ⟨b, o + 433 * n, none⟩) (L.drop n) := fun i hi => by
  have hi2 : n + i < L.length := by rw [List.length_drop] at hi; omega
  obtain ⟨b', o', e, h1, h2⟩ := h (n + i) hi2
  cases e
  refine ⟨b, o + 433 * n, rfl, h1, ?_⟩
  rw [List.getElem_drop, Nat.add_assoc, ← Nat.mul_add]
  exact h2
end
theorem infoK : (Try.prog.info? 49).map (fun i => (i.zero, i.size, i.bytes)) = some (some (.agg (ic 0 0 0).toArray), 433, 512) := by kernel_rfl
theorem sizeK : (Try.prog.info? 49).map (·.size) = some 433 := by kernel_rfl
/-- A row of kept keys that the call may put more behind: its own, or an empty one without room. -/
def KRow (B : Nat) (w : World) (v : Value) (n : Nat) (L : List Kep) : Prop := (KAll L ∧ L.length = n) ∧ (w.ownsRow B 49 433 v n (kvs L) ∨ (n = 0 ∧ ∃ A, v = .slice A 0 0))
section
variable {B n m : Nat} {w w' : World} {v : Value} {L M : List Kep} {A A2 : Option Addr} {ok : Nat → Prop}
theorem KRow.up (h : KRow B w v n L) (hb : Below w.heap.size w w') : KRow B w' v n L := ⟨h.1, h.2.imp (fun h1 => ownsRow_keep h1 fun g hg => hb.block g (h1.lt g hg).2) id⟩
theorem KRow.mk0 (B : Nat) (w : World) (A : Option Addr) : KRow B w (.slice A 0 0) 0 [] := ⟨⟨KAll.nil, rfl⟩, .inr ⟨rfl, A, rfl⟩⟩
theorem KRow.shape (h : KRow B w v n L) : ∃ A c, v = .slice A n c ∧ n ≤ c ∧ c ≤ maxLen := by
  rcases h.2 with h | ⟨rfl, A, rfl⟩
  · rcases h.2 with ⟨e, h0⟩ | ⟨g, cap, cur, e, _, _, h1, h2, _⟩
    · exact ⟨none, 0, by rw [e, h0], by omega, by unfold maxLen; omega⟩
    · exact ⟨_, cap, e, h1, h2⟩
  · exact ⟨A, 0, rfl, Nat.le_refl _, by unfold maxLen; omega⟩
theorem KRow.kps (h : KRow B w v n L) : ∃ A c, v = .slice A n c ∧ n ≤ c ∧ c ≤ maxLen ∧ Kps w (fun b => B ≤ b ∧ b < w.heap.size) A L := by
  obtain ⟨A, c, e, h1, h2⟩ := h.shape
  refine ⟨A, c, e, h1, h2, fun i hi => ?_⟩
  rcases h.2 with ho | ⟨rfl, A, _⟩
  · have hlt := ho.lt
    rcases ho.2 with ⟨e2, h0⟩ | ⟨g, cap, cur, e2, hg, hk, _, _, hs, ht⟩
    · have := h.1.2
      omega
    · rw [e] at e2
      cases e2
      refine ⟨g, 0, rfl, ⟨hg, (Array.getElem?_eq_some_iff.1 hk).1⟩, fun j u hu => ?_⟩
      have hl := kv_length (h.1.1.at i hi)
      have hj : j < 433 := by rw [← hl]; exact (List.getElem?_eq_some_iff.1 hu).1
      rw [← kvs_at h.1.1 i hi j hj] at hu
      rw [Nat.zero_add, cell_of_row w g _ cur 49 (0, 0) hk]
      rw [← ht] at hu
      have hlen := (List.getElem?_eq_some_iff.1 hu).1
      rw [List.getElem?_take_of_lt (by rw [List.length_take] at hlen; omega)] at hu
      simpa using hu
  · have := h.1.2
    omega
theorem run_appK0 (ty : TypeId) (w : World) (A A2 : Option Addr) (n c c2 : Nat) (h : n ≤ c) : (Builtin.append_ #[27, 27] ty #[.slice A n c, .slice A2 0 c2]).run Try.prog w = .ok (.slice A n c) w := by
  obtain ⟨i, hi, _, hs, _⟩ := info_parts infoK
  have hl : ∀ ad : Addr, (loadCells ad 0).run Try.prog w = .ok #[] w := fun ad => run_loadCells_list (P := Try.prog) (w := w) ad [] (fun j v hj => by simp at hj)
  cases A <;> cases A2 <;> simp [Builtin.append_, run_underlying Try.underlying27, sizeOf, typeInfo, hi, hs, Builtin.lenOf, Builtin.firstCells, h, hl, Result.andThen, storeCells]
theorem run_appK {ty : TypeId} {c2 : Nat} (h : KRow B w v n L) (hM : KAll M) (h2 : Kps w ok A2 M) (hm : M.length = m) (hle : n + m ≤ 1000) (hB : B ≤ w.heap.size) :
    ∃ v' w', (Builtin.append_ #[27, 27] ty #[v, .slice A2 m c2]).run Try.prog w = .ok v' w' ∧ KRow B w' v' (n + m) (L ++ M) ∧ Below B w w' := by
  obtain ⟨A, c, hv, hnc, hcm⟩ := h.shape
  obtain ⟨hKL, hLn⟩ := h.1
  have hfin : KAll (L ++ M) ∧ (L ++ M).length = n + m := ⟨hKL.append hM, by rw [List.length_append, hLn, hm]⟩
  by_cases hm0 : m = 0
  · subst hm0
    obtain rfl : M = [] := List.eq_nil_of_length_eq_zero hm
    refine ⟨v, w, ?_, ?_, Below.refl _ _⟩
    · rw [hv]
      exact run_appK0 ty w A A2 n c c2 hnc
    · rw [List.append_nil]
      exact h
  · obtain ⟨i, hi, hz0, hz1, hz2⟩ := info_parts infoK
    have hzs : (Value.agg (ic 0 0 0).toArray).cells.size = 433 := by
      show (ic 0 0 0).toArray.size = 433
      rw [List.size_toArray]
      exact ic_length _ _ _
    obtain ⟨b, o, rfl, _, hc⟩ := h2.some_ (by omega) hM
    have hnews : ∀ j u, (kvs M)[j]? = some u → w.cell? ((⟨b, o, none⟩ : Addr).add j) = some u := fun j u hu => by rw [Addr.add_mid]; exact hc j u hu
    have hlen : (kvs M).length = m * 433 := by rw [kvs_length hM, hm]
    rcases h.2 with ho | ⟨rfl, A, rfl⟩
    · have hown := ho.lt
      obtain ⟨v', w', hr, ho', hg, _, _⟩ := run_append_own_at (P := Try.prog) w B 27 ty 49 i _ 433 512 Try.underlying27 hi hz0 hz1 hz2 hzs (by omega) v n (kvs L) ho ⟨b, o, none⟩ m c2 (kvs M) hlen hnews (kvs_one M) (by unfold maxLen; omega) (by omega) hB
      exact ⟨v', w', hr, ⟨hfin, .inl (by rw [kvs_append]; exact ho')⟩, ⟨hg.os, hg.tape, hg.output, hg.size, fun k hk => hg.block k (by omega) fun e => by have := (hown k e.symm).1; omega⟩⟩
    · obtain rfl : L = [] := List.eq_nil_of_length_eq_zero hLn
      have hgo : ∃ v' w', (Builtin.append_ #[27, 27] ty #[.slice A 0 0, .slice (some ⟨b, o, none⟩) m c2]).run Try.prog w = .ok v' w' ∧ w'.ownsRow w.heap.size 49 433 v' (0 + m) ([] ++ kvs M) ∧ w.grownBy w' none := by
        cases A with
        | some ad => exact run_append_arg_grows (P := Try.prog) w 27 ty 49 i _ 433 512 Try.underlying27 hi hz0 hz1 hz2 hzs (by omega) ad 0 0 [] rfl (fun j u hu => by simp at hu) ⟨b, o, none⟩ m c2 (kvs M) hlen hnews (by omega) (by unfold maxLen; omega) (by omega)
        | none =>
          obtain ⟨v', w', hr, ho, hg, _⟩ := run_append_own (P := Try.prog) w w.heap.size 27 ty 49 i _ 433 512 Try.underlying27 hi hz0 hz1 hz2 hzs (by omega) (.slice none 0 0) 0 [] (World.ownsRow_nil w _ 49 433) ⟨b, o, none⟩ m c2 (kvs M) hlen hnews (kvs_one M) (by unfold maxLen; omega) (by omega) (Nat.le_refl _)
          exact ⟨v', w', hr, ho, hg⟩
      obtain ⟨v', w', hr, ho, hg⟩ := hgo
      refine ⟨v', w', hr, ⟨hfin, .inl ?_⟩, ⟨hg.os, hg.tape, hg.output, hg.size, fun k hk => hg.block k (by omega) (by simp)⟩⟩
      refine ⟨ho.1, ho.2.imp id ?_⟩
      rintro ⟨g, cap, cur, e, hgB, hrest⟩
      exact ⟨g, cap, cur, e, Nat.le_trans hB hgB, hrest⟩
theorem op_appK {o : Oper} {a : Act} {K : Act → World → Prop} {Q : Exit → Act → World → Prop} (s x : Operand) (ho : o.op = .call { callee := .builtin .append, args := #[s, x], argTypes := #[27, 27] })
    {c2 k : Nat} (hs : a.eval s = v) (hx : a.eval x = .slice A2 m c2) (h1 : KRow B w v n L) (hM : KAll M) (h2 : Kps w ok A2 M) (hm : M.length = m) (hk : n + m = k) (hle : k ≤ 1000) (hB : B ≤ w.heap.size)
    (h : ∀ A c w', Hid (KRow B w' (.slice A k c) k (L ++ M)) → Hid (Below B w w') → K (a.put o.dst (.slice A k c)) w') : Oper.wp Try.prog o a w K Q := by
  subst hk
  obtain ⟨v', w', hr, q1, q2⟩ := run_appK (ty := o.type) (c2 := c2) h1 hM h2 hm hle hB
  obtain ⟨A, c, rfl, _⟩ := q1.shape
  unfold Oper.wp execOp
  simp only [ho, resolve, invoke, builtin, Sem.run_bind, Sem.run_pure, Result.andThen_ok, List.map_toArray, List.map_cons, List.map_nil, hs, hx, hr]
  exact h A c w' q1 q2
theorem wpList_appK {ops : Array Oper} {rest : List Oper} {o : Oper} {a : Act} {Q : Exit → Act → World → Prop} (hgd : o.guard = none) (s x : Operand) (ho : o.op = .call { callee := .builtin .append, args := #[s, x], argTypes := #[27, 27] })
    {c2 k : Nat} (hs : a.eval s = v) (hx : a.eval x = .slice A2 m c2) (h1 : KRow B w v n L) (hM : KAll M) (h2 : Kps w ok A2 M) (hm : M.length = m) (hk : n + m = k) (hle : k ≤ 1000) (hB : B ≤ w.heap.size)
    (h : ∀ A c w', Hid (KRow B w' (.slice A k c) k (L ++ M)) → Hid (Below B w w') → wpList Try.prog ops Q rest (a.put o.dst (.slice A k c)) w') : wpList Try.prog ops Q (o :: rest) a w :=
  wpList_plain hgd fun _ hK => op_appK s x ho hs hx h1 hM h2 hm hk hle hB fun A c w' q1 q2 => hK _ _ (h A c w' q1 q2)
end
end Go.Proofs.Ytklcjjmeknajlaa
