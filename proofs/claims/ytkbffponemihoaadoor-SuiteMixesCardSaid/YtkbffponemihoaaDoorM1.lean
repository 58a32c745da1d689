/- Lists of bytes that a call puts together; what is mixed, in plain mathematics. Conditions: none. -/
import Derived.Test.YtkbffponemihoaaDoorV6
import Derived.Test.YtkbffponemihoaaDoorTh
namespace Go.Proofs.YtkbffponemihoaaDoor
open Go.RowKit T
theorem list_at {α : Type} {Q : Nat → α → Prop} : ∀ n, (∀ i, i < n → ∃ a, Q i a) → ∃ l : List α, l.length = n ∧ ∀ i (h : i < l.length), Q i l[i]
  | 0, _ => ⟨[], rfl, fun i h => by simp at h⟩
  | n + 1, h => by
    obtain ⟨l, hl, hq⟩ := list_at n fun i hi => h i (by omega)
    obtain ⟨a, ha⟩ := h n (by omega)
    refine ⟨l ++ [a], by simp [hl], fun i hi => ?_⟩
    by_cases hn : i < l.length
    · rw [List.getElem_append_left hn]
      exact hq i hn
    · have hin : i = n := by simp at hi; omega
      subst hin
      simp [hl, ha]
/-- A row of the call's own that holds these lists. -/
def Row22 (B : Nat) (w : World) (v : Value) (n : Nat) (L : List (List UInt8)) : Prop :=
  ∃ ss : List Value, w.ownsRow B 40 1 v n ss ∧ L.length = n ∧ ∀ i (h : i < L.length), ∃ A c, ss[i]? = some (.slice A L[i].length c) ∧ L[i].length ≤ c ∧ c ≤ maxLen ∧ Byt w (fun b => b < w.heap.size ∧ some b ≠ v.ownBlock) A L[i]
section
variable {B n m : Nat} {w w' : World} {v : Value} {L L2 : List (List UInt8)} {A A2 : Option Addr}
theorem Row22.up (h : Row22 B w v n L) (hb : Below w.heap.size w w') : Row22 B w' v n L := by
  obtain ⟨ss, h1, h2, h3⟩ := h
  refine ⟨ss, ownsRow_keep h1 fun g hg => hb.block g (h1.lt g hg).2, h2, fun i hi => ?_⟩
  obtain ⟨A, c, q1, q2, q3, q4⟩ := h3 i hi
  exact ⟨A, c, q1, q2, q3, (q4.keep fun b hb' => hb.block b hb'.1).imp fun b hb' => ⟨Nat.lt_of_lt_of_le hb'.1 hb.size, hb'.2⟩⟩
theorem Row22.own (h : Row22 B w v n L) : ∀ g, v.ownBlock = some g → B ≤ g ∧ g < w.heap.size := by
  obtain ⟨ss, h1, _⟩ := h
  exact h1.lt
theorem Row22.new (hB : B ≤ w.heap.size) : Row22 B (w.alloc (.cells #[] 40)) (.slice (some ⟨w.heap.size, 0, none⟩) 0 0) 0 [] :=
  ⟨[], ⟨rfl, .inr ⟨w.heap.size, 0, #[], rfl, hB, heap_alloc_new w _, Nat.le_refl _, Nat.zero_le _, rfl, rfl⟩⟩, rfl, fun i hi => by simp at hi⟩
theorem Row22.lst (h : Row22 B w v n L) : ∃ A c, v = .slice A n c ∧ Lst w (fun b => b < w.heap.size) A L := by
  obtain ⟨ss, o1, h2, o2⟩ := h
  rcases o1.2 with ⟨e, h0⟩ | ⟨gb, cap, cur, e, _⟩
  · refine ⟨none, 0, by rw [e, h0], fun j hj => by omega⟩
  · subst e
    refine ⟨_, cap, rfl, fun j hj => ?_⟩
    obtain ⟨A', c', q1, q2, q3, q4⟩ := o2 j hj
    have hgb := o1.lt gb rfl
    refine ⟨⟨gb, 0, none⟩, A', c', rfl, hgb.2, ?_, q2, q3, q4.imp fun b hb => hb.1⟩
    rw [Addr.add_lit, Nat.zero_add]
    exact ownsRow_cell1 o1 q1
theorem run_app22 {ty : TypeId} {c2 k : Nat} (h : Row22 B w v n L) (h2 : Lst w (fun b => b < w.heap.size ∧ some b ≠ v.ownBlock) A2 L2) (hm : L2.length = m) (hk : n + m = k) (hle : k ≤ 1000) (hB : B ≤ w.heap.size) :
    ∃ A c w', (Builtin.append_ #[22, 22] ty #[v, .slice A2 m c2]).run Tryd.prog w = .ok (.slice A k c) w' ∧ Row22 B w' (.slice A k c) k (L ++ L2) ∧ Below B w w' := by
  subst hk
  obtain ⟨i41, hi41, hx0, hx1, hx2⟩ := info_parts info41
  obtain ⟨ss, o1, hL, o2⟩ := h
  have hown := o1.lt
  have hssl : ss.length = n := by have := o1.1; omega
  -- what is put behind
  have hsrc : ∃ ss2 : List Value, ss2.length = m ∧ (∀ ad, A2 = some ad → ∀ j u, ss2[j]? = some u → w.cell? (ad.add j) = some u) ∧ (∀ u ∈ ss2, u.oneCell' = true) ∧ ∀ i (h : i < L2.length), ∃ A c, ss2[i]? = some (.slice A L2[i].length c) ∧ L2[i].length ≤ c ∧ c ≤ maxLen ∧ Byt w (fun b => b < w.heap.size ∧ some b ≠ v.ownBlock) A L2[i] := by
    obtain ⟨ss2, hl, hq⟩ := list_at (Q := fun i (u : Value) => (∀ ad, A2 = some ad → w.cell? (ad.add i) = some u) ∧ u.oneCell' = true ∧ ∃ h : i < L2.length, ∃ A c, u = .slice A L2[i].length c ∧ L2[i].length ≤ c ∧ c ≤ maxLen ∧ Byt w (fun b => b < w.heap.size ∧ some b ≠ v.ownBlock) A L2[i]) m fun i hi => by
      have hi2 : i < L2.length := by omega
      obtain ⟨ad, A', c', rfl, _, q1, q2, q3, q4⟩ := h2 i hi2
      refine ⟨.slice A' L2[i].length c', fun ad' e => ?_, rfl, hi2, A', c', rfl, q2, q3, q4⟩
      cases e
      exact q1
    refine ⟨ss2, hl, fun ad e j u hu => ?_, fun u hu => ?_, fun i hi => ?_⟩
    · obtain ⟨hj, rfl⟩ := List.getElem?_eq_some_iff.1 hu
      exact (hq j hj).1 ad e
    · obtain ⟨j, hj, rfl⟩ := List.getElem_of_mem hu
      exact (hq j hj).2.1
    · obtain ⟨_, _, _, A, c, e, q2, q3, q4⟩ := hq i (by omega)
      exact ⟨A, c, by rw [List.getElem?_eq_getElem (by omega), e], q2, q3, q4⟩
  obtain ⟨ss2, hl2, hs1, hs2, hs3⟩ := hsrc
  rcases A2 with _ | ad
  · have hm0 : m = 0 := by
      rcases Nat.eq_zero_or_pos m with h0 | h0
      · exact h0
      · obtain ⟨ad, _, _, e, _⟩ := h2 0 (by omega)
        cases e
    subst hm0
    obtain rfl : L2 = [] := List.eq_nil_of_length_eq_zero hm
    obtain ⟨A, c, rfl⟩ : ∃ A c, v = .slice A n c := by
      rcases o1.2 with ⟨rfl, rfl⟩ | ⟨g, cap, cur, rfl, _⟩
      · exact ⟨none, 0, rfl⟩
      · exact ⟨_, cap, rfl⟩
    refine ⟨A, c, w, ?_, ⟨ss, by simpa using o1, by simpa using hL, by simpa using o2⟩, Below.refl _ _⟩
    rcases o1.2 with ⟨e, rfl⟩ | ⟨g, cap, cur, e, _, _, hnc, _⟩
    · cases e
      simp [Builtin.append_, run_underlying Tryd.underlying22, sizeOf, typeInfo, hi41, Builtin.lenOf, Builtin.firstCells]
    · cases e
      simp [Builtin.append_, run_underlying Tryd.underlying22, sizeOf, typeInfo, hi41, Builtin.lenOf, Builtin.firstCells, hnc, storeCells]
  · obtain ⟨v', w', hr, ho, hg, _, hat⟩ := run_append_own_at (P := Tryd.prog) w B 22 ty 40 i41 (.slice none 0 0) 1 24 Tryd.underlying22 hi41 hx0 hx1 hx2 rfl Nat.one_pos v n ss o1 ad m c2 ss2 (by omega) (hs1 ad rfl) hs2 (by unfold maxLen; omega) (by omega) hB
    have hbl : Below B w w' := ⟨hg.os, hg.tape, hg.output, hg.size, fun b hb => hg.block b (by omega) fun e => by have := (hown b e.symm).1; omega⟩
    have hne : ∀ b, b < w.heap.size → some b ≠ v.ownBlock → some b ≠ v'.ownBlock := fun b hb hn => by
      rcases hat with e | e
      · rw [e]; exact hn
      · rw [e]; intro e2; have := Option.some.inj e2; omega
    have hfin : Row22 B w' v' (n + m) (L ++ L2) := by
      refine ⟨ss ++ ss2, ho, by simp [hL, hm], fun i hi => ?_⟩
      have hkeep : ∀ {A : Option Addr} {xs : List UInt8}, Byt w (fun b => b < w.heap.size ∧ some b ≠ v.ownBlock) A xs → Byt w' (fun b => b < w'.heap.size ∧ some b ≠ v'.ownBlock) A xs := fun q => (q.keep fun b hb => hg.block b hb.1 hb.2).imp fun b hb => ⟨Nat.lt_of_lt_of_le hb.1 hg.size, hne b hb.1 hb.2⟩
      by_cases hin : i < L.length
      · obtain ⟨A, c, q1, q2, q3, q4⟩ := o2 i hin
        have e : (L ++ L2)[i] = L[i] := List.getElem_append_left hin
        rw [e]
        exact ⟨A, c, by rw [List.getElem?_append_left (by omega)]; exact q1, q2, q3, hkeep q4⟩
      · have hi2 : i - L.length < L2.length := by simp at hi; omega
        obtain ⟨A, c, q1, q2, q3, q4⟩ := hs3 (i - L.length) hi2
        have e : (L ++ L2)[i] = L2[i - L.length] := List.getElem_append_right (by omega)
        rw [e]
        exact ⟨A, c, by rw [List.getElem?_append_right (by omega), hssl, ← hL]; exact q1, q2, q3, hkeep q4⟩
    obtain ⟨A, c, rfl, _⟩ := hfin.lst
    exact ⟨A, c, w', hr, hfin, hbl⟩
theorem op_app22 {o : Oper} {a : Act} {K : Act → World → Prop} {Q : Exit → Act → World → Prop} (s x : Operand) (ho : o.op = .call { callee := .builtin .append, args := #[s, x], argTypes := #[22, 22] })
    {c2 k : Nat} (hs : a.eval s = v) (hx : a.eval x = .slice A2 m c2) (h1 : Row22 B w v n L) (h2 : Lst w (fun b => b < w.heap.size ∧ some b ≠ v.ownBlock) A2 L2) (hm : L2.length = m) (hk : n + m = k) (hle : k ≤ 1000) (hB : B ≤ w.heap.size)
    (h : ∀ A c w', Row22 B w' (.slice A k c) k (L ++ L2) → Below B w w' → K (a.put o.dst (.slice A k c)) w') : Oper.wp Tryd.prog o a w K Q := by
  obtain ⟨A, c, w', hr, q1, q2⟩ := run_app22 (ty := o.type) (c2 := c2) h1 h2 hm hk hle hB
  unfold Oper.wp execOp
  simp only [ho, resolve, invoke, builtin, Sem.run_bind, Sem.run_pure, Result.andThen_ok, List.map_toArray, List.map_cons, List.map_nil, hs, hx, hr]
  exact h A c w' q1 q2
theorem wpList_app22 {ops : Array Oper} {rest : List Oper} {o : Oper} {a : Act} {Q : Exit → Act → World → Prop} (hgd : o.guard = none) (s x : Operand) (ho : o.op = .call { callee := .builtin .append, args := #[s, x], argTypes := #[22, 22] })
    {c2 k : Nat} (hs : a.eval s = v) (hx : a.eval x = .slice A2 m c2) (h1 : Row22 B w v n L) (h2 : Lst w (fun b => b < w.heap.size ∧ some b ≠ v.ownBlock) A2 L2) (hm : L2.length = m) (hk : n + m = k) (hle : k ≤ 1000) (hB : B ≤ w.heap.size)
    (h : ∀ A c w', Row22 B w' (.slice A k c) k (L ++ L2) → Below B w w' → wpList Tryd.prog ops Q rest (a.put o.dst (.slice A k c)) w') : wpList Tryd.prog ops Q (o :: rest) a w :=
  wpList_plain hgd fun _ hK => op_app22 s x ho hs hx h1 h2 hm hk hle hB fun A c w' q1 q2 => hK _ _ (h A c w' q1 q2)
/-- A row of one list. -/
theorem Row22.one {xs : List UInt8} {xl c : Nat} {ok : Nat → Prop} (hB : B ≤ w.heap.size) (hl : xs.length = xl) (h1 : xl ≤ c) (h2 : c ≤ maxLen) (hx : Byt w ok A xs) (hok : ∀ b, ok b → b < w.heap.size) :
    Row22 B (w.alloc (.cells #[.slice A xl c] 40)) (.slice (some ⟨w.heap.size, 0, none⟩) 1 1) 1 [xs] := by
  subst hl
  refine ⟨[.slice A xs.length c], ⟨rfl, .inr ⟨w.heap.size, 1, #[.slice A xs.length c], rfl, hB, heap_alloc_new w _, Nat.le_refl _, by unfold maxLen; omega, rfl, rfl⟩⟩, rfl, fun i hi => ?_⟩
  obtain rfl : i = 0 := by simpa using hi
  refine ⟨A, c, rfl, h1, h2, (hx.keep fun b hb => Below.heap_alloc _ _ _ (hok b hb)).imp fun b hb => ⟨?_, fun e => ?_⟩⟩
  · rw [World.size_alloc]
    have := hok b hb
    omega
  · have e' : b = w.heap.size := by simpa [Value.ownBlock] using e
    have := hok b hb
    omega
theorem lst_lit1 {ok : Nat → Prop} {xs : List UInt8} {c xl : Nat} (hl : xs.length = xl) (h1 : xl ≤ c) (h2 : c ≤ maxLen) (hx : Byt w ok A xs) (hok : ∀ b, ok b → b < w.heap.size) :
    Lst (w.alloc (.cells #[.slice A xl c] 40)) (fun b => ok b ∨ b = w.heap.size) (some ⟨w.heap.size, 0, none⟩) [xs] := fun i hi => by
  obtain rfl : i = 0 := by simpa using hi
  subst hl
  refine ⟨_, A, c, rfl, .inr rfl, ?_, h1, h2, (hx.keep fun b hb => Below.heap_alloc _ _ _ (hok b hb)).imp fun b hb => .inl hb⟩
  rw [Addr.add_lit, Nat.zero_add, cell_of_block (heap_alloc_new w _)]
  rfl
end
/-- Some bool is answered, and nothing has turned. -/
def SomeBool (w : World) (e : Ending) (w' : World) : Prop := ∃ b, e = .returned (.bool b) ∧ w = w'

set_option maxRecDepth 100000 in
set_option maxHeartbeats 1000000 in
theorem great_any {w : World} {ok : Nat → Prop} {A : Option Addr} {ps : List (List UInt8)} {c : Nat} (hx : Lst w ok A ps) (hm : ps.length ≤ maxLen) :
    Calls Tryd.prog 7 #[.slice A ps.length c] w (SomeBool w) := by
  unfold maxLen at hm
  go_enter Tryd.func7, Tryd.ntmps7
  go_wp2
  go_loop [3, 4] (fun n i => ∃ (k : Nat) (z : Int), k ≤ ps.length ∧ i = .int .i64 k ∧ 0 ≤ z ∧ z ≤ 800001 ∧ n = .int .i64 z) (fun _ i => ps.length - (intOf i).toNat)
  case atStart => exact ⟨0, 0, Nat.zero_le _, rfl, by omega, by omega, rfl⟩
  case round =>
    obtain ⟨k, z, hk, rfl, hz0, hz1, rfl⟩ := hrel
    by_cases hlt : k < ps.length
    · by_cases h4 : z ≤ 400000
      · obtain ⟨ad, A', c', rfl, _, hc, hl1, hl2, _⟩ := hx k hlt
        have d1 : decide (k < ps.length) = true := by simp; omega
        have d2 : decide (z ≤ 400000) = true := by simpa using h4
        unfold maxLen at hl2
        go_wp2
        go_round
        case rel => exact ⟨k + 1, _, by omega, by go_num, by split <;> omega, by split <;> omega, rfl⟩
        case measure => simp [intOf]; omega
      · have d1 : decide (k < ps.length) = true := by simp; omega
        have d2 : decide (z ≤ 400000) = false := by simpa using h4
        go_wp2
        go_ret
        exact ⟨_, rfl, rfl⟩
    · have d1 : decide (k < ps.length) = false := by simp; omega
      go_wp2
      go_ret
      exact ⟨_, rfl, rfl⟩

/-- What may be mixed. -/
def MixOk (ps : List (List UInt8)) : Prop := ps.length ≤ 8 ∧ ∀ p ∈ ps, p.length ≤ 1024
theorem mixOk_fit {ps : List (List UInt8)} (h : MixOk ps) : Fit ps := ⟨by have := h.1; omega, fun p hp => by have := h.2 p hp; omega⟩
theorem mix_made {ps : List (List UInt8)} (x : UInt8) (h : MixOk ps) : mk [] 7 ([x] :: ps) = (1, [(7, [x] :: ps)]) := by
  have hg : T.Good (7, [x] :: ps) := by
    refine ⟨by show 1 ≤ 7; omega, by show 7 ≤ 8; omega, by show ([x] :: ps).length ≤ 64; have := h.1; simp; omega, fun p hp => ?_⟩
    rcases List.mem_cons.1 hp with rfl | hp
    · simp
    · have := h.2 p hp; omega
  exact mk_new (T := []) hg (by simp) (by simp)
theorem jn_len {ps : List (List UInt8)} (h : MixOk ps) : (jn ps).length ≤ 15000 := by
  have h1 := flat_length ps (mixOk_fit h).2
  have h2 : ∀ qs : List (List UInt8), (∀ p ∈ qs, p.length ≤ 1024) → (qs.flatMap enc).length ≤ 1026 * qs.length := by
    intro qs
    induction qs with
    | nil => intro _; simp
    | cons p qs ih =>
      intro hq
      have := ih fun p hp => hq p (List.mem_cons_of_mem _ hp)
      have h3 := hq p (List.mem_cons_self)
      rw [List.flatMap_cons, List.length_append, enc_length, List.length_cons]
      omega
  have := h2 ps h.2
  have := h.1
  unfold jn
  rw [List.length_cons]
  omega
theorem not_mixOk_long {ps : List (List UInt8)} (h : 8 < ps.length) : ¬ MixOk ps := fun hm => by have := hm.1; omega
theorem not_mixOk_big {ps : List (List UInt8)} {k : Nat} (hk : k < ps.length) (h : 1024 < ps[k].length) : ¬ MixOk ps := fun hm => by have := hm.2 _ (List.getElem_mem hk); omega
theorem mixOk_all {ps : List (List UInt8)} (h : ps.length ≤ 8) (ha : ∀ j (hj : j < ps.length), j < ps.length → ps[j].length ≤ 1024) : MixOk ps := ⟨h, fun p hp => by
  obtain ⟨j, hj, rfl⟩ := List.getElem_of_mem hp
  exact ha j hj hj⟩
/-- What is mixed: by terms, or really. -/
def mixR (free : Bool) (x : UInt8) (ps : List (List UInt8)) : List UInt8 := if free then nm 1 else S.hmac [x] (jn ps)
theorem mixR_length (free : Bool) (x : UInt8) (ps : List (List UInt8)) : (mixR free x ps).length = 32 := by
  unfold mixR
  cases free
  · exact S.hmac_length _ _
  · exact nm_length 1
/-- What Mix answers. -/
def MixA (free : Bool) (x : UInt8) (ps : List (List UInt8)) (e : Ending) : Prop :=
  (MixOk ps ∧ e = .returned (.tuple #[.agg (u8s (mixR free x ps)).toArray, .bool true])) ∨ (¬ MixOk ps ∧ e = .returned (.tuple #[.agg (u8s z32).toArray, .bool false]))
theorem byt_one (w : World) (x : UInt8) : Byt (w.alloc (.cells #[.int .u8 (x.toNat : Int)] 5)) (fun b => b = w.heap.size) (some ⟨w.heap.size, 0, none⟩) [x] := byt_mark w [x] (0, 0)
end Go.Proofs.YtkbffponemihoaaDoor
