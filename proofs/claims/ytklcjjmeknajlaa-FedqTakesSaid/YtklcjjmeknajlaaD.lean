/- fedq.own: the items, in new memory. Conditions: the items ask, there are no more than 100. -/
import Derived.Test.YtklcjjmeknajlaaC
import Derived.Deep.LoopGhost
import Derived.WalkMore
namespace Go.Proofs.Ytklcjjmeknajlaa
open Go.RowKit
/-- Just block b has turned. -/
structure Wr (b : Nat) (w w' : World) : Prop where
  os : w'.os = w.os
  tape : w'.tape = w.tape
  output : w'.output = w.output
  size : w'.heap.size = w.heap.size
  block : ∀ k, k ≠ b → w'.heap[k]? = w.heap[k]?
section
variable {w : World} {ops : Array Oper} {rest : List Oper} {o : Oper} {a : Act} {Q : Exit → Act → World → Prop}
theorem run_storeAt_cell (w : World) (ty : TypeId) (b i : Nat) (v : Value) (h1 : v.oneCell' = true) (cs : List Value) (t : TypeId) (hb : w.heap[b]? = some (.cells cs.toArray t (0, 0))) (hi : i < cs.length) (hs : (Try.prog.info? ty).map (·.size) = some 1) :
    (Instr.storeAt ty (.pointer (some ⟨b, i, none⟩)) v).run Try.prog w = .ok () (w.setRow b (cs.set i v).toArray) := by
  have hc : v.cells = #[v] := by cases v <;> first | rfl | cases h1
  have hst := run_storeCells_at Try.prog b i t [v] 0 cs.toArray w hb (by simp; omega) (fun u hu => by simp at hu; subst hu; exact h1)
  have e : (cs.toArray.toList.take (i + 0) ++ [v] ++ cs.toArray.toList.drop (i + 0 + [v].length)) = cs.set i v := by
    rw [List.set_eq_take_append_cons_drop, if_pos hi]
    simp
  rw [e] at hst
  cases hq : Try.prog.info? ty with
  | none => simp [hq] at hs
  | some inf =>
    have hsz : inf.size = 1 := by simpa [hq] using hs
    simp [Instr.storeAt, Instr.sureAddr, storeVar, sizeOf, typeInfo, hq, hc, hsz, hst]
theorem wr_setRow (w : World) (b : Nat) (cs : Array Value) : Wr b w (w.setRow b cs) := ⟨rfl, rfl, rfl, by simp [World.setRow], fun k hk => setRow_other w b k cs hk⟩
/-- Nothing has turned. -/
structure Eqw (w w' : World) : Prop where
  os : w'.os = w.os
  tape : w'.tape = w.tape
  output : w'.output = w.output
  size : w'.heap.size = w.heap.size
  block : ∀ k : Nat, w'.heap[k]? = w.heap[k]?
theorem Eqw.below {w w' : World} (h : Eqw w w') (B : Nat) : Below B w w' := ⟨h.os, h.tape, h.output, Nat.le_of_eq h.size.symm, fun k _ => h.block k⟩
theorem KRow.eqw {B n : Nat} {w w' : World} {v : Value} {L : List Kep} (h : KRow B w v n L) (he : Eqw w w') : KRow B w' v n L := ⟨h.1, h.2.imp (fun h1 => ownsRow_keep h1 fun g _ => he.block g) id⟩
theorem wpList_store_same (hgd : o.guard = none) (ty : TypeId) (x y : Operand) (ho : o.op = .store ty x y) (hs : (Try.prog.info? ty).map (·.size) = some 1) (b i : Nat) (v : Value) (hx : a.eval x = .pointer (some ⟨b, i, none⟩)) (hy : a.eval y = v) (h1 : v.oneCell' = true)
    (cs : List Value) (t : TypeId) (hb : w.heap[b]? = some (.cells cs.toArray t (0, 0))) (hi : cs[i]? = some v)
    (h : ∀ w', Hid (Eqw w w') → wpList Try.prog ops Q rest (a.put o.dst undef) w') : wpList Try.prog ops Q (o :: rest) a w :=
  wpList_plain hgd fun _ hK => by
    obtain ⟨hlt, he⟩ := List.getElem?_eq_some_iff.1 hi
    have hset : cs.set i v = cs := by rw [← he]; exact List.set_getElem_self hlt
    have hrun := run_storeAt_cell w ty b i v h1 cs t hb hlt hs
    rw [hset] at hrun
    unfold Oper.wp execOp
    simp only [ho, hx, hy, Sem.run_bind, hrun, Sem.run_pure, Result.andThen_ok]
    have hw := wr_setRow w b cs.toArray
    refine hK _ _ (h _ ⟨hw.os, hw.tape, hw.output, hw.size, fun k => ?_⟩)
    by_cases hk : k = b
    · subst hk
      rw [setRow_heap w k _ _ t _ hb, hb]
    · exact hw.block k hk
theorem run_app_nil37 (ty : TypeId) (w : World) : (Builtin.append_ #[37, 37] ty #[.slice none 0 0, .slice none 0 0]).run Try.prog w = .ok (.slice none 0 0) w := by kernel_rfl
theorem run_app_nil45 (ty : TypeId) (w : World) : (Builtin.append_ #[45, 45] ty #[.slice none 0 0, .slice none 0 0]).run Try.prog w = .ok (.slice none 0 0) w := by kernel_rfl
theorem wpList_app_nil (t : TypeId) (hr : ∀ ty w, (Builtin.append_ #[t, t] ty #[.slice none 0 0, .slice none 0 0]).run Try.prog w = .ok (.slice none 0 0) w) (hgd : o.guard = none) (s x : Operand) (ho : o.op = .call { callee := .builtin .append, args := #[s, x], argTypes := #[t, t] })
    (hs : a.eval s = .slice none 0 0) (hx : a.eval x = .slice none 0 0) (h : wpList Try.prog ops Q rest (a.put o.dst (.slice none 0 0)) w) : wpList Try.prog ops Q (o :: rest) a w :=
  wpList_plain hgd fun _ hK => by
    have hrun := hr o.type w
    unfold Oper.wp execOp
    simp only [ho, resolve, invoke, builtin, Sem.run_bind, Sem.run_pure, Result.andThen_ok, List.map_toArray, List.map_cons, List.map_nil, hs, hx, hrun]
    exact hK _ _ h
end
theorem size37 : (Try.prog.info? 37).map (·.size) = some 1 := by kernel_rfl
theorem size45 : (Try.prog.info? 45).map (·.size) = some 1 := by kernel_rfl
/-- The block of a row of items, and its k-th item's lists. -/
theorem KRow.blk {B n : Nat} {w : World} {A : Option Addr} {c : Nat} {L : List Kep} (h : KRow B w (.slice A n c) n L) {k : Nat} (hk : k < n) :
    ∃ g cs, A = some ⟨g, 0, none⟩ ∧ Blk w g 49 cs ∧ cs[433 * k + 169]? = some nl ∧ cs[433 * k + 432]? = some nl := by
  have hKL := h.1.1
  have hLn := h.1.2
  rcases h.2 with ho | ⟨h0, _⟩
  · rcases ho.2 with ⟨e2, h0⟩ | ⟨g, cap, cur, e2, hg, hb, _, _, hs, ht⟩
    · omega
    · cases e2
      have hat : ∀ j v, j < 433 → (kv (L[k]'(by omega)))[j]? = some v → cur.toList[433 * k + j]? = some v := fun j v hj hv => by
        rw [← kvs_at hKL k (by omega) j hj, ← ht] at hv
        have hlen := (List.getElem?_eq_some_iff.1 hv).1
        rw [List.getElem?_take_of_lt (by rw [List.length_take] at hlen; omega)] at hv
        exact hv
      exact ⟨g, cur.toList, rfl, by unfold Blk; exact hb, hat 169 nl (by omega) (kv_body _), hat 432 nl (by omega) (kv_vouches _)⟩
  · omega
/-- A list of items is answered, in new memory that is the call's own. -/
def OwnE (w : World) (n : Nat) (L : List Kep) (e : Ending) (w' : World) : Prop := ∃ A c, e = .returned (.slice A n c) ∧ KRow w.heap.size w' (.slice A n c) n L ∧ w.grownBy w' none
set_option maxRecDepth 100000 in
set_option maxHeartbeats 1600000 in
theorem own_any {w : World} {ok : Nat → Prop} {A : Option Addr} {L : List Kep} {n c : Nat} (hL : Kps w ok A L) (hn : L.length = n) (hle : n ≤ 100) :
    Calls Try.prog 12 #[.slice A n c] w (OwnE w n L) := by
  have hK : KAll L := fun _ _ => trivial
  have HL := Lib.hid hL
  have HK := Lib.hid hK
  have HN := Lib.hid hn
  have R0 : Hid (KRow w.heap.size w (.slice none 0 0) 0 []) := KRow.mk0 _ _ none
  have hk1 : 0 + n = n := Nat.zero_add n
  have hle1 : n ≤ 1000 := by omega
  have HL1 := Lib.hid hle1
  have HS0 : Hid (w.heap.size ≤ w.heap.size) := Nat.le_refl _
  clear hL hK hn hle1
  go_enter Try.func12, Try.ntmps12
  go_wp2_with (first | (at_builtin; refine wpList_appK rfl (.const (.slice none 0 0)) (.tmp 5) rfl (v := .slice none 0 0) (c2 := c) (k := n) rfl rfl R0.out HK.out HL.out HN.out hk1 HL1.out HS0.out ?_) | fail)
  intro A1 c1 w1 r1 l1
  go_wp2
  go_loopw [9] (fun i wr => ∃ k : Nat, k ≤ n ∧ i = .int .i64 (k : Int) ∧ Hid (KRow w.heap.size wr (.slice A1 n c1) n L) ∧ Hid (Below w.heap.size w wr)) (fun i _ => n - (intOf i).toNat)
  case atStart => exact ⟨0, Nat.zero_le _, rfl, r1, l1⟩
  case round =>
    obtain ⟨k, hk, rfl, R, Bl⟩ := hrel
    by_cases hlt : k < n
    · obtain ⟨g, cs, rfl, hb, q1, q2⟩ := R.out.blk hlt
      have i1 : (k : Int) < (n : Int) := by omega
      have q1' : cs[k * 433 + 3 + 166]? = some (.slice none 0 0) := by rw [show k * 433 + 3 + 166 = 433 * k + 169 by omega]; exact q1
      have q2' : cs[k * 433 + 332 + 100]? = some (.slice none 0 0) := by rw [show k * 433 + 332 + 100 = 433 * k + 432 by omega]; exact q2
      have hc : wr.cell? ⟨g, k * 433 + 3 + 166, none⟩ = some (.slice none 0 0) := hb.get _ _ q1'
      have HB := Lib.hid hb
      have Q1 := Lib.hid q1'
      have Q2 := Lib.hid q2'
      clear hb q1 q2 q1' q2' r1 l1
      go_wp2_with (first | (at_builtin; refine wpList_app_nil 37 run_app_nil37 rfl (.const (.slice none 0 0)) (.tmp 20) rfl rfl rfl ?_) | (refine wpList_store_same rfl 37 (.tmp 24) (.tmp 21) rfl size37 g (k * 433 + 3 + 166) (.slice none 0 0) rfl rfl rfl cs 49 HB.out Q1.out ?_) | fail)
      intro wa ea
      have HB2 : Hid (Blk wa g 49 cs) := HB.out.keep (ea.out.block g)
      have hc2 : wa.cell? ⟨g, k * 433 + 332 + 100, none⟩ = some (.slice none 0 0) := HB2.out.get _ _ Q2.out
      have R2 := Lib.hid (R.out.eqw ea.out)
      have B2 := Lib.hid (Bl.out.trans (ea.out.below _))
      clear ea HB R Bl Q1 hc
      go_wp2_with (first | (at_builtin; refine wpList_app_nil 45 run_app_nil45 rfl (.const (.slice none 0 0)) (.tmp 30) rfl rfl rfl ?_) | (refine wpList_store_same rfl 45 (.tmp 34) (.tmp 31) rfl size45 g (k * 433 + 332 + 100) (.slice none 0 0) rfl rfl rfl cs 49 HB2.out Q2.out ?_) | fail)
      intro wb eb
      have R3 := Lib.hid (R2.out.eqw eb.out)
      have B3 := Lib.hid (B2.out.trans (eb.out.below _))
      clear eb HB2 R2 B2 Q2 hc2
      go_wp2
      go_roundw
      case rel => exact ⟨k + 1, by omega, by go_num, R3, B3⟩
      case measure => simp [intOf]; omega
    · have hend : k = n := by omega
      subst hend
      go_wp2
      go_ret
      exact ⟨A1, c1, rfl, R.out, below_grown Bl.out⟩
end Go.Proofs.Ytklcjjmeknajlaa
