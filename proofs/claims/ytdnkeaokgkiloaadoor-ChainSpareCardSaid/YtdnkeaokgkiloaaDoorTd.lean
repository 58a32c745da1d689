/- number reads the number of the name with which bytes begin. Conditions: the limit is at most 100000. bytes.Index finds the next mark; next tells the next name. Conditions: fewer than 4294967281 bytes; internal/bytealg.MaxLen holds some number; the limit is at most 100000. What a table of terms is in memory; New, Len, beyond. Conditions: none. -/
import Derived.Test.YtdnkeaokgkiloaaDoorTc
import Derived.Lib.SlBytesConst
import Derived.Maps.OwnSet
import Derived.Maps.OwnOps
import Derived.Maps.AppendAt
import Derived.StringKeys
namespace Go.Proofs.YtdnkeaokgkiloaaDoor.T
open Go.RowKit
open Extern.Stop (cell)
/-- A number is told, and nothing has turned. -/
def Num (w : World) (n : Nat) (e : Ending) (w' : World) : Prop := e = .returned (.int .i64 n) ∧ w = w'
theorem num_mk {w : World} {m n : Nat} (h : n = m) : Num w n (.returned (.int .i64 m)) w := ⟨by rw [h], rfl⟩
open Go.RowKit
/-- internal/bytealg.MaxLen holds some number. -/
def Mx (w : World) : Prop := ∃ m : Int, w.cell? ⟨0, 0, none⟩ = some (.int .i64 m)
theorem Mx.pos {w : World} (h : Mx w) : 0 < w.heap.size := by
  obtain ⟨m, hm⟩ := h
  exact World.block_lt_of_cell? w _ hm
theorem Mx.below {w w' : World} (h : Mx w) (hb : Below w.heap.size w w') : Mx w' := by
  have hp := h.pos
  obtain ⟨m, hm⟩ := h
  exact ⟨m, (hb.cell (p := ⟨0, 0, none⟩) hp).trans hm⟩
theorem cell_of_block {w : World} {g : Nat} {cs : Array Value} {t : TypeId} {fr : Nat × Nat} (h : w.heap[g]? = some (.cells cs t fr)) (j : Nat) : w.cell? ⟨g, j, none⟩ = cs[j]? := by simp [World.cell?, h]
open Go.RowKit
open Go.Maps (has IsMap)
/-- A term: its kind, its parts. -/
abbrev Trm : Type := Nat × List (List UInt8)
/-- A term that may be. -/
def Good (x : Trm) : Prop := 1 ≤ x.1 ∧ x.1 ≤ 8 ∧ Fit x.2
/-- A term's text. -/
def txt (x : Trm) : List UInt8 := UInt8.ofNat x.1 :: jn x.2
theorem txt_inj {x y : Trm} (hx : Good x) (hy : Good y) (h : txt x = txt y) : x = y := by
  obtain ⟨k, ps⟩ := x
  obtain ⟨l, qs⟩ := y
  obtain ⟨h1, h2, h3⟩ := hx
  obtain ⟨h4, h5, h6⟩ := hy
  unfold txt at h
  obtain ⟨e1, e2⟩ := List.cons.inj h
  have e3 : k = l := by
    have := congrArg UInt8.toNat e1
    rw [u8_ofNat, u8_ofNat] at this
    simp only at *
    omega
  have e4 : ps = qs := by
    have a1 := split_jn ps h3
    have a2 := split_jn qs h6
    simp only at e2
    rw [e2, a2] at a1
    exact (congrArg Prod.fst a1).symm
  rw [e3, e4]
theorem txt_length {x : Trm} (hx : Good x) : (txt x).length ≤ 262274 ∧ 1 ≤ (txt x).length := by
  have := jn_length x.2 hx.2.2
  simp only [txt, List.length_cons]
  omega
/-- A text as a value. -/
def sv (xs : List UInt8) : Value := .string ⟨xs.toArray⟩
def key (xs : List UInt8) : Lit := .string xs
def numL (n : Nat) : DataW Unit := .lit (.int .i64 (n : Int))
theorem isKey (xs : List UInt8) : WideAt.IsKeyLit (key xs) := by unfold key; trivial
theorem key_ne {xs ys : List UInt8} (h : xs ≠ ys) : key xs ≠ key ys := fun e => h (by unfold key at e; injection e)
/-- The map tells the terms' places. -/
structure Says (D : DataW Unit) (T : List Trm) : Prop where
  isMap : IsMap D
  has : ∀ x, Good x → has D (key (txt x)) = decide (x ∈ T)
  at_ : ∀ x ∈ T, ∀ z, D.atKey (key (txt x)) z = numL (T.idxOf x + 1)
theorem Says.empty : Says (.map []) [] := ⟨Maps.isMap_empty, fun _ _ => rfl, fun _ h => by simp at h⟩
theorem Says.put {D : DataW Unit} {T : List Trm} {x : Trm} (h : Says D T) (hT : ∀ y ∈ T, Good y) (hx : Good x) (hn : x ∉ T) : Says (D.put (key (txt x)) (numL (T.length + 1))) (T ++ [x]) := by
  refine ⟨h.isMap.put _ _, fun y hy => ?_, fun y hy z => ?_⟩
  · by_cases e : y = x
    · subst e
      rw [Maps.has_put_same h.isMap (isKey _)]
      simp
    · rw [Maps.has_put_other (key_ne fun e' => e (txt_inj hy hx e')), h.has y hy]
      simp [e]
  · by_cases e : y = x
    · subst e
      rw [Maps.atKey_put_same h.isMap (isKey _), List.idxOf_append, if_neg hn]
      simp
    · have hy' : y ∈ T := by simpa [e] using hy
      rw [Maps.atKey_put_other (key_ne fun e' => e (txt_inj (hT y hy') hx e')), h.at_ y hy', List.idxOf_append, if_pos hy']
/-- So much has turned: of the elder blocks just those that are 'ok'. -/
structure Md (ok : Nat → Prop) (w w' : World) : Prop where
  os : w'.os = w.os
  tape : w'.tape = w.tape
  output : w'.output = w.output
  size : w.heap.size ≤ w'.heap.size
  block : ∀ k, k < w.heap.size → ¬ ok k → w'.heap[k]? = w.heap[k]?
/-- .. and what came new. -/
def More (ok : Nat → Prop) (w w' : World) : Nat → Prop := fun b => ok b ∨ (w.heap.size ≤ b ∧ b < w'.heap.size)
section
variable {ok ok' : Nat → Prop} {w w' w'' : World}
theorem Md.refl (ok : Nat → Prop) (w : World) : Md ok w w := ⟨rfl, rfl, rfl, Nat.le_refl _, fun _ _ _ => rfl⟩
theorem Md.trans (h : Md ok w w') (h' : Md (More ok w w') w' w'') : Md ok w w'' :=
  ⟨h'.os.trans h.os, h'.tape.trans h.tape, h'.output.trans h.output, Nat.le_trans h.size h'.size, fun k hk hn =>
    (h'.block k (Nat.lt_of_lt_of_le hk h.size) (fun e => by rcases e with e | ⟨e, _⟩; exact hn e; omega)).trans (h.block k hk hn)⟩
theorem Md.imp (h : Md ok w w') (hi : ∀ b, b < w.heap.size → ok b → ok' b) : Md ok' w w' := ⟨h.os, h.tape, h.output, h.size, fun k hk hn => h.block k hk fun e => hn (hi k hk e)⟩
theorem Md.of_below (h : Below w.heap.size w w') : Md ok w w' := ⟨h.os, h.tape, h.output, h.size, fun k hk _ => h.block k hk⟩
theorem Md.below {B : Nat} (h : Md ok w w') (hB : B ≤ w.heap.size) (hok : ∀ b, b < w.heap.size → ok b → B ≤ b) : Below B w w' :=
  ⟨h.os, h.tape, h.output, h.size, fun k hk => h.block k (by omega) fun e => by have := hok k (by omega) e; omega⟩
theorem Md.alloc (h : Md ok w w') (o : Obj) : Md ok w (w'.alloc o) := h.trans (Md.of_below ((Below.refl _ _).alloc (Nat.le_refl _) o))
theorem Md.setCell (h : Md ok w w') {p : Addr} (hp : More ok w w' p.block) (u : Value) : Md ok w (w'.setCell p u) :=
  h.trans ⟨rfl, rfl, rfl, by simp, fun k _ hn => Below.heap_setCell _ _ _ _ fun e => hn (by rw [e]; exact hp)⟩
end
/-- Block tb is the code's table of these terms; all that may turn of it lies in blocks that are 'ok'. -/
def Tbl (w : World) (ok : Nat → Prop) (tb : Nat) (T : List Trm) : Prop :=
  ∃ (v : Value) (mb : Nat) (D : DataW Unit), w.heap[tb]? = some (.cells #[v, .map (some mb)] 93 (0, 0)) ∧ ok tb ∧ ok mb ∧ mb ≠ tb ∧ (∀ g, v.ownBlock = some g → ok g ∧ g ≠ tb ∧ g ≠ mb) ∧
    w.ownsMap Tryd.prog 9 (plainElem Tryd.prog 3) mb T.length D ∧ Says D T ∧ w.ownsRow 0 9 1 v T.length (T.map fun x => sv (txt x)) ∧ (∀ x ∈ T, Good x) ∧ T.Nodup ∧ T.length ≤ 65535
theorem ownsRow_keep {w w' : World} {base e size n : Nat} {v : Value} {xs : List Value} (h : w.ownsRow base e size v n xs) (hk : ∀ g, v.ownBlock = some g → w'.heap[g]? = w.heap[g]?) : w'.ownsRow base e size v n xs := by
  refine ⟨h.1, ?_⟩
  rcases h.2 with hn | ⟨g, cap, cur, rfl, hb, hgg, rest⟩
  · exact .inl hn
  · exact .inr ⟨g, cap, cur, rfl, hb, (hk g rfl).trans hgg, rest⟩
theorem ownsMap_keep {P : Program} {k : TypeId} {R : Value → Option (DataW Unit × List MemPlace)} {w w' : World} {b n : Nat} {D : DataW Unit} (h : w.ownsMap P k R b n D) (hk : w'.heap[b]? = w.heap[b]?) : w'.ownsMap P k R b n D := by
  obtain ⟨es, clock, hb, r⟩ := h
  exact ⟨es, clock, hk.trans hb, r⟩
section
variable {ok ok' : Nat → Prop} {w w' : World} {tb : Nat} {T : List Trm}
theorem Tbl.keep (h : Tbl w ok tb T) (hk : ∀ b, ok b → b < w.heap.size → w'.heap[b]? = w.heap[b]?) : Tbl w' ok tb T := by
  obtain ⟨v, mb, D, h1, h2, h3, h4, h5, h6, h7, h8, h9⟩ := h
  refine ⟨v, mb, D, (hk tb h2 (Array.getElem?_eq_some_iff.1 h1).1).trans h1, h2, h3, h4, h5, ownsMap_keep h6 (hk mb h3 h6.lt), h7, ownsRow_keep h8 fun g hg => hk g (h5 g hg).1 (h8.lt g hg).2, h9⟩
theorem Tbl.imp (h : Tbl w ok tb T) (hi : ∀ b, b < w.heap.size → ok b → ok' b) : Tbl w ok' tb T := by
  obtain ⟨v, mb, D, h1, h2, h3, h4, h5, h6, h7, h8, h9⟩ := h
  exact ⟨v, mb, D, h1, hi _ (Array.getElem?_eq_some_iff.1 h1).1 h2, hi _ h6.lt h3, h4, fun g hg => ⟨hi _ (h8.lt g hg).2 (h5 g hg).1, (h5 g hg).2⟩, h6, h7, h8, h9⟩
theorem Tbl.below (h : Tbl w ok tb T) (hb : Below w.heap.size w w') : Tbl w' ok tb T := h.keep fun b _ hlt => hb.block b hlt
theorem Tbl.lt (h : Tbl w ok tb T) : tb < w.heap.size := by
  obtain ⟨v, mb, D, h1, _⟩ := h
  exact (Array.getElem?_eq_some_iff.1 h1).1
theorem Tbl.good (h : Tbl w ok tb T) : ∀ x ∈ T, Good x := by
  obtain ⟨v, mb, D, h1, h2, h3, h4, h5, h6, h7, h8, h9, _⟩ := h
  exact h9
theorem Tbl.max (h : Tbl w ok tb T) : T.length ≤ 65535 := by
  obtain ⟨v, mb, D, h1, h2, h3, h4, h5, h6, h7, h8, h9, _, h10⟩ := h
  exact h10
/-- The list's header. -/
theorem Tbl.head (h : Tbl w ok tb T) : ∃ A c, w.cell? ⟨tb, 0, none⟩ = some (.slice A T.length c) ∧ T.length ≤ c ∧ c ≤ maxLen ∧ ∀ j (hj : j < T.length), ∃ g, A = some ⟨g, 0, none⟩ ∧ w.cell? ⟨g, j, none⟩ = some (sv (txt T[j])) := by
  obtain ⟨v, mb, D, h1, h2, h3, h4, h5, h6, h7, h8, h9, _, h10⟩ := h
  have hc := cell_of_block h1 0
  rcases h8.2 with ⟨rfl, h0⟩ | ⟨g, cap, cur, rfl, _, hg, hnc, hcm, _, htk⟩
  · exact ⟨none, 0, by rw [hc, h0]; rfl, by omega, Nat.zero_le _, fun j hj => by omega⟩
  · refine ⟨_, cap, by rw [hc]; rfl, hnc, hcm, fun j hj => ⟨g, rfl, ?_⟩⟩
    have := h8.cells (g := g) rfl j (sv (txt T[j])) (by rw [List.getElem?_map, List.getElem?_eq_getElem hj]; rfl)
    rw [Addr.add_lit, Nat.zero_add] at this
    exact this
end
/-- A table without terms, in new memory. -/
def NewT (w : World) (e : Ending) (w' : World) : Prop := ∃ tb, e = .returned (.pointer (some ⟨tb, 0, none⟩)) ∧ w.heap.size ≤ tb ∧ Tbl w' (fun b => w.heap.size ≤ b ∧ b < w'.heap.size) tb [] ∧ Below w.heap.size w w'
set_option maxRecDepth 100000 in
set_option maxHeartbeats 400000 in
theorem new_any (w : World) : Calls Tryd.prog 33 #[] w (NewT w) := by
  have hmm := @run_makeMap Tryd.prog
  go_enter Tryd.func33, Tryd.ntmps33
  go_wp2
  go_ret
  refine ⟨w.heap.size + 1, rfl, by omega, ?_, ((Below.refl _ _).alloc (Nat.le_refl _) _).alloc (by simp) _⟩
  have hm := (World.ownsMap_made (H := Unit) w Tryd.prog 9 (plainElem Tryd.prog 3)).alloc (.cells #[.slice none 0 0, .map (some w.heap.size)] 93)
  have hb := heap_alloc_new (w.alloc (.map #[] 0)) (.cells #[.slice none 0 0, .map (some w.heap.size)] 93)
  rw [alloc_size] at hb
  exact ⟨.slice none 0 0, w.heap.size, .map [], hb, ⟨by omega, by simp⟩, ⟨Nat.le_refl _, by simp; omega⟩, by omega, fun g hg => by simp [Value.ownBlock] at hg, hm, Says.empty, World.ownsRow_nil _ _ _ _, by simp, List.nodup_nil, by simp⟩
/-- A number is told, and nothing has turned. -/
theorem len_any {w : World} {ok : Nat → Prop} {tb : Nat} {T : List Trm} (h : Tbl w ok tb T) : Calls Tryd.prog 48 #[.pointer (some ⟨tb, 0, none⟩)] w (Num w T.length) := by
  obtain ⟨A, c, hc, h1, h2, _⟩ := h.head
  go_enter Tryd.func48, Tryd.ntmps48
  go_wp2
  go_ret
  exact num_mk rfl
end Go.Proofs.YtdnkeaokgkiloaaDoor.T
