/- number reads the number of the name with which bytes begin. Conditions: the limit is at most 100000. bytes.Index finds the next mark; next tells the next name. Conditions: fewer than 4294967281 bytes; internal/bytealg.MaxLen holds some number; the limit is at most 100000. What a table of terms is in memory; New, Len, beyond. Conditions: none. -/
import Derived.Test.YtkbffponemihoaaGreatDoorTc
import Derived.Lib.SlBytesConst
import Derived.Maps.OwnSet
import Derived.Maps.OwnOps
import Derived.Maps.AppendAt
import Derived.StringKeys
namespace Go.Proofs.YtkbffponemihoaaGreatDoor.T
open Go.RowKit
open Extern.Stop (cell)
theorem size5 (w : World) : (sizeOf 5).run Tryz.prog w = .ok 1 w := by kernel_rfl
set_option maxRecDepth 100000 in
theorem run_neq_arr (T : TypeId) (n : Nat) (hT : Tryz.prog.underlying T = some (.array n 5)) (xs ys : List UInt8) (hx : xs.length = n) (hy : ys.length = n) (w : World) :
    (binOp .neq T (.agg (u8s xs).toArray) (.agg (u8s ys).toArray)).run Tryz.prog w = .ok (.bool (!(xs == ys))) w := by
  have h : (binOp .neq T (.agg (xs.map cell).toArray) (.agg (ys.map cell).toArray)).run Tryz.prog w = .ok (.bool (!(xs == ys))) w := by
    rw [run_neq_struct, run_equalIn_bytes w 9998 T 5 n hT Tryz.underlying5 size5 xs ys hx hy]
    rfl
  exact h
theorem guard94 : Tryz.prog.eqGuardType Tryz.prog.depth 129 = false := by kernel_rfl
theorem run_build94 (w : World) : (Instr.build 129 #[]).run Tryz.prog w = .ok (.agg (u8s (List.replicate 24 0)).toArray) w := by kernel_rfl
def z24 : List UInt8 := List.replicate 24 0
theorem z24_length : z24.length = 24 := rfl
section
variable {w : World} {ops : Array Oper} {rest : List Oper} {o : Oper} {a : Act} {Q : Exit → Act → World → Prop}
theorem wpList_load24 (hw : Region.wanted o (yielded ops a.tmps) = true) (x : Operand) (ho : o.op = .load 129 x) (b off : Nat) (hx : a.eval x = .pointer (some ⟨b, off, none⟩)) (xs : List UInt8) (hc : w.rangeAt b off (u8s xs)) (hl : xs.length = 24)
    (h : wpList Tryz.prog ops Q rest (a.put o.dst (.agg (u8s xs).toArray)) w) : wpList Tryz.prog ops Q (o :: rest) a w :=
  wpList_step fun K hK => by
    rw [if_pos hw]
    exact wp_load_mid 129 x ho b off hx (u8s xs) _ hc Tryz.underlying129 rfl (by rw [u8s_length, hl]; kernel_rfl) (hK _ _ h)
theorem wpList_build24 (hw : Region.wanted o (yielded ops a.tmps) = true) (ho : o.op = .build 129 #[])
    (h : wpList Tryz.prog ops Q rest (a.put o.dst (.agg (u8s z24).toArray)) w) : wpList Tryz.prog ops Q (o :: rest) a w :=
  wpList_step fun K hK => by
    rw [if_pos hw]
    have hrun : (Instr.build 129 #[]).run Tryz.prog w = .ok (.agg (u8s z24).toArray) w := run_build94 w
    unfold Oper.wp
    simp [execOp, ho, hrun, Result.andThen]
    exact hK _ _ h
theorem wpList_neq24 (hw : Region.wanted o (yielded ops a.tmps) = true) (x y : Operand) (ho : o.op = .binOp .neq 129 x y 129) (xs ys : List UInt8) (hx : a.eval x = .agg (u8s xs).toArray) (hy : a.eval y = .agg (u8s ys).toArray) (hlx : xs.length = 24) (hly : ys.length = 24) (t : Bool) (ht : (!(xs == ys)) = t)
    (h : wpList Tryz.prog ops Q rest (a.put o.dst (.bool t)) w) : wpList Tryz.prog ops Q (o :: rest) a w :=
  wpList_step fun K hK => by
    rw [if_pos hw]
    have hrun := run_neq_arr 129 24 Tryz.underlying129 xs ys hlx hly w
    rw [ht] at hrun
    unfold Oper.wp execOp
    simp only [ho, hx, hy, hrun, run_eqGuard_agg _ _ _ _ _ _ _ guard94, Sem.run_bind, Result.andThen_ok]
    exact hK _ _ h
end
theorem num_short (b : List UInt8) (below : Nat) (h : b.length < 32) : num b below = 0 := by
  unfold num; rw [if_neg (by omega)]
theorem num_other (b : List UInt8) (below : Nat) (h : b.take 4 ≠ mark) : num b below = 0 := by
  unfold num; rw [if_neg (fun hc => h hc.2.1)]
theorem num_tail (b : List UInt8) (below : Nat) (h : (b.drop 8).take 24 ≠ z24) : num b below = 0 := by
  unfold num; rw [if_neg (fun hc => h hc.2.2.1)]
theorem num_yes (b : List UInt8) (below k : Nat) (h1 : 32 ≤ b.length) (h2 : b.take 4 = mark) (h3 : (b.drop 8).take 24 = z24) (hk : nb ((b.drop 4).take 4) = k) : num b below = if k < below then k else 0 := by
  unfold num
  rw [hk]
  by_cases h : k < below
  · rw [if_pos ⟨h1, h2, h3, h⟩, if_pos h]
  · rw [if_neg (fun hc => h hc.2.2.2), if_neg h]
/-- A number is told, and nothing has turned. -/
def Num (w : World) (n : Nat) (e : Ending) (w' : World) : Prop := e = .returned (.int .i64 n) ∧ w = w'
theorem num_mk {w : World} {m n : Nat} (h : n = m) : Num w n (.returned (.int .i64 m)) w := ⟨by rw [h], rfl⟩
theorem getV_four (xs : List UInt8) (h : xs.length = 4) : getV xs = .returned (.tuple #[.int .u64 (nb xs), .bool true]) := by
  rw [getV, if_pos (by omega)]
theorem get_four {w : World} {ok : Nat → Prop} {A : Option Addr} {xs : List UInt8} {c : Nat} (hx : Byt w ok A xs) (h : xs.length = 4) {k : Nat} (hk : nb xs = k) :
    Calls Tryz.prog 90 #[.slice A 4 c] w fun e w' => e = .returned (.tuple #[.int .u64 k, .bool true]) ∧ w = w' := by
  have := get_any (c := c) hx (by rw [h]; unfold maxLen; omega)
  rw [getV_four xs h, h, hk] at this
  exact this
set_option maxRecDepth 100000 in
set_option maxHeartbeats 1000000 in
theorem number_any {w : World} {ok : Nat → Prop} {A : Option Addr} {b : List UInt8} {c below : Nat} (hx : Byt w ok A b) (hc : b.length ≤ c) (hm : c ≤ maxLen) (hb : below ≤ 100000) :
    Calls Tryz.prog 80 #[.slice A b.length c, .int .i64 below] w (Num w (num b below)) := by
  unfold maxLen at hm
  by_cases h1 : b.length < 32
  · have e := num_short b below h1
    have d1 : decide ((b.length : Int) < 32) = true := by simp; omega
    have E := Lib.hid e
    clear e hx
    go_enter Tryz.func80, Tryz.ntmps80
    go_wp2
    go_ret
    exact num_mk E.out
  have d1 : decide ((b.length : Int) < 32) = false := by simp; omega
  have q1 : (4 : Int) ≤ (c : Int) := by omega
  have q2 : (8 : Int) ≤ (32 : Int) := by omega
  have q3 : (32 : Int) ≤ (c : Int) := by omega
  have q4 : (8 : Int) ≤ (c : Int) := by omega
  obtain ⟨ab, ao, rfl, hoka, -, -⟩ := at_two hx (by omega)
  have ht4 : (b.take 4).length = 4 := by rw [List.length_take]; omega
  have r1 := (hx.take 4).str c
  rw [ht4] at r1
  by_cases h2 : b.take 4 = mark
  · rw [h2] at r1
    have r1' : (convert 23 9 (.slice (some ⟨ab, ao, none⟩) 4 c)).run Tryz.prog w = .ok (.string { data := #[116, 101, 114, 109] }) w := r1
    clear r1
    have hr : w.rangeAt ab (ao + 8) (u8s ((b.drop 8).take 24)) := fun j v hv => by
      obtain ⟨hj, rfl⟩ := u8s_get _ j v hv
      rw [List.length_take, List.length_drop] at hj
      obtain ⟨ad, e, _, hcell⟩ := hx (8 + j) (by omega)
      cases e
      rw [Addr.add_lit] at hcell
      rw [Nat.add_assoc, hcell]
      simp
    have hl24 : ((b.drop 8).take 24).length = 24 := by rw [List.length_take, List.length_drop]; omega
    have hs : ∀ W : World, (Instr.arrayAt 129 (.slice (some ⟨ab, ao + 8, none⟩) 24 (c - 8))).run Tryz.prog W = .ok (.pointer (some ⟨ab, ao + 8, none⟩)) W := fun W => by
      simp [Instr.arrayAt, run_underlying Tryz.underlying129]
    have HR := Lib.hid hr
    have H24 := Lib.hid hl24
    clear hr hl24
    by_cases h3 : (b.drop 8).take 24 = z24
    · obtain ⟨k, hk⟩ : ∃ k, nb ((b.drop 4).take 4) = k := ⟨_, rfl⟩
      have e := num_yes b below k (by omega) h2 h3 hk
      have hk32 : k < 4294967296 := by
        have := nb_lt 4 ((b.drop 4).take 4) (by rw [List.length_take, List.length_drop]; omega)
        rw [hk] at this
        omega
      have HB : Hid (Calls Tryz.prog 90 #[.slice (some ⟨ab, ao + 4, none⟩) 4 (c - 4)] w fun e w' => e = .returned (.tuple #[.int .u64 k, .bool true]) ∧ w = w') := by
        have hd := (hx.drop (k := 4) (c := c) (by omega) hc).take 4
        rw [if_neg (by omega)] at hd
        exact get_four hd (by rw [List.length_take, List.length_drop]; omega) hk
      have c1 : IntKind.u64.wrap (below : Int) = (below : Int) := IntWalk.u64_in _ (by omega)
      have c2 : IntKind.i64.wrap (k : Int) = (k : Int) := IntWalk.i64_in _ (by omega)
      have EH := Lib.hid e
      have EK := Lib.hid hk
      have HN : Hid ((!((b.drop 8).take 24 == z24)) = false) := by
        show (!((b.drop 8).take 24 == z24)) = false
        rw [h3]; simp
      clear e hk h2 h3 hx ht4
      by_cases h4 : k < below
      · have d4 : decide (below ≤ k) = false := by simp; omega
        go_enter Tryz.func80, Tryz.ntmps80
        go_wp2_with (first | (refine wpList_load24 rfl (.tmp 19) rfl ab (ao + 8) rfl _ HR.out H24.out ?_) | (refine wpList_build24 rfl rfl ?_) | (refine wpList_neq24 rfl _ _ rfl _ _ rfl rfl H24.out z24_length _ HN.out ?_) | fail)
        go_at_call 90
        refine HB.out.mono ?_
        rintro e w2 ⟨rfl, rfl⟩
        go_wp2
        go_ret
        exact num_mk (by rw [EH.out, if_pos h4])
      · have d4 : decide (below ≤ k) = true := by simp; omega
        go_enter Tryz.func80, Tryz.ntmps80
        go_wp2_with (first | (refine wpList_load24 rfl (.tmp 19) rfl ab (ao + 8) rfl _ HR.out H24.out ?_) | (refine wpList_build24 rfl rfl ?_) | (refine wpList_neq24 rfl _ _ rfl _ _ rfl rfl H24.out z24_length _ HN.out ?_) | fail)
        go_at_call 90
        refine HB.out.mono ?_
        rintro e w2 ⟨rfl, rfl⟩
        go_wp2
        go_ret
        exact num_mk (by rw [EH.out, if_neg h4])
    · have e := num_tail b below h3
      have EH := Lib.hid e
      have HN : Hid ((!((b.drop 8).take 24 == z24)) = true) := by
        show (!((b.drop 8).take 24 == z24)) = true
        simpa using h3
      clear e h2 h3 hx ht4
      go_enter Tryz.func80, Tryz.ntmps80
      go_wp2_with (first | (refine wpList_load24 rfl (.tmp 19) rfl ab (ao + 8) rfl _ HR.out H24.out ?_) | (refine wpList_build24 rfl rfl ?_) | (refine wpList_neq24 rfl _ _ rfl _ _ rfl rfl H24.out z24_length _ HN.out ?_) | fail)
      go_ret
      exact num_mk EH.out
  · have e := num_other b below h2
    have EH := Lib.hid e
    obtain ⟨s, hs⟩ : ∃ s : ByteArray, (⟨(b.take 4).toArray⟩ : ByteArray) = s := ⟨_, rfl⟩
    have ds : ¬ s.toList = [116, 101, 114, 109] := by
      rw [← hs, Lib.toList_data]
      exact h2
    rw [hs] at r1
    clear e h2 hx ht4 hs
    go_enter Tryz.func80, Tryz.ntmps80
    go_wp2
    go_ret
    exact num_mk EH.out
open Go.RowKit
/-- internal/bytealg.MaxLen holds some number. -/
def Mx (w : World) : Prop := ∃ m : Int, w.cell? ⟨0, 0, none⟩ = some (.int .i64 m)
theorem Mx.pos {w : World} (h : Mx w) : 0 < w.heap.size := by
  obtain ⟨m, hm⟩ := h
  exact World.block_lt_of_cell? w _ hm
theorem Mx.below {w w' : World} (h : Mx w) (hb : Below w.heap.size w w') : Mx w' := by
  have hp := h.pos
  obtain ⟨m, hm⟩ := h
  exact ⟨m, (hb.cell (p := ⟨0, 0, none⟩) hp).trans hm⟩
theorem Mx.drewN {w : World} (h : Mx w) (n : Nat) : Mx (w.drewN n) := h
theorem cell_of_block {w : World} {g : Nat} {cs : Array Value} {t : TypeId} {fr : Nat × Nat} (h : w.heap[g]? = some (.cells cs t fr)) (j : Nat) : w.cell? ⟨g, j, none⟩ = cs[j]? := by simp [World.cell?, h]
open Go.RowKit
open Go.Maps (has IsMap)
/-- A term: its kind, its parts. -/
abbrev Trm : Type := Nat × List (List UInt8)
/-- A term that may be. -/
def Good (x : Trm) : Prop := 1 ≤ x.1 ∧ x.1 ≤ 8 ∧ Fit x.2
/-- A term's text. -/
def txt (x : Trm) : List UInt8 := UInt8.ofNat x.1 :: jn x.2
theorem txt_inj {x y : Trm} (hx : Good x) (hy : Good y) (h : txt x = txt y) : x = y := by
  obtain ⟨k, ps⟩ := x
  obtain ⟨l, qs⟩ := y
  obtain ⟨h1, h2, h3⟩ := hx
  obtain ⟨h4, h5, h6⟩ := hy
  unfold txt at h
  obtain ⟨e1, e2⟩ := List.cons.inj h
  have e3 : k = l := by
    have := congrArg UInt8.toNat e1
    rw [u8_ofNat, u8_ofNat] at this
    simp only at *
    omega
  have e4 : ps = qs := by
    have a1 := split_jn ps h3
    have a2 := split_jn qs h6
    simp only at e2
    rw [e2, a2] at a1
    exact (congrArg Prod.fst a1).symm
  rw [e3, e4]
theorem txt_length {x : Trm} (hx : Good x) : (txt x).length ≤ 262274 ∧ 1 ≤ (txt x).length := by
  have := jn_length x.2 hx.2.2
  simp only [txt, List.length_cons]
  omega
/-- A text as a value. -/
def sv (xs : List UInt8) : Value := .string ⟨xs.toArray⟩
def key (xs : List UInt8) : Lit := .string xs
def numL (n : Nat) : DataW Unit := .lit (.int .i64 (n : Int))
theorem isKey (xs : List UInt8) : WideAt.IsKeyLit (key xs) := by unfold key; trivial
theorem key_ne {xs ys : List UInt8} (h : xs ≠ ys) : key xs ≠ key ys := fun e => h (by unfold key at e; injection e)
/-- The map tells the terms' places. -/
structure Says (D : DataW Unit) (T : List Trm) : Prop where
  isMap : IsMap D
  has : ∀ x, Good x → has D (key (txt x)) = decide (x ∈ T)
  at_ : ∀ x ∈ T, ∀ z, D.atKey (key (txt x)) z = numL (T.idxOf x + 1)
theorem Says.empty : Says (.map []) [] := ⟨Maps.isMap_empty, fun _ _ => rfl, fun _ h => by simp at h⟩
theorem Says.put {D : DataW Unit} {T : List Trm} {x : Trm} (h : Says D T) (hT : ∀ y ∈ T, Good y) (hx : Good x) (hn : x ∉ T) : Says (D.put (key (txt x)) (numL (T.length + 1))) (T ++ [x]) := by
  refine ⟨h.isMap.put _ _, fun y hy => ?_, fun y hy z => ?_⟩
  · by_cases e : y = x
    · subst e
      rw [Maps.has_put_same h.isMap (isKey _)]
      simp
    · rw [Maps.has_put_other (key_ne fun e' => e (txt_inj hy hx e')), h.has y hy]
      simp [e]
  · by_cases e : y = x
    · subst e
      rw [Maps.atKey_put_same h.isMap (isKey _), List.idxOf_append, if_neg hn]
      simp
    · have hy' : y ∈ T := by simpa [e] using hy
      rw [Maps.atKey_put_other (key_ne fun e' => e (txt_inj (hT y hy') hx e')), h.at_ y hy', List.idxOf_append, if_pos hy']
/-- So much has turned: of the elder blocks just those that are 'ok'. -/
structure Md (ok : Nat → Prop) (w w' : World) : Prop where
  os : w'.os = w.os
  tape : w'.tape = w.tape
  output : w'.output = w.output
  size : w.heap.size ≤ w'.heap.size
  block : ∀ k, k < w.heap.size → ¬ ok k → w'.heap[k]? = w.heap[k]?
/-- .. and what came new. -/
def More (ok : Nat → Prop) (w w' : World) : Nat → Prop := fun b => ok b ∨ (w.heap.size ≤ b ∧ b < w'.heap.size)
section
variable {ok ok' : Nat → Prop} {w w' w'' : World}
theorem Md.refl (ok : Nat → Prop) (w : World) : Md ok w w := ⟨rfl, rfl, rfl, Nat.le_refl _, fun _ _ _ => rfl⟩
theorem Md.trans (h : Md ok w w') (h' : Md (More ok w w') w' w'') : Md ok w w'' :=
  ⟨h'.os.trans h.os, h'.tape.trans h.tape, h'.output.trans h.output, Nat.le_trans h.size h'.size, fun k hk hn =>
    (h'.block k (Nat.lt_of_lt_of_le hk h.size) (fun e => by rcases e with e | ⟨e, _⟩; exact hn e; omega)).trans (h.block k hk hn)⟩
theorem Md.imp (h : Md ok w w') (hi : ∀ b, b < w.heap.size → ok b → ok' b) : Md ok' w w' := ⟨h.os, h.tape, h.output, h.size, fun k hk hn => h.block k hk fun e => hn (hi k hk e)⟩
theorem Md.of_below (h : Below w.heap.size w w') : Md ok w w' := ⟨h.os, h.tape, h.output, h.size, fun k hk _ => h.block k hk⟩
theorem Md.below {B : Nat} (h : Md ok w w') (hB : B ≤ w.heap.size) (hok : ∀ b, b < w.heap.size → ok b → B ≤ b) : Below B w w' :=
  ⟨h.os, h.tape, h.output, h.size, fun k hk => h.block k (by omega) fun e => by have := hok k (by omega) e; omega⟩
theorem Md.alloc (h : Md ok w w') (o : Obj) : Md ok w (w'.alloc o) := h.trans (Md.of_below ((Below.refl _ _).alloc (Nat.le_refl _) o))
theorem Md.drewN (h : Md ok w w') (n : Nat) : Md ok w (w'.drewN n) := ⟨h.os, h.tape, h.output, h.size, h.block⟩
theorem Md.setCell (h : Md ok w w') {p : Addr} (hp : More ok w w' p.block) (u : Value) : Md ok w (w'.setCell p u) :=
  h.trans ⟨rfl, rfl, rfl, by simp, fun k _ hn => Below.heap_setCell _ _ _ _ fun e => hn (by rw [e]; exact hp)⟩
end
/-- Block tb is the code's table of these terms; all that may turn of it lies in blocks that are 'ok'. -/
def Tbl (w : World) (ok : Nat → Prop) (tb : Nat) (T : List Trm) : Prop :=
  ∃ (v : Value) (mb : Nat) (D : DataW Unit), w.heap[tb]? = some (.cells #[v, .map (some mb)] 78 (0, 0)) ∧ ok tb ∧ ok mb ∧ mb ≠ tb ∧ (∀ g, v.ownBlock = some g → ok g ∧ g ≠ tb ∧ g ≠ mb) ∧
    w.ownsMap Tryz.prog 9 (plainElem Tryz.prog 3) mb T.length D ∧ Says D T ∧ w.ownsRow 0 9 1 v T.length (T.map fun x => sv (txt x)) ∧ (∀ x ∈ T, Good x) ∧ T.Nodup ∧ T.length ≤ 65535
theorem ownsRow_keep {w w' : World} {base e size n : Nat} {v : Value} {xs : List Value} (h : w.ownsRow base e size v n xs) (hk : ∀ g, v.ownBlock = some g → w'.heap[g]? = w.heap[g]?) : w'.ownsRow base e size v n xs := by
  refine ⟨h.1, ?_⟩
  rcases h.2 with hn | ⟨g, cap, cur, rfl, hb, hgg, rest⟩
  · exact .inl hn
  · exact .inr ⟨g, cap, cur, rfl, hb, (hk g rfl).trans hgg, rest⟩
theorem ownsMap_keep {P : Program} {k : TypeId} {R : Value → Option (DataW Unit × List MemPlace)} {w w' : World} {b n : Nat} {D : DataW Unit} (h : w.ownsMap P k R b n D) (hk : w'.heap[b]? = w.heap[b]?) : w'.ownsMap P k R b n D := by
  obtain ⟨es, clock, hb, r⟩ := h
  exact ⟨es, clock, hk.trans hb, r⟩
section
variable {ok ok' : Nat → Prop} {w w' : World} {tb : Nat} {T : List Trm}
theorem Tbl.keep (h : Tbl w ok tb T) (hk : ∀ b, ok b → b < w.heap.size → w'.heap[b]? = w.heap[b]?) : Tbl w' ok tb T := by
  obtain ⟨v, mb, D, h1, h2, h3, h4, h5, h6, h7, h8, h9⟩ := h
  refine ⟨v, mb, D, (hk tb h2 (Array.getElem?_eq_some_iff.1 h1).1).trans h1, h2, h3, h4, h5, ownsMap_keep h6 (hk mb h3 h6.lt), h7, ownsRow_keep h8 fun g hg => hk g (h5 g hg).1 (h8.lt g hg).2, h9⟩
theorem Tbl.imp (h : Tbl w ok tb T) (hi : ∀ b, b < w.heap.size → ok b → ok' b) : Tbl w ok' tb T := by
  obtain ⟨v, mb, D, h1, h2, h3, h4, h5, h6, h7, h8, h9⟩ := h
  exact ⟨v, mb, D, h1, hi _ (Array.getElem?_eq_some_iff.1 h1).1 h2, hi _ h6.lt h3, h4, fun g hg => ⟨hi _ (h8.lt g hg).2 (h5 g hg).1, (h5 g hg).2⟩, h6, h7, h8, h9⟩
theorem Tbl.below (h : Tbl w ok tb T) (hb : Below w.heap.size w w') : Tbl w' ok tb T := h.keep fun b _ hlt => hb.block b hlt
theorem Tbl.drewN (h : Tbl w ok tb T) (n : Nat) : Tbl (w.drewN n) ok tb T := h
theorem Tbl.lt (h : Tbl w ok tb T) : tb < w.heap.size := by
  obtain ⟨v, mb, D, h1, _⟩ := h
  exact (Array.getElem?_eq_some_iff.1 h1).1
theorem Tbl.good (h : Tbl w ok tb T) : ∀ x ∈ T, Good x := by
  obtain ⟨v, mb, D, h1, h2, h3, h4, h5, h6, h7, h8, h9, _⟩ := h
  exact h9
theorem Tbl.max (h : Tbl w ok tb T) : T.length ≤ 65535 := by
  obtain ⟨v, mb, D, h1, h2, h3, h4, h5, h6, h7, h8, h9, _, h10⟩ := h
  exact h10
/-- The list's header. -/
theorem Tbl.head (h : Tbl w ok tb T) : ∃ A c, w.cell? ⟨tb, 0, none⟩ = some (.slice A T.length c) ∧ T.length ≤ c ∧ c ≤ maxLen ∧ ∀ j (hj : j < T.length), ∃ g, A = some ⟨g, 0, none⟩ ∧ w.cell? ⟨g, j, none⟩ = some (sv (txt T[j])) := by
  obtain ⟨v, mb, D, h1, h2, h3, h4, h5, h6, h7, h8, h9, _, h10⟩ := h
  have hc := cell_of_block h1 0
  rcases h8.2 with ⟨rfl, h0⟩ | ⟨g, cap, cur, rfl, _, hg, hnc, hcm, _, htk⟩
  · exact ⟨none, 0, by rw [hc, h0]; rfl, by omega, Nat.zero_le _, fun j hj => by omega⟩
  · refine ⟨_, cap, by rw [hc]; rfl, hnc, hcm, fun j hj => ⟨g, rfl, ?_⟩⟩
    have := h8.cells (g := g) rfl j (sv (txt T[j])) (by rw [List.getElem?_map, List.getElem?_eq_getElem hj]; rfl)
    rw [Addr.add_lit, Nat.zero_add] at this
    exact this
end
theorem Byt.drewN {w : World} {ok : Nat → Prop} {A : Option Addr} {xs : List UInt8} (h : Byt w ok A xs) (n : Nat) : Byt (w.drewN n) ok A xs := h
theorem Lst.drewN {w : World} {ok : Nat → Prop} {A : Option Addr} {xs : List (List UInt8)} (h : Lst w ok A xs) (n : Nat) : Lst (w.drewN n) ok A xs := h
/-- A table without terms, in new memory. -/
def NewT (w : World) (e : Ending) (w' : World) : Prop := ∃ tb, e = .returned (.pointer (some ⟨tb, 0, none⟩)) ∧ w.heap.size ≤ tb ∧ Tbl w' (fun b => w.heap.size ≤ b ∧ b < w'.heap.size) tb [] ∧ Below w.heap.size w w'
set_option maxRecDepth 100000 in
set_option maxHeartbeats 400000 in
theorem new_any (w : World) : Calls Tryz.prog 27 #[] w (NewT w) := by
  have hmm := @run_makeMap Tryz.prog
  go_enter Tryz.func27, Tryz.ntmps27
  go_wp2
  go_ret
  refine ⟨w.heap.size + 1, rfl, by omega, ?_, ((Below.refl _ _).alloc (Nat.le_refl _) _).alloc (by simp) _⟩
  have hm := (World.ownsMap_made (H := Unit) w Tryz.prog 9 (plainElem Tryz.prog 3)).alloc (.cells #[.slice none 0 0, .map (some w.heap.size)] 78)
  have hb := heap_alloc_new (w.alloc (.map #[] 0)) (.cells #[.slice none 0 0, .map (some w.heap.size)] 78)
  rw [alloc_size] at hb
  exact ⟨.slice none 0 0, w.heap.size, .map [], hb, ⟨by omega, by simp⟩, ⟨Nat.le_refl _, by simp; omega⟩, by omega, fun g hg => by simp [Value.ownBlock] at hg, hm, Says.empty, World.ownsRow_nil _ _ _ _, by simp, List.nodup_nil, by simp⟩
/-- A number is told, and nothing has turned. -/
theorem len_any {w : World} {ok : Nat → Prop} {tb : Nat} {T : List Trm} (h : Tbl w ok tb T) : Calls Tryz.prog 54 #[.pointer (some ⟨tb, 0, none⟩)] w (Num w T.length) := by
  obtain ⟨A, c, hc, h1, h2, _⟩ := h.head
  go_enter Tryz.func54, Tryz.ntmps54
  go_wp2
  go_ret
  exact num_mk rfl
theorem beyond_any {w : World} {ok : Nat → Prop} {tb : Nat} {T : List Trm} (h : Tbl w ok tb T) : Calls Tryz.prog 81 #[.pointer (some ⟨tb, 0, none⟩)] w (Num w (T.length + 1)) := by
  have hm := h.max
  go_enter Tryz.func81, Tryz.ntmps81
  go_wp2_with fail
  go_at_call 54
  refine (len_any h).mono ?_
  rintro e w2 ⟨rfl, rfl⟩
  go_wp2
  go_ret
  exact num_mk rfl
end Go.Proofs.YtkbffponemihoaaGreatDoor.T
