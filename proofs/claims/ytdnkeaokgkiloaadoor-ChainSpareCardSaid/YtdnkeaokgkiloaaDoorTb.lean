/- A body with three labels, of which one is jumped back to; and a slice of the call's own whose elements are slices of bytes. Conditions: none. Split tells what any bytes say as pieces, in new memory, with its error. Conditions: none. Lists tells whether two lists of bytes are the same. Conditions: none. -/
import Derived.Test.YtdnkeaokgkiloaaDoorTa
import Derived.Scope
import Derived.Deep.AppendLies
import Derived.WalkMore
import Derived.Deep.QuietTactic
import Derived.BigQuiet
import Derived.Deep.RegionHeld3
namespace Go.Proofs.YtdnkeaokgkiloaaDoor.T
open Go.RowKit
/-- The call's own slice of pieces: each piece lies in a block of the call's own, none in the slice's own block. -/
def Pcs (w : World) (B : Nat) (v : Value) (acc : List (List UInt8)) : Prop :=
  ∃ vals : List Value, w.ownsRow B 66 1 v acc.length vals ∧ ∀ j (h : j < acc.length), ∃ A c, vals[j]? = some (.slice A acc[j].length c) ∧ acc[j].length ≤ c ∧ c ≤ maxLen ∧
    Byt w (fun g => B ≤ g ∧ g < w.heap.size ∧ v.ownBlock ≠ some g) A acc[j]
section
variable {w w2 w4 : World} {B : Nat} {v v' : Value} {acc : List (List UInt8)}
theorem Pcs.nil (w : World) (B : Nat) : Pcs w B (.slice none 0 0) [] := ⟨[], World.ownsRow_nil w B 66 1, fun _ h => absurd h (by simp)⟩
theorem Pcs.drewN (h : Pcs w B v acc) (n : Nat) : Pcs (w.drewN n) B v acc := h
theorem Pcs.below (h : Pcs w B v acc) (hb : Below w.heap.size w w2) : Pcs w2 B v acc := by
  obtain ⟨vals, ho, hp⟩ := h
  refine ⟨vals, own_below ho hb, fun j hj => ?_⟩
  obtain ⟨A, c, e, h1, h2, h3⟩ := hp j hj
  exact ⟨A, c, e, h1, h2, (h3.below hb fun g hg => hg.2.1).imp fun g hg => ⟨hg.1, Nat.lt_of_lt_of_le hg.2.1 hb.size, hg.2.2⟩⟩
end
open Go.RowKit
/-- In new memory lies just xs, n bytes. -/
def NewN (w : World) (xs : List UInt8) (n : Nat) (e : Ending) (w' : World) : Prop :=
  ∃ A c, e = .returned (.slice A n c) ∧ n ≤ c ∧ c ≤ maxLen ∧ Byt w' (fun b => w.heap.size ≤ b ∧ b < w'.heap.size) A xs ∧ Below w.heap.size w w'
theorem alloc_size (w : World) (o : Obj) : (w.alloc o).heap.size = w.heap.size + 1 := by simp
open Go.RowKit
/-- A bool is told; there were draws alone. -/
def Told (w : World) (b : Bool) (e : Ending) (w' : World) : Prop := e = .returned (.bool b) ∧ ∃ n, w' = w.drewN n
theorem told_mk {w w' : World} {a b : Bool} (h : a = b) (hw : ∃ n, w' = w.drewN n) : Told w b (.returned (.bool a)) w' := ⟨by rw [h], hw⟩
theorem bytes_quiet {w : World} {n : Nat} {ok ok' : Nat → Prop} {A B : Option Addr} {xs ys : List UInt8} {c d : Nat} (ha : Byt w ok A xs) (hb : Byt w ok' B ys) :
    Calls Tryd.prog 51 #[.slice A xs.length c, .slice B ys.length d] (w.drewN n) fun e w'' => e = .returned (.bool (decide (xs = ys))) ∧ ∃ m, w'' = w.drewN m :=
  (bytes_any (w := w.drewN n) (ok := ok) (ok' := ok') ha hb).mono fun _ _ h => ⟨h.1, n, h.2.symm⟩
set_option maxRecDepth 100000 in
set_option maxHeartbeats 1000000 in
theorem lists_any {w : World} {ok ok' : Nat → Prop} {A B : Option Addr} {ps qs : List (List UInt8)} {c d : Nat} (ha : Lst w ok A ps) (hb : Lst w ok' B qs) (hm : ps.length ≤ maxLen) :
    Calls Tryd.prog 43 #[.slice A ps.length c, .slice B qs.length d] w (Told w (decide (ps = qs))) := by
  unfold maxLen at hm
  by_cases hl : ps.length = qs.length
  · have HL := Lib.hid hl
    have d1 : ((ps.length : Int) != (qs.length : Int)) = false := by simp [hl]
    clear hl
    go_enter Tryd.func43, Tryd.ntmps43
    go_wp2
    go_loopw [5] (fun i wr => ∃ k : Nat, k ≤ ps.length ∧ i = .int .i64 k ∧ Hid (∀ j (h : j < ps.length) (h' : j < qs.length), j < k → ps[j] = qs[j]) ∧ Hid (∃ n, wr = w.drewN n)) (fun i _ => ps.length - (intOf i).toNat)
    case atStart => exact ⟨0, Nat.zero_le _, rfl, fun j _ _ h => absurd h (by omega), 0, rfl⟩
    case round =>
      obtain ⟨k, hk, rfl, heq, hw⟩ := hrel
      have ha' : Lst wr ok A ps := by
        obtain ⟨n, rfl⟩ := hw.out
        exact ha
      have hb' : Lst wr ok' B qs := by
        obtain ⟨n, rfl⟩ := hw.out
        exact hb
      clear ha hb
      by_cases hlt : k < ps.length
      · have hlt2 : k < qs.length := by have := HL.out; omega
        obtain ⟨ad1, A1, c1, rfl, _, hc1, _, _, hx1⟩ := ha' k hlt
        obtain ⟨ad2, A2, c2, rfl, _, hc2, _, _, hx2⟩ := hb' k hlt2
        obtain ⟨t, ht⟩ : ∃ t : Bool, decide (ps[k] = qs[k]) = t := ⟨_, rfl⟩
        have hcall : ∀ n, Calls Tryd.prog 51 #[.slice A1 ps[k].length c1, .slice A2 qs[k].length c2] (wr.drewN n) fun e w'' => e = .returned (.bool t) ∧ ∃ m, w'' = wr.drewN m := by
          intro n
          rw [← ht]
          exact bytes_quiet hx1 hx2
        have HT := Lib.hid ht
        have HC := Lib.hid hcall
        have i1 : (k : Int) < (ps.length : Int) := by omega
        have i2 : (k : Int) < (qs.length : Int) := by omega
        have i3 : (0 : Int) ≤ (k : Int) := by omega
        clear ht hcall hx1 hx2
        go_wp2_with fail
        go_quiet ((go_at_call 51; exact HC.out _))
        have HW : Hid (∃ n, wr.drewN nq = w.drewN n) := by
          obtain ⟨n, rfl⟩ := hw.out
          exact ⟨n + nq, World.drewN_drewN _ _ _⟩
        cases t with
        | true =>
          have hup : Hid (∀ j (h : j < ps.length) (h' : j < qs.length), j < k + 1 → ps[j] = qs[j]) := by
            intro j hj hj' hjk
            by_cases e : j = k
            · subst e; exact of_decide_eq_true HT.out
            · exact heq.out j hj hj' (by omega)
          go_wp2
          go_roundw
          case rel => exact ⟨k + 1, by omega, by go_num, hup, HW⟩
          case measure => simp [intOf]; omega
        | false =>
          have hne : Hid (ps ≠ qs) := by
            rintro rfl
            exact absurd rfl (of_decide_eq_false HT.out)
          go_wp2
          go_ret
          exact told_mk (by rw [eq_comm, decide_eq_false_iff_not]; exact hne.out) HW.out
      · have hend : Hid (ps = qs) := List.ext_getElem HL.out fun j h h' => heq.out j h h' (by omega)
        go_wp2
        go_ret
        exact told_mk (by rw [eq_comm, decide_eq_true_iff]; exact hend.out) hw.out
  · have HL := Lib.hid hl
    have d1 : ((ps.length : Int) != (qs.length : Int)) = true := by simp; omega
    clear hl
    go_enter Tryd.func43, Tryd.ntmps43
    go_wp2
    go_ret
    exact told_mk (by rw [eq_comm, decide_eq_false_iff_not]; intro e; exact HL.out (by rw [e])) ⟨0, rfl⟩
end Go.Proofs.YtdnkeaokgkiloaaDoor.T
