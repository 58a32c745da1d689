/- What is asked of the code's Lock, Unlock and Size; texts of bytes compared. Conditions: none. -/
import Derived.Test.YtngfldlfoniklaaRef6
namespace Go.Proofs.Ytngfldlfoniklaa
open Go.RowKit
/-- The code's Lock: a text of no more than a million bytes. -/
def LockSays : Prop := ∀ (w : World) (ok : Nat → Prop) (A : Option Addr) (text : List UInt8) (n c : Nat), Byt w ok A text → (∀ b, ok b → b < w.heap.size) → text.length = n → n ≤ c → c ≤ maxLen → n ≤ 1000000 → ∀ (k : Fin 32 → UInt8) (v : State),
  Calls Try.prog 11 #[.agg (u8s (k32 k)).toArray, .agg (bytesOf v).toArray, .slice A n c] w fun e w' => ∃ A' c', e = .returned (.slice A' (lockB (kn (k32 k)) v text).length c') ∧ (lockB (kn (k32 k)) v text).length ≤ c' ∧ c' ≤ maxLen ∧ Byt w' (fun b => w.heap.size ≤ b ∧ b < w'.heap.size) A' (lockB (kn (k32 k)) v text) ∧ w.grownBy w' none
/-- The code's Unlock: bytes, no more than a million and 16 of them. -/
def UnlockSays : Prop := ∀ (w : World) (ok : Nat → Prop) (A : Option Addr) (b : List UInt8) (n c : Nat), Byt w ok A b → (∀ g, ok g → g < w.heap.size) → b.length = n → n ≤ c → c ≤ maxLen → n ≤ 1000016 → ∀ (k : Fin 32 → UInt8) (v : State),
  Calls Try.prog 13 #[.agg (u8s (k32 k)).toArray, .agg (bytesOf v).toArray, .slice A n c] w fun e w' => w.grownBy w' none ∧
    ((∃ s A' c', unlockB (kn (k32 k)) v b = some s ∧ e = .returned (.tuple #[.slice A' s.length c', .bool true]) ∧ s.length ≤ c' ∧ c' ≤ maxLen ∧ Byt w' (fun g => g < w'.heap.size) A' s) ∨
     (∃ A' c', unlockB (kn (k32 k)) v b = none ∧ e = .returned (.tuple #[.slice A' 0 c', .bool false])))
theorem UnlockSays.yes (h : UnlockSays) {w : World} {ok : Nat → Prop} {A : Option Addr} {b s : List UInt8} {n c : Nat} (hx : Byt w ok A b) (hok : ∀ g, ok g → g < w.heap.size) (hn : b.length = n) (hc : n ≤ c) (hm : c ≤ maxLen) (hs : n ≤ 1000016) (k : Fin 32 → UInt8) (v : State) (hu : unlockB (kn (k32 k)) v b = some s) :
    Calls Try.prog 13 #[.agg (u8s (k32 k)).toArray, .agg (bytesOf v).toArray, .slice A n c] w fun e w' => ∃ A' c', e = .returned (.tuple #[.slice A' s.length c', .bool true]) ∧ s.length ≤ c' ∧ c' ≤ maxLen ∧ Byt w' (fun g => g < w'.heap.size) A' s ∧ w.grownBy w' none :=
  (h w ok A b n c hx hok hn hc hm hs k v).mono fun e w' ⟨hg, h1⟩ => by
    rcases h1 with ⟨s', A', c', e1, e2, e3, e4, e5⟩ | ⟨A', c', e1, _⟩
    · rw [hu] at e1
      obtain rfl := Option.some.inj e1
      exact ⟨A', c', e2, e3, e4, e5, hg⟩
    · rw [hu] at e1
      cases e1
theorem UnlockSays.no (h : UnlockSays) {w : World} {ok : Nat → Prop} {A : Option Addr} {b : List UInt8} {n c : Nat} (hx : Byt w ok A b) (hok : ∀ g, ok g → g < w.heap.size) (hn : b.length = n) (hc : n ≤ c) (hm : c ≤ maxLen) (hs : n ≤ 1000016) (k : Fin 32 → UInt8) (v : State) (hu : unlockB (kn (k32 k)) v b = none) :
    Calls Try.prog 13 #[.agg (u8s (k32 k)).toArray, .agg (bytesOf v).toArray, .slice A n c] w fun e w' => ∃ A' c', e = .returned (.tuple #[.slice A' 0 c', .bool false]) ∧ w.grownBy w' none :=
  (h w ok A b n c hx hok hn hc hm hs k v).mono fun e w' ⟨hg, h1⟩ => by
    rcases h1 with ⟨s', A', c', e1, _⟩ | ⟨A', c', _, e2⟩
    · rw [hu] at e1
      cases e1
    · exact ⟨A', c', e2, hg⟩
/-- What Size tells. -/
def sizeZ (n : Int) : Int := if n < 0 ∨ 1099511627776 < n then 0 else n - n % 16 + 16
def SizeSays : Prop := ∀ (w : World) (n : Int), (Lit.int .i64 n).wf = true → Calls Try.prog 14 #[.int .i64 n] w fun e w' => e = .returned (.int .i64 (sizeZ n)) ∧ w.grownBy w' none
theorem bool_end {a b : Bool} (h : a = b) : Ending.returned (.bool a) = .returned (.bool b) := by rw [h]
theorem bytes_any {w : World} {ok ok' : Nat → Prop} {A B : Option Addr} {xs ys : List UInt8} {c d : Nat} (ha : Byt w ok A xs) (hb : Byt w ok' B ys) :
    Calls Try.prog 10 #[.slice A xs.length c, .slice B ys.length d] w fun e w' => e = .returned (.bool (decide (xs = ys))) ∧ w = w' := by
  have r1 := ha.str c
  have r2 := hb.str d
  go_enter Try.func10, Try.ntmps10
  go_wp2
  go_ret
  exact ⟨bool_end (by rw [Bool.eq_iff_iff]; simp), rfl⟩
theorem bytes_n {w : World} {ok ok' : Nat → Prop} {A B : Option Addr} {xs ys : List UInt8} {c d n m : Nat} (ha : Byt w ok A xs) (hb : Byt w ok' B ys) (hn : xs.length = n) (hm : ys.length = m) :
    Calls Try.prog 10 #[.slice A n c, .slice B m d] w fun e w' => e = .returned (.bool (decide (xs = ys))) ∧ w = w' := by
  subst hn hm; exact bytes_any ha hb
theorem byts_eq {w : World} {ok ok' : Nat → Prop} {A B : Option Addr} {xs ys : List UInt8} {c d n m : Nat} (ha : Byt w ok A xs) (hb : Byt w ok' B ys) (hn : xs.length = n) (hm : ys.length = m) (h : xs = ys) :
    Calls Try.prog 10 #[.slice A n c, .slice B m d] w fun e w' => e = .returned (.bool true) ∧ w = w' := by
  have := bytes_n (c := c) (d := d) ha hb hn hm
  rwa [decide_eq_true h] at this
end Go.Proofs.Ytngfldlfoniklaa
