/- The laws' small functions: small, the reference's Do, All and Same. Conditions: none. -/
import Derived.Test.YtonpcenjipigpaaGreatZ35
import Derived.RegionTactic
import Derived.BigRegion
import Derived.BigQuiet
namespace Go.Proofs.YtonpcenjipigpaaGreat
open Go.RowKit
/-- The reference's Do. -/
def doR (c : Chg) : Bool → List Chg → List Chg
  | done, [] => if done = true then [] else [⟨c.name, c.val, false⟩]
  | done, x :: xs => (if done = false ∧ bytesBefore c.name x.name = true then [⟨c.name, c.val, false⟩] else []) ++ ((if x.name ≠ c.name then [x] else []) ++ doR c (done || bytesBefore c.name x.name) xs)
/-- The reference's All. -/
def allR (l : List Chg) (cs : List Chg) : List Chg := cs.foldl (fun l c => doR c c.gone l) l
theorem doR_true (c : Chg) : ∀ L : List (List UInt8 × List UInt8), doR c true (chgs L) = chgs (delA c.name L)
  | [] => rfl
  | y :: L => by
    have ih := doR_true c L
    show doR c true (⟨y.1, y.2, false⟩ :: chgs L) = _
    rw [doR, if_neg (by simp), Bool.true_or, ih]
    by_cases h : y.1 = c.name
    · have e1 : delA c.name (y :: L) = delA c.name L := by
        unfold delA
        rw [List.filter_cons, if_neg (by simpa using h)]
      rw [if_neg (by simpa using h), e1]
      rfl
    · have e1 : delA c.name (y :: L) = y :: delA c.name L := by
        unfold delA
        rw [List.filter_cons, if_pos (by simpa using h)]
      rw [if_pos h, e1]
      rfl
theorem before_self (k : List UInt8) : bytesBefore k k = false := by
  rw [before_lt, decide_eq_false_iff_not]
  exact List.lt_irrefl k
theorem doR_false (c : Chg) : ∀ L : List (List UInt8 × List UInt8), doR c false (chgs L) = chgs (insA (c.name, c.val) (delA c.name L))
  | [] => rfl
  | y :: L => by
    have ih := doR_false c L
    show doR c false (⟨y.1, y.2, false⟩ :: chgs L) = _
    rw [doR, Bool.false_or]
    by_cases hb : bytesBefore c.name y.1 = true
    · have hne : y.1 ≠ c.name := fun e => by rw [e, before_self] at hb; cases hb
      rw [if_pos ⟨rfl, hb⟩, if_pos hne]
      simp only [hb]
      rw [doR_true]
      have e1 : delA c.name (y :: L) = y :: delA c.name L := by
        unfold delA
        rw [List.filter_cons, if_pos (by simpa using hne)]
      rw [e1, insA, if_pos hb]
      rfl
    · have hb' : bytesBefore c.name y.1 = false := by simpa using hb
      rw [if_neg (fun h => hb h.2)]
      simp only [hb']
      rw [ih]
      by_cases h : y.1 = c.name
      · have e1 : delA c.name (y :: L) = delA c.name L := by
          unfold delA
          rw [List.filter_cons, if_neg (by simpa using h)]
        rw [if_neg (by simpa using h), e1]
        rfl
      · have e1 : delA c.name (y :: L) = y :: delA c.name L := by
          unfold delA
          rw [List.filter_cons, if_pos (by simpa using h)]
        rw [if_pos h, e1, insA, if_neg hb]
        rfl
theorem doR_doC (c : Chg) (L : List (List UInt8 × List UInt8)) : doR c c.gone (chgs L) = chgs (doC L c) := by
  unfold doC
  cases hg : c.gone with
  | true => rw [if_pos rfl]; exact doR_true c L
  | false => rw [if_neg (by decide)]; exact doR_false c L
theorem allR_chgs : ∀ (l : List Chg) (L : List (List UInt8 × List UInt8)), allR (chgs L) l = chgs (doAll L l)
  | [], _ => rfl
  | c :: l, L => by
    show allR (doR c c.gone (chgs L)) l = _
    rw [doR_doC, allR_chgs l]
    rfl
/-- What small answers. -/
def SmallE (w : World) (n : Nat) (e : Ending) (w' : World) : Prop := ∃ b : Bool, e = .returned (.bool b) ∧ w.grownBy w' none ∧ (b = true → n ≤ 30000)
set_option maxRecDepth 100000 in
set_option maxHeartbeats 4000000 in
theorem small_any {w : World} {ok : Nat → Prop} {A : Option Addr} {l : List Chg} {cl : Nat} (hx : Chs w ok A l) (hok : ∀ b, ok b → b < w.heap.size) (hl : l.length ≤ 9223372036854775807) : Calls Tryz.prog 11 #[.slice A l.length cl] w (SmallE w l.length) := by
  have HX := Lib.hid hx
  have HOK := Lib.hid hok
  clear hx hok
  go_enter Tryz.func11, Tryz.ntmps11
  go_wp2
  go_loopw [3, 4] (fun n i wr => ∃ (k N : Nat), k ≤ l.length ∧ k ≤ N ∧ N ≤ 100000 ∧ n = .int .i64 (N : Int) ∧ i = .int .i64 (k : Int) ∧ w.grownBy wr none) (fun _ i _ => l.length - (intOf i).toNat)
  case atStart => exact ⟨0, 0, Nat.zero_le _, Nat.zero_le _, by decide, rfl, rfl, World.grownBy.refl _ _⟩
  case round =>
    obtain ⟨k, N, hk, hkN, hN, rfl, rfl, hg⟩ := hrel
    by_cases hlt : k < l.length
    · by_cases hN2 : N < 30000
      · obtain ⟨b, o, A', c', rfl, hokb, d0, d1, d2, e1, e2, e3, hby⟩ := HX.out.at hlt
        have q0 : wr.cell? ⟨b, o + k * 3, none⟩ = some (.string ⟨l[k].name.toArray⟩) := hg.cell d0 (by simp)
        have q1 : wr.cell? ⟨b, o + k * 3 + 1, none⟩ = some (.slice A' l[k].val.length c') := hg.cell d1 (by simp)
        obtain ⟨c, hc⟩ : ∃ c, c = l[k] := ⟨_, rfl⟩
        rw [← hc] at q0 q1 e1 e3
        obtain ⟨nm, vl, gn⟩ := c
        simp only at q0 q1 e1 e3
        have dd1 : decide ((k : Int) < (l.length : Int)) = true := decide_eq_true (by omega)
        have dd2 : decide ((N : Int) < 30000) = true := decide_eq_true (by omega)
        have HK := Lib.hid (And.intro hk (And.intro hkN hN))
        clear d0 d1 d2 hby hc hk hkN hN e1 e3
        go_wp2
        go_quiet (fail)
        go_wp2
        go_roundw
        case rel =>
          obtain ⟨k1, k2, k3⟩ := HK.out
          refine ⟨k + 1, N + 1 + min nm.length 30000 + min vl.length 30000, by omega, by omega, by omega, congrArg (Value.int .i64) (by omega), by go_num, hg.trans (grown_drewN _)⟩
        case measure => simp [intOf]; omega
      · have dd1 : decide ((k : Int) < (l.length : Int)) = true := decide_eq_true (by omega)
        have dd2 : decide ((N : Int) < 30000) = false := decide_eq_false (by omega)
        have HK := Lib.hid hN2
        clear hk hkN hN hN2
        go_wp2
        go_ret
        exact ⟨false, rfl, hg, fun h => by cases h⟩
    · have dd1 : decide ((k : Int) < (l.length : Int)) = false := decide_eq_false (by omega)
      obtain rfl : k = l.length := by omega
      by_cases hN2 : N < 30000
      · have dd2 : decide ((N : Int) < 30000) = true := decide_eq_true (by omega)
        have HK := Lib.hid hkN
        have HN := Lib.hid hN2
        clear hk hkN hN hN2
        go_wp2
        go_ret
        exact ⟨true, rfl, hg, fun _ => by have := HK.out; have := HN.out; omega⟩
      · have dd2 : decide ((N : Int) < 30000) = false := decide_eq_false (by omega)
        clear hk hkN hN hN2
        go_wp2
        go_ret
        exact ⟨false, rfl, hg, fun h => by cases h⟩
end Go.Proofs.YtonpcenjipigpaaGreat
