/- The two disks beside each other: what each of their calls answers and leaves. Conditions: at most 2^20 writes wait. -/
import Derived.Test.YtmdkpfogdbggoaaRWr
import Derived.Test.YtmdkpfogdbggoaaFus
namespace Go.Proofs.Ytmdkpfogdbggoaa
open Go.RowKit
/-- What Write answers, and makes of the state. -/
def St.writeE (s : St) (a : Int) (n : Nat) : Int := if ¬ (0 ≤ a ∧ a < (s.n : Int)) ∨ n ≠ 64 then 1 else if s.goes = true then 0 else 150
def St.written (s : St) (a : Int) (b : List UInt8) : St := if ¬ (0 ≤ a ∧ a < (s.n : Int)) ∨ b.length ≠ 64 then s else if s.goes = true then s.burn.write a.toNat b else s.burn
/-- What Read answers. -/
def St.readE (s : St) (a : Int) : Int := if ¬ (0 ≤ a ∧ a < (s.n : Int)) then 1 else if s.dead = true then 150 else 0
def St.readB (s : St) (a : Int) : List UInt8 := if ¬ (0 ≤ a ∧ a < (s.n : Int)) then [] else if s.dead = true then [] else blk (redo s.K s.L) a.toNat
theorem St.written_len (s : St) (a : Int) (b : List UInt8) : (s.written a b).L.length ≤ s.L.length + 1 ∧ (s.written a b).n = s.n := by
  unfold St.written
  split
  · exact ⟨Nat.le_succ _, rfl⟩
  · split
    · exact ⟨by simp [St.write, St.burn], rfl⟩
    · exact ⟨Nat.le_succ _, rfl⟩
theorem St.synced_len (s : St) : s.synced.L.length ≤ s.L.length := by
  unfold St.synced
  split
  · simp [St.sync]
  · exact Nat.le_refl _
section
variable {foot : Nat → Prop} {w : World} {p : Nat} {s : St}
theorem Nxt.refl (h : Dsk w foot p s) : Nxt w foot p s w := Nxt.of h (Md.refl _ _)
theorem NxtR.refl (h : RDsk w foot p s) : NxtR w foot p s w := NxtR.of h (Md.refl _ _)
theorem write_all (h : Dsk w foot p s) (hL : s.L.length ≤ 1048576) (a : Int) {gq n : Nat} {b : List UInt8} (hb : Blk w gq 5 (u8s b)) (hl : b.length = n) (hO : Out w foot gq) :
    Calls Try.prog 11 #[.pointer (some ⟨p, 0, none⟩), .int .i64 a, .slice (some ⟨gq, 0, none⟩) n n] w fun e w' => e = .returned (.int .i64 (s.writeE a n)) ∧ Nxt w foot p (s.written a b) w' := by
  unfold St.writeE St.written
  rw [hl]
  by_cases ha : ¬ (0 ≤ a ∧ a < (s.n : Int)) ∨ n ≠ 64
  · rw [if_pos ha, if_pos ha]
    exact (write_arg h ha).mono fun e w' ⟨he, hw⟩ => ⟨he, hw ▸ Nxt.refl h⟩
  · rw [if_neg ha, if_neg ha]
    obtain ⟨ha1, ha2⟩ : (0 ≤ a ∧ a < (s.n : Int)) ∧ n = 64 := by omega
    subst ha2
    obtain ⟨i, rfl⟩ : ∃ i : Nat, a = (i : Int) := ⟨a.toNat, by omega⟩
    have hi : i < s.n := by omega
    rw [Int.toNat_natCast]
    cases hg : s.goes with
    | true => exact write_yes h hi hb.bytes hl hO.ok hg hL
    | false => exact (write_dead h hi hg).mono fun e w' ⟨he, h1, h2⟩ => ⟨he, Nxt.of h1 h2⟩
theorem rwrite_all (h : RDsk w foot p s) (hL : s.L.length ≤ 1048576) (a : Int) {gq n : Nat} {b : List UInt8} (hb : Blk w gq 5 (u8s b)) (hl : b.length = n) (hO : Out w foot gq) :
    Calls Try.prog 13 #[.pointer (some ⟨p, 0, none⟩), .int .i64 a, .slice (some ⟨gq, 0, none⟩) n n] w fun e w' => e = .returned (.int .i64 (s.writeE a n)) ∧ NxtR w foot p (s.written a b) w' := by
  unfold St.writeE St.written
  rw [hl]
  by_cases ha : ¬ (0 ≤ a ∧ a < (s.n : Int)) ∨ n ≠ 64
  · rw [if_pos ha, if_pos ha]
    exact (rwrite_arg h ha).mono fun e w' ⟨he, hw⟩ => ⟨he, hw ▸ NxtR.refl h⟩
  · rw [if_neg ha, if_neg ha]
    obtain ⟨ha1, ha2⟩ : (0 ≤ a ∧ a < (s.n : Int)) ∧ n = 64 := by omega
    subst ha2
    obtain ⟨i, rfl⟩ : ∃ i : Nat, a = (i : Int) := ⟨a.toNat, by omega⟩
    have hi : i < s.n := by omega
    rw [Int.toNat_natCast]
    cases hg : s.goes with
    | true => exact rwrite_yes h hi hb.bytes hl hO.ok hg hL
    | false => exact (rwrite_dead h hi hg).mono fun e w' ⟨he, h1, h2⟩ => ⟨he, NxtR.of h1 h2⟩
/-- What either Read answers. -/
def ReadA (w : World) (s : St) (a : Int) (e : Ending) (w' : World) : Prop :=
  ∃ A n c ok, e = .returned (.tuple #[.slice A n c, .int .i64 (s.readE a)]) ∧ Byt w' ok A (s.readB a) ∧ (s.readB a).length = n ∧ (∀ b, ok b → b < w'.heap.size) ∧ w.grownBy w' none
theorem read_all (h : Dsk w foot p s) (a : Int) : Calls Try.prog 16 #[.pointer (some ⟨p, 0, none⟩), .int .i64 a] w (ReadA w s a) := by
  unfold ReadA St.readE St.readB
  by_cases ha : ¬ (0 ≤ a ∧ a < (s.n : Int))
  · rw [if_pos ha, if_pos ha]
    exact (read_no h ha).mono fun e w' ⟨he, hw⟩ => ⟨none, 0, 0, fun _ => False, he, Byt.nil, rfl, fun _ hf => hf.elim, hw ▸ World.grownBy.refl _ _⟩
  · rw [if_neg ha, if_neg ha]
    obtain ⟨i, rfl⟩ : ∃ i : Nat, a = (i : Int) := ⟨a.toNat, by omega⟩
    have hi : i < s.n := by omega
    rw [Int.toNat_natCast]
    cases hd : s.dead with
    | true => exact (read_dead h hi hd).mono fun e w' ⟨he, hw⟩ => ⟨none, 0, 0, fun _ => False, he, Byt.nil, rfl, fun _ hf => hf.elim, hw ▸ World.grownBy.refl _ _⟩
    | false => exact (read_yes h hi hd).mono fun e w' ⟨g, he, hb, _, hg⟩ => ⟨_, 64, 64, fun b => b = g, he, hb.bytes, blk_length (redo_length h.ok.2.2.2.1 h.ok.2.2.1) hi, by rintro b rfl; exact hb.lt, hg⟩
theorem rread_all (h : RDsk w foot p s) (hL : s.L.length ≤ 1048576) (a : Int) : Calls Try.prog 17 #[.pointer (some ⟨p, 0, none⟩), .int .i64 a] w (ReadA w s a) := by
  unfold ReadA St.readE St.readB
  by_cases ha : ¬ (0 ≤ a ∧ a < (s.n : Int))
  · rw [if_pos ha, if_pos ha]
    exact (rread_no h ha).mono fun e w' ⟨he, hw⟩ => ⟨none, 0, 0, fun _ => False, he, Byt.nil, rfl, fun _ hf => hf.elim, hw ▸ World.grownBy.refl _ _⟩
  · rw [if_neg ha, if_neg ha]
    obtain ⟨i, rfl⟩ : ∃ i : Nat, a = (i : Int) := ⟨a.toNat, by omega⟩
    have hi : i < s.n := by omega
    rw [Int.toNat_natCast]
    cases hd : s.dead with
    | true => exact (rread_dead h hi hd).mono fun e w' ⟨he, hw⟩ => ⟨none, 0, 0, fun _ => False, he, Byt.nil, rfl, fun _ hf => hf.elim, hw ▸ World.grownBy.refl _ _⟩
    | false => exact (rread_yes h hL hi hd).mono fun e w' ⟨g, c, he, hb, hg⟩ => ⟨_, 64, c, fun b => b = g, he, hb, blk_length (redo_length h.ok.2.2.2.1 h.ok.2.2.1) hi, by
        rintro b rfl
        obtain ⟨ad, e1, _, hc⟩ := hb 0 (by rw [blk_length (redo_length h.ok.2.2.2.1 h.ok.2.2.1) hi]; omega)
        cases e1
        exact World.block_lt_of_cell? _ _ hc, hg⟩
/-- The reference's fuse is set: its cell is written. -/
theorem rfuse_set {w' : World} {gk : Nat} {Av Bv : Value} {vs : List Value} {f : Int} (h2 : Blk w gk 5 (u8s s.K)) (h3 : w.ownsRow 0 3 1 Av s.L.length (ats s.L)) (h4 : w.ownsRow 0 33 1 Bv s.L.length vs) (h5 : RB w foot p gk Av Bv vs s.L) (h6 : RP foot w p gk Av Bv) (h7 : s.ok)
    (hf1 : -9223372036854775808 ≤ f) (hf2 : f ≤ 9223372036854775807) (hb : Blk w' p 46 ((rcells s.n gk Av Bv (max s.f (-1)) s.dead).set 4 (.int .i64 (max f (-1))))) (hg : w.grownBy w' (some p)) : RDsk w' foot p (s.fuse f) ∧ Md foot w w' :=
  RDsk.turned (s := s) (s' := s.fuse f) hb hg h2 h3 h4 h5 h6 (St.fuse_ok h7 hf1 hf2) rfl rfl
end
/-- Both disks, in states s1 and s2, in blocks that are new since w and apart; the blocks of 'kp' are neither's. -/
def Two (w V : World) (kp : Nat → Prop) (d r : Nat) (s1 s2 : St) : Prop := ∃ f1 f2, Dsk V f1 d s1 ∧ RDsk V f2 r s2 ∧ (∀ b, f1 b → ¬ f2 b) ∧ (∀ b, f1 b ∨ f2 b → w.heap.size ≤ b) ∧ w.grownBy V none ∧ (∀ b, kp b → b < V.heap.size ∧ ¬ f1 b ∧ ¬ f2 b)
section
variable {w V V' : World} {kp kp' : Nat → Prop} {d r : Nat} {s1 s2 s' : St}
theorem Two.grown (h : Two w V kp d r s1 s2) (g : V.grownBy V' none) (hk : ∀ b, kp' b → kp b ∨ (V.heap.size ≤ b ∧ b < V'.heap.size)) : Two w V' kp' d r s1 s2 := by
  obtain ⟨f1, f2, h1, h2, h3, h4, h5, h6⟩ := h
  refine ⟨f1, f2, h1.grown g, h2.grown g, h3, h4, h5.trans g, fun b hb => ?_⟩
  rcases hk b hb with h | h
  · exact ⟨Nat.lt_of_lt_of_le (h6 b h).1 g.size, (h6 b h).2⟩
  · exact ⟨h.2, fun hf => by have := h1.lt b hf; omega, fun hf => by have := h2.lt b hf; omega⟩
theorem Two.code (h : Two w V kp d r s1 s2) {fn : Nat} {args : Array Value} {R : Ending → Prop} (hc : ∀ f1, Dsk V f1 d s1 → (∀ b, kp b → Out V f1 b) → Calls Try.prog fn args V fun e w' => R e ∧ Nxt V f1 d s' w') :
    Calls Try.prog fn args V fun e w' => R e ∧ Two w w' kp d r s' s2 ∧ (∀ b, kp b → w'.heap[b]? = V.heap[b]?) ∧ V.heap.size ≤ w'.heap.size := by
  obtain ⟨f1, f2, h1, h2, h3, h4, h5, h6⟩ := h
  refine (hc f1 h1 fun b hb => ⟨(h6 b hb).1, (h6 b hb).2.1⟩).mono fun e w' ⟨he, f1', hd, hf, hm⟩ => ⟨he, ⟨f1', f2, hd, h2.md hm (fun k hk hk1 => h3 k hk1 hk), fun b hb => ?_, fun b hb => ?_, hm.grown h5 (fun k hk => h4 k (.inl hk)), fun b hb => ?_⟩, fun b hb => hm.block b (h6 b hb).1 (h6 b hb).2.1, hm.size⟩
  · rcases hf b hb with h | h
    · exact h3 b h
    · exact fun h7 => by have := h2.lt b h7; omega
  · rcases hb with hb | hb
    · rcases hf b hb with h | h
      · exact h4 b (.inl h)
      · exact Nat.le_trans h5.size h.1
    · exact h4 b (.inr hb)
  · refine ⟨Nat.lt_of_lt_of_le (h6 b hb).1 hm.size, fun h7 => ?_, (h6 b hb).2.2⟩
    rcases hf b h7 with h | h
    · exact (h6 b hb).2.1 h
    · have := (h6 b hb).1
      omega
theorem Two.ref (h : Two w V kp d r s1 s2) {fn : Nat} {args : Array Value} {R : Ending → Prop} (hc : ∀ f2, RDsk V f2 r s2 → (∀ b, kp b → Out V f2 b) → Calls Try.prog fn args V fun e w' => R e ∧ NxtR V f2 r s' w') :
    Calls Try.prog fn args V fun e w' => R e ∧ Two w w' kp d r s1 s' ∧ (∀ b, kp b → w'.heap[b]? = V.heap[b]?) ∧ V.heap.size ≤ w'.heap.size := by
  obtain ⟨f1, f2, h1, h2, h3, h4, h5, h6⟩ := h
  refine (hc f2 h2 fun b hb => ⟨(h6 b hb).1, (h6 b hb).2.2⟩).mono fun e w' ⟨he, f2', hd, hf, hm⟩ => ⟨he, ⟨f1, f2', h1.md hm h3, hd, fun b hb h7 => ?_, fun b hb => ?_, hm.grown h5 (fun k hk => h4 k (.inr hk)), fun b hb => ?_⟩, fun b hb => hm.block b (h6 b hb).1 (h6 b hb).2.2, hm.size⟩
  · rcases hf b h7 with h | h
    · exact h3 b hb h
    · have := h1.lt b hb
      omega
  · rcases hb with hb | hb
    · exact h4 b (.inl hb)
    · rcases hf b hb with h | h
      · exact h4 b (.inr h)
      · exact Nat.le_trans h5.size h.1
  · refine ⟨Nat.lt_of_lt_of_le (h6 b hb).1 hm.size, (h6 b hb).2.1, fun h7 => ?_⟩
    rcases hf b h7 with h | h
    · exact (h6 b hb).2.2 h
    · have := (h6 b hb).1
      omega
end
end Go.Proofs.Ytmdkpfogdbggoaa
