/- What DiskPlays looks at behind each call, of both disks. Conditions: none. -/
import Derived.Test.YtmdkpfogdbggoaaPl1
import Derived.Deep.QuietTactic
import Derived.BigQuiet
namespace Go.Proofs.Ytmdkpfogdbggoaa
open Go.RowKit
section
variable {w V : World} {kp : Nat → Prop} {d r : Nat} {s s1 s2 : St}
/-- A new disk of either. -/
theorem Two.start {w1 w2 w3 : World} {f1 f2 : Nat → Prop} (h1 : Dsk w2 f1 d s1) (hf1 : ∀ k, f1 k → w1.heap.size ≤ k) (h2 : RDsk w3 f2 r s2) (hf2 : ∀ k, f2 k → w2.heap.size ≤ k) (g1 : w.grownBy w1 none) (g2 : w1.grownBy w2 none) (g3 : w2.grownBy w3 none) : Two w w3 (fun _ => False) d r s1 s2 :=
  ⟨f1, f2, h1.grown g3, h2, fun b hb h => by have := h1.lt b hb; have := hf2 b h; omega, fun b hb => hb.elim (fun h => Nat.le_trans g1.size (hf1 b h)) (fun h => Nat.le_trans (g1.trans g2).size (hf2 b h)), (g1.trans g2).trans g3, fun _ h => h.elim⟩
theorem Two.gr (h : Two w V kp d r s1 s2) : w.grownBy V none := by
  obtain ⟨f1, f2, h1, h2, h3, h4, h5, h6⟩ := h
  exact h5
/-- What is compared behind each call: it comes out alike. -/
theorem Two.look (h : Two w V kp d r s s) : ∃ (dd : Bool) (m n : Nat) (A : Option Addr) (c : Nat),
    (∀ k, Calls Try.prog 22 #[.pointer (some ⟨d, 0, none⟩)] (V.drewN k) fun e w'' => e = .returned (.bool dd) ∧ ∃ m, w'' = V.drewN m) ∧
    (∀ k, Calls Try.prog 23 #[.pointer (some ⟨d, 0, none⟩)] (V.drewN k) fun e w'' => e = .returned (.int .i64 (m : Int)) ∧ ∃ m, w'' = V.drewN m) ∧
    (∀ k, Calls Try.prog 9 #[.pointer (some ⟨d, 0, none⟩)] (V.drewN k) fun e w'' => e = .returned (.int .i64 (n : Int)) ∧ ∃ m, w'' = V.drewN m) ∧
    V.cell? ⟨r, 5, none⟩ = some (.bool dd) ∧ V.cell? ⟨r, 2, none⟩ = some (.slice A m c) ∧ V.cell? ⟨r, 0, none⟩ = some (.int .i64 (n : Int)) := by
  obtain ⟨f1, f2, h1, h2, h3, h4, h5, h6⟩ := h
  obtain ⟨gk, Av, Bv, vs, b1, b2, b3, b4, b5, b6, b7⟩ := h2
  obtain ⟨A, c, rfl⟩ := own_shape b3
  exact ⟨s.dead, s.L.length, s.n, A, c, fun k => (dead_any (h1.grown (grown_drewN k))).mono fun e w'' ⟨he, hw⟩ => ⟨he, k, hw.symm⟩, fun k => (waits_any (h1.grown (grown_drewN k))).mono fun e w'' ⟨he, hw⟩ => ⟨he, k, hw.symm⟩, fun k => (blocks_any (h1.grown (grown_drewN k))).mono fun e w'' ⟨he, hw⟩ => ⟨he, k, hw.symm⟩, b1.get 5 _ rfl, b1.get 2 _ rfl, b1.get 0 _ rfl⟩
/-- What is compared at the end. -/
theorem Two.ends (h : Two w V kp d r s s) (hL : s.L.length ≤ 1048576) : ∃ (K : List UInt8) (m gk : Nat) (cs : List Value), Calls Try.prog 24 #[.pointer (some ⟨d, 0, none⟩)] V.drew (NewBytes V.drew K m) ∧ Blk V r 46 cs ∧ cs[1]? = some (.slice (some ⟨gk, 0, none⟩) m m) ∧ Blk V gk 5 (u8s K) ∧ K.length = m := by
  obtain ⟨f1, f2, h1, h2, h3, h4, h5, h6⟩ := h
  obtain ⟨gk, Av, Bv, vs, b1, b2, b3, b4, b5, b6, b7⟩ := h2
  exact ⟨s.K, 64 * s.n, gk, _, kept_any (h1.grown (grown_drewN 1 : V.grownBy V.drew none)) hL, b1, rfl, b2, b7.2.2.1⟩
/-- The reference's cells, one of which (the fuse) is going to be written. -/
theorem Two.cells (h : Two w V kp d r s1 s) : ∃ cs : List Value, Blk V r 46 cs ∧ 4 < cs.length ∧ ∀ (f : Int) (V' : World), -9223372036854775808 ≤ f → f ≤ 9223372036854775807 → Blk V' r 46 (cs.set 4 (.int .i64 (max f (-1)))) → V.grownBy V' (some r) → Two w V' kp d r s1 (s.fuse f) := by
  obtain ⟨f1, f2, h1, h2, h3, h4, h5, h6⟩ := h
  obtain ⟨gk, Av, Bv, vs, b1, b2, b3, b4, b5, b6, b7⟩ := h2
  refine ⟨_, b1, by simp [rcells], fun f V' l1 l2 hb hg => ?_⟩
  obtain ⟨hd, hm⟩ := rfuse_set b2 b3 b4 b5 b6 b7 l1 l2 hb hg
  exact ⟨f1, f2, h1.md hm h3, hd, h3, h4, hm.grown h5 (fun k hk => h4 k (.inr hk)), fun b hb => ⟨Nat.lt_of_lt_of_le (h6 b hb).1 hm.size, (h6 b hb).2⟩⟩
end
end Go.Proofs.Ytmdkpfogdbggoaa
