/- The reference's small numbers, of bytes, to bytes, sums. Conditions: the numbers have sixteen digits. -/
import Derived.Test.YtoookolekpblhaaDoorNum5
namespace Go.Proofs.YtoookolekpblhaaDoor
open Go.RowKit
set_option maxRecDepth 100000 in
set_option maxHeartbeats 1600000 in
theorem small_any (w : World) (n : Nat) (hn : n ≤ 1099511627776) : Calls Tryd.prog 29 #[.int .i64 (n : Int)] w fun e w' => e = .returned (.agg (num (dgt (n % fq))).toArray) ∧ w.grownBy w' none := by
  have hf : ∀ (W : World) (g : Nat), Blk W g 3 (ints [n]) → Calls Tryd.prog 21 #[.slice (some ⟨g, 0, none⟩) 1 1] W fun e w' => e = .returned (.agg (num (dgt (n % fq))).toArray) ∧ W.grownBy w' (some g) := fun W g h => by
    have := fold_any h rfl (Nat.le_refl _) (by simp) (by simpa using hn) (by rw [vl_one]; exact Nat.lt_of_le_of_lt hn (by decide +kernel))
    rwa [vl_one] at this
  have HF := Lib.hid hf
  clear hf hn
  go_enter Tryd.func29, Tryd.ntmps29
  go_wp2_with (first
    | (refine wpList_alloc32 rfl rfl ?_
       intro w1 hb1 hg1 hz1
       obtain ⟨gr, hgr⟩ : ∃ g, g = w.heap.size := ⟨_, rfl⟩
       rw [← hgr] at hb1 ⊢
       have hle : w.heap.size ≤ gr := by omega
       have HR := Lib.hid hb1
       have HG := Lib.hid hg1
       have HW := Lib.hid hle
       clear hb1 hg1 hz1 hgr hle)
    | (refine wpList_int1 rfl _ rfl n rfl ?_
       intro w2 hb2 hg2 hz2
       obtain ⟨gs, hgs⟩ : ∃ g, g = w1.heap.size := ⟨_, rfl⟩
       rw [← hgs] at hb2 ⊢
       have hlt := HR.out.lt
       have hne : gr ≠ gs := by omega
       have hle : w.heap.size ≤ gs := by have := HG.out.size; omega
       have HB2 := Lib.hid hb2
       have HR2 := Lib.hid (HR.out.grown hg2 (by simp))
       have HG2 := Lib.hid (World.grownBy.trans HG.out hg2)
       have HNE := Lib.hid hne
       have HLE := Lib.hid hle
       clear hb2 hg2 hz2 hgs hlt hne hle)
    | (go_at_call 21
       refine (HF.out w2 gs HB2.out).mono ?_
       rintro _ w3 ⟨rfl, hg3⟩
       have HR3 := Lib.hid (HR2.out.grown hg3 (fun e => HNE.out (Option.some.inj e)))
       have HG3 : Hid (w.grownBy w3 none) := Lib.hid (World.grownBy.andThen HG2.out hg3 (by rintro _ ⟨⟩; exact .inl HLE.out))
       clear hg3)
    | (refine wpList_store_row rfl 31 _ _ rfl gr (num (dgt (n % fq))).toArray rfl rfl 31 _ HR3.out (num_size _) (num_same _ _) (all_oneCell_toArray (num_one _)) ?_))
  exact bodyPost_ret (results_cell_row rfl _ _ gr 31 (num (dgt (n % fq))).toArray (0, 0) _ rfl (setRow_heap w3 gr _ _ 31 (0, 0) HR3.out) Tryd.underlying31 rfl (num_size _)) rfl ⟨rfl, World.grownBy.andThen HG3.out (grown_setRow _ _ _) (by rintro _ ⟨⟩; exact .inl HW.out)⟩
theorem dgs_set (V i : Nat) (L : List Nat) (hL : L.length = 16) (hi : i < 16) : (dgs i V ++ L.drop i).set i (dgt V i) = dgs (i + 1) V ++ L.drop (i + 1) := by
  rw [set_mid (dgs i V) L i _ (dgs_length _ _) (by omega), ← dgs_succ]
/-- Digits added one by one. -/
def sm (a b i : Nat) : List Nat := (List.range i).map fun j => dgt a j + dgt b j
theorem sm_length (a b i : Nat) : (sm a b i).length = i := by simp [sm]
theorem sm_succ (a b i : Nat) : sm a b (i + 1) = sm a b i ++ [dgt a i + dgt b i] := by simp [sm, List.range_succ]
theorem sm_vl {a b : Nat} (ha : a < 65536 ^ 16) (hb : b < 65536 ^ 16) : vl (sm a b 16) = a + b := by
  have h1 := vl_dgs a 16
  have h2 := vl_dgs b 16
  rw [Nat.mod_eq_of_lt ha] at h1
  rw [Nat.mod_eq_of_lt hb] at h2
  unfold sm
  rw [vl_map_add]
  unfold dgs at h1 h2
  omega
theorem sm_le (a b i : Nat) : ∀ x ∈ sm a b i, x ≤ 131070 := by
  intro x hx
  obtain ⟨j, _, rfl⟩ := List.mem_map.1 hx
  have h1 := dgt_lt a j
  have h2 := dgt_lt b j
  omega
def zr : List Nat := List.replicate 16 0
end Go.Proofs.YtoookolekpblhaaDoor
