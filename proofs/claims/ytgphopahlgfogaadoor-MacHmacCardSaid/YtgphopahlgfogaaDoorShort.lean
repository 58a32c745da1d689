/- The reference's 32 bytes. Conditions: none. -/
import Derived.Test.YtgphopahlgfogaaDoorRefs
import Derived.Deep.RegionLaw
import Derived.Deep.RegionWith
import Derived.StillTailTactics
namespace Go.Proofs.YtgphopahlgfogaaDoor
open Go.RowKit
/-- Copying as one step of a region that draws its order. -/
theorem step_copy_blk {w : World} {ops : Array Oper} {o : Oper} {a : Act} {K : Act → World → Prop} {Q : Exit → Act → World → Prop} {E : Prop} (hgd : o.guard = none) (d s : Operand) (ho : o.op = .call { callee := .builtin .copy, args := #[d, s], argTypes := #[22, 22] })
    (g off dLen dCap sLen sCap : Nat) (A : Option Addr) (xs ys : List UInt8) (hd : a.eval d = .slice (some ⟨g, off, none⟩) dLen dCap) (hs : a.eval s = .slice A sLen sCap) (hxl : xs.length = sLen) (hyl : ys.length = dLen) (h0 : 0 < Nat.min xs.length ys.length)
    (ty : TypeId) (pre post : List Value) (hb : Blk w g ty (pre ++ u8s ys ++ post)) (hp : pre.length = off) (ok : Nat → Prop) (hx : Byt w ok A xs) (m : Nat) (hm : Nat.min xs.length ys.length = m)
    (h : ∀ w', Blk w' g ty (pre ++ u8s (lay xs ys) ++ post) → w.grownBy w' (some g) → w'.heap.size = w.heap.size → K (a.put o.dst (goInt (m : Int))) w') :
    if Region.wanted o (yielded ops a.tmps) = true then Oper.wp Tryd.prog o a w K Q else E := by
  subst hm hxl hyl hp
  have hw : Region.wanted o (yielded ops a.tmps) = true := by simp [Region.wanted, hgd]
  rw [if_pos hw]
  have hcs : (u8s (xs.take ys.length)).length = Nat.min xs.length ys.length := by rw [u8s_length, List.length_take, Nat.min_comm]
  obtain ⟨ad, rfl, _, hcell⟩ := hx.some_ (by have : Nat.min xs.length ys.length ≤ xs.length := Nat.min_le_left _ _; omega)
  have hrun := run_copy_row (P := Tryd.prog) w 22 22 o.type 5 g pre.length ys.length dCap ad xs.length sCap _ ty (u8s (xs.take ys.length)) Tryd.underlying22 (by kernel_rfl) hb hcs ?_ ?_ (u8s_one _)
  · unfold Oper.wp
    have e : ((pre ++ u8s ys ++ post).take pre.length ++ u8s (xs.take ys.length) ++ (pre ++ u8s ys ++ post).drop (pre.length + Nat.min xs.length ys.length)) = pre ++ u8s (lay xs ys) ++ post := by
      rw [List.append_assoc pre, List.take_left', List.drop_append, List.drop_eq_nil_of_le (by omega), Nat.add_sub_cancel_left, List.nil_append, List.drop_append_of_le_length (by rw [u8s_length]; exact Nat.min_le_right _ _)]
      · rw [lay, u8s_append]
        have e2 : List.drop (Nat.min xs.length ys.length) (u8s ys) = u8s (ys.drop xs.length) := by
          unfold u8s
          rw [← List.map_drop]
          congr 1
          rcases Nat.le_total xs.length ys.length with hle | hle
          · rw [show Nat.min xs.length ys.length = xs.length from Nat.min_eq_left hle]
          · rw [show Nat.min xs.length ys.length = ys.length from Nat.min_eq_right hle, List.drop_eq_nil_of_le (Nat.le_refl _), List.drop_eq_nil_of_le hle]
        rw [e2]
        simp only [List.append_assoc]
      · rfl
    rw [hcs] at hrun
    simp only [] at hrun
    rw [e] at hrun
    simp only [execOp, ho, resolve, invoke, builtin, Sem.run_bind, Sem.run_pure, Result.andThen_ok, List.map_toArray, List.map_cons, List.map_nil, hd, hs, hrun]
    exact h _ (Blk.setRow hb) (grown_setRow _ _ _) (by simp [World.setRow])
  · intro j v hv
    obtain ⟨hj, rfl⟩ := u8s_get _ j v hv
    rw [List.length_take] at hj
    rw [hcell j (by omega)]
    simp
  · rw [hcs]
    have : Nat.min xs.length ys.length ≤ ys.length := Nat.min_le_right _ _
    simp only [List.size_toArray, List.length_append, u8s_length]
    omega
/-- What the reference's hash of bytes is. -/
def HashSays : Prop := ∀ {w : World} {c n : Nat} {ok : Nat → Prop} {A : Option Addr} {xs : List UInt8}, Byt w ok A xs → (∀ b, ok b → b < w.heap.size) → xs.length = n → n ≤ 20000 →
  Calls Tryd.prog 22 #[.slice A n c, .int .u64 32] w fun e w' => ∃ v, e = .returned v ∧ w'.ownsRow w.heap.size 5 1 v 32 (u8s (sha256 xs)) ∧ w.grownBy w' none
set_option maxRecDepth 100000 in
set_option maxHeartbeats 1600000 in
theorem short_any (H : HashSays) {w : World} {c n : Nat} {ok : Nat → Prop} {A : Option Addr} {xs : List UInt8} (hx : Byt w ok A xs) (hok : ∀ b, ok b → b < w.heap.size) (hn : xs.length = n) (hm : n ≤ 20000) :
    Calls Tryd.prog 17 #[.slice A n c] w fun e w' => e = .returned (.agg (u8s (sha256 xs)).toArray) ∧ w.grownBy w' none := by
  have HX := Lib.hid hx
  have HN := Lib.hid hn
  clear hx hn
  go_enter Tryd.func17, Tryd.ntmps17
  go_wp2_with (refine wpList_alloc24 rfl rfl ?_)
  intro w1 hb1 hg1 hz1
  go_wp2_with (refine wpList_alloc24 rfl rfl ?_)
  intro w2 hb2 hg2 hz2
  have hg12 := World.grownBy.trans hg1 hg2
  have hb12 := hb1.grown hg2 (by simp)
  have hz22 : w2.heap.size = w.heap.size + 2 := by omega
  have HB1 := Lib.hid hb12
  have HB2 := Lib.hid hb2
  have HG2 := Lib.hid hg12
  clear hb1 hb12 hb2 hg1 hg2 hz1 hz2 hg12
  go_wp2_with (fail)
  have hx3 : ∀ n, Byt (w2.drewN n) ok A xs := fun n => HX.out.grown (grown_drewN n HG2.out) (fun b hb => ⟨hok b hb, by simp⟩)
  have ho3 : ∀ n b, ok b → b < (w2.drewN n).heap.size := fun n b hb => by have := hok b hb; have : (w2.drewN n).heap.size = w2.heap.size := rfl; omega
  have HX3 := Lib.hid hx3
  have HO3 := Lib.hid ho3
  clear hx3 ho3
  have hb3 : ∀ n, Blk (w2.drewN n) (w.heap.size + 1) 24 (u8s (zs 32)) := fun n => HB2.out.keep rfl
  have HB3 := Lib.hid hb3
  clear hb3
  go_region_law (first
    | (go_simp; go_at_call 22; refine (H (HX3.out 1) (HO3.out 1) HN.out hm).mono ?_; rintro _ w4 ⟨v, rfl, hv, hg4⟩; obtain ⟨A4, c4, rfl, -, -, -, hx4⟩ := own_form hv)
    | (refine step_copy_blk rfl (.tmp 4) (.tmp 6) rfl (w.heap.size + 1) 0 32 32 (sha256 xs).length c4 A4 (sha256 xs) (zs 32) (by simp [Act.eval]) (by simp [Act.eval]) rfl (zs_length 32) (by rw [sha256_length, zs_length]; decide) 24 [] [] (((HB3.out 1).grown hg4 (by simp)).to (by simp)) rfl _ hx4 32 (by rw [sha256_length, zs_length]; rfl) ?_; intro w5 hb5 hg5 hz5)
    | fail)
  have hlay : lay (sha256 xs) (zs 32) = sha256 xs := by
    rw [lay_le _ _ (by rw [sha256_length, zs_length]; exact Nat.le_refl _), zs_drop, sha256_length]
    simp [zs]
  rw [hlay] at hb5
  have hb6 : Blk w5 (w.heap.size + 1) 24 (u8s (sha256 xs)) := hb5.to (by simp)
  have hr6 : w5.rangeAt (w.heap.size + 1) 0 (u8s (sha256 xs)) := Blk.range (pre := []) (post := []) hb5 rfl
  have hb7 : Blk w5 w.heap.size 24 (u8s (zs 32)) := (((HB1.out.keep (w' := w2.drewN 1) rfl).grown hg4 (by simp)).grown hg5 (by simp))
  have hg7 : w.grownBy w5 none := World.grownBy.andThen (World.grownBy.trans (grown_drewN 1 HG2.out) hg4) hg5 (by rintro _ ⟨⟩; exact .inl (by omega))
  have HB7 := Lib.hid hb7
  have HR6 := Lib.hid hr6
  have HG7 := Lib.hid hg7
  clear hb5 hb6 hr6 hb7 hg7 hlay hg4 hg5 hz5 hv hx4 HX3 HO3 HB3
  go_wp2_with (first | (refine wpList_load_mid rfl 24 _ rfl (w.heap.size + 1) 0 rfl (u8s (sha256 xs)) _ HR6.out Tryd.underlying24 rfl (by rw [size24, u8s_length, sha256_length]) ?_) | (refine wpList_store_row rfl 24 _ _ rfl w.heap.size (u8s (sha256 xs)).toArray rfl rfl 24 _ HB7.out (by rw [size24, List.size_toArray, u8s_length, sha256_length]) (by simp [u8s_length, sha256_length, zs_length]) (all_oneCell_toArray (u8s_one _)) ?_))
  exact bodyPost_ret (results_cell_row rfl _ _ w.heap.size 24 (u8s (sha256 xs)).toArray (0, 0) _ rfl (setRow_heap w5 w.heap.size _ _ 24 (0, 0) HB7.out) Tryd.underlying24 rfl (by rw [size24, List.size_toArray, u8s_length, sha256_length])) rfl ⟨rfl, World.grownBy.andThen HG7.out (grown_setRow _ _ _) (by rintro _ ⟨⟩; exact .inl (Nat.le_refl _))⟩
end Go.Proofs.YtgphopahlgfogaaDoor
