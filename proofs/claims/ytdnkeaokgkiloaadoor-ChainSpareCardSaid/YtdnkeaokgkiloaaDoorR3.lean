/- A suite under way in a region that draws its order; lists of one key or two. Conditions: none. -/
import Derived.Test.YtdnkeaokgkiloaaDoorR2
namespace Go.Proofs.YtdnkeaokgkiloaaDoor
open Go.RowKit T
theorem cutN1 {F R : World → Nat → Prop} {G : Prop} (h2 : (∀ w g, F w g → R w g) → G) (h1 : ∀ w g, F w g → R w g) : G := h2 h1
theorem cutN2 {F R : World → Nat → Nat → Prop} {G : Prop} (h2 : (∀ w g h, F w g h → R w g h) → G) (h1 : ∀ w g h, F w g h → R w g h) : G := h2 h1
theorem cutN3 {F R : World → Nat → Nat → Nat → Prop} {G : Prop} (h2 : (∀ w g h i, F w g h i → R w g h i) → G) (h1 : ∀ w g h i, F w g h i → R w g h i) : G := h2 h1
theorem byt_of {w : World} {g : Nat} {t : TypeId} {k : List UInt8} {post : List Value} (h : C.Blk w g t (u8s k ++ post)) : Byt w (fun b => b = g) (some ⟨g, 0, none⟩) k := fun j hj => by
  refine ⟨_, rfl, rfl, ?_⟩
  rw [Addr.add_lit, Nat.zero_add]
  refine h.get _ _ ?_
  rw [List.getElem?_append_left (by rw [u8s_length]; exact hj)]
  unfold u8s
  rw [List.getElem?_map, List.getElem?_eq_getElem hj]
  rfl
theorem byt_of0 {w : World} {g : Nat} {t : TypeId} {k : List UInt8} (h : C.Blk w g t (u8s k)) : Byt w (fun b => b = g) (some ⟨g, 0, none⟩) k := byt_of (post := []) (by rw [List.append_nil]; exact h)
theorem blk_n {w : World} {g : Nat} {t : TypeId} {k : List UInt8} {n : Nat} (h : C.Blk w g t (rv k n)) (hk : k.length = 32) : w.cell? ⟨g, 32, none⟩ = some (.int .u16 (n : Int)) := h.get 32 _ (by
  unfold rv
  rw [List.getElem?_append_right (by rw [u8s_length, hk]; exact Nat.le_refl _), u8s_length, hk]
  rfl)
theorem blk_k {w : World} {g : Nat} {t : TypeId} {k : List UInt8} {n : Nat} (h : C.Blk w g t (rv k n)) : w.rangeAt g 0 (u8s k) := fun j v hv => by
  have hj := (List.getElem?_eq_some_iff.1 hv).1
  exact range_of h j v (by unfold rv; rw [List.getElem?_append_left hj]; exact hv)
/-- A list of one key, of two keys, that lie at the head of their blocks. -/
theorem lst_one {w w' : World} {g gl : Nat} {k : List UInt8} (hk : k.length = 32) (hb : Byt w (fun b => b = g) (some ⟨g, 0, none⟩) k) (hg : g < w.heap.size) (hw : w.alloc (.cells #[.slice (some ⟨g, 0, none⟩) 32 32] 66) = w') (hgl : gl = w.heap.size) :
    Lst w' (fun b => b = g ∨ b = gl) (some ⟨gl, 0, none⟩) [k] := by
  subst hw hgl
  exact lst_lit1 hk (Nat.le_refl _) (by unfold maxLen; omega) hb fun b hb => by rw [hb]; exact hg
theorem lst_two {w w' : World} {g h gl : Nat} {k l : List UInt8} (hk : k.length = 32) (hl : l.length = 32) (hb : Byt w (fun b => b = g) (some ⟨g, 0, none⟩) k) (hb2 : Byt w (fun b => b = h) (some ⟨h, 0, none⟩) l) (hg : g < w.heap.size) (hh : h < w.heap.size)
    (hw : w.alloc (.cells #[.slice (some ⟨g, 0, none⟩) 32 32, .slice (some ⟨h, 0, none⟩) 32 32] 66) = w') (hgl : gl = w.heap.size) :
    Lst w' (fun b => b = g ∨ b = h ∨ b = gl) (some ⟨gl, 0, none⟩) [k, l] := by
  subst hw hgl
  intro i hi
  have h1 : (w.alloc (.cells #[.slice (some ⟨g, 0, none⟩) 32 32, .slice (some ⟨h, 0, none⟩) 32 32] 66)).heap[w.heap.size]? = _ := heap_alloc_new w _
  have k1 : Byt (w.alloc (.cells #[.slice (some ⟨g, 0, none⟩) 32 32, .slice (some ⟨h, 0, none⟩) 32 32] 66)) (fun b => b = g ∨ b = h ∨ b = w.heap.size) (some ⟨g, 0, none⟩) k := (hb.keep fun b hb => Below.heap_alloc _ _ _ (by rw [hb]; exact hg)).imp fun b hb => .inl hb
  have k2 : Byt (w.alloc (.cells #[.slice (some ⟨g, 0, none⟩) 32 32, .slice (some ⟨h, 0, none⟩) 32 32] 66)) (fun b => b = g ∨ b = h ∨ b = w.heap.size) (some ⟨h, 0, none⟩) l := (hb2.keep fun b hb => Below.heap_alloc _ _ _ (by rw [hb]; exact hh)).imp fun b hb => .inr (.inl hb)
  match i, hi with
  | 0, _ =>
    refine ⟨⟨w.heap.size, 0, none⟩, some ⟨g, 0, none⟩, 32, rfl, .inr (.inr rfl), ?_, by show k.length ≤ 32; omega, by unfold maxLen; omega, k1⟩
    rw [Addr.add_lit, Nat.zero_add, cell_of_block h1]
    show some (Value.slice (some ⟨g, 0, none⟩) 32 32) = some (Value.slice (some ⟨g, 0, none⟩) k.length 32)
    rw [hk]
  | 1, _ =>
    refine ⟨⟨w.heap.size, 0, none⟩, some ⟨h, 0, none⟩, 32, rfl, .inr (.inr rfl), ?_, by show l.length ≤ 32; omega, by unfold maxLen; omega, k2⟩
    rw [Addr.add_lit, Nat.zero_add, cell_of_block h1]
    show some (Value.slice (some ⟨h, 0, none⟩) 32 32) = some (Value.slice (some ⟨h, 0, none⟩) l.length 32)
    rw [hl]
/-- A suite under way: since w the blocks that are 'ok' may have turned; what is the suite's now is 'okX'. -/
structure Reg (w v : World) (ok okX : Nat → Prop) (p : Option Nat) (τ : Sg) : Prop where
  sui : Sui v okX p τ
  md : Md ok w v
  sub : ∀ b, okX b → More ok w v b
section
variable {w v v' : World} {ok okX : Nat → Prop} {p : Option Nat} {σ τ : Sg} {g : Nat} {t : TypeId} {vs : List Value}
theorem Reg.start (h : Sui w ok p σ) : Reg w w.drew ok ok p σ := ⟨h.grown (grown_drew w), Md.of_below (grown_below (grown_drew w)), fun _ hb => .inl hb⟩
theorem Reg.start0 (h : Sui w ok p σ) : Reg w w ok ok p σ := ⟨h, Md.refl _ _, fun _ hb => .inl hb⟩
theorem more_up {b : Nat} (h : More ok w v b) (hz : v.heap.size ≤ v'.heap.size) : More ok w v' b := h.imp id fun h => ⟨h.1, Nat.lt_of_lt_of_le h.2 hz⟩
theorem Reg.alloc (h : Reg w v ok okX p τ) (hg : v.grownBy v' none) : Reg w v' ok okX p τ :=
  ⟨h.sui.grown hg, h.md.trans (Md.of_below (grown_below hg)), fun b hb => more_up (h.sub b hb) hg.size⟩
theorem Reg.call (h : Reg w v ok okX p σ) (hn : Nx v okX p τ v') : Reg w v' ok (More okX v v') p τ :=
  ⟨hn.1, h.md.trans (hn.2.imp fun b _ hb => h.sub b hb), fun b hb => hb.elim (fun hb => more_up (h.sub b hb) hn.2.size) fun hb => .inr ⟨Nat.le_trans h.md.size hb.1, hb.2⟩⟩
theorem Reg.store (h : Reg w v ok okX p τ) (hg : v.grownBy v' (some g)) (hn : ¬ okX g) (hw : w.heap.size ≤ g) (h2 : 2 ≤ w.heap.size) : Reg w v' ok okX p τ :=
  ⟨h.sui.own hg hn (Nat.le_trans h2 hw), md_own h.md hg hw, fun b hb => more_up (h.sub b hb) hg.size⟩
theorem Reg.nx (h : Reg w v ok okX p τ) (hl : ∀ b, ok b → b < w.heap.size) : Nx w ok p τ v := ⟨h.sui.imp h.sub (More.lt hl h.md.size), h.md⟩
theorem Reg.blk (h : Reg w v ok okX p τ) (hb : C.Blk w g t vs) (hn : ¬ ok g) : C.Blk v g t vs := hb.keep (h.md.block g hb.lt hn)
theorem Reg.not_new (h : Reg w v ok okX p τ) (hg : v.heap.size ≤ g) : ¬ okX g := fun hb => by have := h.sui.lt g hb; omega
theorem Reg.not_old (h : Reg w v ok okX p τ) (hg : g < w.heap.size) (hn : ¬ ok g) : ¬ okX g := fun hb => (h.sub g hb).elim hn fun h => by omega
end
/-- A suite under way: since w the blocks that are 'ok' may have turned; what is the suite's now is 'okX'. -/
structure Rrg (w v : World) (ok okX : Nat → Prop) (p : Option Nat) (τ : Sg) : Prop where
  sui : Rui v okX p τ
  md : Md ok w v
  sub : ∀ b, okX b → More ok w v b
section
variable {w v v' : World} {ok okX : Nat → Prop} {p : Option Nat} {σ τ : Sg} {g : Nat} {t : TypeId} {vs : List Value}
theorem Rrg.start (h : Rui w ok p σ) : Rrg w w.drew ok ok p σ := ⟨h.grown (grown_drew w), Md.of_below (grown_below (grown_drew w)), fun _ hb => .inl hb⟩
theorem Rrg.start0 (h : Rui w ok p σ) : Rrg w w ok ok p σ := ⟨h, Md.refl _ _, fun _ hb => .inl hb⟩
theorem Rrg.alloc (h : Rrg w v ok okX p τ) (hg : v.grownBy v' none) : Rrg w v' ok okX p τ :=
  ⟨h.sui.grown hg, h.md.trans (Md.of_below (grown_below hg)), fun b hb => more_up (h.sub b hb) hg.size⟩
theorem Rrg.call (h : Rrg w v ok okX p σ) (hn : Rx v okX p τ v') : Rrg w v' ok (More okX v v') p τ :=
  ⟨hn.1, h.md.trans (hn.2.imp fun b _ hb => h.sub b hb), fun b hb => hb.elim (fun hb => more_up (h.sub b hb) hn.2.size) fun hb => .inr ⟨Nat.le_trans h.md.size hb.1, hb.2⟩⟩
theorem Rrg.store (h : Rrg w v ok okX p τ) (hg : v.grownBy v' (some g)) (hn : ¬ okX g) (hw : w.heap.size ≤ g) : Rrg w v' ok okX p τ :=
  ⟨h.sui.own hg hn, md_own h.md hg hw, fun b hb => more_up (h.sub b hb) hg.size⟩
theorem Rrg.nx (h : Rrg w v ok okX p τ) (hl : ∀ b, ok b → b < w.heap.size) : Rx w ok p τ v := ⟨h.sui.imp h.sub (More.lt hl h.md.size), h.md⟩
theorem Rrg.blk (h : Rrg w v ok okX p τ) (hb : C.Blk w g t vs) (hn : ¬ ok g) : C.Blk v g t vs := hb.keep (h.md.block g hb.lt hn)
theorem Rrg.not_new (h : Rrg w v ok okX p τ) (hg : v.heap.size ≤ g) : ¬ okX g := fun hb => by have := h.sui.lt g hb; omega
theorem Rrg.not_old (h : Rrg w v ok okX p τ) (hg : g < w.heap.size) (hn : ¬ ok g) : ¬ okX g := fun hb => (h.sub g hb).elim hn fun h => by omega
end
end Go.Proofs.YtdnkeaokgkiloaaDoor
