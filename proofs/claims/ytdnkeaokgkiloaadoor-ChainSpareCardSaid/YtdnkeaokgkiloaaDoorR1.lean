/- A suite in memory, the code's or the reference's; Mix of either; what a row's next keys are, in plain mathematics. Conditions: there is room for more terms. -/
import Derived.Test.YtdnkeaokgkiloaaDoorN3
import Derived.Test.YtdnkeaokgkiloaaDoorQ5
namespace Go.Proofs.YtdnkeaokgkiloaaDoor
open Go.RowKit T
/-- What of a code's suite lies in memory; what may turn of it is 'ok'. -/
def Sm (ok : Nat → Prop) (w : World) : Option Nat → Sg → Prop
  | none, none => S.Tab w
  | some tb, some T => Tbl w ok tb T
  | _, _ => False
/-- .. of the reference's. -/
def Rm (ok : Nat → Prop) (w : World) : Option Nat → Sg → Prop
  | none, none => True
  | some rb, some T => RTbl w ok rb T ∧ ∀ x ∈ T, Go.Proofs.YtdnkeaokgkiloaaDoor.T.Good x
  | _, _ => False
/-- A suite of the code. -/
structure Sui (w : World) (ok : Nat → Prop) (p : Option Nat) (σ : Sg) : Prop where
  mem : Sm ok w p σ
  lt : ∀ b, ok b → b < w.heap.size
  two : 2 ≤ w.heap.size
/-- A suite of the reference. -/
structure Rui (w : World) (ok : Nat → Prop) (p : Option Nat) (σ : Sg) : Prop where
  mem : Rm ok w p σ
  lt : ∀ b, ok b → b < w.heap.size
section
variable {w w' w'' : World} {ok ok' : Nat → Prop} {p : Option Nat} {σ τ : Sg} {g : Nat}
theorem Sui.keep (h : Sui w ok p σ) (hz : w.heap.size ≤ w'.heap.size) (hk : ∀ b, ok b ∨ b < 2 → w'.heap[b]? = w.heap[b]?) : Sui w' ok p σ := by
  refine ⟨?_, fun b hb => Nat.lt_of_lt_of_le (h.lt b hb) hz, Nat.le_trans h.two hz⟩
  have hm := h.mem
  match p, σ, hm with
  | none, none, hm =>
    have hm' : S.Tab w := hm
    exact ⟨fun i hi => (World.cell?_of_block (hk 0 (.inr (by omega)))).trans (hm'.1 i hi), fun i hi => (World.cell?_of_block (hk 1 (.inr (by omega)))).trans (hm'.2 i hi)⟩
  | some tb, some T, hm => exact Tbl.keep hm fun b hb _ => hk b (.inl hb)
theorem Sui.grown (h : Sui w ok p σ) (hg : w.grownBy w' none) : Sui w' ok p σ :=
  h.keep hg.size fun b hb => hg.block b (hb.elim (h.lt b) fun h2 => Nat.lt_of_lt_of_le h2 h.two) (by simp)
theorem Sui.own (h : Sui w ok p σ) (hg : w.grownBy w' (some g)) (hn : ¬ ok g) (h2 : 2 ≤ g) : Sui w' ok p σ :=
  h.keep hg.size fun b hb => hg.block b (hb.elim (h.lt b) fun h2 => Nat.lt_of_lt_of_le h2 h.two) fun e => by
    have e' : b = g := Option.some.inj e
    subst e'
    rcases hb with hb | hb
    · exact hn hb
    · omega
theorem Sui.md (h : Sui w ok p σ) (hm : Md ok' w w') (hd : ∀ b, ok b → ¬ ok' b) (h2 : ∀ b, ok' b → 2 ≤ b) : Sui w' ok p σ :=
  h.keep hm.size fun b hb => hm.block b (hb.elim (h.lt b) fun h2 => Nat.lt_of_lt_of_le h2 h.two) fun e => hb.elim (fun hb => hd b hb e) fun hb => by have := h2 b e; omega
theorem Rui.keep (h : Rui w ok p σ) (hz : w.heap.size ≤ w'.heap.size) (hk : ∀ b, ok b → w'.heap[b]? = w.heap[b]?) : Rui w' ok p σ := by
  refine ⟨?_, fun b hb => Nat.lt_of_lt_of_le (h.lt b hb) hz⟩
  have hm := h.mem
  match p, σ, hm with
  | none, none, hm => exact trivial
  | some tb, some T, hm => exact ⟨RTbl.keep hm.1 hz fun b hb _ => hk b hb, hm.2⟩
theorem Rui.grown (h : Rui w ok p σ) (hg : w.grownBy w' none) : Rui w' ok p σ := h.keep hg.size fun b hb => hg.block b (h.lt b hb) (by simp)
theorem Rui.own (h : Rui w ok p σ) (hg : w.grownBy w' (some g)) (hn : ¬ ok g) : Rui w' ok p σ :=
  h.keep hg.size fun b hb => hg.block b (h.lt b hb) fun e => hn (by rw [← Option.some.inj e]; exact hb)
theorem Rui.md (h : Rui w ok p σ) (hm : Md ok' w w') (hd : ∀ b, ok b → ¬ ok' b) : Rui w' ok p σ := h.keep hm.size fun b hb => hm.block b (h.lt b hb) (hd b hb)
theorem More.lt (hl : ∀ b, ok b → b < w.heap.size) (hz : w.heap.size ≤ w'.heap.size) : ∀ b, More ok w w' b → b < w'.heap.size := fun b hb => hb.elim (fun h => Nat.lt_of_lt_of_le (hl b h) hz) fun h => h.2
theorem More.not (hn : ¬ ok g) (hg : g < w.heap.size) : ¬ More ok w w' g := fun h => h.elim hn fun h => by omega
/-- The suite goes on. -/
def Nx (w : World) (ok : Nat → Prop) (p : Option Nat) (τ : Sg) (w' : World) : Prop := Sui w' (More ok w w') p τ ∧ Md ok w w'
def Rx (w : World) (ok : Nat → Prop) (p : Option Nat) (τ : Sg) (w' : World) : Prop := Rui w' (More ok w w') p τ ∧ Md ok w w'
theorem more_more (h1 : w.heap.size ≤ w'.heap.size) (h2 : w'.heap.size ≤ w''.heap.size) (b : Nat) (h : More (More ok w w') w' w'' b) : More ok w w'' b := by
  rcases h with (h | h) | h
  · exact .inl h
  · exact .inr ⟨h.1, Nat.lt_of_lt_of_le h.2 h2⟩
  · exact .inr ⟨Nat.le_trans h1 h.1, h.2⟩
theorem Sui.imp (h : Sui w ok p σ) (hi : ∀ b, ok b → ok' b) (hl : ∀ b, ok' b → b < w.heap.size) : Sui w ok' p σ := by
  refine ⟨?_, hl, h.two⟩
  have hm := h.mem
  match p, σ, hm with
  | none, none, hm => exact hm
  | some tb, some T, hm => exact Tbl.imp hm fun b _ hb => hi b hb
theorem Rui.imp (h : Rui w ok p σ) (hi : ∀ b, ok b → ok' b) (hl : ∀ b, ok' b → b < w.heap.size) : Rui w ok' p σ := by
  refine ⟨?_, hl⟩
  have hm := h.mem
  match p, σ, hm with
  | none, none, hm => exact trivial
  | some tb, some T, hm => exact ⟨RTbl.imp hm.1 fun b _ hb => hi b hb, hm.2⟩
theorem Nx.trans (hl : ∀ b, ok b → b < w.heap.size) (h : Nx w ok p σ w') (h2 : Nx w' (More ok w w') p τ w'') : Nx w ok p τ w'' :=
  ⟨h2.1.imp (fun b hb => more_more h.2.size h2.2.size b hb) (More.lt hl (Nat.le_trans h.2.size h2.2.size)), h.2.trans h2.2⟩
theorem Rx.trans (hl : ∀ b, ok b → b < w.heap.size) (h : Rx w ok p σ w') (h2 : Rx w' (More ok w w') p τ w'') : Rx w ok p τ w'' :=
  ⟨h2.1.imp (fun b hb => more_more h.2.size h2.2.size b hb) (More.lt hl (Nat.le_trans h.2.size h2.2.size)), h.2.trans h2.2⟩
/-- Ahead of a call the world has grown. -/
theorem Nx.after (hl : ∀ b, ok b → b < w.heap.size) (hg : w.grownBy w' none) (h : Nx w' ok p τ w'') : Nx w ok p τ w'' :=
  ⟨h.1.imp (fun _ hb => hb.elim .inl fun h1 => .inr ⟨Nat.le_trans hg.size h1.1, h1.2⟩) (More.lt hl (Nat.le_trans hg.size h.2.size)),
    ⟨h.2.os.trans hg.os, h.2.tape.trans hg.tape, h.2.output.trans hg.output, Nat.le_trans hg.size h.2.size, fun k hk hn => (h.2.block k (Nat.lt_of_lt_of_le hk hg.size) hn).trans (hg.block k hk (by simp))⟩⟩
theorem Rx.after (hl : ∀ b, ok b → b < w.heap.size) (hg : w.grownBy w' none) (h : Rx w' ok p τ w'') : Rx w ok p τ w'' :=
  ⟨h.1.imp (fun _ hb => hb.elim .inl fun h1 => .inr ⟨Nat.le_trans hg.size h1.1, h1.2⟩) (More.lt hl (Nat.le_trans hg.size h.2.size)),
    ⟨h.2.os.trans hg.os, h.2.tape.trans hg.tape, h.2.output.trans hg.output, Nat.le_trans hg.size h.2.size, fun k hk hn => (h.2.block k (Nat.lt_of_lt_of_le hk hg.size) hn).trans (hg.block k hk (by simp))⟩⟩
/-- Behind a call a block of the caller's own is turned, or new ones are made. -/
theorem Nx.then_ (h : Nx w ok p τ w') (hg : w'.grownBy w'' none) : Nx w ok p τ w'' :=
  ⟨(h.1.grown hg).imp (fun _ hb => hb.elim .inl fun h1 => .inr ⟨h1.1, Nat.lt_of_lt_of_le h1.2 hg.size⟩) (fun b hb => hb.elim (fun h1 => Nat.lt_of_lt_of_le (h.1.lt b (.inl h1)) hg.size) fun h1 => h1.2), h.2.trans (Md.of_below (grown_below hg))⟩
theorem Rx.then_ (h : Rx w ok p τ w') (hg : w'.grownBy w'' none) : Rx w ok p τ w'' :=
  ⟨(h.1.grown hg).imp (fun _ hb => hb.elim .inl fun h1 => .inr ⟨h1.1, Nat.lt_of_lt_of_le h1.2 hg.size⟩) (fun b hb => hb.elim (fun h1 => Nat.lt_of_lt_of_le (h.1.lt b (.inl h1)) hg.size) fun h1 => h1.2), h.2.trans (Md.of_below (grown_below hg))⟩
/-- What the call itself owns: it was made since it began, ahead of the suite's call. -/
theorem md_own {w1 : World} (h : Md ok w w1) (hg : w1.grownBy w'' (some g)) (hw : w.heap.size ≤ g) : Md ok w w'' :=
  ⟨hg.os.trans h.os, hg.tape.trans h.tape, hg.output.trans h.output, Nat.le_trans h.size hg.size, fun k hk hn => (hg.block k (Nat.lt_of_lt_of_le hk h.size) (fun e => by have e' : k = g := Option.some.inj e; omega)).trans (h.block k hk hn)⟩
end
section
variable {w : World} {ok ok' : Nat → Prop} {p : Option Nat} {σ : Sg} {A : Option Addr} {ps : List (List UInt8)} {n c : Nat}
theorem mix_any (x : UInt8) (h : Sui w ok p σ) (hr : Room 60000 σ) (hx : Lst w ok' A ps) (hok : ∀ b, ok' b → b < w.heap.size) (hn : ps.length = n) (hmo : MixOk ps) :
    Calls Tryd.prog 32 #[tab p, .int .u8 (x.toNat : Int), .slice A n c] w fun e w' => MixA σ x ps e ∧ Nx w ok p (mixS σ x ps) w' := by
  have hm := h.mem
  match p, σ, hm with
  | none, none, hm =>
    exact (mix_real (c := c) x hm hx hok hn hmo).mono fun e w' ⟨he, hg⟩ => ⟨he, (h.grown hg).imp (fun _ hb => .inl hb) (More.lt h.lt hg.size), Md.of_below (grown_below hg)⟩
  | some tb, some T, hm =>
    exact (mix_free (c := c) x hm hr hx hok hn hmo).mono fun e w' ⟨he, ht, hd⟩ => ⟨he, ⟨ht, More.lt h.lt hd.size, Nat.le_trans h.two hd.size⟩, hd⟩
theorem rmix_any (x : UInt8) (h : Rui w ok p σ) (hr : Room 60000 σ) (hx : Lst w ok' A ps) (hok : ∀ b, ok' b → b < w.heap.size) (hn : ps.length = n) (hmo : MixOk ps) :
    Calls Tryd.prog 26 #[tab p, .int .u8 (x.toNat : Int), .slice A n c] w fun e w' => MixA σ x ps e ∧ Rx w ok p (mixS σ x ps) w' := by
  have hm := h.mem
  match p, σ, hm with
  | none, none, hm =>
    exact (rmix_real (c := c) x hx hok hn hmo).mono fun e w' ⟨he, hg⟩ => ⟨he, (h.grown hg).imp (fun _ hb => .inl hb) (More.lt h.lt hg.size), Md.of_below (grown_below hg)⟩
  | some rb, some T, hm =>
    refine (rmix_free (c := c) x hm.1 hm.2 hr hx hok hn hmo).mono fun e w' ⟨he, ht, hd⟩ => ⟨he, ⟨⟨ht, fun y hy => ?_⟩, More.lt h.lt hd.size⟩, hd⟩
    have hg := mix_good (x := x) hmo
    by_cases hin : (7, [x] :: ps) ∈ T
    · have e7 : mk T 7 ([x] :: ps) = _ := mk_old hg hin
      rw [e7] at hy
      exact hm.2 y hy
    · have hrr : T.length ≤ 60000 := hr
      have e7 : mk T 7 ([x] :: ps) = _ := mk_new hg hin (by omega)
      rw [e7] at hy
      rcases List.mem_append.1 hy with hy | hy
      · exact hm.2 y hy
      · obtain rfl := List.mem_singleton.1 hy
        exact hg
end
/-- The key of a row's next letter, the next row's key, and the suite then. -/
def nextL (σ : Sg) (k : List UInt8) : List UInt8 := mixV σ 77 [k]
def nextK (σ : Sg) (k : List UInt8) : List UInt8 := mixV (mixS σ 77 [k]) 78 [k]
def nextS (σ : Sg) (k : List UInt8) : Sg := mixS (mixS σ 77 [k]) 78 [k]
theorem nextL_length (σ : Sg) (k : List UInt8) : (nextL σ k).length = 32 := mixV_length _ _ _
theorem nextK_length (σ : Sg) (k : List UInt8) : (nextK σ k).length = 32 := mixV_length _ _ _
theorem mixOk_one {k : List UInt8} (h : k.length = 32) : MixOk [k] := ⟨by simp, fun p hp => by obtain rfl := List.mem_singleton.1 hp; omega⟩
theorem mixOk_two {k l : List UInt8} (h : k.length = 32) (h2 : l.length = 32) : MixOk [k, l] := ⟨by simp, fun p hp => by
  rcases List.mem_cons.1 hp with rfl | hp
  · omega
  · obtain rfl := List.mem_singleton.1 hp; omega⟩
theorem Room.next {n : Nat} {σ : Sg} {k : List UInt8} (h : Room n σ) (hk : k.length = 32) (hn : n ≤ 59000) : Room (n + 2) (nextS σ k) := (h.mix (mixOk_one hk) (by omega)).mix (mixOk_one hk) (by omega)
end Go.Proofs.YtdnkeaokgkiloaaDoor
