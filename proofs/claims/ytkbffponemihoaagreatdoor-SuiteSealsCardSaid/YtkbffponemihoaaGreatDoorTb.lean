/- A body with three labels, of which one is jumped back to; and a slice of the call's own whose elements are slices of bytes. Conditions: none. Split tells what any bytes say as pieces, in new memory, with its error. Conditions: none. Lists tells whether two lists of bytes are the same. Conditions: none. -/
import Derived.Test.YtkbffponemihoaaGreatDoorTa
import Derived.Scope
import Derived.Deep.AppendLies
import Derived.WalkMore
import Derived.Deep.QuietTactic
import Derived.BigQuiet
import Derived.Deep.RegionHeld3
namespace Go.Proofs.YtkbffponemihoaaGreatDoor.T
open Go.RowKit
/-- What holds at a jump to the labels 0, 1, 2; no other jump; else as Q. -/
def three (J0 J1 J2 : Act → World → Prop) (Q : Exit → Act → World → Prop) : Exit → Act → World → Prop
  | .goto 0, a, w => J0 a w
  | .goto 1, a, w => J1 a w
  | .goto 2, a, w => J2 a w
  | .goto _, _, _ => False
  | .normal, a, w => Q .normal a w
  | .exit id, a, w => Q (.exit id) a w
  | .ret, a, w => Q .ret a w
  | .panic ch, a, w => Q (.panic ch) a w
  | .outgrown, a, w => Q .outgrown a w
section
variable {P : Program} {a : Act} {w : World} {Q : Exit → Act → World → Prop} {J0 J1 J2 J2' : Act → World → Prop}
theorem three_imp (h : ∀ a w, J2 a w → J2' a w) : ∀ (e : Exit) (a : Act) (w : World), three J0 J1 J2 Q e a w → three J0 J1 J2' Q e a w := by
  intro e a w hq
  match e, hq with
  | .goto 0, hq => exact hq
  | .goto 1, hq => exact hq
  | .goto 2, hq => exact h _ _ hq
  | .goto (_ + 3), hq => exact hq.elim
  | .normal, hq => exact hq
  | .exit id, hq => exact hq
  | .ret, hq => exact hq
  | .panic ch, hq => exact hq
  | .outgrown, hq => exact hq
theorem wp_scope_three {c c0 c1 c2 : Code} (J0 J1 J2 : Act → World → Prop) (μ : Act → World → Nat)
    (h0 : findLabel c 0 = some c0) (h1 : findLabel c 1 = some c1) (h2 : findLabel c 2 = some (.seq .skip c2))
    (p0 : ∀ a w, J0 a w → c0.wp P (Exit.noGoto Q) a w) (p1 : ∀ a w, J1 a w → c1.wp P (Exit.noGoto Q) a w)
    (p2 : ∀ a w, J2 a w → c2.wp P (three J0 J1 (fun a' w' => J2 a' w' ∧ μ a' w' < μ a w) Q) a w)
    (first : (∀ a w, J2 a w → c2.wp P (three J0 J1 J2 Q) a w) → c.wp P (three J0 J1 J2 Q) a w) : (Code.scope c).wp P Q a w := by
  have hfirst := first fun a w hJ => Code.wp_mono (three_imp fun _ _ h => h.1) (p2 a w hJ)
  clear first
  have p2s : ∀ a w, J2 a w → (Code.seq .skip c2).wp P (three J0 J1 (fun a' w' => J2 a' w' ∧ μ a' w' < μ a w) Q) a w := fun a w hJ => wp_seq (wp_skip (p2 a w hJ))
  intro b k cs
  have gi : ∀ (l : Nat) (r : Code), findLabel c l = some r → gotoIn l (.inScope c :: k) = some (.code r :: .inScope c :: k) := fun l r h => by simp [gotoIn, h]
  have straight : ∀ (r : Code) (a : Act) (w : World), r.wp P (Exit.noGoto Q) a w → ∃ e a' w', Q e a' w' ∧ Arrives P (lone (b.at a (.code r :: .inScope c :: k)) cs w) b k cs e a' w' := by
    intro r a w h
    obtain ⟨e, a₁, w₁, hq, harr⟩ := h b (.inScope c :: k) cs
    cases e with
    | normal => exact ⟨.normal, a₁, w₁, hq, Steps.trans harr (.one step_inScope)⟩
    | exit id => exact ⟨.exit id, a₁, w₁, hq, fun k' hk => harr k' (by simp [exitTo, hk])⟩
    | goto l => exact hq.elim
    | ret => exact ⟨_, a₁, w₁, hq, harr⟩
    | panic ch => exact ⟨_, a₁, w₁, hq, harr⟩
    | outgrown => exact ⟨_, a₁, w₁, hq, harr⟩
  have key : ∀ n a w, μ a w = n → J2 a w → ∃ e a' w', Q e a' w' ∧ Arrives P (lone (b.at a (.code (.seq .skip c2) :: .inScope c :: k)) cs w) b k cs e a' w' := by
    intro n
    induction n using Nat.strongRecOn with
    | _ n ih =>
      intro a w hn hJ
      obtain ⟨e, a₁, w₁, hq, harr⟩ := p2s a w hJ b (.inScope c :: k) cs
      match e, hq, harr with
      | .normal, hq, harr => exact ⟨.normal, a₁, w₁, hq, Steps.trans harr (.one step_inScope)⟩
      | .exit id, hq, harr => exact ⟨.exit id, a₁, w₁, hq, fun k' hk => harr k' (by simp [exitTo, hk])⟩
      | .goto 0, hq, harr =>
        obtain ⟨e₂, a₂, w₂, hq₂, harr₂⟩ := straight c0 a₁ w₁ (p0 _ _ hq)
        exact ⟨e₂, a₂, w₂, hq₂, .of_steps (harr _ (gi 0 c0 h0)) harr₂⟩
      | .goto 1, hq, harr =>
        obtain ⟨e₂, a₂, w₂, hq₂, harr₂⟩ := straight c1 a₁ w₁ (p1 _ _ hq)
        exact ⟨e₂, a₂, w₂, hq₂, .of_steps (harr _ (gi 1 c1 h1)) harr₂⟩
      | .goto 2, hq, harr =>
        obtain ⟨e₂, a₂, w₂, hq₂, harr₂⟩ := ih _ (by have := hq.2; omega) a₁ w₁ rfl hq.1
        exact ⟨e₂, a₂, w₂, hq₂, .of_steps (harr _ (gi 2 _ h2)) harr₂⟩
      | .goto (_ + 3), hq, _ => exact hq.elim
      | .ret, hq, harr => exact ⟨_, a₁, w₁, hq, harr⟩
      | .panic ch, hq, harr => exact ⟨_, a₁, w₁, hq, harr⟩
      | .outgrown, hq, harr => exact ⟨_, a₁, w₁, hq, harr⟩
  obtain ⟨e, a₁, w₁, hq, harr⟩ := hfirst b (.inScope c :: k) cs
  match e, hq, harr with
  | .normal, hq, harr => exact ⟨.normal, a₁, w₁, hq, .head step_scope (Steps.trans harr (.one step_inScope))⟩
  | .exit id, hq, harr => exact ⟨.exit id, a₁, w₁, hq, fun k' hk => .head step_scope (harr k' (by simp [exitTo, hk]))⟩
  | .goto 0, hq, harr =>
    obtain ⟨e₂, a₂, w₂, hq₂, harr₂⟩ := straight c0 a₁ w₁ (p0 _ _ hq)
    exact ⟨e₂, a₂, w₂, hq₂, .of_steps (.head step_scope (harr _ (gi 0 c0 h0))) harr₂⟩
  | .goto 1, hq, harr =>
    obtain ⟨e₂, a₂, w₂, hq₂, harr₂⟩ := straight c1 a₁ w₁ (p1 _ _ hq)
    exact ⟨e₂, a₂, w₂, hq₂, .of_steps (.head step_scope (harr _ (gi 1 c1 h1))) harr₂⟩
  | .goto 2, hq, harr =>
    obtain ⟨e₂, a₂, w₂, hq₂, harr₂⟩ := key _ a₁ w₁ rfl hq
    exact ⟨e₂, a₂, w₂, hq₂, .of_steps (.head step_scope (harr _ (gi 2 _ h2))) harr₂⟩
  | .goto (_ + 3), hq, _ => exact hq.elim
  | .ret, hq, harr => exact ⟨_, a₁, w₁, hq, .of_steps (.one step_scope) harr⟩
  | .panic ch, hq, harr => exact ⟨_, a₁, w₁, hq, .of_steps (.one step_scope) harr⟩
  | .outgrown, hq, harr => exact ⟨_, a₁, w₁, hq, .of_steps (.one step_scope) harr⟩
end
/-- The call's own slice of pieces: each piece lies in a block of the call's own, none in the slice's own block. -/
def Pcs (w : World) (B : Nat) (v : Value) (acc : List (List UInt8)) : Prop :=
  ∃ vals : List Value, w.ownsRow B 23 1 v acc.length vals ∧ ∀ j (h : j < acc.length), ∃ A c, vals[j]? = some (.slice A acc[j].length c) ∧ acc[j].length ≤ c ∧ c ≤ maxLen ∧
    Byt w (fun g => B ≤ g ∧ g < w.heap.size ∧ v.ownBlock ≠ some g) A acc[j]
section
variable {w w2 w4 : World} {B : Nat} {v v' : Value} {acc : List (List UInt8)}
theorem Pcs.nil (w : World) (B : Nat) : Pcs w B (.slice none 0 0) [] := ⟨[], World.ownsRow_nil w B 23 1, fun _ h => absurd h (by simp)⟩
theorem Pcs.drewN (h : Pcs w B v acc) (n : Nat) : Pcs (w.drewN n) B v acc := h
theorem Pcs.below (h : Pcs w B v acc) (hb : Below w.heap.size w w2) : Pcs w2 B v acc := by
  obtain ⟨vals, ho, hp⟩ := h
  refine ⟨vals, own_below ho hb, fun j hj => ?_⟩
  obtain ⟨A, c, e, h1, h2, h3⟩ := hp j hj
  exact ⟨A, c, e, h1, h2, (h3.below hb fun g hg => hg.2.1).imp fun g hg => ⟨hg.1, Nat.lt_of_lt_of_le hg.2.1 hb.size, hg.2.2⟩⟩
/-- One piece more, which lies in blocks that were made since; then the append. -/
theorem Pcs.push {p : List UInt8} {A : Option Addr} {c : Nat} (h : Pcs w B v acc) (hB : B ≤ w.heap.size) (hb : Below w.heap.size w w2) (hp : Byt w2 (fun g => w.heap.size ≤ g ∧ g < w2.heap.size) A p) (hc : p.length ≤ c) (hm : c ≤ maxLen)
    {vals : List Value} (hvals : w.ownsRow B 23 1 v acc.length vals)
    (hown : w4.ownsRow B 23 1 v' (acc.length + 1) (vals ++ [.slice A p.length c])) (hg : (w2.alloc (.cells #[.slice A p.length c] 23)).grownBy w4 v.ownBlock)
    (hat : v'.ownBlock = v.ownBlock ∨ v'.ownBlock = some (w2.heap.size + 1)) : Pcs w4 B v' (acc ++ [p]) := by
  obtain ⟨vals', ho, hps⟩ := h
  have hlt := ho.lt
  have hs2 := hb.size
  have hs4 : w2.heap.size + 1 ≤ w4.heap.size := by simpa using hg.size
  have hvv : vals' = vals := by
    rcases ho.2 with ⟨rfl, e0⟩ | ⟨g, cap, cur, rfl, _, hh, _, _, _, ht⟩
    · have l1 := ho.1
      have l2 := hvals.1
      have n1 : vals' = [] := List.eq_nil_of_length_eq_zero (by omega)
      have n2 : vals = [] := List.eq_nil_of_length_eq_zero (by omega)
      rw [n1, n2]
    · rcases hvals.2 with ⟨e, _⟩ | ⟨g', cap', cur', e, _, hh', _, _, _, ht'⟩
      · cases e
      · cases e
        rw [hh] at hh'
        injection hh' with hh'
        injection hh' with hcur
        rw [← ht, ← ht', hcur]
  subst hvv
  have hkeep : ∀ g, g < w2.heap.size → v.ownBlock ≠ some g → w4.heap[g]? = w2.heap[g]? := fun g h1 h2 =>
    (hg.block g (by simp; omega) (fun e => h2 e.symm)).trans (Below.heap_alloc w2 _ g h1)
  have hne' : ∀ g, g < w2.heap.size → v.ownBlock ≠ some g → v'.ownBlock ≠ some g := fun g h1 h2 e => by
    rcases hat with h | h
    · rw [h] at e; exact h2 e
    · rw [h] at e; injection e with e; omega
  have hlen : vals'.length = acc.length := by have := ho.1; omega
  refine ⟨vals' ++ [.slice A p.length c], by simpa using hown, fun j hj => ?_⟩
  by_cases e : j < acc.length
  · obtain ⟨A', c', e1, h1, h2, h3⟩ := hps j e
    have eg : (acc ++ [p])[j] = acc[j] := List.getElem_append_left e
    rw [eg]
    refine ⟨A', c', by rw [List.getElem?_append_left (by omega)]; exact e1, h1, h2, ?_⟩
    have h4 : Byt w2 (fun g => B ≤ g ∧ g < w.heap.size ∧ v.ownBlock ≠ some g) A' acc[j] := h3.below hb fun g hg => hg.2.1
    exact (h4.keep fun g hg => hkeep g (by omega) hg.2.2).imp fun g hg => ⟨hg.1, by omega, hne' g (by omega) hg.2.2⟩
  · have ej : j = acc.length := by simp at hj; omega
    subst ej
    have eg : (acc ++ [p])[acc.length] = p := by simp
    rw [eg]
    refine ⟨A, c, by rw [List.getElem?_append_right (by omega), hlen]; simp, hc, hm, ?_⟩
    have hno : ∀ g, w.heap.size ≤ g → v.ownBlock ≠ some g := fun g h1 e => by have := (hlt g e).2; omega
    exact (hp.keep fun g hg => hkeep g hg.2 (hno g hg.1)).imp fun g hg => ⟨by omega, by omega, hne' g hg.2 (hno g hg.1)⟩
/-- What the call hands back. -/
theorem Pcs.lst (h : Pcs w B v acc) : ∃ A c, v = .slice A acc.length c ∧ acc.length ≤ c ∧ c ≤ maxLen ∧ Lst w (fun g => B ≤ g ∧ g < w.heap.size) A acc := by
  obtain ⟨vals, ho, hps⟩ := h
  rcases ho.2 with ⟨rfl, e0⟩ | ⟨g, cap, cur, rfl, hbg, hh, hnc, hcm, hcs, ht⟩
  · refine ⟨none, 0, by rw [e0], by omega, by unfold maxLen; omega, fun j hj => absurd hj (by omega)⟩
  · have hlt : g < w.heap.size := (Array.getElem?_eq_some_iff.1 hh).1
    refine ⟨_, cap, rfl, hnc, hcm, fun j hj => ?_⟩
    obtain ⟨A', c', e1, h1, h2, h3⟩ := hps j hj
    exact ⟨_, A', c', rfl, ⟨hbg, hlt⟩, ho.cells (g := g) rfl j _ e1, h1, h2, h3.imp fun g hg => ⟨hg.1, hg.2.1⟩⟩
end
/-- What Split answers: the document's pieces in new memory, and the error's number. -/
def SplitE (w : World) (b : List UInt8) (e : Ending) (w' : World) : Prop :=
  ∃ A c, e = .returned (.tuple #[.slice A (split b).1.length c, .int .i64 (split b).2]) ∧ (split b).1.length ≤ c ∧ c ≤ maxLen ∧ Lst w' (fun g => w.heap.size ≤ g ∧ g < w'.heap.size) A (split b).1 ∧ Below w.heap.size w w'
theorem splitE_err {w w' : World} {b : List UInt8} {n : Nat} (h : split b = ([], n)) (hb : Below w.heap.size w w') : SplitE w b (.returned (.tuple #[.slice none 0 0, .int .i64 n])) w' := by
  refine ⟨none, 0, by rw [h]; rfl, by rw [h]; simp, by unfold maxLen; omega, by rw [h]; exact Lst.nil, hb⟩
theorem splitE_ok {w w' : World} {b : List UInt8} {acc : List (List UInt8)} {A : Option Addr} {c : Nat} (h : split b = (acc, 0)) (h1 : acc.length ≤ c) (h2 : c ≤ maxLen) (h3 : Lst w' (fun g => w.heap.size ≤ g ∧ g < w'.heap.size) A acc) (hb : Below w.heap.size w w') :
    SplitE w b (.returned (.tuple #[.slice A acc.length c, .int .i64 0])) w' := by
  refine ⟨A, c, by rw [h]; rfl, by rw [h]; exact h1, h2, by rw [h]; exact h3, hb⟩
open Go.RowKit
/-- At the label 'short'. -/
def J0 (w : World) (b : List UInt8) (a : Act) (wr : World) : Prop :=
  ∃ (u0 u1 u2 u3 u4 u5 u6 u7 u8 u9 u10 u11 u12 u13 u14 u15 u16 u17 u18 u19 u20 u21 u22 u23 u24 u25 u26 u27 u28 u29 u30 u31 u32 u33 u34 u35 u36 u37 u38 u39 u40 u41 u42 u43 u44 u45 u46 u47 u48 u49 u50 u51 u52 u53 u54 u55 u56 : Value), a = { tmps := #[u0, u1, u2, u3, u4, u5, u6, u7, u8, u9, u10, u11, u12, u13, u14, u15, u16, u17, u18, u19, u20, u21, u22, u23, u24, u25, u26, u27, u28, u29, u30, u31, u32, u33, u34, u35, u36, u37, u38, u39, u40, u41, u42, u43, u44, u45, u46, u47, u48, u49, u50, u51, u52, u53, u54, u55, u56], defers := [] } ∧ Hid (split b = ([], 20)) ∧ Below w.heap.size w wr
/-- At the label 'behind'. -/
def J1 (w : World) (b : List UInt8) (a : Act) (wr : World) : Prop :=
  ∃ (A : Option Addr) (cur : List UInt8) (n c : Nat) (v : Value) (acc : List (List UInt8)) (u1 u2 u3 u5 u6 u7 u8 u9 u10 u11 u12 u13 u14 u15 u16 u17 u18 u19 u20 u21 u22 u23 u24 u25 u26 u27 u28 u29 u30 u31 u32 u33 u34 u35 u36 u37 u38 u39 u40 u41 u42 u43 u44 u45 u46 u47 u48 u49 u50 u51 u52 u53 u54 u55 u56 : Value), a = { tmps := #[.slice A n c, u1, u2, u3, v, u5, u6, u7, u8, u9, u10, u11, u12, u13, u14, u15, u16, u17, u18, u19, u20, u21, u22, u23, u24, u25, u26, u27, u28, u29, u30, u31, u32, u33, u34, u35, u36, u37, u38, u39, u40, u41, u42, u43, u44, u45, u46, u47, u48, u49, u50, u51, u52, u53, u54, u55, u56], defers := [] } ∧
    Hid (spl 0 cur acc = split b) ∧ Hid (cur.length = n) ∧ n ≤ c ∧ c ≤ 9223372036854775807 ∧ Pcs wr w.heap.size v acc ∧ Below w.heap.size w wr
/-- At the label 'piece'. -/
def J2 (w : World) (b : List UInt8) (ok : Nat → Prop) (a : Act) (wr : World) : Prop :=
  ∃ (A : Option Addr) (cur : List UInt8) (n c left : Nat) (v : Value) (acc : List (List UInt8)) (u1 u2 u3 u6 u7 u8 u9 u10 u11 u12 u13 u14 u15 u16 u17 u18 u19 u20 u21 u22 u23 u24 u25 u26 u27 u28 u29 u30 u31 u32 u33 u34 u35 u36 u37 u38 u39 u40 u41 u42 u43 u44 u45 u46 u47 u48 u49 u50 u51 u52 u53 u54 u55 u56 : Value), a = { tmps := #[.slice A n c, u1, u2, u3, v, .int .i64 left, u6, u7, u8, u9, u10, u11, u12, u13, u14, u15, u16, u17, u18, u19, u20, u21, u22, u23, u24, u25, u26, u27, u28, u29, u30, u31, u32, u33, u34, u35, u36, u37, u38, u39, u40, u41, u42, u43, u44, u45, u46, u47, u48, u49, u50, u51, u52, u53, u54, u55, u56], defers := [] } ∧
    Hid (spl left cur acc = split b) ∧ Hid (cur.length = n) ∧ acc.length + left ≤ 64 ∧ n ≤ c ∧ c ≤ 9223372036854775807 ∧ Byt wr ok A cur ∧ Pcs wr w.heap.size v acc ∧ Below w.heap.size w wr
theorem at_two {w : World} {ok : Nat → Prop} {A : Option Addr} {xs : List UInt8} (h : Byt w ok A xs) (h0 : 0 < xs.length) :
    ∃ ab ao, A = some ⟨ab, ao, none⟩ ∧ ok ab ∧ w.cell? ⟨ab, ao, none⟩ = some (.int .u8 (xs[0].toNat : Int)) ∧ ∀ (h1 : 1 < xs.length), w.cell? ⟨ab, ao + 1, none⟩ = some (.int .u8 (xs[1].toNat : Int)) := by
  obtain ⟨ad, rfl, ho, hc⟩ := h.some_ h0
  obtain ⟨ab, ao, sp⟩ := ad
  have e0 := hc 0 h0
  have hsp : sp = none := by simpa [Addr.add] using World.cell?_spot e0
  subst hsp
  refine ⟨ab, ao, rfl, ho, by simpa [Addr.add_lit] using e0, fun h1 => ?_⟩
  have e1 := hc 1 h1
  rw [Addr.add_lit] at e1
  exact e1
/-- In new memory lies just xs, n bytes. -/
def NewN (w : World) (xs : List UInt8) (n : Nat) (e : Ending) (w' : World) : Prop :=
  ∃ A c, e = .returned (.slice A n c) ∧ n ≤ c ∧ c ≤ maxLen ∧ Byt w' (fun b => w.heap.size ≤ b ∧ b < w'.heap.size) A xs ∧ Below w.heap.size w w'
theorem clone_n {w : World} {ok : Nat → Prop} {A : Option Addr} {xs : List UInt8} {n c : Nat} (hn : xs.length = n) (hx : Byt w ok A xs) (hok : ∀ b, ok b → b < w.heap.size) (hl : n ≤ 1099511627776) :
    Calls Tryz.prog 98 #[.slice A n c] w (NewN w xs n) := by
  subst hn
  exact clone_any hx hok hl
theorem i64_or_num (x y : UInt8) : bits .or .i64 ((x.toNat : Int) * 256) (y.toNat : Int) = ((x.toNat * 256 + y.toNat : Nat) : Int) := by
  have hx := x.toNat_lt
  have hy := y.toNat_lt
  have h := Nat.two_pow_add_eq_or_of_lt (i := 8) (b := y.toNat) (by omega) x.toNat
  have e1 : (BitVec.ofInt 64 ((x.toNat * 256 : Nat) : Int)).toNat = x.toNat * 256 := by
    rw [BitVec.ofInt_natCast, BitVec.toNat_ofNat]; exact Nat.mod_eq_of_lt (by omega)
  have e2 : (BitVec.ofInt 64 ((y.toNat : Nat) : Int)).toNat = y.toNat := by
    rw [BitVec.ofInt_natCast, BitVec.toNat_ofNat]; exact Nat.mod_eq_of_lt (by omega)
  rw [show (x.toNat : Int) * 256 = ((x.toNat * 256 : Nat) : Int) by omega]
  show IntKind.i64.wrap ((BitVec.ofInt 64 _ ||| BitVec.ofInt 64 _).toNat : Int) = _
  rw [BitVec.toNat_or, e1, e2, Nat.mul_comm, ← h, IntWalk.i64_in _ (by omega)]
theorem two_of (xs : List UInt8) (h0 : 0 < xs.length) (h1 : 1 < xs.length) : xs = xs[0] :: xs[1] :: xs.drop 2 := by
  match xs, h0, h1 with
  | x :: y :: r, _, _ => rfl
theorem first_two {w : World} {ok : Nat → Prop} {A : Option Addr} {xs : List UInt8} {n : Nat} (h : Byt w ok A xs) (hn : xs.length = n) (h2 : 2 ≤ n) :
    ∃ (ab ao : Nat) (x y : UInt8), A = some ⟨ab, ao, none⟩ ∧ w.cell? ⟨ab, ao, none⟩ = some (.int .u8 (x.toNat : Int)) ∧ w.cell? ⟨ab, ao + 1, none⟩ = some (.int .u8 (y.toNat : Int)) ∧ Hid (xs = x :: y :: xs.drop 2) := by
  obtain ⟨ab, ao, e, _, h0, h1⟩ := at_two h (by omega)
  exact ⟨ab, ao, _, _, e, h0, h1 (by omega), two_of xs (by omega) (by omega)⟩
theorem alloc_size (w : World) (o : Obj) : (w.alloc o).heap.size = w.heap.size + 1 := by simp
theorem le_alloc {B : Nat} {w : World} {o : Obj} (h : B ≤ w.heap.size) : B ≤ (w.alloc o).heap.size := by simp; omega
theorem one_slice (A : Option Addr) (n c : Nat) : ∀ u ∈ [Value.slice A n c], u.oneCell' = true := by
  intro u hu
  obtain rfl : u = .slice A n c := by simpa using hu
  rfl
theorem below_drewN {B : Nat} {a w : World} (h : Below B a w) (n : Nat) : Below B a (w.drewN n) := ⟨h.os, h.tape, h.output, h.size, h.block⟩
set_option maxRecDepth 1000000 in
set_option maxHeartbeats 2000000 in
theorem split_any {w : World} {ok : Nat → Prop} {A : Option Addr} {b : List UInt8} {c : Nat} (hx : Byt w ok A b) (hok : ∀ g, ok g → g < w.heap.size) (hc : b.length ≤ c) (hm : c ≤ maxLen) :
    Calls Tryz.prog 91 #[.slice A b.length c] w (SplitE w b) := by
  unfold maxLen at hm
  go_enter Tryz.func91, Tryz.ntmps91
  go_wp2
  refine wp_scope_three (J0 w b) (J1 w b) (J2 w b ok) (fun a _ => (intOf (a.tmps.getD 5 undef)).toNat) rfl rfl rfl ?p0 ?p1 ?p2 ?first
  case p0 =>
    clear hx
    rintro a wr ⟨u0, u1, u2, u3, u4, u5, u6, u7, u8, u9, u10, u11, u12, u13, u14, u15, u16, u17, u18, u19, u20, u21, u22, u23, u24, u25, u26, u27, u28, u29, u30, u31, u32, u33, u34, u35, u36, u37, u38, u39, u40, u41, u42, u43, u44, u45, u46, u47, u48, u49, u50, u51, u52, u53, u54, u55, u56, rfl, hs, hb⟩
    go_wp2
    try rw [Exit.noGoto_ret]
    go_ret2
    exact splitE_err hs.out hb
  case p1 =>
    clear hx
    rintro a wr ⟨A, cur, n, c, v, acc, u1, u2, u3, u5, u6, u7, u8, u9, u10, u11, u12, u13, u14, u15, u16, u17, u18, u19, u20, u21, u22, u23, u24, u25, u26, u27, u28, u29, u30, u31, u32, u33, u34, u35, u36, u37, u38, u39, u40, u41, u42, u43, u44, u45, u46, u47, u48, u49, u50, u51, u52, u53, u54, u55, u56, rfl, hs, hn, hc, hm, hp, hb⟩
    by_cases hz : 0 < n
    · go_wp2
      try rw [Exit.noGoto_ret]
      go_ret2
      refine splitE_err ?_ hb
      rw [← hs.out, spl_zero, if_neg (by intro e; have := hn.out; rw [e] at this; simp at this; omega)]
    · have hnil : Hid (cur = []) := List.eq_nil_of_length_eq_zero (by have := hn.out; omega)
      obtain ⟨A', c', rfl, h1, h2, h3⟩ := hp.lst
      go_wp2
      try rw [Exit.noGoto_ret]
      go_ret2
      refine splitE_ok ?_ h1 h2 h3 hb
      rw [← hs.out, spl_zero, if_pos hnil.out]
  case p2 =>
    clear hx
    rintro a wr ⟨A, cur, n, c, left, v, acc, u1, u2, u3, u6, u7, u8, u9, u10, u11, u12, u13, u14, u15, u16, u17, u18, u19, u20, u21, u22, u23, u24, u25, u26, u27, u28, u29, u30, u31, u32, u33, u34, u35, u36, u37, u38, u39, u40, u41, u42, u43, u44, u45, u46, u47, u48, u49, u50, u51, u52, u53, u54, u55, u56, rfl, hs, hn, hl, hc, hm, hx, hp, hb⟩
    by_cases h0 : left = 0
    · subst h0
      go_wp2
      go_step3
      exact ⟨A, cur, n, c, v, acc, _, _, _, _, _, _, _, _, _, _, _, _, _, _, _, _, _, _, _, _, _, _, _, _, _, _, _, _, _, _, _, _, _, _, _, _, _, _, _, _, _, _, _, _, _, _, _, _, _, _, _, _, _, _, _, rfl, hs, hn, hc, hm, hp, hb⟩
    obtain ⟨l, rfl⟩ : ∃ l, left = l + 1 := ⟨left - 1, by omega⟩
    clear h0
    have d0 : (((l : Nat) : Int) + 1 == 0) = false := by simp; omega
    by_cases h2 : n < 2
    · have d1 : decide ((n : Int) < 2) = true := by simp; omega
      have hend : Hid (split b = ([], 20)) := by
        show split b = _
        rw [← hs.out, spl_short _ _ _ (by rw [hn.out]; exact h2)]
      go_wp2
      go_step3
      exact ⟨_, _, _, _, _, _, _, _, _, _, _, _, _, _, _, _, _, _, _, _, _, _, _, _, _, _, _, _, _, _, _, _, _, _, _, _, _, _, _, _, _, _, _, _, _, _, _, _, _, _, _, _, _, _, _, _, _, rfl, hend, hb⟩
    have d1 : decide ((n : Int) < 2) = false := by simp; omega
    obtain ⟨ab, ao, x, y, rfl, hc0, hc1, htwo⟩ := first_two hx hn.out (by omega)
    have hx2 := hx.drop (k := 2) (c := c) (by have := hn.out; omega) (by have := hn.out; omega)
    have hsl : spl (l + 1) cur acc = spl (l + 1) (x :: y :: cur.drop 2) acc := congrArg (fun z => spl (l + 1) z acc) htwo.out
    rw [spl_cons] at hsl
    have hor := i64_or_num x y
    have hb0 := x.toNat_lt
    have hb1 := y.toNat_lt
    obtain ⟨s, hsz⟩ : ∃ s, x.toNat * 256 + y.toNat = s := ⟨_, rfl⟩
    rw [hsz] at hor hsl
    have hs64 : s ≤ 65535 := by omega
    have HDL : Hid ((cur.drop 2).length = n - 2) := by
      show (cur.drop 2).length = n - 2
      rw [List.length_drop, hn.out]
    have HS : Hid _ := hs.out.symm.trans hsl
    obtain ⟨A2, hA2⟩ : ∃ A2 : Option Addr, (if c = 2 then some (⟨ab, ao, none⟩ : Addr) else some ⟨ab, ao + 2, none⟩) = A2 := ⟨_, rfl⟩
    have hx2' : Byt wr ok A2 (cur.drop 2) := by
      rw [← hA2]
      simpa [Addr.add_lit] using hx2
    clear hx2 htwo hsl hsz hs
    go_wp2_with fail
    go_quiet (fail)
    clear hA2 hor hc0 hc1 hx
    have hbq := below_drewN hb nq
    by_cases hbig : 4096 < s
    · have hend : Hid (split b = ([], 5)) := by
        show split b = _
        rw [HS.out, if_pos hbig]
      go_wp2
      simp only [three]
      go_ret2
      exact splitE_err hend.out hbq
    by_cases hshort : n - 2 < s
    · have hend : Hid (split b = ([], 20)) := by
        show split b = _
        rw [HS.out, if_neg hbig, HDL.out, if_pos hshort]
      have d3 : decide (((n - 2 : Nat) : Int) < (s : Int)) = true := by simp; omega
      go_wp2
      go_step3
      exact ⟨_, _, _, _, _, _, _, _, _, _, _, _, _, _, _, _, _, _, _, _, _, _, _, _, _, _, _, _, _, _, _, _, _, _, _, _, _, _, _, _, _, _, _, _, _, _, _, _, _, _, _, _, _, _, _, _, _, rfl, hend, hbq⟩
    have d3 : decide (((n - 2 : Nat) : Int) < (s : Int)) = false := by simp; omega
    have HN : Hid (split b = spl l ((cur.drop 2).drop s) (acc ++ [(cur.drop 2).take s])) := by
      show split b = _
      rw [HS.out, if_neg hbig, HDL.out, if_neg hshort]
    obtain ⟨vals, hvals, hpv⟩ := id hp
    have HT : Hid (((cur.drop 2).take s).length = s) := by
      show ((cur.drop 2).take s).length = s
      rw [List.length_take, HDL.out]; omega
    have HD : Hid (((cur.drop 2).drop s).length = n - 2 - s) := by
      show ((cur.drop 2).drop s).length = n - 2 - s
      rw [List.length_drop, HDL.out]
    have hxt := hx2'.take s
    have hxd := hx2'.drop (k := s) (c := c - 2) (by have := HDL.out; omega) (by have := HDL.out; omega)
    obtain ⟨A3, hA3⟩ : ∃ A3 : Option Addr, (if c - 2 = s then A2 else A2.map (·.add s)) = A3 := ⟨_, rfl⟩
    rw [hA3] at hxd
    have k1 : (s : Int) ≤ ((c - 2 : Nat) : Int) := by omega
    have k2 : (s : Int) ≤ ((n - 2 : Nat) : Int) := by omega
    have k3 : (0 : Int) ≤ (s : Int) := by omega
    have k4 : ((n - 2 : Nat) : Int) ≤ ((c - 2 : Nat) : Int) := by omega
    obtain ⟨i0, hi, hz0, hz1, hz2⟩ := info_parts Tryz.info23
    have hokr : ∀ g, ok g → g < (wr.drewN (nq + 1)).heap.size := fun g h => Nat.lt_of_lt_of_le (hok g h) hb.size
    have hxt1 : Byt (wr.drewN (nq + 1)) ok A2 ((cur.drop 2).take s) := hxt
    have hvals1 : (wr.drewN (nq + 1)).ownsRow w.heap.size 23 1 v acc.length vals := hvals
    have hb1 : w.heap.size ≤ (wr.drewN (nq + 1)).heap.size := hb.size
    have f0 : s ≤ 1099511627776 := by omega
    have f1 : acc.length + 1 ≤ maxLen := by unfold maxLen; omega
    have f2 : (acc.length + 1) * 24 ≤ 140737488355328 := by omega
    clear HS hpv
    go_wp2_with fail
    go_region_held3 (fun _ => True) (trivial)
      (first
        | (go_at_call 98
           (with_reducible refine (clone_n HT.out hxt1 hokr f0).mono ?_)
           rintro e w2 ⟨A', c', rfl, g1, g2, g3, g4⟩)
        | (refine step_append_lies _ rfl _ _ _ rfl w.heap.size 23 i0 _ 1 24 Tryz.underlying46 hi hz0 hz1 hz2 rfl Nat.one_pos v acc.length vals rfl ((own_below hvals1 g4).alloc _) ⟨w2.heap.size, 0, none⟩ 1 1 [.slice A' s c'] rfl rfl (cell_one_new _ _ _) (one_slice _ _ _) Nat.one_pos f1 f2 (le_alloc (Nat.le_trans hb1 g4.size)) (w2.heap.size + 1) (alloc_size _ _) ?_
           intro gg cap w4 hown4 hgrow4 hat4 hlt4)
        | fail)
    go_wp2
    go_step3
    have hb14 : Below w.heap.size wr w4 :=
      ((below_drewN (Below.refl w.heap.size wr) (nq + 1)).trans ((g4.mono hb1).alloc (Nat.le_trans hb1 g4.size) _)).grown hgrow4 (le_alloc (Nat.le_trans hb1 g4.size)) fun g hg => (hvals.lt g hg).1
    have hb4 : Below w.heap.size w w4 := hb.trans hb14
    have hat5 : (Value.slice (some ⟨gg, 0, none⟩) (acc.length + 1) cap).ownBlock = v.ownBlock ∨ (Value.slice (some ⟨gg, 0, none⟩) (acc.length + 1) cap).ownBlock = some (w2.heap.size + 1) := by
      rcases hat4 with h | h
      · exact .inl h.symm
      · exact .inr (by rw [h]; rfl)
    have hpush : Pcs w4 w.heap.size (.slice (some ⟨gg, 0, none⟩) (acc.length + 1) cap) (acc ++ [(cur.drop 2).take s]) := by
      have hh := HT.out
      refine (hp.drewN (nq + 1)).push (A := A') (c := c') hb1 g4 g3 (by rw [hh]; exact g1) g2 hvals1 ?_ ?_ hat5
      · rw [hh]; exact hown4
      · rw [hh]; exact hgrow4
    exact ⟨⟨A3, (cur.drop 2).drop s, n - 2 - s, c - 2 - s, l, _, acc ++ [(cur.drop 2).take s], _, _, _, _, _, _, _, _, _, _, _, _, _, _, _, _, _, _, _, _, _, _, _, _, _, _, _, _, _, _, _, _, _, _, _, _, _, _, _, _, _, _, _, _, _, _, _, _, _, _, _, _, _, _, rfl, HN.out.symm, HD, by simp; omega, by omega, by omega, hxd.below hb14 hok, hpush, hb4⟩, by simp [intOf]⟩
  case first =>
    intro hpass
    by_cases h0 : b.length = 0
    · have hnil : Hid (split b = ([], 20)) := by
        show split b = _
        rw [List.eq_nil_of_length_eq_zero h0]; rfl
      have d1 : ((b.length : Int) == 0) = true := by rw [h0]; rfl
      clear h0
      go_wp2
      go_step3
      exact ⟨_, _, _, _, _, _, _, _, _, _, _, _, _, _, _, _, _, _, _, _, _, _, _, _, _, _, _, _, _, _, _, _, _, _, _, _, _, _, _, _, _, _, _, _, _, _, _, _, _, _, _, _, _, _, _, _, _, rfl, hnil, Below.refl _ _⟩
    have d1 : ((b.length : Int) == 0) = false := by rw [beq_eq_false_iff_ne]; omega
    obtain ⟨ab, ao, rfl, _, hc0, -⟩ := at_two hx (by omega)
    have hx1 := hx.drop (k := 1) (c := c) (by omega) hc
    obtain ⟨x, r, rfl⟩ : ∃ x r, b = x :: r := by
      rcases b with _ | ⟨x, r⟩
      · simp at h0
      · exact ⟨x, r, rfl⟩
    obtain ⟨A2, hA2⟩ : ∃ A2 : Option Addr, (if c = 1 then some (⟨ab, ao, none⟩ : Addr) else some ⟨ab, ao + 1, none⟩) = A2 := ⟨_, rfl⟩
    have hx1' : Byt w ok A2 r := by
      rw [← hA2]
      simpa [Addr.add_lit] using hx1
    have hc0' : w.cell? ⟨ab, ao, none⟩ = some (.int .u8 (x.toNat : Int)) := hc0
    have hspl : Hid (split (x :: r) = if 64 < x.toNat then ([], 4) else spl x.toNat r []) := rfl
    have hlen : (x :: r).length = r.length + 1 := rfl
    rw [hlen] at hc h0 d1 ⊢
    have hb0 := x.toNat_lt
    clear hc0 hx1 hlen hx
    go_wp2_with fail
    go_quiet (fail)
    clear hA2 hc0'
    have hbq := below_drewN (Below.refl w.heap.size w) nq
    by_cases hbig : 64 < x.toNat
    · have hend : Hid (split (x :: r) = ([], 4)) := by
        show split (x :: r) = _
        rw [hspl.out, if_pos hbig]
      go_wp2
      simp only [three]
      go_ret2
      exact splitE_err hend.out hbq
    have hJ : Hid (split (x :: r) = spl x.toNat r []) := by
      show split (x :: r) = _
      rw [hspl.out, if_neg hbig]
    go_wp2
    go_step3
    first
      | (rename_i hk; exact hk _ _ (hpass _ _ ⟨A2, r, r.length, c - 1, x.toNat, .slice none 0 0, [], _, _, _, _, _, _, _, _, _, _, _, _, _, _, _, _, _, _, _, _, _, _, _, _, _, _, _, _, _, _, _, _, _, _, _, _, _, _, _, _, _, _, _, _, _, _, _, _, _, _, _, _, _, _, rfl, hJ.out.symm, rfl, by simp; omega, by omega, by omega, hx1', (Pcs.nil w w.heap.size).drewN nq, hbq⟩))
      | (rename_i hk _; exact hk _ _ (hpass _ _ ⟨A2, r, r.length, c - 1, x.toNat, .slice none 0 0, [], _, _, _, _, _, _, _, _, _, _, _, _, _, _, _, _, _, _, _, _, _, _, _, _, _, _, _, _, _, _, _, _, _, _, _, _, _, _, _, _, _, _, _, _, _, _, _, _, _, _, _, _, _, _, rfl, hJ.out.symm, rfl, by simp; omega, by omega, by omega, hx1', (Pcs.nil w w.heap.size).drewN nq, hbq⟩))
      | (rename_i hk _ _; exact hk _ _ (hpass _ _ ⟨A2, r, r.length, c - 1, x.toNat, .slice none 0 0, [], _, _, _, _, _, _, _, _, _, _, _, _, _, _, _, _, _, _, _, _, _, _, _, _, _, _, _, _, _, _, _, _, _, _, _, _, _, _, _, _, _, _, _, _, _, _, _, _, _, _, _, _, _, _, rfl, hJ.out.symm, rfl, by simp; omega, by omega, by omega, hx1', (Pcs.nil w w.heap.size).drewN nq, hbq⟩))
open Go.RowKit
/-- A bool is told; there were draws alone. -/
def Told (w : World) (b : Bool) (e : Ending) (w' : World) : Prop := e = .returned (.bool b) ∧ ∃ n, w' = w.drewN n
theorem told_mk {w w' : World} {a b : Bool} (h : a = b) (hw : ∃ n, w' = w.drewN n) : Told w b (.returned (.bool a)) w' := ⟨by rw [h], hw⟩
theorem bytes_quiet {w : World} {n : Nat} {ok ok' : Nat → Prop} {A B : Option Addr} {xs ys : List UInt8} {c d : Nat} (ha : Byt w ok A xs) (hb : Byt w ok' B ys) :
    Calls Tryz.prog 9 #[.slice A xs.length c, .slice B ys.length d] (w.drewN n) fun e w'' => e = .returned (.bool (decide (xs = ys))) ∧ ∃ m, w'' = w.drewN m :=
  (bytes_any (w := w.drewN n) (ok := ok) (ok' := ok') ha hb).mono fun _ _ h => ⟨h.1, n, h.2.symm⟩
set_option maxRecDepth 100000 in
set_option maxHeartbeats 1000000 in
theorem lists_any {w : World} {ok ok' : Nat → Prop} {A B : Option Addr} {ps qs : List (List UInt8)} {c d : Nat} (ha : Lst w ok A ps) (hb : Lst w ok' B qs) (hm : ps.length ≤ maxLen) :
    Calls Tryz.prog 34 #[.slice A ps.length c, .slice B qs.length d] w (Told w (decide (ps = qs))) := by
  unfold maxLen at hm
  by_cases hl : ps.length = qs.length
  · have HL := Lib.hid hl
    have d1 : ((ps.length : Int) != (qs.length : Int)) = false := by simp [hl]
    clear hl
    go_enter Tryz.func34, Tryz.ntmps34
    go_wp2
    go_loopw [5] (fun i wr => ∃ k : Nat, k ≤ ps.length ∧ i = .int .i64 k ∧ Hid (∀ j (h : j < ps.length) (h' : j < qs.length), j < k → ps[j] = qs[j]) ∧ Hid (∃ n, wr = w.drewN n)) (fun i _ => ps.length - (intOf i).toNat)
    case atStart => exact ⟨0, Nat.zero_le _, rfl, fun j _ _ h => absurd h (by omega), 0, rfl⟩
    case round =>
      obtain ⟨k, hk, rfl, heq, hw⟩ := hrel
      have ha' : Lst wr ok A ps := by
        obtain ⟨n, rfl⟩ := hw.out
        exact ha
      have hb' : Lst wr ok' B qs := by
        obtain ⟨n, rfl⟩ := hw.out
        exact hb
      clear ha hb
      by_cases hlt : k < ps.length
      · have hlt2 : k < qs.length := by have := HL.out; omega
        obtain ⟨ad1, A1, c1, rfl, _, hc1, _, _, hx1⟩ := ha' k hlt
        obtain ⟨ad2, A2, c2, rfl, _, hc2, _, _, hx2⟩ := hb' k hlt2
        obtain ⟨t, ht⟩ : ∃ t : Bool, decide (ps[k] = qs[k]) = t := ⟨_, rfl⟩
        have hcall : ∀ n, Calls Tryz.prog 9 #[.slice A1 ps[k].length c1, .slice A2 qs[k].length c2] (wr.drewN n) fun e w'' => e = .returned (.bool t) ∧ ∃ m, w'' = wr.drewN m := by
          intro n
          rw [← ht]
          exact bytes_quiet hx1 hx2
        have HT := Lib.hid ht
        have HC := Lib.hid hcall
        have i1 : (k : Int) < (ps.length : Int) := by omega
        have i2 : (k : Int) < (qs.length : Int) := by omega
        have i3 : (0 : Int) ≤ (k : Int) := by omega
        clear ht hcall hx1 hx2
        go_wp2_with fail
        go_quiet ((go_at_call 9; exact HC.out _))
        have HW : Hid (∃ n, wr.drewN nq = w.drewN n) := by
          obtain ⟨n, rfl⟩ := hw.out
          exact ⟨n + nq, World.drewN_drewN _ _ _⟩
        cases t with
        | true =>
          have hup : Hid (∀ j (h : j < ps.length) (h' : j < qs.length), j < k + 1 → ps[j] = qs[j]) := by
            intro j hj hj' hjk
            by_cases e : j = k
            · subst e; exact of_decide_eq_true HT.out
            · exact heq.out j hj hj' (by omega)
          go_wp2
          go_roundw
          case rel => exact ⟨k + 1, by omega, by go_num, hup, HW⟩
          case measure => simp [intOf]; omega
        | false =>
          have hne : Hid (ps ≠ qs) := by
            rintro rfl
            exact absurd rfl (of_decide_eq_false HT.out)
          go_wp2
          go_ret
          exact told_mk (by rw [eq_comm, decide_eq_false_iff_not]; exact hne.out) HW.out
      · have hend : Hid (ps = qs) := List.ext_getElem HL.out fun j h h' => heq.out j h h' (by omega)
        go_wp2
        go_ret
        exact told_mk (by rw [eq_comm, decide_eq_true_iff]; exact hend.out) hw.out
  · have HL := Lib.hid hl
    have d1 : ((ps.length : Int) != (qs.length : Int)) = true := by simp; omega
    clear hl
    go_enter Tryz.func34, Tryz.ntmps34
    go_wp2
    go_ret
    exact told_mk (by rw [eq_comm, decide_eq_false_iff_not]; intro e; exact HL.out (by rw [e])) ⟨0, rfl⟩
end Go.Proofs.YtkbffponemihoaaGreatDoor.T
