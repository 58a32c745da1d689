/- Join, and its reference, write the joined text of a list; Great only tells how much a list holds. Conditions: none. -/
import Derived.Test.YtonpcenjipigpaaGreatZ4
import Derived.Test.YtonpcenjipigpaaGreatZ2
import Derived.Test.YtonpcenjipigpaaGreatZ1
import Derived.Scope
import Derived.Deep.AppendLies
namespace Go.Proofs.YtonpcenjipigpaaGreat
open Go.RowKit
/-- Some bool is answered, and nothing has turned. -/
def SomeBool (w : World) (e : Ending) (w' : World) : Prop := ∃ b, e = .returned (.bool b) ∧ w = w'
theorem upto_step {ps : List (List UInt8)} {k : Nat} (h : ∀ j (h : j < ps.length), j < k → ps[j].length ≤ 4096) {hk : k < ps.length} (h1 : ps[k].length ≤ 4096) : ∀ j (h : j < ps.length), j < k + 1 → ps[j].length ≤ 4096 := by
  intro j hj hjk
  by_cases e : j = k
  · subst e; exact h1
  · exact h j hj (by omega)
theorem own_below {w w' : World} {base e size n : Nat} {v : Value} {xs : List Value} (h : w.ownsRow base e size v n xs) (hb : Below w.heap.size w w') : w'.ownsRow base e size v n xs :=
  h.kept (row := none) ⟨hb.os, hb.tape, hb.output, hb.size, fun i hi _ => hb.block i hi⟩ (by cases hv : v.ownBlock <;> simp)
/-- What is joined when k pieces are. -/
def jk (ps : List (List UInt8)) (k : Nat) : List UInt8 := UInt8.ofNat ps.length :: (ps.take k).flatMap enc
theorem jk_all (ps : List (List UInt8)) (k : Nat) (h : ps.length ≤ k) : jk ps k = jn ps := by rw [jk, List.take_of_length_le h]; rfl
theorem jk_step (ps : List (List UInt8)) (k : Nat) (h : k < ps.length) : jk ps (k + 1) = (jk ps k ++ [UInt8.ofNat (ps[k].length / 256), UInt8.ofNat ps[k].length]) ++ ps[k] := by
  rw [jk, List.take_succ_eq_append_getElem h, List.flatMap_append]
  simp [jk, enc]
theorem jk_length (ps : List (List UInt8)) (k : Nat) (h : oFit ps) (hk : k ≤ ps.length) : (jk ps k).length ≤ 1 + 4098 * k := by
  have h1 := flat_length (ps.take k) fun p hp => h.2 p (List.mem_of_mem_take hp)
  rw [List.length_take, Nat.min_eq_left hk] at h1
  simp only [jk, List.length_cons]
  omega
theorem byt_one (w : World) {a : Int} {x : UInt8} (ha : a = x.toNat) : Byt (w.alloc (.cells #[.int .u8 a] 5)) (fun _ => True) (some ⟨w.heap.size, 0, none⟩) [x] := by
  intro j hj
  obtain rfl : j = 0 := by simp at hj; omega
  subst ha
  exact ⟨_, rfl, trivial, by simp [go_sem]⟩
theorem byt_two (w : World) {a b : Int} {x y : UInt8} (ha : a = x.toNat) (hb : b = y.toNat) : Byt (w.alloc (.cells #[.int .u8 a, .int .u8 b] 5)) (fun _ => True) (some ⟨w.heap.size, 0, none⟩) [x, y] := by
  intro j hj
  subst ha
  subst hb
  have : j = 0 ∨ j = 1 := by simp at hj; omega
  rcases this with rfl | rfl
  · exact ⟨_, rfl, trivial, by simp [go_sem]⟩
  · exact ⟨_, rfl, trivial, by simp [go_sem]⟩
set_option maxRecDepth 100000 in
set_option maxHeartbeats 400000 in
theorem join_no {w : World} {ok : Nat → Prop} {A : Option Addr} {ps : List (List UInt8)} {c : Nat} (hx : Lst w ok A ps) (hm : ps.length ≤ maxLen) (hf : ¬ oFit ps) :
    Calls Tryz.prog 86 #[.slice A ps.length c] w fun e w' => e = noB ∧ w = w' := by
  unfold maxLen at hm
  by_cases h64 : 64 < ps.length
  · go_enter Tryz.func86, Tryz.ntmps86
    go_wp2
    go_ret2
    exact ⟨rfl, rfl⟩
  have HF := Lib.hid hf
  clear hf
  go_enter Tryz.func86, Tryz.ntmps86
  go_wp2
  go_loop [4, 15] (fun n i => ∃ (k : Nat) (z : Int), k ≤ ps.length ∧ i = .int .i64 k ∧ 1 ≤ z ∧ z ≤ 1 + 4098 * k ∧ n = .int .i64 z ∧ Hid (∀ j (h : j < ps.length), j < k → ps[j].length ≤ 4096)) (fun _ i => ps.length - (intOf i).toNat)
  case atStart => exact ⟨0, 1, Nat.zero_le _, rfl, by omega, by omega, rfl, fun j _ h => absurd h (by omega)⟩
  case round =>
    obtain ⟨k, z, hk, rfl, hz0, hz1, rfl, hall⟩ := hrel
    by_cases hlt : k < ps.length
    · obtain ⟨ad, A', c', rfl, _, hc, hl1, hl2, _⟩ := hx k hlt
      unfold maxLen at hl2
      by_cases hbig : 4096 < ps[k].length
      · go_wp2
        go_ret2
        exact ⟨rfl, rfl⟩
      · go_wp2
        go_round
        case rel => exact ⟨k + 1, _, by omega, by go_num, by omega, by omega, rfl, upto_step hall.out (by omega)⟩
        case measure => simp [intOf]; omega
    · exfalso
      refine HF.out ⟨by omega, fun p hp => ?_⟩
      obtain ⟨j, hj, rfl⟩ := List.getElem_of_mem hp
      exact hall.out j hj (by omega)
set_option maxRecDepth 100000 in
set_option maxHeartbeats 1000000 in
theorem join_yes {w : World} {ok : Nat → Prop} {A : Option Addr} {ps : List (List UInt8)} {c : Nat} (hx : Lst w ok A ps) (hok : ∀ b, ok b → b < w.heap.size) (hf : oFit ps) :
    Calls Tryz.prog 86 #[.slice A ps.length c] w (YesB w (jn ps)) := by
  have h64 := hf.1
  have HF := Lib.hid hf
  clear hf
  obtain ⟨i0, hi, hz0, hz1, hz2⟩ := info_parts Tryz.info5
  go_enter Tryz.func86, Tryz.ntmps86
  go_wp2
  go_loop [4, 15] (fun n i => ∃ (k : Nat) (z : Nat), k ≤ ps.length ∧ i = .int .i64 k ∧ 1 ≤ z ∧ z ≤ 1 + 4098 * k ∧ n = .int .i64 z) (fun _ i => ps.length - (intOf i).toNat)
  case atStart => exact ⟨0, 1, Nat.zero_le _, rfl, by omega, by omega, rfl⟩
  case round =>
    obtain ⟨k, z, hk, rfl, hs0, hs1, rfl⟩ := hrel
    by_cases hlt : k < ps.length
    · obtain ⟨ad, A', c', rfl, _, hc, hl1, hl2, _⟩ := hx k hlt
      have hp := HF.out.2 ps[k] (List.getElem_mem hlt)
      unfold maxLen at hl2
      go_wp2
      go_round
      case rel => exact ⟨k + 1, z + (2 + ps[k].length), by omega, by go_num, by omega, by omega, by go_num⟩
      case measure => simp [intOf]; omega
    · go_wp2_with (with_reducible refine wpList_make_own _ rfl _ _ 40 rfl w.heap.size 5 i0 (.int .u8 0) 1 Tryz.underlying40 hi hz0 hz1 .i64 .i64 _ z rfl rfl rfl ?c1 ?c2 ?c3 ?_)
      case c1 => omega
      case c2 => unfold maxLen; omega
      intro w1 hown hgrow
      have hb1 : Below w.heap.size w w1 := (Below.refl _ _).grown hgrow (Nat.le_refl _) (fun _ h => by cases h)
      have hown1 := hown.alloc (.cells #[.int .u8 (ps.length : Int)] 5)
      go_wp2_with (at_builtin; refine wpList_append_byt _ rfl _ _ 40 rfl w.heap.size i0 (.int .u8 0) Tryz.underlying40 hi hz0 hz1 hz2 rfl _ 0 [] rfl hown1 (fun _ => True) _ _ [UInt8.ofNat ps.length] rfl (byt_one w1 ?d1) ?d2 ?d3 ?_)
      case d1 => rw [u8_ofNat]; omega
      case d2 => simp
      case d3 => simp; have := hgrow.size; omega
      intro v' w2 hown2 hgrow2 hat2
      have hb2 : Below w.heap.size w w2 := by
        refine (hb1.alloc hb1.size _).grown hgrow2 (by simp; have := hgrow.size; omega) ?_
        intro g hg
        simp [Value.ownBlock] at hg
        omega
      have hstart : w2.ownsRow w.heap.size 5 1 v' (jk ps 0).length (u8s (jk ps 0)) := hown2
      clear hown2 hown1 hown hgrow hgrow2 hat2 hb1
      go_wp2
      go_loopw [7, 37] (fun v i wr => ∃ k : Nat, k ≤ ps.length ∧ i = .int .i64 k ∧ wr.ownsRow w.heap.size 5 1 v (jk ps k).length (u8s (jk ps k)) ∧ Below w.heap.size w wr) (fun _ i _ => ps.length - (intOf i).toNat)
      case atStart => exact ⟨0, Nat.zero_le _, rfl, hstart, hb2⟩
      case round =>
        clear hstart hb2
        obtain ⟨k, hk, rfl, hown, hb⟩ := hrel
        have hjl := jk_length ps k HF.out hk
        by_cases hlt : k < ps.length
        · obtain ⟨ad, A', c', rfl, hoka, hc0, hl1, hl2, hbyt⟩ := hx k hlt
          have hp := HF.out.2 ps[k] (List.getElem_mem hlt)
          have hc : wr.cell? (ad.add k) = some (.slice A' ps[k].length c') := (hb.cell (by rw [block_of_plus]; exact hok _ hoka)).trans hc0
          unfold maxLen at hl2
          clear hc0
          go_wp2_with (at_builtin; (refine wpList_append_byt _ rfl _ _ 40 rfl w.heap.size i0 (.int .u8 0) Tryz.underlying40 hi hz0 hz1 hz2 rfl _ _ _ rfl (hown.alloc _) (fun _ => True) _ _ [UInt8.ofNat (ps[k].length / 256), UInt8.ofNat ps[k].length] rfl (byt_two wr ?d1 ?d2) ?d3 ?d4 ?_))
          case d1 => rw [u8_ofNat]; omega
          case d2 => rw [u8_ofNat]; omega
          case d3 => simp; omega
          case d4 => simp; have := hb.size; omega
          intro v1 w3 hown3 hgrow3 hat3
          have hb3 : Below w.heap.size w w3 := (hb.alloc hb.size _).grown hgrow3 (by simp; have := hb.size; omega) fun g hg => (hown.lt g hg).1
          have hby3 : Byt w3 ok A' ps[k] := hbyt.below hb3 hok
          go_wp2_with (at_builtin; refine wpList_append_byt _ rfl _ _ 40 rfl w.heap.size i0 (.int .u8 0) Tryz.underlying40 hi hz0 hz1 hz2 rfl _ _ _ rfl hown3 ok A' _ ps[k] rfl hby3 ?d5 ?d6 ?_)
          case d5 => omega
          case d6 => exact hb3.size
          intro v2 w4 hown4 hgrow4 hat4
          have hb4 : Below w.heap.size w w4 := hb3.grown hgrow4 hb3.size fun g hg => (hown3.lt g hg).1
          have hend : w4.ownsRow w.heap.size 5 1 v2 (jk ps (k + 1)).length (u8s (jk ps (k + 1))) := by
            rw [jk_step ps k hlt]
            simpa [Nat.add_assoc, Nat.add_comm 2] using hown4
          clear hown hown3 hgrow3 hat3 hby3 hown4 hgrow4 hat4 hb hb3
          go_wp2
          go_roundw
          case rel => exact ⟨k + 1, by omega, by go_num, hend, hb4⟩
          case measure => simp [intOf]; omega
        · rw [jk_all ps k (by omega)] at hown
          obtain ⟨A', c', rfl, -, h2, h3, h4⟩ := own_form hown
          go_wp2
          go_ret2
          exact yesB_mk rfl h2 h3 (h4.imp fun b hb => hb.2) hb
/-- The joined text in new memory, if the list may be joined; else nothing. -/
def MayJ (w : World) (ps : List (List UInt8)) (e : Ending) (w' : World) : Prop := (oFit ps ∧ YesB w (jn ps) e w') ∨ (¬ oFit ps ∧ e = noB ∧ Below w.heap.size w w')
end Go.Proofs.YtonpcenjipigpaaGreat
/- A body with three labels, of which one is jumped back to; and a slice of the call's own whose elements are slices of bytes. Conditions: none. -/
namespace Go.Proofs.YtonpcenjipigpaaGreat
open Go.RowKit
/-- What holds at a jump to the labels 0, 1, 2; no other jump; else as Q. -/
def three (J0 J1 J2 : Act → World → Prop) (Q : Exit → Act → World → Prop) : Exit → Act → World → Prop
  | .goto 0, a, w => J0 a w
  | .goto 1, a, w => J1 a w
  | .goto 2, a, w => J2 a w
  | .goto _, _, _ => False
  | .normal, a, w => Q .normal a w
  | .exit id, a, w => Q (.exit id) a w
  | .ret, a, w => Q .ret a w
  | .panic ch, a, w => Q (.panic ch) a w
  | .outgrown, a, w => Q .outgrown a w
section
variable {P : Program} {a : Act} {w : World} {Q : Exit → Act → World → Prop} {J0 J1 J2 J2' : Act → World → Prop}
theorem three_imp (h : ∀ a w, J2 a w → J2' a w) : ∀ (e : Exit) (a : Act) (w : World), three J0 J1 J2 Q e a w → three J0 J1 J2' Q e a w := by
  intro e a w hq
  match e, hq with
  | .goto 0, hq => exact hq
  | .goto 1, hq => exact hq
  | .goto 2, hq => exact h _ _ hq
  | .goto (_ + 3), hq => exact hq.elim
  | .normal, hq => exact hq
  | .exit id, hq => exact hq
  | .ret, hq => exact hq
  | .panic ch, hq => exact hq
  | .outgrown, hq => exact hq
theorem wp_scope_three {c c0 c1 c2 : Code} (J0 J1 J2 : Act → World → Prop) (μ : Act → World → Nat)
    (h0 : findLabel c 0 = some c0) (h1 : findLabel c 1 = some c1) (h2 : findLabel c 2 = some (.seq .skip c2))
    (p0 : ∀ a w, J0 a w → c0.wp P (Exit.noGoto Q) a w) (p1 : ∀ a w, J1 a w → c1.wp P (Exit.noGoto Q) a w)
    (p2 : ∀ a w, J2 a w → c2.wp P (three J0 J1 (fun a' w' => J2 a' w' ∧ μ a' w' < μ a w) Q) a w)
    (first : (∀ a w, J2 a w → c2.wp P (three J0 J1 J2 Q) a w) → c.wp P (three J0 J1 J2 Q) a w) : (Code.scope c).wp P Q a w := by
  have hfirst := first fun a w hJ => Code.wp_mono (three_imp fun _ _ h => h.1) (p2 a w hJ)
  clear first
  have p2s : ∀ a w, J2 a w → (Code.seq .skip c2).wp P (three J0 J1 (fun a' w' => J2 a' w' ∧ μ a' w' < μ a w) Q) a w := fun a w hJ => wp_seq (wp_skip (p2 a w hJ))
  intro b k cs
  have gi : ∀ (l : Nat) (r : Code), findLabel c l = some r → gotoIn l (.inScope c :: k) = some (.code r :: .inScope c :: k) := fun l r h => by simp [gotoIn, h]
  have straight : ∀ (r : Code) (a : Act) (w : World), r.wp P (Exit.noGoto Q) a w → ∃ e a' w', Q e a' w' ∧ Arrives P (lone (b.at a (.code r :: .inScope c :: k)) cs w) b k cs e a' w' := by
    intro r a w h
    obtain ⟨e, a₁, w₁, hq, harr⟩ := h b (.inScope c :: k) cs
    cases e with
    | normal => exact ⟨.normal, a₁, w₁, hq, Steps.trans harr (.one step_inScope)⟩
    | exit id => exact ⟨.exit id, a₁, w₁, hq, fun k' hk => harr k' (by simp [exitTo, hk])⟩
    | goto l => exact hq.elim
    | ret => exact ⟨_, a₁, w₁, hq, harr⟩
    | panic ch => exact ⟨_, a₁, w₁, hq, harr⟩
    | outgrown => exact ⟨_, a₁, w₁, hq, harr⟩
  have key : ∀ n a w, μ a w = n → J2 a w → ∃ e a' w', Q e a' w' ∧ Arrives P (lone (b.at a (.code (.seq .skip c2) :: .inScope c :: k)) cs w) b k cs e a' w' := by
    intro n
    induction n using Nat.strongRecOn with
    | _ n ih =>
      intro a w hn hJ
      obtain ⟨e, a₁, w₁, hq, harr⟩ := p2s a w hJ b (.inScope c :: k) cs
      match e, hq, harr with
      | .normal, hq, harr => exact ⟨.normal, a₁, w₁, hq, Steps.trans harr (.one step_inScope)⟩
      | .exit id, hq, harr => exact ⟨.exit id, a₁, w₁, hq, fun k' hk => harr k' (by simp [exitTo, hk])⟩
      | .goto 0, hq, harr =>
        obtain ⟨e₂, a₂, w₂, hq₂, harr₂⟩ := straight c0 a₁ w₁ (p0 _ _ hq)
        exact ⟨e₂, a₂, w₂, hq₂, .of_steps (harr _ (gi 0 c0 h0)) harr₂⟩
      | .goto 1, hq, harr =>
        obtain ⟨e₂, a₂, w₂, hq₂, harr₂⟩ := straight c1 a₁ w₁ (p1 _ _ hq)
        exact ⟨e₂, a₂, w₂, hq₂, .of_steps (harr _ (gi 1 c1 h1)) harr₂⟩
      | .goto 2, hq, harr =>
        obtain ⟨e₂, a₂, w₂, hq₂, harr₂⟩ := ih _ (by have := hq.2; omega) a₁ w₁ rfl hq.1
        exact ⟨e₂, a₂, w₂, hq₂, .of_steps (harr _ (gi 2 _ h2)) harr₂⟩
      | .goto (_ + 3), hq, _ => exact hq.elim
      | .ret, hq, harr => exact ⟨_, a₁, w₁, hq, harr⟩
      | .panic ch, hq, harr => exact ⟨_, a₁, w₁, hq, harr⟩
      | .outgrown, hq, harr => exact ⟨_, a₁, w₁, hq, harr⟩
  obtain ⟨e, a₁, w₁, hq, harr⟩ := hfirst b (.inScope c :: k) cs
  match e, hq, harr with
  | .normal, hq, harr => exact ⟨.normal, a₁, w₁, hq, .head step_scope (Steps.trans harr (.one step_inScope))⟩
  | .exit id, hq, harr => exact ⟨.exit id, a₁, w₁, hq, fun k' hk => .head step_scope (harr k' (by simp [exitTo, hk]))⟩
  | .goto 0, hq, harr =>
    obtain ⟨e₂, a₂, w₂, hq₂, harr₂⟩ := straight c0 a₁ w₁ (p0 _ _ hq)
    exact ⟨e₂, a₂, w₂, hq₂, .of_steps (.head step_scope (harr _ (gi 0 c0 h0))) harr₂⟩
  | .goto 1, hq, harr =>
    obtain ⟨e₂, a₂, w₂, hq₂, harr₂⟩ := straight c1 a₁ w₁ (p1 _ _ hq)
    exact ⟨e₂, a₂, w₂, hq₂, .of_steps (.head step_scope (harr _ (gi 1 c1 h1))) harr₂⟩
  | .goto 2, hq, harr =>
    obtain ⟨e₂, a₂, w₂, hq₂, harr₂⟩ := key _ a₁ w₁ rfl hq
    exact ⟨e₂, a₂, w₂, hq₂, .of_steps (.head step_scope (harr _ (gi 2 _ h2))) harr₂⟩
  | .goto (_ + 3), hq, _ => exact hq.elim
  | .ret, hq, harr => exact ⟨_, a₁, w₁, hq, .of_steps (.one step_scope) harr⟩
  | .panic ch, hq, harr => exact ⟨_, a₁, w₁, hq, .of_steps (.one step_scope) harr⟩
  | .outgrown, hq, harr => exact ⟨_, a₁, w₁, hq, .of_steps (.one step_scope) harr⟩
end
/-- The call's own slice of pieces: each piece lies in a block of the call's own, none in the slice's own block. -/
def Pcs (w : World) (B : Nat) (v : Value) (acc : List (List UInt8)) : Prop :=
  ∃ vals : List Value, w.ownsRow B 40 1 v acc.length vals ∧ ∀ j (h : j < acc.length), ∃ A c, vals[j]? = some (.slice A acc[j].length c) ∧ acc[j].length ≤ c ∧ c ≤ maxLen ∧
    Byt w (fun g => B ≤ g ∧ g < w.heap.size ∧ v.ownBlock ≠ some g) A acc[j]
section
variable {w w2 w4 : World} {B : Nat} {v v' : Value} {acc : List (List UInt8)}
theorem Pcs.nil (w : World) (B : Nat) : Pcs w B (.slice none 0 0) [] := ⟨[], World.ownsRow_nil w B 40 1, fun _ h => absurd h (by simp)⟩
theorem Pcs.drewN (h : Pcs w B v acc) (n : Nat) : Pcs (w.drewN n) B v acc := h
theorem Pcs.below (h : Pcs w B v acc) (hb : Below w.heap.size w w2) : Pcs w2 B v acc := by
  obtain ⟨vals, ho, hp⟩ := h
  refine ⟨vals, own_below ho hb, fun j hj => ?_⟩
  obtain ⟨A, c, e, h1, h2, h3⟩ := hp j hj
  exact ⟨A, c, e, h1, h2, (h3.below hb fun g hg => hg.2.1).imp fun g hg => ⟨hg.1, Nat.lt_of_lt_of_le hg.2.1 hb.size, hg.2.2⟩⟩
/-- One piece more, which lies in blocks that were made since; then the append. -/
theorem Pcs.push {p : List UInt8} {A : Option Addr} {c : Nat} (h : Pcs w B v acc) (hB : B ≤ w.heap.size) (hb : Below w.heap.size w w2) (hp : Byt w2 (fun g => w.heap.size ≤ g ∧ g < w2.heap.size) A p) (hc : p.length ≤ c) (hm : c ≤ maxLen)
    {vals : List Value} (hvals : w.ownsRow B 40 1 v acc.length vals)
    (hown : w4.ownsRow B 40 1 v' (acc.length + 1) (vals ++ [.slice A p.length c])) (hg : (w2.alloc (.cells #[.slice A p.length c] 40)).grownBy w4 v.ownBlock)
    (hat : v'.ownBlock = v.ownBlock ∨ v'.ownBlock = some (w2.heap.size + 1)) : Pcs w4 B v' (acc ++ [p]) := by
  obtain ⟨vals', ho, hps⟩ := h
  have hlt := ho.lt
  have hs2 := hb.size
  have hs4 : w2.heap.size + 1 ≤ w4.heap.size := by simpa using hg.size
  have hvv : vals' = vals := by
    rcases ho.2 with ⟨rfl, e0⟩ | ⟨g, cap, cur, rfl, _, hh, _, _, _, ht⟩
    · have l1 := ho.1
      have l2 := hvals.1
      have n1 : vals' = [] := List.eq_nil_of_length_eq_zero (by omega)
      have n2 : vals = [] := List.eq_nil_of_length_eq_zero (by omega)
      rw [n1, n2]
    · rcases hvals.2 with ⟨e, _⟩ | ⟨g', cap', cur', e, _, hh', _, _, _, ht'⟩
      · cases e
      · cases e
        rw [hh] at hh'
        injection hh' with hh'
        injection hh' with hcur
        rw [← ht, ← ht', hcur]
  subst hvv
  have hkeep : ∀ g, g < w2.heap.size → v.ownBlock ≠ some g → w4.heap[g]? = w2.heap[g]? := fun g h1 h2 =>
    (hg.block g (by simp; omega) (fun e => h2 e.symm)).trans (Below.heap_alloc w2 _ g h1)
  have hne' : ∀ g, g < w2.heap.size → v.ownBlock ≠ some g → v'.ownBlock ≠ some g := fun g h1 h2 e => by
    rcases hat with h | h
    · rw [h] at e; exact h2 e
    · rw [h] at e; injection e with e; omega
  have hlen : vals'.length = acc.length := by have := ho.1; omega
  refine ⟨vals' ++ [.slice A p.length c], by simpa using hown, fun j hj => ?_⟩
  by_cases e : j < acc.length
  · obtain ⟨A', c', e1, h1, h2, h3⟩ := hps j e
    have eg : (acc ++ [p])[j] = acc[j] := List.getElem_append_left e
    rw [eg]
    refine ⟨A', c', by rw [List.getElem?_append_left (by omega)]; exact e1, h1, h2, ?_⟩
    have h4 : Byt w2 (fun g => B ≤ g ∧ g < w.heap.size ∧ v.ownBlock ≠ some g) A' acc[j] := h3.below hb fun g hg => hg.2.1
    exact (h4.keep fun g hg => hkeep g (by omega) hg.2.2).imp fun g hg => ⟨hg.1, by omega, hne' g (by omega) hg.2.2⟩
  · have ej : j = acc.length := by simp at hj; omega
    subst ej
    have eg : (acc ++ [p])[acc.length] = p := by simp
    rw [eg]
    refine ⟨A, c, by rw [List.getElem?_append_right (by omega), hlen]; simp, hc, hm, ?_⟩
    have hno : ∀ g, w.heap.size ≤ g → v.ownBlock ≠ some g := fun g h1 e => by have := (hlt g e).2; omega
    exact (hp.keep fun g hg => hkeep g hg.2 (hno g hg.1)).imp fun g hg => ⟨by omega, by omega, hne' g hg.2 (hno g hg.1)⟩
/-- What the call hands back. -/
theorem Pcs.lst (h : Pcs w B v acc) : ∃ A c, v = .slice A acc.length c ∧ acc.length ≤ c ∧ c ≤ maxLen ∧ Lst w (fun g => B ≤ g ∧ g < w.heap.size) A acc := by
  obtain ⟨vals, ho, hps⟩ := h
  rcases ho.2 with ⟨rfl, e0⟩ | ⟨g, cap, cur, rfl, hbg, hh, hnc, hcm, hcs, ht⟩
  · refine ⟨none, 0, by rw [e0], by omega, by unfold maxLen; omega, fun j hj => absurd hj (by omega)⟩
  · have hlt : g < w.heap.size := (Array.getElem?_eq_some_iff.1 hh).1
    refine ⟨_, cap, rfl, hnc, hcm, fun j hj => ?_⟩
    obtain ⟨A', c', e1, h1, h2, h3⟩ := hps j hj
    exact ⟨_, A', c', rfl, ⟨hbg, hlt⟩, ho.cells (g := g) rfl j _ e1, h1, h2, h3.imp fun g hg => ⟨hg.1, hg.2.1⟩⟩
end
/-- What Split answers: the document's pieces in new memory, and the error's number. -/
def SplitE (w : World) (b : List UInt8) (e : Ending) (w' : World) : Prop :=
  ∃ A c, e = .returned (.tuple #[.slice A (split b).1.length c, .int .i64 (split b).2]) ∧ (split b).1.length ≤ c ∧ c ≤ maxLen ∧ Lst w' (fun g => w.heap.size ≤ g ∧ g < w'.heap.size) A (split b).1 ∧ Below w.heap.size w w'
theorem splitE_err {w w' : World} {b : List UInt8} {n : Nat} (h : split b = ([], n)) (hb : Below w.heap.size w w') : SplitE w b (.returned (.tuple #[.slice none 0 0, .int .i64 n])) w' := by
  refine ⟨none, 0, by rw [h]; rfl, by rw [h]; simp, by unfold maxLen; omega, by rw [h]; exact Lst.nil, hb⟩
theorem splitE_ok {w w' : World} {b : List UInt8} {acc : List (List UInt8)} {A : Option Addr} {c : Nat} (h : split b = (acc, 0)) (h1 : acc.length ≤ c) (h2 : c ≤ maxLen) (h3 : Lst w' (fun g => w.heap.size ≤ g ∧ g < w'.heap.size) A acc) (hb : Below w.heap.size w w') :
    SplitE w b (.returned (.tuple #[.slice A acc.length c, .int .i64 0])) w' := by
  refine ⟨A, c, by rw [h]; rfl, by rw [h]; exact h1, h2, by rw [h]; exact h3, hb⟩
end Go.Proofs.YtonpcenjipigpaaGreat
