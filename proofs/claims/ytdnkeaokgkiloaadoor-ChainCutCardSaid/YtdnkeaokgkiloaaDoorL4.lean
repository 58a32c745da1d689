/- ChainCut's walk: a row that goes on at once, or in two steps, is the same. Conditions: the tables of the hash lie where the program lays them. -/
import Derived.Test.YtdnkeaokgkiloaaDoorT2
namespace Go.Proofs.YtdnkeaokgkiloaaDoor
open Go.RowKit T
/-- A suite has all that the other one has. -/
def Pre : Sg → Sg → Prop
  | none, none => True
  | some S, some T => S <+: T
  | _, _ => False
theorem Pre.refl : ∀ σ, Pre σ σ
  | none => trivial
  | some T => List.prefix_refl T
theorem Pre.trans : ∀ {σ τ υ : Sg}, Pre σ τ → Pre τ υ → Pre σ υ
  | none, none, none, _, _ => trivial
  | some _, some _, some _, h1, h2 => List.IsPrefix.trans h1 h2
theorem mix_pre {σ : Sg} {x : UInt8} {ps : List (List UInt8)} (hm : MixOk ps) (hr : Room 60000 σ) : Pre σ (mixS σ x ps) := by
  cases σ with
  | none => exact trivial
  | some T =>
    show T <+: (mk T 7 ([x] :: ps)).2
    have hg := mix_good (x := x) hm
    have hrr : T.length ≤ 60000 := hr
    by_cases hin : (7, [x] :: ps) ∈ T
    · have e7 : mk T 7 ([x] :: ps) = _ := mk_old hg hin
      rw [e7]
      exact List.prefix_refl T
    · have e7 : mk T 7 ([x] :: ps) = _ := mk_new hg hin (by omega)
      rw [e7]
      exact List.prefix_append _ _
theorem mix_again {σ τ : Sg} {x : UInt8} {ps : List (List UInt8)} (hm : MixOk ps) (hr : Room 60000 σ) (h : Pre (mixS σ x ps) τ) : mixV τ x ps = mixV σ x ps ∧ mixS τ x ps = τ := by
  cases σ with
  | none =>
    cases τ with
    | none => exact ⟨rfl, rfl⟩
    | some T => exact h.elim
  | some T =>
    cases τ with
    | none => exact h.elim
    | some T' =>
      have hg := mix_good (x := x) hm
      have hrr : T.length ≤ 60000 := hr
      have h' : (mk T 7 ([x] :: ps)).2 <+: T' := h
      have hmem : (7, [x] :: ps) ∈ T' ∧ T'.idxOf (7, [x] :: ps) + 1 = (mk T 7 ([x] :: ps)).1 := by
        by_cases hin : (7, [x] :: ps) ∈ T
        · have e7 : mk T 7 ([x] :: ps) = _ := mk_old hg hin
          rw [e7] at h' ⊢
          obtain ⟨R, hR⟩ := h'
          dsimp only at hR ⊢
          refine ⟨by rw [← hR]; exact List.mem_append_left _ hin, ?_⟩
          rw [← hR, List.idxOf_append, if_pos hin]
        · have e7 : mk T 7 ([x] :: ps) = _ := mk_new hg hin (by omega)
          rw [e7] at h' ⊢
          obtain ⟨R, hR⟩ := h'
          dsimp only at hR ⊢
          refine ⟨by rw [← hR]; exact List.mem_append_left _ (by simp), ?_⟩
          rw [← hR, List.append_assoc, List.idxOf_append, if_neg hin]
          simp
      have e8 : mk T' 7 ([x] :: ps) = _ := mk_old hg hmem.1
      refine ⟨?_, ?_⟩
      · show nm (mk T' 7 ([x] :: ps)).1 = nm (mk T 7 ([x] :: ps)).1
        rw [e8]
        dsimp only
        rw [hmem.2]
      · show some (mk T' 7 ([x] :: ps)).2 = some T'
        rw [e8]
theorem next_pre {σ : Sg} {k : List UInt8} (hk : k.length = 32) (hr : Room 59000 σ) : Pre σ (nextS σ k) :=
  (mix_pre (mixOk_one hk) (hr.mono (by omega))).trans (mix_pre (mixOk_one hk) ((hr.mix (mixOk_one hk) (by omega)).mono (by omega)))
theorem next_again {σ τ : Sg} {k : List UInt8} (hk : k.length = 32) (hr : Room 59000 σ) (h : Pre (nextS σ k) τ) : nextL τ k = nextL σ k ∧ nextK τ k = nextK σ k ∧ nextS τ k = τ := by
  have hr1 : Room 60000 (mixS σ 77 [k]) := (hr.mix (mixOk_one hk) (by omega)).mono (by omega)
  have h1 : Pre (mixS σ 77 [k]) τ := (mix_pre (x := 78) (mixOk_one hk) hr1).trans h
  obtain ⟨a1, a2⟩ := mix_again (mixOk_one hk) (hr.mono (by omega)) h1
  obtain ⟨b1, b2⟩ := mix_again (mixOk_one hk) hr1 h
  refine ⟨a1, ?_, ?_⟩
  · unfold nextK
    rw [a2]
    exact b1
  · unfold nextS
    rw [a2]
    exact b2
theorem go_pre : ∀ (m : Nat) {c : Nat} {σ : Sg} {k : List UInt8}, k.length = 32 → Room c σ → c + 2 * m ≤ 59000 → Pre σ (goS m σ k)
  | 0, _, σ, _, _, _, _ => Pre.refl σ
  | m + 1, c, σ, k, hk, hr, hc => (next_pre hk (hr.mono (by omega))).trans (go_pre m (c := c + 2) (nextK_length σ k) (hr.next hk (by omega)) (by omega))
theorem go_again {r : List UInt8} : ∀ (m : Nat) {c : Nat} {σ τ : Sg} {k : List UInt8} (n : Nat), k.length = 32 → Room c σ → c + 2 * m ≤ 59000 → Pre (goS m σ k) τ → goS m τ k = τ ∧ goK m τ k = goK m σ k ∧ goM r m τ k n = goM r m σ k n
  | 0, _, _, _, _, _, _, _, _, _ => ⟨rfl, rfl, rfl⟩
  | m + 1, c, σ, τ, k, n, hk, hr, hc, h => by
    have hr2 : Room (c + 2) (nextS σ k) := hr.next hk (by omega)
    have hp : Pre (nextS σ k) τ := (go_pre m (nextK_length σ k) hr2 (by omega)).trans h
    obtain ⟨a1, a2, a3⟩ := next_again hk (hr.mono (by omega)) hp
    obtain ⟨b1, b2, b3⟩ := go_again (r := r) m (n + 1) (nextK_length σ k) hr2 (by omega) h
    simp only [goS, goK, goM]
    rw [a1, a2, a3]
    exact ⟨b1, b2, by rw [b3]⟩
theorem go_split {r : List UInt8} : ∀ (a b : Nat) (σ : Sg) (k : List UInt8) (n : Nat), goS (a + b) σ k = goS b (goS a σ k) (goK a σ k) ∧ goK (a + b) σ k = goK b (goS a σ k) (goK a σ k) ∧ goM r (a + b) σ k n = goM r a σ k n ++ goM r b (goS a σ k) (goK a σ k) (n + a)
  | 0, b, σ, k, n => by simp [goS, goK, goM]
  | a + 1, b, σ, k, n => by
    obtain ⟨h1, h2, h3⟩ := go_split (r := r) a b (nextS σ k) (nextK σ k) (n + 1)
    rw [show a + 1 + b = (a + b) + 1 by omega]
    simp only [goS, goK, goM]
    exact ⟨h1, h2, by rw [h3, List.cons_append, Nat.add_assoc, Nat.add_comm 1 a]⟩
/-- A suite of the code; the blocks K are not its own. -/
structure Uno (w0 w : World) (K : List Nat) (p : Option Nat) (σ : Sg) (ok : Nat → Prop) : Prop where
  s : Sui w ok p σ
  k : ∀ b ∈ K, b < w.heap.size ∧ ¬ ok b ∧ w0.heap.size ≤ b
  new : ∀ b, ok b → w0.heap.size ≤ b
  g : w0.grownBy w none
  two : 2 ≤ w0.heap.size
section
variable {w0 w w' : World} {K K' : List Nat} {p : Option Nat} {σ τ : Sg} {ok okX okL : Nat → Prop} {b : Nat} {A : Option Addr} {L : List Kep}
theorem Uno.alloc (h : Uno w0 w K p σ ok) (hg : w.grownBy w' none) : Uno w0 w' K p σ ok := ⟨h.s.grown hg, fun b hb => ⟨Nat.lt_of_lt_of_le (h.k b hb).1 hg.size, (h.k b hb).2⟩, h.new, h.g.trans hg, h.two⟩
theorem Uno.box (h : Uno w0 w K p σ ok) (hg : w.grownBy w' none) (hb : b = w.heap.size) (hl : b < w'.heap.size) : Uno w0 w' (b :: K) p σ ok := by
  refine ⟨h.s.grown hg, fun x hx => ?_, h.new, h.g.trans hg, h.two⟩
  rcases List.mem_cons.1 hx with rfl | hx
  · exact ⟨hl, fun e => by have := h.s.lt _ e; omega, by rw [hb]; exact h.g.size⟩
  · exact ⟨Nat.lt_of_lt_of_le (h.k x hx).1 hg.size, (h.k x hx).2⟩
theorem Uno.store (h : Uno w0 w K p σ ok) (hg : w.grownBy w' (some b)) (hb : b ∈ K) : Uno w0 w' K p σ ok :=
  ⟨h.s.own hg (h.k b hb).2.1 (Nat.le_trans h.two (h.k b hb).2.2), fun x hx => ⟨Nat.lt_of_lt_of_le (h.k x hx).1 hg.size, (h.k x hx).2⟩, h.new, World.grownBy.andThen h.g hg (by rintro _ ⟨⟩; exact .inl (h.k b hb).2.2), h.two⟩
theorem Uno.skip (h : Uno w0 w K p σ ok) (hR : Reg w w' ok okX p τ) : Uno w0 w' K p τ okX :=
  ⟨hR.sui, fun b hb => ⟨Nat.lt_of_lt_of_le (h.k b hb).1 hR.md.size, hR.not_old (h.k b hb).1 (h.k b hb).2.1, (h.k b hb).2.2⟩, hR.new h.g.size h.new, md_grown hR.md h.g h.new, h.two⟩
theorem Uno.blk {t : TypeId} {vs : List Value} (h : Uno w0 w K p σ ok) (hR : Reg w w' ok okX p τ) (hb : C.Blk w b t vs) (hk : b ∈ K) : C.Blk w' b t vs := hR.blk hb (h.k b hk).2.1
/-- A list that is the law's to keep. -/
def Own (w : World) (ok okL : Nat → Prop) (A : Option Addr) (L : List Kep) : Prop := Kps w okL A L ∧ ∀ b, okL b → b < w.heap.size ∧ ¬ ok b
theorem Own.alloc (h : Own w ok okL A L) (hg : w.grownBy w' none) : Own w' ok okL A L := ⟨h.1.grown hg, fun b hb => ⟨Nat.lt_of_lt_of_le (h.2 b hb).1 hg.size, (h.2 b hb).2⟩⟩
theorem Own.store (h : Own w ok okL A L) (hg : w.grownBy w' (some b)) (hn : ¬ okL b) : Own w' ok okL A L :=
  ⟨h.1.keep fun x hx hlt => hg.block x hlt (fun e => hn (by rw [← Option.some.inj e]; exact hx)), fun x hx => ⟨Nat.lt_of_lt_of_le (h.2 x hx).1 hg.size, (h.2 x hx).2⟩⟩
theorem Own.skip (h : Own w ok okL A L) (hR : Reg w w' ok okX p τ) : Own w' okX okL A L :=
  ⟨h.1.keep fun x hx hlt => hR.md.block x hlt (h.2 x hx).2, fun x hx => ⟨Nat.lt_of_lt_of_le (h.2 x hx).1 hR.md.size, hR.not_old (h.2 x hx).1 (h.2 x hx).2⟩⟩
end
/-- Skip, where nothing is in the way. -/
theorem skip_go {w : World} {ok okL : Nat → Prop} {p : Option Nat} {σ : Sg} {k : List UInt8} {n m l c : Nat} {A : Option Addr} {L : List Kep} (h : Sui w ok p σ) (hr : Room 100 σ) (hk : k.length = 32) (hn : n + m < 65536) (hL : Own w ok okL A L) (hK : KAll L) (hl : L.length = l) (hlm : l + m ≤ 16) (hlt : ∀ y ∈ L, y.2.1 < n) :
    Calls Tryd.prog 21 #[tab p, .agg (rv k n).toArray, .agg (u8s z32).toArray, .int .u16 ((n + m : Nat) : Int), .slice A l c] w fun e w' => ∃ okX okL2 A2 c2, e = .returned (.tuple #[.agg (rv (goK m σ k) (n + m)).toArray, .slice A2 (l + m) c2, .int .i64 0]) ∧ Reg w w' ok okX p (goS m σ k) ∧ Own w' okX okL2 A2 (L ++ goM z32 m σ k n) := by
  refine (skip_any (c := c) h (hr.mono (by omega)) hk (by omega) hn z32_length hL.1 hK hl (by omega) hL.2).mono fun e w' he => ?_
  obtain ⟨okX, okL2, A2, c2, he, hR, hK2, hA, _, _⟩ := he
  rw [skip_clean (r := z32) (σ := σ) (k := k) hlt (by rw [hl]; exact hlm)] at he hR hK2
  dsimp only at he hR hK2
  rw [List.length_append, goM_length, hl] at he
  exact ⟨okX, okL2, A2, c2, he, hR, hK2, fun b hb => (hA b hb).2⟩
theorem wrap16 {x : Int} (h0 : 0 ≤ x) (h : x < 65536) : IntKind.u16.wrap x = x := by
  simp [IntKind.wrap, IntKind.bits, IntKind.signed]
  omega
theorem skip_let {w : World} {ok okL : Nat → Prop} {p : Option Nat} {σ τ : Sg} {k k2 : List UInt8} {n m t l l2 c : Nat} {A : Option Addr} {L L2 : List Kep} {pv : Value} (htab : tab p = .agg [pv].toArray) (h : Sui w ok p σ) (hr : Room 100 σ) (hk : k.length = 32) (ht : n + m = t) (htb : t < 65536) (hL : Own w ok okL A L) (hK : KAll L) (hl : L.length = l) (hl2 : l + m = l2) (hlm : l2 ≤ 16) (hlt : ∀ y ∈ L, y.2.1 < n) (hk2 : k2 = goK m σ k) (hτ : τ = goS m σ k) (hL2 : L2 = L ++ goM z32 m σ k n) :
    Calls Tryd.prog 21 #[.agg [pv].toArray, .agg (rv k n).toArray, .agg (u8s z32).toArray, .int .u16 (t : Int), .slice A l c] w fun e w' => ∃ okX okL2 A2 c2, e = .returned (.tuple #[.agg (rv k2 t).toArray, .slice A2 l2 c2, .int .i64 0]) ∧ Reg w w' ok okX p τ ∧ Own w' okX okL2 A2 L2 := by
  subst ht hl2 hk2 hτ hL2
  rw [← htab]
  exact skip_go h hr hk htb hL hK hl hlm hlt
set_option maxRecDepth 100000 in
set_option maxHeartbeats 16000000 in
theorem cut_walk {w : World} (hT : S.Tab w) (f : Bool) {k : List UInt8} {n m1 m2 : Nat} (hk : k.length = 32) (hn : n < 65536) (h1 : m1 < 256) (h2 : m2 < 256) :
    Calls Tryd.prog 7 #[.bool f, .agg (u8s k).toArray, .int .u16 (n : Int), .int .u8 (m1 : Int), .int .u8 (m2 : Int)] w fun e w' => e = .returned (.bool true) ∧ w.grownBy w' none := by
  obtain ⟨z, hz⟩ : ∃ z, z = u8s k := ⟨_, rfl⟩
  have HT := Lib.hid hT
  have HK := Lib.hid hk
  have HZ := Lib.hid hz
  rw [← hz]
  have hmod1 : (m1 : Int).tmod 8 = ((m1 % 8 : Nat) : Int) := by rw [Int.tmod_eq_emod_of_nonneg (by omega)]; omega
  have hmod1b : (m1 : Int) % 8 = ((m1 % 8 : Nat) : Int) := by omega
  have hmod2 : (m2 : Int).tmod 8 = ((m2 % 8 : Nat) : Int) := by rw [Int.tmod_eq_emod_of_nonneg (by omega)]; omega
  have hmod2b : (m2 : Int) % 8 = ((m2 % 8 : Nat) : Int) := by omega
  obtain ⟨a, ha⟩ : ∃ a, m1 % 8 = a := ⟨_, rfl⟩
  obtain ⟨b, hb⟩ : ∃ b, m2 % 8 = b := ⟨_, rfl⟩
  rw [ha] at hmod1 hmod1b
  rw [hb] at hmod2 hmod2b
  have ha8 : a < 8 := by omega
  have hb8 : b < 8 := by omega
  clear hT hk hz ha hb
  go_enter Tryd.func7, Tryd.ntmps7
  go_wp2_with (first | (refine wpList_boxG rfl _ rfl (vs := z) rfl ?_) | fail)
  intro g6 w1 e6 k6 q6
  have G1 := Lib.hid q6.out
  have B6a : Hid (C.Blk w1 g6 22 (u8s k)) := by have hh := k6.out; rw [HZ.out] at hh; exact hh
  have E6 : Hid (w.heap.size ≤ g6) := by have := e6.out; show w.heap.size ≤ g6; omega
  have T1 := Lib.hid (HT.out.grown G1.out (by simp) (by simp))
  have MA := Lib.hid (alive_any T1.out)
  clear e6 k6 q6
  go_wp2_with (first | (go_at_call 9; refine MA.out.mono ?_; rintro _ w2 ⟨rfl, hg2⟩; have G2 := Lib.hid hg2; clear hg2; have MS := Lib.hid (suite_any w2 (T1.out.grown G2.out (by simp) (by simp)) f)) | (go_at_call 11; refine MS.out.mono ?_; rintro _ w3 ⟨p, ok, rfl, hs3, hn3, hg3⟩; have S3 := Lib.hid hs3; have N3 := Lib.hid hn3; have G3 := Lib.hid hg3; clear hs3 hn3 hg3) | (refine wpList_allocG zeS rfl rfl ?_) | fail)
  intro g11 w4 e11 k11 q11
  obtain ⟨pv, hpv⟩ : ∃ v, v = Value.pointer (p.map fun b => (⟨b, 0, none⟩ : Addr)) := ⟨_, rfl⟩
  have htab : tab p = .agg [pv].toArray := by rw [hpv]; rfl
  have HO : Hid (∀ u ∈ [pv], u.oneCell' = true) := fun u hu => by obtain rfl := List.mem_singleton.1 hu; rw [hpv]; rfl
  rw [htab]
  have HTAB := Lib.hid htab
  clear htab hpv
  have U4 : Hid (Uno w w4 [g11, g6] p (sg0 f) ok) := by
    have d3 : Uno w w3 [g6] p (sg0 f) ok := by
      have hl := B6a.out.lt
      have s2 := G2.out.size; have s3 := G3.out.size; have s1 := G1.out.size
      refine ⟨S3.out, fun x hx => ?_, fun x hx => by have := N3.out x hx; omega, (G1.out.trans G2.out).trans G3.out, HT.out.lt⟩
      obtain rfl := List.mem_singleton.1 hx
      exact ⟨by omega, fun h => by have := N3.out _ h; omega, E6.out⟩
    exact d3.box q11.out e11.out k11.out.lt
  go_wp2_with (first | (refine wpList_storeG agS rfl _ _ rfl g11 (vs := [pv]) rfl rfl k11.out rfl rfl HO.out ?_) | fail)
  intro w5 k11b q11b z11
  have U5 := Lib.hid (U4.out.store q11b.out (by simp))
  have NE611 : Hid (g6 ≠ g11) := by have h1 := B6a.out.lt; have := G2.out.size; have := G3.out.size; have := e11.out; show g6 ≠ g11; omega
  have B6 := Lib.hid ((((B6a.out.grown G2.out (by simp)).grown G3.out (by simp)).grown q11.out (by simp)).grown q11b.out (by simpa using NE611.out))
  have B11 := Lib.hid k11b.out
  clear e11 k11 q11 k11b q11b z11 MA MS U4
  by_cases h6 : 60000 < n
  · have d1 : (60000 : Int) < (n : Int) := by omega
    clear h6
    go_wp2_with fail
    go_ret
    exact ⟨rfl, U5.out.g⟩
  · have d1 : ¬ (60000 : Int) < (n : Int) := by omega
    have hn6 : n ≤ 60000 := by omega
    clear h6
    obtain ⟨t1, ht1⟩ : ∃ t, n + a = t := ⟨_, rfl⟩
    obtain ⟨t2, ht2⟩ : ∃ t, t1 + b = t := ⟨_, rfl⟩
    obtain ⟨ab, hab⟩ : ∃ t, a + b = t := ⟨_, rfl⟩
    have hw1 : IntKind.u16.wrap ((n : Int) + (a : Int)) = (t1 : Int) := by rw [wrap16 (by omega) (by omega)]; omega
    have hw2 : IntKind.u16.wrap ((t1 : Int) + (b : Int)) = (t2 : Int) := by rw [wrap16 (by omega) (by omega)]; omega
    have hw3 : IntKind.u16.wrap ((a : Int) + (b : Int)) = (ab : Int) := by rw [wrap16 (by omega) (by omega)]; omega
    have hab16 : ab ≤ 16 := by omega
    have ht2b : t2 < 65536 := by omega
    have ht1b : t1 < 65536 := by omega
    obtain ⟨k1, hk1⟩ : ∃ t, t = goK a (sg0 f) k := ⟨_, rfl⟩
    obtain ⟨σ1, hσ1⟩ : ∃ t, t = goS a (sg0 f) k := ⟨_, rfl⟩
    obtain ⟨L1, hL1⟩ : ∃ t, t = goM z32 a (sg0 f) k n := ⟨_, rfl⟩
    obtain ⟨k2, hk2⟩ : ∃ t, t = goK b σ1 k1 := ⟨_, rfl⟩
    obtain ⟨σ2, hσ2⟩ : ∃ t, t = goS b σ1 k1 := ⟨_, rfl⟩
    obtain ⟨L2, hL2⟩ : ∃ t, t = L1 ++ goM z32 b σ1 k1 t1 := ⟨_, rfl⟩
    have hs := go_split (r := z32) a b (sg0 f) k n
    rw [hab, ht1, ← hk1, ← hσ1, ← hL1, ← hk2, ← hσ2, ← hL2] at hs
    have hg := go_again (r := z32) (τ := σ2) ab n HK.out (sg0_room f 0) (by omega) (by rw [hs.1]; exact Pre.refl _)
    rw [hs.2.1, hs.2.2] at hg
    have hr1 : Room 100 σ1 := by rw [hσ1]; exact (goS_room a _ _ HK.out (sg0_room f 0) (by omega)).mono (by omega)
    have hr2 : Room 100 σ2 := by rw [← hs.1]; exact (goS_room ab _ _ HK.out (sg0_room f 0) (by omega)).mono (by omega)
    have hkl1 : k1.length = 32 := by rw [hk1]; exact goK_length _ _ _ HK.out
    have hkl2 : k2.length = 32 := by rw [hk2]; exact goK_length _ _ _ hkl1
    have hA1 : KAll L1 := by rw [hL1]; exact goM_ok z32_length _ _ _ _ (by omega)
    have hA2 : KAll L2 := by rw [← hs.2.2]; exact goM_ok z32_length _ _ _ _ (by omega)
    have hl1 : L1.length = a := by rw [hL1]; exact goM_length _ _ _ _ _
    have hl2 : L2.length = ab := by rw [← hs.2.2]; exact goM_length _ _ _ _ _
    have hlt : ∀ y ∈ L1, y.2.1 < t1 := fun y hy => by rw [hL1] at hy; have := goM_lt _ _ _ _ y hy; omega
    have HR1 := Lib.hid hr1; have HR2 := Lib.hid hr2; have KL1 := Lib.hid hkl1; have KL2 := Lib.hid hkl2; have KA1 := Lib.hid hA1; have KA2 := Lib.hid hA2
    have LL1 := Lib.hid hl1; have LL2 := Lib.hid hl2; have HLT := Lib.hid hlt; have HG := Lib.hid hg
    have HK1 := Lib.hid hk1; have HS1 := Lib.hid hσ1; have HL1 := Lib.hid hL1; have HK2 := Lib.hid hk2; have HS2 := Lib.hid hσ2; have HL2 := Lib.hid hL2
    have TT1 := Lib.hid ht1; have TT2 := Lib.hid ht2; have TAB := Lib.hid hab
    have TT3 : Hid (n + ab = t2) := by show n + ab = t2; omega
    clear hs hg hr1 hr2 hkl1 hkl2 hA1 hA2 hl1 hl2 hlt hk1 hσ1 hL1 hk2 hσ2 hL2 ht1 ht2 hab h1 h2
    go_wp2_with (first | (refine wpList_loadG agA rfl (.tmp 6) rfl g6 rfl B6.out (by rw [u8s_length, HK.out]) ?_) | (refine wpList_rowK rfl (.tmp 36) (.tmp 37) rfl n HK.out rfl rfl ?_) | (refine wpList_allocG zeC rfl rfl ?_) | fail)
    intro g14 w6 e14 k14 q14
    have U6 := Lib.hid (U5.out.box q14.out e14.out k14.out.lt)
    go_wp2_with (first | (refine wpList_storeG agC rfl _ _ rfl g14 (vs := rv k n) rfl rfl k14.out (rv_length z32_length) (rv_length HK.out) (rv_one _ _) ?_) | fail)
    intro w7 k14b q14b z14
    have U7 := Lib.hid (U6.out.store q14b.out (by simp))
    have NE14 : Hid (g11 < g14) := by have := B11.out.lt; have := e14.out; show g11 < g14; omega
    have B11a := Lib.hid ((B11.out.grown q14.out (by simp)).grown q14b.out (by have := NE14.out; simp; omega))
    have B14a := Lib.hid k14b.out
    have O7 : Hid (Own w7 ok (fun _ => False) none []) := ⟨Kps.nil, fun _ h => h.elim⟩
    have C8 := Lib.hid (skip_let (c := 0) HTAB.out U7.out.s (sg0_room f 100) HK.out TT1.out ht1b O7.out KAll.nil rfl (Nat.zero_add a) (by omega) (by simp) HK1.out HS1.out (HL1.out.trans (List.nil_append _).symm))
    clear e14 k14 q14 k14b q14b z14 U6
    go_wp2_with (first | (refine wpList_loadG agS rfl (.tmp 11) rfl g11 rfl B11a.out rfl ?_) | (refine wpList_loadG agC rfl (.tmp 14) rfl g14 rfl B14a.out (rv_length HK.out) ?_) | (refine wpList_zeroG zeY rfl rfl ?_) | (go_at_call 21; refine C8.out.mono ?_; rintro _ w8 ⟨ok1, okL1, A1, c1, rfl, hR8, hO8⟩; have R8 := Lib.hid hR8; have O8 := Lib.hid hO8; clear hR8 hO8) | (refine wpList_allocG zeC rfl rfl ?_) | fail)
    intro g15 w9 e15 k15 q15
    have U8 := Lib.hid (U7.out.skip R8.out)
    have B11b := Lib.hid (U7.out.blk R8.out B11a.out (by simp))
    have B14b := Lib.hid (U7.out.blk R8.out B14a.out (by simp))
    have U9 := Lib.hid (U8.out.box q15.out e15.out k15.out.lt)
    go_wp2_with (first | (refine wpList_storeG agC rfl _ _ rfl g15 (vs := rv k1 t1) rfl rfl k15.out (rv_length z32_length) (rv_length KL1.out) (rv_one _ _) ?_) | fail)
    intro w10 k15b q15b z15
    have U10 := Lib.hid (U9.out.store q15b.out (by simp))
    have N11 : Hid (g11 < g15) := by have := B11b.out.lt; have := e15.out; show g11 < g15; omega
    have N14 : Hid (g14 < g15) := by have := B14b.out.lt; have := e15.out; show g14 < g15; omega
    have B11c := Lib.hid ((B11b.out.grown q15.out (by simp)).grown q15b.out (by have := N11.out; simp; omega))
    have B14c := Lib.hid ((B14b.out.grown q15.out (by simp)).grown q15b.out (by have := N14.out; simp; omega))
    have B15c := Lib.hid k15b.out
    have O10 := Lib.hid ((O8.out.alloc q15.out).store q15b.out (fun h => by have := (O8.out.2 _ h).1; have := e15.out; omega))
    have C11 := Lib.hid (skip_let (c := c1) HTAB.out U10.out.s HR1.out KL1.out TT2.out ht2b O10.out KA1.out LL1.out TAB.out hab16 HLT.out HK2.out HS2.out HL2.out)
    clear e15 k15 q15 k15b q15b z15 U9 U8 B11b B14b O8 R8 C8 U7 B11a B14a
    go_wp2_with (first | (refine wpList_loadG agS rfl (.tmp 11) rfl g11 rfl B11c.out rfl ?_) | (refine wpList_loadG agC rfl (.tmp 15) rfl g15 rfl B15c.out (rv_length KL1.out) ?_) | (refine wpList_zeroG zeY rfl rfl ?_) | (go_at_call 21; refine C11.out.mono ?_; rintro _ w11 ⟨ok2, okL2, A2, c2, rfl, hR11, hO11⟩; have R11 := Lib.hid hR11; have O11 := Lib.hid hO11; clear hR11 hO11) | (refine wpList_allocG zeC rfl rfl ?_) | fail)
    intro g18 w12 e18 k18 q18
    have U11 := Lib.hid (U10.out.skip R11.out)
    have B11d := Lib.hid (U10.out.blk R11.out B11c.out (by simp))
    have B14d := Lib.hid (U10.out.blk R11.out B14c.out (by simp))
    have U12 := Lib.hid (U11.out.box q18.out e18.out k18.out.lt)
    go_wp2_with (first | (refine wpList_storeG agC rfl _ _ rfl g18 (vs := rv k2 t2) rfl rfl k18.out (rv_length z32_length) (rv_length KL2.out) (rv_one _ _) ?_) | fail)
    intro w13 k18b q18b z18
    have U13 := Lib.hid (U12.out.store q18b.out (by simp))
    have N18 : Hid (g11 < g18) := by have := B11d.out.lt; have := e18.out; show g11 < g18; omega
    have N19 : Hid (g14 < g18) := by have := B14d.out.lt; have := e18.out; show g14 < g18; omega
    have B11e := Lib.hid ((B11d.out.grown q18.out (by simp)).grown q18b.out (by have := N18.out; simp; omega))
    have B14e := Lib.hid ((B14d.out.grown q18.out (by simp)).grown q18b.out (by have := N19.out; simp; omega))
    have B18e := Lib.hid k18b.out
    have O13 := Lib.hid ((O11.out.alloc q18.out).store q18b.out (fun h => by have := (O11.out.2 _ h).1; have := e18.out; omega))
    have P13 : Hid (Own w13 ok2 (fun _ => False) none []) := ⟨Kps.nil, fun _ h => h.elim⟩
    have C14 := Lib.hid (skip_let (c := 0) HTAB.out U13.out.s HR2.out HK.out TT3.out ht2b P13.out KAll.nil rfl (Nat.zero_add ab) hab16 (by simp) HG.out.2.1.symm HG.out.1.symm (HG.out.2.2.symm.trans (List.nil_append _).symm))
    clear e18 k18 q18 k18b q18b z18 U12 U11 B11d B14d O11 R11 C11 U10 B11c B14c B15c
    go_wp2_with (first | (refine wpList_loadG agS rfl (.tmp 11) rfl g11 rfl B11e.out rfl ?_) | (refine wpList_loadG agC rfl (.tmp 14) rfl g14 rfl B14e.out (rv_length HK.out) ?_) | (refine wpList_zeroG zeY rfl rfl ?_) | (go_at_call 21; refine C14.out.mono ?_; rintro _ w14 ⟨ok3, okL3, A3, c3, rfl, hR14, hO14⟩; have R14 := Lib.hid hR14; have O14 := Lib.hid hO14; clear hR14 hO14) | (refine wpList_allocG zeC rfl rfl ?_) | fail)
    intro g21 w15 e21 k21 q21
    have U14 := Lib.hid (U13.out.skip R14.out)
    have B18f := Lib.hid (U13.out.blk R14.out B18e.out (by simp))
    have U15 := Lib.hid (U14.out.box q21.out e21.out k21.out.lt)
    go_wp2_with (first | (refine wpList_storeG agC rfl _ _ rfl g21 (vs := rv k2 t2) rfl rfl k21.out (rv_length z32_length) (rv_length KL2.out) (rv_one _ _) ?_) | fail)
    intro w16 k21b q21b z21
    have U16 := Lib.hid (U15.out.store q21b.out (by simp))
    have N21 : Hid (g18 < g21) := by have := B18f.out.lt; have := e21.out; show g18 < g21; omega
    have B18g := Lib.hid ((B18f.out.grown q21.out (by simp)).grown q21b.out (by have := N21.out; simp; omega))
    have B21g := Lib.hid k21b.out
    have O16 := Lib.hid ((O14.out.alloc q21.out).store q21b.out (fun h => by have := (O14.out.2 _ h).1; have := e21.out; omega))
    have P16 := Lib.hid (((O13.out.skip R14.out).alloc q21.out).store q21b.out (fun h => by have := ((O13.out.skip R14.out).2 _ h).1; have := e21.out; omega))
    have MM := Lib.hid (same_any (c := c2) (c2 := c3) P16.out.1 O16.out.1 KA2.out LL2.out (by omega))
    have W3 : Hid (IntKind.i64.wrap (ab : Int) = (ab : Int)) := by show _ = _; rw [IntKind.wrap_i64]; omega
    clear e21 k21 q21 k21b q21b z21 U15 U14 B18f O14 R14 C14 U13 B11e B14e B18e
    go_wp2_with (first | (refine wpList_loadGw agC (by rfl) (.tmp 18) rfl g18 rfl B18g.out (rv_length KL2.out) ?_) | (refine wpList_loadGw agC (by rfl) (.tmp 21) rfl g21 rfl B21g.out (rv_length KL2.out) ?_) | (refine wpList_eqs (eqsC KL2.out t2) (by rfl) (.tmp 88) (.tmp 89) rfl rfl rfl ?_) | (go_at_call 18; refine MM.out.mono ?_; rintro _ w17 ⟨rfl, hg17⟩; have G17 := Lib.hid hg17; clear hg17) | fail)
    go_ret
    exact ⟨rfl, U16.out.g.trans G17.out⟩
end Go.Proofs.YtdnkeaokgkiloaaDoor
