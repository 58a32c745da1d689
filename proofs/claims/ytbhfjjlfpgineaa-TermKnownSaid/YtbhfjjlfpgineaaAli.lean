/- The document's example is told. Conditions: MaxLen holds some number. -/
import Derived.Test.YtbhfjjlfpgineaaAliM
import Derived.Test.YtbhfjjlfpgineaaKnw

namespace Go.Proofs.Ytbhfjjlfpgineaa
open Go.RowKit

/-- The example under way: the table; the keys that lie in blocks of their own. -/
structure Exm (w0 w : World) (tb : Nat) (T : List Trm) (ks : List (Nat × List UInt8)) : Prop where
  tbl : ∃ ok : Nat → Prop, Tbl w ok tb T ∧ (∀ b, ok b → w0.heap.size ≤ b ∧ b < w.heap.size) ∧ ∀ x ∈ ks, ¬ ok x.1
  below : Below w0.heap.size w0 w
  keys : ∀ x ∈ ks, Arr w 49 x.1 x.2 ∧ w0.heap.size ≤ x.1
section
variable {w0 w w' : World} {tb : Nat} {T : List Trm} {ks : List (Nat × List UInt8)}
theorem Exm.up (h : Exm w0 w tb T ks) (hb : Below w.heap.size w w') : Exm w0 w' tb T ks := by
  obtain ⟨ok, h1, h2, h3⟩ := h.tbl
  have hz := hb.size
  refine ⟨⟨ok, h1.below hb, fun b hb' => ⟨(h2 b hb').1, Nat.lt_of_lt_of_le (h2 b hb').2 hb.size⟩, h3⟩, h.below.trans (hb.mono h.below.size), fun x hx => ⟨?_, (h.keys x hx).2⟩⟩
  exact (hb.block _ (Arr.lt (h.keys x hx).1)).trans (h.keys x hx).1
theorem Exm.key {g : Nat} {xs : List UInt8} (h : Exm w0 w tb T ks) (hb : Below w.heap.size w w') (hg : w.heap.size ≤ g) (hk : Arr w' 49 g xs) : Exm w0 w' tb T ((g, xs) :: ks) := by
  obtain ⟨ok, h1, h2, h3⟩ := h.tbl
  have h' := h.up hb
  have hz := h.below.size
  refine ⟨⟨ok, h1.below hb, fun b hb' => ⟨(h2 b hb').1, Nat.lt_of_lt_of_le (h2 b hb').2 hb.size⟩, fun x hx => ?_⟩, h'.below, fun x hx => ?_⟩
  · rcases List.mem_cons.1 hx with rfl | hx
    · intro e; have := (h2 _ e).2; simp only at this; omega
    · exact h3 x hx
  · rcases List.mem_cons.1 hx with rfl | hx
    · exact ⟨hk, by show w0.heap.size ≤ g; omega⟩
    · exact h'.keys x hx
theorem Exm.make {W : World} {ok' : Nat → Prop} {A : Option Addr} {ps : List (List UInt8)} {n c N k : Nat} {T' : List Trm} (h : Exm w0 W tb T ks) (hx : Lst W ok' A ps) (hok : ∀ b, ok' b → b < W.heap.size) (hn : ps.length = n) (hn6 : n ≤ 64) (hmk : Ytbhfjjlfpgineaa.mk T (k : Nat) ps = (N, T')) (hN : 0 < N) :
    Calls Try.prog 21 #[.pointer (some ⟨tb, 0, none⟩), .int .i64 k, .slice A n c] W fun e w2 => e = .returned (.tuple #[.agg (u8s (nm N)).toArray, .bool true]) ∧ Exm w0 w2 tb T' ks := by
  obtain ⟨ok, h1, h2, h3⟩ := h.tbl
  have hm := make_any (kind := k) (c := c) h1 hx hok (by rw [hn]; unfold maxLen; omega)
  rw [hn, hmk] at hm
  refine hm.mono fun e w2 ⟨he, ht, hmd⟩ => ⟨?_, ⟨_, ht, fun b hb => ?_, fun x hxk hb => ?_⟩, ?_, fun x hxk => ⟨?_, (h.keys x hxk).2⟩⟩
  · rw [he]
    unfold nm0
    rw [if_neg (by show ¬ N = 0; omega)]
    simp only [hN, decide_true]
  · rcases hb with hb | hb
    · exact ⟨(h2 b hb).1, Nat.lt_of_lt_of_le (h2 b hb).2 hmd.size⟩
    · have := h.below.size; omega
  · rcases hb with hb | hb
    · exact h3 x hxk hb
    · have := Arr.lt (h.keys x hxk).1; omega
  · exact h.below.trans (hmd.below h.below.size fun b _ hb => (h2 b hb).1)
  · exact (hmd.block _ (Arr.lt (h.keys x hxk).1) (h3 x hxk)).trans (h.keys x hxk).1
theorem exm_new {w w' : World} {e : Ending} (h : NewT w e w') : ∃ tb, e = .returned (.pointer (some ⟨tb, 0, none⟩)) ∧ Exm w w' tb [] [] := by
  obtain ⟨tb, h1, h2, h3, h4⟩ := h
  exact ⟨tb, h1, ⟨_, h3, fun b hb => hb, by simp⟩, h4, by simp⟩
theorem lst_lit {ok : Nat → Prop} {vs : List (List UInt8)} {As : List Value} (h : ∀ i (hi : i < vs.length), ∃ A c, As[i]? = some (.slice A vs[i].length c) ∧ vs[i].length ≤ c ∧ c ≤ maxLen ∧ Byt w ok A vs[i]) (hok : ∀ b, ok b → b < w.heap.size) :
    Lst (w.alloc (.cells As.toArray 41)) (fun b => b < w.heap.size + 1) (some ⟨w.heap.size, 0, none⟩) vs := fun i hi => by
  obtain ⟨A, c, h1, h2, h3, h4⟩ := h i hi
  refine ⟨_, A, c, rfl, Nat.lt_succ_self _, ?_, h2, h3, (h4.keep fun b hb => Below.heap_alloc _ _ _ (hok b hb)).imp fun b hb => by have := hok b hb; omega⟩
  rw [Addr.add_lit, Nat.zero_add, cell_of_block (heap_alloc_new w _)]
  show As.toArray[i]? = _
  rw [List.getElem?_toArray]
  exact h1
theorem key_byt (h : Exm w0 w tb T ks) {g : Nat} {xs : List UInt8} (hm : (g, xs) ∈ ks) (hl : xs.length = 32) : xs.length ≤ 32 ∧ 32 ≤ maxLen ∧ Byt w (fun b => b < w.heap.size) (some ⟨g, 0, none⟩) xs :=
  ⟨Nat.le_of_eq hl, by decide, ((h.keys _ hm).1).byt (Arr.lt (h.keys _ hm).1)⟩
theorem lst_one (h : Exm w0 w tb T ks) {g : Nat} {xs : List UInt8} (hm : (g, xs) ∈ ks) (hl : xs.length = 32) : Lst (w.alloc (.cells #[.slice (some ⟨g, 0, none⟩) 32 32] 41)) (fun b => b < w.heap.size + 1) (some ⟨w.heap.size, 0, none⟩) [xs] :=
  lst_lit (ok := fun b => b < w.heap.size) (As := [.slice (some ⟨g, 0, none⟩) 32 32]) (fun i hi => by
    obtain rfl : i = 0 := by simpa using hi
    obtain ⟨a, b, c⟩ := key_byt h hm hl
    exact ⟨_, 32, by rw [← hl]; rfl, a, b, c⟩) fun _ h => h
theorem lst_two (h : Exm w0 w tb T ks) {g g2 : Nat} {xs ys : List UInt8} (hm : (g, xs) ∈ ks) (hl : xs.length = 32) (hm2 : (g2, ys) ∈ ks) (hl2 : ys.length = 32) : Lst (w.alloc (.cells #[.slice (some ⟨g, 0, none⟩) 32 32, .slice (some ⟨g2, 0, none⟩) 32 32] 41)) (fun b => b < w.heap.size + 1) (some ⟨w.heap.size, 0, none⟩) [xs, ys] :=
  lst_lit (ok := fun b => b < w.heap.size) (As := [.slice (some ⟨g, 0, none⟩) 32 32, .slice (some ⟨g2, 0, none⟩) 32 32]) (fun i hi => by
    have hi2 : i < 2 := hi
    rcases (by omega : i = 0 ∨ i = 1) with rfl | rfl
    · obtain ⟨a, b, c⟩ := key_byt h hm hl
      exact ⟨_, 32, by show _ = some (Value.slice _ xs.length _); rw [hl]; rfl, a, b, c⟩
    · obtain ⟨a, b, c⟩ := key_byt h hm2 hl2
      exact ⟨_, 32, by show _ = some (Value.slice _ ys.length _); rw [hl2]; rfl, a, b, c⟩) fun _ h => h
theorem lst_text (w : World) (x : UInt8) : Lst ((w.alloc (.cells #[.int .u8 (x.toNat : Int)] 5 (1, 2))).alloc (.cells #[.slice (some ⟨w.heap.size, 0, none⟩) 1 1] 41)) (fun b => b < w.heap.size + 1 + 1) (some ⟨w.heap.size + 1, 0, none⟩) [[x]] := by
  have h := lst_lit (w := w.alloc (.cells #[.int .u8 (x.toNat : Int)] 5 (1, 2))) (ok := fun b => b < w.heap.size + 1) (vs := [[x]]) (As := [.slice (some ⟨w.heap.size, 0, none⟩) 1 1]) (fun i hi => by
    obtain rfl : i = 0 := by simpa using hi
    refine ⟨_, 1, rfl, Nat.le_refl _, by decide, fun j hj => ?_⟩
    obtain rfl : j = 0 := by simpa using hj
    refine ⟨_, rfl, Nat.lt_succ_self _, ?_⟩
    rw [Addr.add_lit]
    exact World.cell?_alloc_mark w _ _ _ _) (fun b hb => by rw [alloc_size]; exact hb)
  rw [alloc_size] at h
  exact h

/-- What a Make of the example leaves. -/
def MkE (w0 : World) (tb N : Nat) (T : List Trm) (ks : List (Nat × List UInt8)) (e : Ending) (w2 : World) : Prop := e = .returned (.tuple #[.agg (u8s (nm N)).toArray, .bool true]) ∧ Exm w0 w2 tb T ks
theorem make_text {N : Nat} {T' : List Trm} (h : Exm w0 w tb T ks) (x : UInt8) (hmk : mk T ((1 : Nat) : Int) [[x]] = (N, T')) (hN : 0 < N) :
    Calls Try.prog 21 #[.pointer (some ⟨tb, 0, none⟩), .int .i64 ((1 : Nat) : Int), .slice (some ⟨w.heap.size + 1, 0, none⟩) 1 1] ((w.alloc (.cells #[.int .u8 (x.toNat : Int)] 5 (1, 2))).alloc (.cells #[.slice (some ⟨w.heap.size, 0, none⟩) 1 1] 41)) (MkE w0 tb N T' ks) :=
  Exm.make (k := 1) (n := 1) (c := 1) (h.up (((Below.refl _ _).alloc (Nat.le_refl _) _).alloc (by simp) _)) (lst_text w x) (fun b hb => by simpa using hb) rfl (by omega) hmk hN
theorem make_one {k N g : Nat} {T' : List Trm} {xs : List UInt8} (h : Exm w0 w tb T ks) (hm : (g, xs) ∈ ks) (hl : xs.length = 32) (hmk : mk T (k : Int) [xs] = (N, T')) (hN : 0 < N) :
    Calls Try.prog 21 #[.pointer (some ⟨tb, 0, none⟩), .int .i64 (k : Int), .slice (some ⟨w.heap.size, 0, none⟩) 1 1] (w.alloc (.cells #[.slice (some ⟨g, 0, none⟩) 32 32] 41)) (MkE w0 tb N T' ks) :=
  Exm.make (k := k) (n := 1) (c := 1) (h.up ((Below.refl _ _).alloc (Nat.le_refl _) _)) (lst_one h hm hl) (fun b hb => by simpa using hb) rfl (by omega) hmk hN
theorem make_two {k N g g2 : Nat} {T' : List Trm} {xs ys : List UInt8} (h : Exm w0 w tb T ks) (hm : (g, xs) ∈ ks) (hl : xs.length = 32) (hm2 : (g2, ys) ∈ ks) (hl2 : ys.length = 32) (hmk : mk T (k : Int) [xs, ys] = (N, T')) (hN : 0 < N) :
    Calls Try.prog 21 #[.pointer (some ⟨tb, 0, none⟩), .int .i64 (k : Int), .slice (some ⟨w.heap.size, 0, none⟩) 2 2] (w.alloc (.cells #[.slice (some ⟨g, 0, none⟩) 32 32, .slice (some ⟨g2, 0, none⟩) 32 32] 41)) (MkE w0 tb N T' ks) :=
  Exm.make (k := k) (n := 2) (c := 2) (h.up ((Below.refl _ _).alloc (Nat.le_refl _) _)) (lst_two h hm hl hm2 hl2) (fun b hb => by simpa using hb) rfl (by omega) hmk hN
end
end Go.Proofs.Ytbhfjjlfpgineaa
