/- The names of a map, sorted; what a name has. Conditions: none. -/
import Derived.Test.YtonpcenjipigpaaGreatZ18
namespace Go.Proofs.YtonpcenjipigpaaGreat
open Go.RowKit Go.Maps Go.Sort Go.Shelf
theorem sorts_any (m : Nat) : AnyZ.SortsIn Tryz.prog Tryz.sorted_ren Fence.wide m :=
  ⟨fun blk off cap ss W hH hblk hsz => callsIn_wide.2 (AnyM.slices_Sort_string Tryz.sort blk off cap ss W hH hblk hsz),
   fun p cap W => callsIn_wide.2 (AnyM.slices_Sort_string_none Tryz.sort p cap W)⟩
theorem keys_call (mb : Nat) (W : World) : Calls Tryz.prog 72 #[.map (some mb)] W fun e w' => e = .returned (.func (.func 91) #[] #[.pointer (some ⟨W.heap.size, 0, none⟩)]) ∧ w' = W.alloc (.cells #[.map (some mb)] 71) := by
  refine (callsIn_wide (n := 6)).1 ?_
  exact AnyZ.keys_in Tryz.keys Fence.wide 6 trivial rfl (some mb) W
theorem names_call {D0 : DataW Value} {mb nn : Nat} {w : World} (hown : w.ownsMap Tryz.prog 9 RV mb nn D0) (hsz : Maps.size D0 ≤ 100000) :
    Calls Tryz.prog 71 #[.func (.func 91) #[] #[.pointer (some ⟨w.heap.size, 0, none⟩)]] (w.alloc (.cells #[.map (some mb)] 71)) fun e w' => ∃ (v : Value) (ss : List (List UInt8)), e = .returned v ∧ ss.Perm (strKeys D0) ∧
      w'.ownsRow (w.alloc (.cells #[.map (some mb)] 71)).heap.size 9 1 v ss.length ((ss.mergeSort (fun x y => decide (x ≤ y))).map encStr) ∧ (v = .slice none 0 0 ↔ ss = []) ∧ Below (w.alloc (.cells #[.map (some mb)] 71)).heap.size (w.alloc (.cells #[.map (some mb)] 71)) w' := by
  refine (callsIn_wide (n := 5)).1 ?_
  have hbl := hown.lt
  have hseq : SeqGives Fence.wide 2 Tryz.prog 91 #[.pointer (some ⟨w.heap.size, 0, none⟩)] encStr (fun ss => ss.Perm (strKeys D0)) (Maps.size D0) (w.alloc (.cells #[.map (some mb)] 71)) :=
    AnyZ.keys_gives (ρ := Tryz.keys_ren) { Tryz.keys with } Fence.wide _ trivial rfl (by omega) w.heap.size mb nn D0 _ (by simp) (by simp) (by
      obtain ⟨es, clock, hb, Ft, hs, hD⟩ := hown
      exact ⟨es, clock, (Below.heap_alloc _ _ mb hbl).trans hb, Ft, hs, hD⟩)
  have cS := AnyZ.sorted_in Tryz.sorted Fence.wide 5 trivial trivial trivial trivial rfl (by omega) (sorts_any _) (enters_of Tryz.func90 (by kernel_rfl) rfl) 91 #[.pointer (some ⟨w.heap.size, 0, none⟩)] trivial (enters_of Tryz.func91 (by kernel_rfl) rfl) _ _ (by unfold maxLen; omega) (by omega) _ hseq
  exact cS
/-- Names rise strictly. -/
def Ris {α : Type} (L : List (List UInt8 × α)) : Prop := (L.map (·.1)).Pairwise (· < ·)
theorem Vals.ris {w : World} {ok : Nat → Prop} {mb n : Nat} {L : List (List UInt8 × List UInt8)} (h : Vals w ok mb n L) : Ris L := by
  obtain ⟨Z, ⟨es, clock, hb, F, hs, hD⟩, h2, _⟩ := h
  have hr := Maps.fit_rising keyed9 F
  have he : (es.toList.map (Go.WideElems.rg Tryz.prog 9 RV)).foldr DataW.insert [] = (mapA (·.1) Z).map fun x => (Lit.string x.1, DataW.held x.2) := by
    have := hD
    simp only [dat, DataW.map.injEq] at this
    exact this.symm
  rw [he] at hr
  have hp := Go.WideShapes.rising_pairwise _ hr
  rw [h2]
  unfold Ris mapA
  rw [List.map_map]
  rw [List.pairwise_map]
  unfold mapA at hp
  rw [List.pairwise_map, List.pairwise_map] at hp
  refine hp.imp fun {a b} h => ?_
  have h' : bytesBefore a.1 b.1 = true := h
  rw [before_lt] at h'
  simpa using h'
theorem sorted_self {L : List (List UInt8)} (h : L.Pairwise (· < ·)) {ss : List (List UInt8)} (hp : ss.Perm L) : ss.mergeSort (fun x y => decide (x ≤ y)) = L := by
  have e1 : ss.mergeSort leB = L.mergeSort leB := mergeSort_of_perm hp
  refine e1.trans (List.mergeSort_of_pairwise (h.imp fun {a b} hab => ?_))
  simp only [leB, decide_eq_true_eq]
  exact List.le_of_lt hab
theorem getA_mem {α : Type} : ∀ {L : List (List UInt8 × α)}, Ris L → ∀ {x : List UInt8 × α}, x ∈ L → getA x.1 L = some x.2
  | y :: L, h, x, hx => by
    unfold Ris at h
    rw [List.map_cons, List.pairwise_cons] at h
    rcases List.mem_cons.1 hx with rfl | hx
    · simp [getA]
    · have hne : y.1 ≠ x.1 := fun e => by
        have := h.1 x.1 (List.mem_map.2 ⟨x, hx, rfl⟩)
        rw [e] at this
        exact List.lt_irrefl _ this
      have ih := getA_mem (L := L) h.2 hx
      unfold getA at ih ⊢
      rw [List.find?_cons_of_neg (by simpa using hne)]
      exact ih
/-- What a name has, in memory. -/
theorem Vals.look {w : World} {ok : Nat → Prop} {mb n : Nat} {L : List (List UInt8 × List UInt8)} (h : Vals w ok mb n L) {k : List UInt8} (hk : k.length ≤ maxLen) (c : Bool) :
    ∃ A xs cp, (Instr.lookup 71 (.map (some mb)) (.string ⟨k.toArray⟩) c).run Tryz.prog w = .ok (if c = true then .tuple #[.slice A xs.length cp, .bool (getA k L).isSome] else .slice A xs.length cp) w ∧ xs = (getA k L).getD [] ∧ xs.length ≤ cp ∧ cp ≤ maxLen ∧ xs.length ≤ 4000 ∧ Byt w ok A xs := by
  obtain ⟨Z, h1, h2, h3⟩ := h
  have hg : getA k L = (getA k Z).map (·.2) := by rw [h2, mapA_get]
  have hgv : getA k (mapA (·.1) Z) = (getA k Z).map (·.1) := mapA_get _ _ _
  have hform : ∀ v ps, RV v = some ((dat (mapA (·.1) Z)).atKey (.string k) (.held (.slice none 0 0)), ps) → v = ((getA k Z).map (·.1)).getD (.slice none 0 0) := fun v ps hv => by
    rw [dat_at, hgv] at hv
    simp only [RV, Option.some.injEq, Prod.mk.injEq, DataW.held.injEq] at hv
    exact hv.1
  have hparts : ∃ A xs cp, ((getA k Z).map (·.1)).getD (.slice none 0 0) = .slice A xs.length cp ∧ xs = ((getA k Z).map (·.2)).getD [] ∧ xs.length ≤ cp ∧ cp ≤ maxLen ∧ xs.length ≤ 4000 ∧ Byt w ok A xs := by
    cases hz : getA k Z with
    | none => exact ⟨none, [], 0, rfl, rfl, Nat.le_refl _, by unfold maxLen; omega, by simp, Byt.nil⟩
    | some x =>
      have hm : ∃ y ∈ Z, y.2 = x := by
        unfold getA at hz
        obtain ⟨y, hy, rfl⟩ := Option.map_eq_some_iff.1 hz
        exact ⟨y, List.mem_of_find?_eq_some hy, rfl⟩
      obtain ⟨y, hy, rfl⟩ := hm
      obtain ⟨A, cp, a1, a2, a3, a4, a5, a6⟩ := h3 y hy
      exact ⟨A, y.2.2, cp, a1, rfl, a2, a3, a4, a6⟩
  obtain ⟨A, xs, cp, p1, p2, p3, p4, p5, p6⟩ := hparts
  refine ⟨A, xs, cp, ?_, by rw [hg]; exact p2, p3, p4, p5, p6⟩
  cases c with
  | true =>
    obtain ⟨v, ps, hr, hv⟩ := h1.look_ok keyed9 Tryz.underlying71 (zero40 w) (zd := .held (.slice none 0 0)) (zp := []) rfl (key_of hk)
    rw [hr, hform v ps hv, p1, dat_has, hgv, hg]
    simp
  | false =>
    obtain ⟨v, ps, hr, hv⟩ := h1.lookup keyed9 Tryz.underlying71 (zero40 w) (zd := .held (.slice none 0 0)) (zp := []) rfl (key_of hk)
    rw [hr, hform v ps hv, p1]
    simp
theorem Vals.lenrun {w : World} {ok : Nat → Prop} {mb n : Nat} {L : List (List UInt8 × List UInt8)} (h : Vals w ok mb n L) (ty : TypeId) : (Builtin.len_ #[71] ty #[.map (some mb)]).run Tryz.prog w = .ok (.int .i64 (L.length : Int)) w := by
  obtain ⟨Z, h1, h2, h3⟩ := h
  rw [h1.len Tryz.underlying71 ty, dat_size, h2]
  simp [mapA]
end Go.Proofs.YtonpcenjipigpaaGreat
/- All names with their values, told; what a name has, told. Conditions: at most a hundred thousand of them. -/
namespace Go.Proofs.YtonpcenjipigpaaGreat
open Go.RowKit Go.Maps
/-- Names with values as changes. -/
def chgs (L : List (List UInt8 × List UInt8)) : List Chg := L.map fun x => ⟨x.1, x.2, false⟩
theorem run_make23z {N : Nat} (hN : N ≤ 100000) (w : World) : (Instr.makeSlice 36 (.int .i64 0) (.int .i64 (N : Int))).run Tryz.prog w = .ok (.slice (some ⟨w.heap.size, 0, none⟩) 0 N) (w.alloc (.cells (z3 N).toArray 56)) := by
  obtain ⟨i, hi, hz, hs, hb⟩ := info_parts Tryz.info56
  have h := run_makeSlice (P := Tryz.prog) w 36 56 i _ Tryz.underlying36 hi hz .i64 .i64 (0 : Int) (N : Int) (by omega) (by omega) (by rw [hs]; simp; omega) (by rw [hb]; simp; omega) (by omega)
  rw [h, hs]
  simp only [Int.toNat_natCast, Value.cells]
  rw [made_z3]
  rfl
/-- A list of changes in new memory. -/
def AllE (w : World) (l : List Chg) (e : Ending) (w' : World) : Prop := ∃ g c, e = .returned (.slice (some ⟨g, 0, none⟩) l.length c) ∧ l.length ≤ c ∧ c ≤ maxLen ∧ Chs w' (fun b => w.heap.size ≤ b ∧ b < w'.heap.size) (some ⟨g, 0, none⟩) l ∧ w.grownBy w' none
theorem own_form3 {w : World} {base n : Nat} {v : Value} {xs : List Value} {e : TypeId} (h : w.ownsRow base e 3 v n xs) (hv : v ≠ .slice none 0 0) : ∃ g c, v = .slice (some ⟨g, 0, none⟩) n c ∧ n ≤ c ∧ c ≤ maxLen ∧ base ≤ g ∧ g < w.heap.size ∧ ∀ j u, xs[j]? = some u → w.cell? ⟨g, j, none⟩ = some u := by
  rcases h.2 with ⟨e1, _⟩ | ⟨g, cap, cur, e1, hb, hg, h1, h2, _⟩
  · exact absurd e1 hv
  · refine ⟨g, cap, e1, h1, h2, hb, (Array.getElem?_eq_some_iff.1 hg).1, fun j u hu => ?_⟩
    have := h.cells (g := g) (by rw [e1]; rfl) j u hu
    rw [Addr.add_lit, Nat.zero_add] at this
    exact this
theorem row_at {w : World} {base n : Nat} {v : Value} {xs : List Value} {e : TypeId} (h : w.ownsRow base e 1 v n xs) (hn : 0 < xs.length) : ∃ g c, v = .slice (some ⟨g, 0, none⟩) n c ∧ base ≤ g ∧ g < w.heap.size ∧ ∀ j u, xs[j]? = some u → w.cell? ⟨g, j, none⟩ = some u := by
  rcases h.2 with ⟨e1, h0⟩ | ⟨g, cap, cur, e1, hb, hg, h1, h2, _⟩
  · have := h.1; omega
  · refine ⟨g, cap, e1, hb, (Array.getElem?_eq_some_iff.1 hg).1, fun j u hu => ?_⟩
    have := h.cells (g := g) (by rw [e1]; rfl) j u hu
    rw [Addr.add_lit, Nat.zero_add] at this
    exact this
theorem chgs_take (L : List (List UInt8 × List UInt8)) {k : Nat} (hk : k < L.length) : chgs (L.take (k + 1)) = chgs (L.take k) ++ [⟨L[k].1, L[k].2, false⟩] := by
  have e : L.take (k + 1) = L.take k ++ [L[k]] := (List.take_append_getElem hk).symm
  unfold chgs
  rw [e, List.map_append]
  rfl
/-- What holds at the head of a round of 'all'. -/
def AllR (w : World) (A9 : Option Addr) (L : List (List UInt8 × List UInt8)) (k : Nat) (v : Value) (vs : List Value) (wr : World) : Prop :=
  v ≠ .slice none 0 0 ∧ wr.ownsRow w.heap.size 56 3 v k (rows (chgs (L.take k)) vs) ∧ Sls wr (fun b => w.heap.size ≤ b ∧ b < wr.heap.size ∧ v.ownBlock ≠ some b) vs ((L.take k).map (·.2)) ∧ w.grownBy wr none ∧
    (0 < L.length → ∃ g9, A9 = some ⟨g9, 0, none⟩ ∧ g9 < wr.heap.size ∧ v.ownBlock ≠ some g9 ∧ ∀ j u, ((L.map (·.1)).map encStr)[j]? = some u → wr.cell? ⟨g9, j, none⟩ = some u)
theorem AllR.step {w wr w3 w5 : World} {A9 A2 : Option Addr} {L : List (List UInt8 × List UInt8)} {k c2 : Nat} {v v' : Value} {vs : List Value} {nm xs : List UInt8} (h : AllR w A9 L k v vs wr) (hk : k < L.length) (he : L[k] = (nm, xs)) (hb : Below wr.heap.size wr w3)
    (hy : Byt w3 (fun b => wr.heap.size ≤ b ∧ b < w3.heap.size) A2 xs) (h1 : xs.length ≤ c2) (h2 : c2 ≤ maxLen) (hv : v' ≠ .slice none 0 0)
    (ho : w5.ownsRow w.heap.size 56 3 v' (k + 1) (rows (chgs (L.take k)) vs ++ ccells ⟨nm, xs, false⟩ (.slice A2 xs.length c2)))
    (hg : w3.grownBy w5 v.ownBlock) (hlv : ∀ g, v.ownBlock = some g → w.heap.size ≤ g ∧ g < wr.heap.size) (hvb : v'.ownBlock = v.ownBlock ∨ ∃ g, v'.ownBlock = some g ∧ w3.heap.size ≤ g) : AllR w A9 L (k + 1) v' (vs ++ [.slice A2 xs.length c2]) w5 := by
  obtain ⟨a1, a2, a3, a4, a5⟩ := h
  have hl : vs.length = (chgs (L.take k)).length := by have := a3.1; rw [this]; simp [chgs]
  have hne : ∀ b, b < w3.heap.size → v.ownBlock ≠ some b → v'.ownBlock ≠ some b := fun b hb hvb2 => by
    rcases hvb with e | ⟨g, e, hg⟩
    · rw [e]; exact hvb2
    · rw [e]; intro e2; injection e2 with e2; omega
  refine ⟨hv, ?_, ?_, ?_, fun h0 => ?_⟩
  · rw [chgs_take L hk, he, rows_snoc _ _ _ _ hl]
    exact ho
  · rw [← List.take_append_getElem hk, List.map_append, he]
    refine Sls.snoc ?_ ?_ h1 h2
    · refine (a3.keep fun b hb2 => (hg.block b (Nat.lt_of_lt_of_le hb2.2.1 hb.size) (fun e => hb2.2.2 e.symm)).trans (hb.block b hb2.2.1)).imp fun b hb2 => ⟨hb2.1, Nat.lt_of_lt_of_le hb2.2.1 (Nat.le_trans hb.size hg.size), hne b (Nat.lt_of_lt_of_le hb2.2.1 hb.size) hb2.2.2⟩
    · have hvn : ∀ b, wr.heap.size ≤ b → v.ownBlock ≠ some b := fun b hb2 e => by have := (hlv b e).2; omega
      refine (hy.keep fun b hb2 => hg.block b hb2.2 (fun e => hvn b hb2.1 e.symm)).imp fun b hb2 => ⟨Nat.le_trans a4.size hb2.1, Nat.lt_of_lt_of_le hb2.2 hg.size, hne b hb2.2 (hvn b hb2.1)⟩
  · refine World.grownBy.andThen (a4.trans (grown_of_below hb)) hg ?_
    intro g e
    exact .inl (hlv g e).1
  · obtain ⟨g9, b1, b2, b3, b4⟩ := a5 h0
    refine ⟨g9, b1, Nat.lt_of_lt_of_le b2 (Nat.le_trans hb.size hg.size), hne g9 (Nat.lt_of_lt_of_le b2 hb.size) b3, fun j u hu => ?_⟩
    exact hg.cell (a := ⟨g9, j, none⟩) ((hb.cell (p := ⟨g9, j, none⟩) b2).trans (b4 j u hu)) (fun e => b3 e.symm)
set_option maxRecDepth 100000 in
set_option maxHeartbeats 4000000 in
theorem all_any {w : World} {ok : Nat → Prop} {mb n : Nat} {L : List (List UInt8 × List UInt8)} (hv : Vals w ok mb n L) (hok : ∀ b, ok b → b < w.heap.size ∧ b ≠ mb) (hn : L.length ≤ 100000) (hnm : ∀ x ∈ L, x.1.length ≤ 4096) :
    Calls Tryz.prog 44 #[.map (some mb)] w (AllE w (chgs L)) := by
  have hlen := fun ty => hv.lenrun ty
  have hmk := fun w => run_make23z (N := L.length) hn w
  have hris := hv.ris
  have HV := Lib.hid hv
  have HOK := Lib.hid hok
  have hmb := hv.lt
  obtain ⟨i0, hi, hz0, hz1, hz2⟩ := info_parts Tryz.info56
  obtain ⟨w1, hw1⟩ : ∃ w1, w1 = w.alloc (.cells (z3 L.length).toArray 56) := ⟨_, rfl⟩
  have hg1 : w.grownBy w1 none := by rw [hw1]; exact World.grownBy_alloc _ _ _
  have hv1 : Vals w1 ok mb n L := hv.keep (hg1.block _ hmb (by simp)) (fun b hb => hg1.block _ (hok b hb).1 (by simp))
  have hown1 : w1.ownsRow w.heap.size 56 3 (.slice (some ⟨w.heap.size, 0, none⟩) 0 L.length) 0 [] := by
    refine ⟨rfl, .inr ⟨w.heap.size, L.length, (z3 L.length).toArray, rfl, Nat.le_refl _, ?_, Nat.zero_le _, by unfold maxLen; omega, by simp [z3_length]; omega, by simp⟩⟩
    rw [hw1]
    exact heap_alloc_new w _
  obtain ⟨Z, hZ1, hZ2, hZ3⟩ := hv1
  have hnc := names_call hZ1 (by rw [dat_size]; have : (mapA (·.1) Z).length = L.length := by rw [hZ2]; simp [mapA]
                                 omega)
  have hkeys : strKeys (dat (mapA (·.1) Z)) = L.map (·.1) := by rw [dat_keys, hZ2]; simp [mapA]
  rw [hkeys] at hnc
  have HW1 := Lib.hid hw1
  have HRIS := Lib.hid hris
  clear hv hok hris hZ1 hZ2 hZ3 hkeys hw1
  go_enter Tryz.func44, Tryz.ntmps44
  go_wp2_with (first
    | (go_at_call 72; rw [← HW1.out]; refine (keys_call mb w1).mono ?_; rintro _ _ ⟨rfl, rfl⟩)
    | (go_at_call 71; refine hnc.mono ?_; rintro _ w2 ⟨v, ss, rfl, hp, hrow, hnil, hb2⟩; obtain ⟨A9, c9, rfl⟩ := own_shape hrow; have hsl : ss.length = L.length := by simpa using hp.length_eq
       rw [sorted_self HRIS.out hp, hsl] at hrow
       rw [hsl]
       clear hp hnil)
    | fail)
  have hR0 : AllR w A9 L 0 (.slice (some ⟨w.heap.size, 0, none⟩) 0 L.length) [] w2 := by
    have hbb : Below w1.heap.size w1 w2 := below_then (below_alloc w1 _) hb2
    refine ⟨by simp, own_up hown1 hbb, Sls.nil _ _, hg1.trans (grown_of_below hbb), fun h0 => ?_⟩
    obtain ⟨g, c, e, h1, h2, h3⟩ := row_at hrow (by simpa using h0)
    injection e with e e2 e3
    refine ⟨g, e, h2, ?_, h3⟩
    have h4 := hg1.size
    have h5 : (w1.alloc (.cells #[.map (some mb)] 71)).heap.size = w1.heap.size + 1 := by simp
    simp only [Value.ownBlock, ne_eq, Option.some.injEq]
    omega
  clear hrow hb2 hnc hown1 hsl ss
  go_loopw [3, 13] (fun u i wr => ∃ (k : Nat) (v : Value) (vs : List Value), k ≤ L.length ∧ i = .int .i64 (k : Int) ∧ v = u ∧ AllR w A9 L k v vs wr) (fun _ i _ => L.length - (intOf i).toNat)
  case atStart => exact ⟨0, _, _, Nat.zero_le _, rfl, rfl, hR0⟩
  case round =>
    clear hR0
    obtain ⟨k, v, vs, hk, rfl, hvu, hR⟩ := hrel
    subst hvu
    have HR := Lib.hid hR
    obtain ⟨a1, a2, a3, a4, a5⟩ := hR
    by_cases hlt : k < L.length
    · obtain ⟨g9, rfl, b2, b3, b4⟩ := a5 (by omega)
      obtain ⟨nm, xs, hnx⟩ : ∃ nm xs, L[k] = (nm, xs) := ⟨_, _, rfl⟩
      have q0 : wr.cell? ⟨g9, k, none⟩ = some (.string ⟨nm.toArray⟩) := b4 k _ (by rw [List.getElem?_map, List.getElem?_map, List.getElem?_eq_getElem hlt, hnx]; rfl)
      have hvr : Vals wr ok mb n L := HV.out.keep (a4.block _ hmb (by simp)) (fun b hb => a4.block _ (HOK.out b hb).1 (by simp))
      obtain ⟨A3, xs3, c3, hlk, hx3, l3, m3, v3, y3⟩ := hvr.look (k := nm) (by have := hnm _ (List.getElem_mem hlt); rw [hnx] at this; unfold maxLen; simp only at this; omega) false
      have hget : getA nm L = some xs := by have := getA_mem HRIS.out (List.getElem_mem hlt); rw [hnx] at this; exact this
      rw [hget] at hx3
      have hx3' : xs3 = xs := hx3
      subst hx3'
      rw [if_neg (by decide)] at hlk
      have hcl := clone_any (c := c3) y3 (fun b hb => Nat.lt_of_lt_of_le (HOK.out b hb).1 a4.size) (by omega)
      have hlv : ∀ g, v.ownBlock = some g → w.heap.size ≤ g ∧ g < wr.heap.size := fun g hg => a2.lt g hg
      have HLV := Lib.hid hlv
      have HNX := Lib.hid hnx
      have HA2 := Lib.hid a2
      have hlt3 : k < L.length := hlt
      have hws := a4.size
      clear a1 a2 a3 a4 a5 b3 b4 hvr hx3 hget hlv hnx y3
      go_wp2_with (first
        | (go_at_call 47; refine hcl.mono ?_; rintro _ w3 ⟨A2, c2, rfl, l2, m2, y2, hb3⟩; have hbs3 := hb3.size
           have ho4 := (own_up HA2.out hb3).alloc (.cells #[.string ⟨nm.toArray⟩, .slice A2 xs3.length c2, .bool false] 56))
        | (at_builtin; refine wpList_append_own_at _ rfl _ _ 36 rfl w.heap.size 56 i0 _ 3 48 Tryz.underlying36 hi hz0 hz1 hz2 rfl (by decide) v k _ rfl ho4 ⟨w3.heap.size, 0, none⟩ 1 1 [.string ⟨nm.toArray⟩, .slice A2 xs3.length c2, .bool false] rfl rfl (fun j u hu => by rw [Addr.add_lit, Nat.zero_add]; exact (Blk.of_alloc w3 #[.string ⟨nm.toArray⟩, .slice A2 xs3.length c2, .bool false] 56).get j u hu) (by simp [Value.oneCell']) (by unfold maxLen; omega) (by omega) (by simp; omega) ?_; intro v5 w5 ho5 hg5 hn5 hv5)
        | fail)
      go_roundw
      case rel =>
        refine ⟨k + 1, v5, vs ++ [.slice A2 xs3.length c2], by omega, by go_num, rfl, ?_⟩
        have hgb : w3.grownBy (w3.alloc (.cells #[.string ⟨nm.toArray⟩, .slice A2 xs3.length c2, .bool false] 56)) v.ownBlock := World.grownBy_alloc _ _ _
        exact HR.out.step hlt3 HNX.out hb3 y2 l2 m2 (fun e => by have := hn5.1 e; simp at this) ho5 (hgb.trans hg5) HLV.out (hv5.imp id fun e => ⟨_, e, by simp⟩)
      case measure => simp [intOf]; omega
    · obtain rfl : k = L.length := by omega
      rw [List.take_length] at a2 a3
      have hl : vs.length = (chgs L).length := by have := a3.1; rw [this]; simp [chgs]
      obtain ⟨g, c, rfl, h1, h2, h3, h4, h5⟩ := own_form3 a2 a1
      clear a1 a2 a5 HR
      go_wp2
      go_ret
      have hcl : (chgs L).length = L.length := by simp [chgs]
      refine ⟨g, c, by rw [hcl]; rfl, by rw [hcl]; exact h1, h2, fun j hj => ?_, a4⟩
      obtain ⟨A, cp, e1, e2, e3, e4⟩ := a3.2 j (by simpa [chgs] using hj)
      simp only [List.getElem_map] at e1 e2 e4
      have hval : (chgs L)[j].val = (L[j]'(by rw [hcl] at hj; exact hj)).2 := by simp [chgs]
      rw [← hval] at e1 e2 e4
      refine ⟨g, 0, A, cp, rfl, ⟨h3, h4⟩, fun i u hu => ?_, e2, e3, ?_, e4.imp fun b hb => ⟨hb.1, hb.2.1⟩⟩
      · rw [Nat.zero_add]
        exact h5 _ _ (rows_get _ _ hl j hj i u _ e1 hu)
      · have := hnm (L[j]'(by rw [hcl] at hj; exact hj)) (List.getElem_mem _)
        simp only [chgs, List.getElem_map]
        unfold maxLen; omega
end Go.Proofs.YtonpcenjipigpaaGreat
