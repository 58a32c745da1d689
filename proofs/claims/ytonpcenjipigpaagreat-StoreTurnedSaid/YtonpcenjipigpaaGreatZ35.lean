/- bytes.Clone, Get and All once more: what they answer may be written over. Conditions: as there. -/
import Derived.Test.YtonpcenjipigpaaGreatZ34
namespace Go.Proofs.YtonpcenjipigpaaGreat
open Go.RowKit
/-- A slice that begins with its block, which may be written. -/
def Wrb (w : World) (ok : Nat → Prop) (A : Option Addr) (n : Nat) : Prop := n = 0 ∨ ∃ g cs, A = some ⟨g, 0, none⟩ ∧ ok g ∧ Blk w g 5 cs ∧ n ≤ cs.length
/-- Bytes that may be written over. -/
def Byw (w : World) (ok : Nat → Prop) (A : Option Addr) (xs : List UInt8) : Prop := Byt w ok A xs ∧ Wrb w ok A xs.length
section
variable {w w' : World} {ok ok' : Nat → Prop} {A : Option Addr} {xs : List UInt8} {n : Nat}
theorem Wrb.keep (h : Wrb w ok A n) (hk : ∀ b, ok b → w'.heap[b]? = w.heap[b]?) : Wrb w' ok A n := h.imp id fun ⟨g, cs, h1, h2, h3, h4⟩ => ⟨g, cs, h1, h2, h3.keep (hk g h2), h4⟩
theorem Wrb.imp (h : Wrb w ok A n) (hi : ∀ b, ok b → ok' b) : Wrb w ok' A n := Or.imp id (fun ⟨g, cs, h1, h2, h3, h4⟩ => ⟨g, cs, h1, hi _ h2, h3, h4⟩) h
theorem Byw.keep (h : Byw w ok A xs) (hk : ∀ b, ok b → w'.heap[b]? = w.heap[b]?) : Byw w' ok A xs := ⟨h.1.keep hk, h.2.keep hk⟩
theorem Byw.imp (h : Byw w ok A xs) (hi : ∀ b, ok b → ok' b) : Byw w ok' A xs := ⟨Byt.imp h.1 hi, Wrb.imp h.2 hi⟩
theorem Byw.nil : Byw w ok none [] := ⟨Byt.nil, .inl rfl⟩
end
theorem byw_of_own {w : World} {base n c : Nat} {A : Option Addr} {xs : List UInt8} {ok : Nat → Prop} (hv : n = xs.length) (h : (.slice A xs.length c = Value.slice none 0 0 ∧ n = 0) ∨ ∃ g cap cur, Value.slice A xs.length c = .slice (some ⟨g, 0, none⟩) n cap ∧ base ≤ g ∧ w.heap[g]? = some (.cells cur 5 (0, 0)) ∧ n ≤ cap ∧ cap ≤ maxLen ∧ cur.size = cap * 1 ∧ cur.toList.take (n * 1) = u8s xs) (hy : Byt w ok A xs) : Byw w ok A xs := by
  refine ⟨hy, ?_⟩
  by_cases h0 : xs.length = 0
  · exact .inl h0
  · rcases h with ⟨e, -⟩ | ⟨g, cap, cur, e, -, hg, h1, -, h2, -⟩
    · injection e with e1 e2 e3; omega
    · injection e with e1 e2 e3; subst e1
      obtain ⟨ad, e, h3, -⟩ := hy 0 (by omega)
      cases e
      exact .inr ⟨g, cur.toList, rfl, h3, by simpa [Blk] using hg, by have hcs : cur.toList.length = cur.size := Array.length_toList; omega⟩
/-- In new memory lies just xs, and may be written over. -/
def NewW (w : World) (xs : List UInt8) (e : Ending) (w' : World) : Prop :=
  ∃ A c, e = .returned (.slice A xs.length c) ∧ xs.length ≤ c ∧ c ≤ maxLen ∧ Byw w' (fun b => w.heap.size ≤ b ∧ b < w'.heap.size) A xs ∧ Below w.heap.size w w'
set_option maxHeartbeats 400000 in
theorem clone_w {w : World} {ok : Nat → Prop} {A : Option Addr} {xs : List UInt8} {c : Nat} (hx : Byt w ok A xs) (hok : ∀ b, ok b → b < w.heap.size) (hl : xs.length ≤ 1099511627776) :
    Calls Tryz.prog 47 #[.slice A xs.length c] w (NewW w xs) := by
  rcases A with _ | ad
  · have : xs = [] := by
      rcases xs with _ | ⟨x, xs⟩
      · rfl
      · obtain ⟨_, e, _⟩ := hx 0 (by simp)
        cases e
    subst this
    have r1 := fun w : World => Lib.run_eql_slice_nil (P := Tryz.prog) w 40 5 none 0 c 0 0 Tryz.underlying40
    simp only [List.length_nil]
    go_enter Tryz.func47, Tryz.ntmps47
    go_wp2
    go_ret
    exact ⟨none, 0, rfl, Nat.le_refl _, by unfold maxLen; omega, Byw.nil, Below.refl _ _⟩
  · obtain ⟨i0, hi, hz0, hz1, hz2⟩ := info_parts Tryz.info5
    have hx1 : Byt (w.alloc (.cells #[] 5)) ok (some ad) xs := hx.below (Below.alloc (Below.refl w.heap.size w) (Nat.le_refl _) _) hok
    have r1 := fun w : World => Lib.run_eql_slice_nil (P := Tryz.prog) w 40 5 (some ad) xs.length c 0 0 Tryz.underlying40
    go_enter Tryz.func47, Tryz.ntmps47
    go_wp2_with (at_builtin; refine wpList_append_byt _ rfl _ _ 40 rfl w.heap.size i0 (.int .u8 0) Tryz.underlying40 hi hz0 hz1 hz2 rfl _ 0 [] rfl (World.ownsRow_lit w #[] 0 (Nat.le_refl _) (Nat.zero_le _) rfl) ok (some ad) _ xs rfl hx1 ?c1 ?c2 ?_)
    case c1 => omega
    case c2 => simp
    intro v' w1 hown hgrow hat
    have hown' : w1.ownsRow w.heap.size 5 1 v' xs.length (u8s xs) := by simpa using hown
    clear hown
    have hw1 := hown'.2
    obtain ⟨A', c', rfl, _, h1, h2, h3⟩ := own_form hown'
    have hbw := byw_of_own rfl hw1 h3
    clear hw1
    go_wp2
    go_ret
    refine ⟨A', c', rfl, h1, h2, hbw.imp fun b hb => hb.2, ?_⟩
    refine (((Below.refl _ _).alloc (Nat.le_refl _) _).grown hgrow (by simp) ?_)
    intro k hk
    simp [Value.ownBlock] at hk
    omega
/-- What Get answers. -/
def GetW (w : World) (x : Option (List UInt8)) (e : Ending) (w' : World) : Prop := ∃ A c, e = .returned (.tuple #[.slice A (x.getD []).length c, .bool x.isSome]) ∧ (x.getD []).length ≤ c ∧ c ≤ maxLen ∧ Byw w' (fun b => w.heap.size ≤ b ∧ b < w'.heap.size) A (x.getD []) ∧ Below w.heap.size w w'
theorem get_w {w : World} {fs : Nat → Prop} {sp dp : Nat} {t : Ste} (h : Stm w fs sp dp t) (k : List UInt8) (hk : k.length ≤ maxLen) : Calls Tryz.prog 20 #[.pointer (some ⟨sp, 0, none⟩), .string ⟨k.toArray⟩] w (GetW w (getA k t.L)) := by
  obtain ⟨mb, h1, h2, h3, h4, h5, h6⟩ := h
  have c5 : w.cell? ⟨sp, 5, none⟩ = some (.map (some mb)) := h1.get 5 _ rfl
  obtain ⟨A, xs, cp, hlk, hx, l1, m1, v1, y1⟩ := h2.look hk true
  rw [if_pos rfl] at hlk
  have hcl := clone_w (c := cp) y1 (fun b hb => h6 b hb.1) (by omega)
  obtain ⟨x, hxx⟩ : ∃ x, x = getA k t.L := ⟨_, rfl⟩
  rw [← hxx] at hlk hx ⊢
  have HX := Lib.hid hx
  clear h1 h2 h3 h4 h5 h6 hx hxx y1
  go_enter Tryz.func20, Tryz.ntmps20
  go_wp2_with (go_at_call 47; refine hcl.mono ?_; rintro _ w2 ⟨A2, c2, rfl, l2, m2, y2, hb2⟩)
  refine bodyPost_ret (results_tmp2 rfl _ _ _) rfl ?_
  unfold GetW
  rw [← HX.out]
  exact ⟨A2, c2, rfl, l2, m2, y2, hb2⟩
/-- Slices of bytes that may be written over. -/
def Slw (w : World) (ok : Nat → Prop) (vs : List Value) (ps : List (List UInt8)) : Prop := Sls w ok vs ps ∧ ∀ (j : Nat) A n c, vs[j]? = some (.slice A n c) → Wrb w ok A n
section
variable {w w' : World} {ok ok' : Nat → Prop} {vs : List Value} {ps : List (List UInt8)}
theorem Slw.nil (w : World) (ok : Nat → Prop) : Slw w ok [] [] := ⟨Sls.nil w ok, fun j A n c h => by simp at h⟩
theorem Slw.keep (h : Slw w ok vs ps) (hk : ∀ b, ok b → w'.heap[b]? = w.heap[b]?) : Slw w' ok vs ps := ⟨h.1.keep hk, fun j A n c hj => (h.2 j A n c hj).keep hk⟩
theorem Slw.imp (h : Slw w ok vs ps) (hi : ∀ b, ok b → ok' b) : Slw w ok' vs ps := ⟨Sls.imp h.1 hi, fun j A n c hj => Wrb.imp (h.2 j A n c hj) hi⟩
theorem Slw.snoc {A : Option Addr} {c : Nat} {p : List UInt8} (h : Slw w ok vs ps) (hb : Byw w ok A p) (hc : p.length ≤ c) (hm : c ≤ maxLen) : Slw w ok (vs ++ [.slice A p.length c]) (ps ++ [p]) := by
  refine ⟨h.1.snoc hb.1 hc hm, fun j A' n c' hj => ?_⟩
  by_cases hlt : j < vs.length
  · rw [List.getElem?_append_left hlt] at hj
    exact h.2 j _ _ _ hj
  · rw [List.getElem?_append_right (by omega)] at hj
    have h0 : j - vs.length = 0 := by
      rcases Nat.eq_zero_or_pos (j - vs.length) with h0 | h0
      · exact h0
      · rw [List.getElem?_eq_none (by simp; omega)] at hj; cases hj
    rw [h0] at hj
    cases hj
    exact hb.2
end
/-- A list of changes in new memory, whose values may be written over. -/
def AllW (w : World) (l : List Chg) (e : Ending) (w' : World) : Prop := ∃ g c, e = .returned (.slice (some ⟨g, 0, none⟩) l.length c) ∧ l.length ≤ c ∧ c ≤ maxLen ∧ Chs w' (fun b => w.heap.size ≤ b ∧ b < w'.heap.size) (some ⟨g, 0, none⟩) l ∧
  (∀ j (h : j < l.length), ∃ A c, w'.cell? ⟨g, j * 3 + 1, none⟩ = some (.slice A l[j].val.length c) ∧ (l[j].val.length = 0 ∨ ∃ g2 cs, A = some ⟨g2, 0, none⟩ ∧ w.heap.size ≤ g2 ∧ g2 ≠ g ∧ Blk w' g2 5 cs ∧ l[j].val.length ≤ cs.length)) ∧ w.grownBy w' none
/-- What holds at the head of a round of 'all'. -/
def AllV (w : World) (A9 : Option Addr) (L : List (List UInt8 × List UInt8)) (k : Nat) (v : Value) (vs : List Value) (wr : World) : Prop :=
  v ≠ .slice none 0 0 ∧ wr.ownsRow w.heap.size 56 3 v k (rows (chgs (L.take k)) vs) ∧ Slw wr (fun b => w.heap.size ≤ b ∧ b < wr.heap.size ∧ v.ownBlock ≠ some b) vs ((L.take k).map (·.2)) ∧ w.grownBy wr none ∧
    (0 < L.length → ∃ g9, A9 = some ⟨g9, 0, none⟩ ∧ g9 < wr.heap.size ∧ v.ownBlock ≠ some g9 ∧ ∀ j u, ((L.map (·.1)).map encStr)[j]? = some u → wr.cell? ⟨g9, j, none⟩ = some u)
theorem AllV.step {w wr w3 w5 : World} {A9 A2 : Option Addr} {L : List (List UInt8 × List UInt8)} {k c2 : Nat} {v v' : Value} {vs : List Value} {nm xs : List UInt8} (h : AllV w A9 L k v vs wr) (hk : k < L.length) (he : L[k] = (nm, xs)) (hb : Below wr.heap.size wr w3)
    (hy : Byw w3 (fun b => wr.heap.size ≤ b ∧ b < w3.heap.size) A2 xs) (h1 : xs.length ≤ c2) (h2 : c2 ≤ maxLen) (hv : v' ≠ .slice none 0 0)
    (ho : w5.ownsRow w.heap.size 56 3 v' (k + 1) (rows (chgs (L.take k)) vs ++ ccells ⟨nm, xs, false⟩ (.slice A2 xs.length c2)))
    (hg : w3.grownBy w5 v.ownBlock) (hlv : ∀ g, v.ownBlock = some g → w.heap.size ≤ g ∧ g < wr.heap.size) (hvb : v'.ownBlock = v.ownBlock ∨ ∃ g, v'.ownBlock = some g ∧ w3.heap.size ≤ g) : AllV w A9 L (k + 1) v' (vs ++ [.slice A2 xs.length c2]) w5 := by
  obtain ⟨a1, a2, a3, a4, a5⟩ := h
  have hl : vs.length = (chgs (L.take k)).length := by have := a3.1.1; rw [this]; simp [chgs]
  have hne : ∀ b, b < w3.heap.size → v.ownBlock ≠ some b → v'.ownBlock ≠ some b := fun b hb hvb2 => by
    rcases hvb with e | ⟨g, e, hg⟩
    · rw [e]; exact hvb2
    · rw [e]; intro e2; injection e2 with e2; omega
  refine ⟨hv, ?_, ?_, ?_, fun h0 => ?_⟩
  · rw [chgs_take L hk, he, rows_snoc _ _ _ _ hl]
    exact ho
  · rw [← List.take_append_getElem hk, List.map_append, he]
    refine Slw.snoc ?_ ?_ h1 h2
    · refine (a3.keep fun b hb2 => (hg.block b (Nat.lt_of_lt_of_le hb2.2.1 hb.size) (fun e => hb2.2.2 e.symm)).trans (hb.block b hb2.2.1)).imp fun b hb2 => ⟨hb2.1, Nat.lt_of_lt_of_le hb2.2.1 (Nat.le_trans hb.size hg.size), hne b (Nat.lt_of_lt_of_le hb2.2.1 hb.size) hb2.2.2⟩
    · have hvn : ∀ b, wr.heap.size ≤ b → v.ownBlock ≠ some b := fun b hb2 e => by have := (hlv b e).2; omega
      refine (hy.keep fun b hb2 => hg.block b hb2.2 (fun e => hvn b hb2.1 e.symm)).imp fun b hb2 => ⟨Nat.le_trans a4.size hb2.1, Nat.lt_of_lt_of_le hb2.2 hg.size, hne b hb2.2 (hvn b hb2.1)⟩
  · refine World.grownBy.andThen (a4.trans (grown_of_below hb)) hg ?_
    intro g e
    exact .inl (hlv g e).1
  · obtain ⟨g9, b1, b2, b3, b4⟩ := a5 h0
    refine ⟨g9, b1, Nat.lt_of_lt_of_le b2 (Nat.le_trans hb.size hg.size), hne g9 (Nat.lt_of_lt_of_le b2 hb.size) b3, fun j u hu => ?_⟩
    exact hg.cell (a := ⟨g9, j, none⟩) ((hb.cell (p := ⟨g9, j, none⟩) b2).trans (b4 j u hu)) (fun e => b3 e.symm)
set_option maxRecDepth 100000 in
set_option maxHeartbeats 4000000 in
theorem all_w {w : World} {ok : Nat → Prop} {mb n : Nat} {L : List (List UInt8 × List UInt8)} (hv : Vals w ok mb n L) (hok : ∀ b, ok b → b < w.heap.size ∧ b ≠ mb) (hn : L.length ≤ 100000) (hnm : ∀ x ∈ L, x.1.length ≤ 4096) :
    Calls Tryz.prog 44 #[.map (some mb)] w (AllW w (chgs L)) := by
  have hlen := fun ty => hv.lenrun ty
  have hmk := fun w => run_make23z (N := L.length) hn w
  have hris := hv.ris
  have HV := Lib.hid hv
  have HOK := Lib.hid hok
  have hmb := hv.lt
  obtain ⟨i0, hi, hz0, hz1, hz2⟩ := info_parts Tryz.info56
  obtain ⟨w1, hw1⟩ : ∃ w1, w1 = w.alloc (.cells (z3 L.length).toArray 56) := ⟨_, rfl⟩
  have hg1 : w.grownBy w1 none := by rw [hw1]; exact World.grownBy_alloc _ _ _
  have hv1 : Vals w1 ok mb n L := hv.keep (hg1.block _ hmb (by simp)) (fun b hb => hg1.block _ (hok b hb).1 (by simp))
  have hown1 : w1.ownsRow w.heap.size 56 3 (.slice (some ⟨w.heap.size, 0, none⟩) 0 L.length) 0 [] := by
    refine ⟨rfl, .inr ⟨w.heap.size, L.length, (z3 L.length).toArray, rfl, Nat.le_refl _, ?_, Nat.zero_le _, by unfold maxLen; omega, by simp [z3_length]; omega, by simp⟩⟩
    rw [hw1]
    exact heap_alloc_new w _
  obtain ⟨Z, hZ1, hZ2, hZ3⟩ := hv1
  have hnc := names_call hZ1 (by rw [dat_size]; have : (mapA (·.1) Z).length = L.length := by rw [hZ2]; simp [mapA]
                                 omega)
  have hkeys : strKeys (dat (mapA (·.1) Z)) = L.map (·.1) := by rw [dat_keys, hZ2]; simp [mapA]
  rw [hkeys] at hnc
  have HW1 := Lib.hid hw1
  have HRIS := Lib.hid hris
  clear hv hok hris hZ1 hZ2 hZ3 hkeys hw1
  go_enter Tryz.func44, Tryz.ntmps44
  go_wp2_with (first
    | (go_at_call 72; rw [← HW1.out]; refine (keys_call mb w1).mono ?_; rintro _ _ ⟨rfl, rfl⟩)
    | (go_at_call 71; refine hnc.mono ?_; rintro _ w2 ⟨v, ss, rfl, hp, hrow, hnil, hb2⟩; obtain ⟨A9, c9, rfl⟩ := own_shape hrow; have hsl : ss.length = L.length := by simpa using hp.length_eq
       rw [sorted_self HRIS.out hp, hsl] at hrow
       rw [hsl]
       clear hp hnil)
    | fail)
  have hR0 : AllV w A9 L 0 (.slice (some ⟨w.heap.size, 0, none⟩) 0 L.length) [] w2 := by
    have hbb : Below w1.heap.size w1 w2 := below_then (below_alloc w1 _) hb2
    refine ⟨by simp, own_up hown1 hbb, Slw.nil _ _, hg1.trans (grown_of_below hbb), fun h0 => ?_⟩
    obtain ⟨g, c, e, h1, h2, h3⟩ := row_at hrow (by simpa using h0)
    injection e with e e2 e3
    refine ⟨g, e, h2, ?_, h3⟩
    have h4 := hg1.size
    have h5 : (w1.alloc (.cells #[.map (some mb)] 71)).heap.size = w1.heap.size + 1 := by simp
    simp only [Value.ownBlock, ne_eq, Option.some.injEq]
    omega
  clear hrow hb2 hnc hown1 hsl ss
  go_loopw [3, 13] (fun u i wr => ∃ (k : Nat) (v : Value) (vs : List Value), k ≤ L.length ∧ i = .int .i64 (k : Int) ∧ v = u ∧ AllV w A9 L k v vs wr) (fun _ i _ => L.length - (intOf i).toNat)
  case atStart => exact ⟨0, _, _, Nat.zero_le _, rfl, rfl, hR0⟩
  case round =>
    clear hR0
    obtain ⟨k, v, vs, hk, rfl, hvu, hR⟩ := hrel
    subst hvu
    have HR := Lib.hid hR
    obtain ⟨a1, a2, a3, a4, a5⟩ := hR
    by_cases hlt : k < L.length
    · obtain ⟨g9, rfl, b2, b3, b4⟩ := a5 (by omega)
      obtain ⟨nm, xs, hnx⟩ : ∃ nm xs, L[k] = (nm, xs) := ⟨_, _, rfl⟩
      have q0 : wr.cell? ⟨g9, k, none⟩ = some (.string ⟨nm.toArray⟩) := b4 k _ (by rw [List.getElem?_map, List.getElem?_map, List.getElem?_eq_getElem hlt, hnx]; rfl)
      have hvr : Vals wr ok mb n L := HV.out.keep (a4.block _ hmb (by simp)) (fun b hb => a4.block _ (HOK.out b hb).1 (by simp))
      obtain ⟨A3, xs3, c3, hlk, hx3, l3, m3, v3, y3⟩ := hvr.look (k := nm) (by have := hnm _ (List.getElem_mem hlt); rw [hnx] at this; unfold maxLen; simp only at this; omega) false
      have hget : getA nm L = some xs := by have := getA_mem HRIS.out (List.getElem_mem hlt); rw [hnx] at this; exact this
      rw [hget] at hx3
      have hx3' : xs3 = xs := hx3
      subst hx3'
      rw [if_neg (by decide)] at hlk
      have hcl := clone_w (c := c3) y3 (fun b hb => Nat.lt_of_lt_of_le (HOK.out b hb).1 a4.size) (by omega)
      have hlv : ∀ g, v.ownBlock = some g → w.heap.size ≤ g ∧ g < wr.heap.size := fun g hg => a2.lt g hg
      have HLV := Lib.hid hlv
      have HNX := Lib.hid hnx
      have HA2 := Lib.hid a2
      have hlt3 : k < L.length := hlt
      have hws := a4.size
      clear a1 a2 a3 a4 a5 b3 b4 hvr hx3 hget hlv hnx y3
      go_wp2_with (first
        | (go_at_call 47; refine hcl.mono ?_; rintro _ w3 ⟨A2, c2, rfl, l2, m2, y2, hb3⟩; have hbs3 := hb3.size
           have ho4 := (own_up HA2.out hb3).alloc (.cells #[.string ⟨nm.toArray⟩, .slice A2 xs3.length c2, .bool false] 56))
        | (at_builtin; refine wpList_append_own_at _ rfl _ _ 36 rfl w.heap.size 56 i0 _ 3 48 Tryz.underlying36 hi hz0 hz1 hz2 rfl (by decide) v k _ rfl ho4 ⟨w3.heap.size, 0, none⟩ 1 1 [.string ⟨nm.toArray⟩, .slice A2 xs3.length c2, .bool false] rfl rfl (fun j u hu => by rw [Addr.add_lit, Nat.zero_add]; exact (Blk.of_alloc w3 #[.string ⟨nm.toArray⟩, .slice A2 xs3.length c2, .bool false] 56).get j u hu) (by simp [Value.oneCell']) (by unfold maxLen; omega) (by omega) (by simp; omega) ?_; intro v5 w5 ho5 hg5 hn5 hv5)
        | fail)
      go_roundw
      case rel =>
        refine ⟨k + 1, v5, vs ++ [.slice A2 xs3.length c2], by omega, by go_num, rfl, ?_⟩
        have hgb : w3.grownBy (w3.alloc (.cells #[.string ⟨nm.toArray⟩, .slice A2 xs3.length c2, .bool false] 56)) v.ownBlock := World.grownBy_alloc _ _ _
        exact HR.out.step hlt3 HNX.out hb3 y2 l2 m2 (fun e => by have := hn5.1 e; simp at this) ho5 (hgb.trans hg5) HLV.out (hv5.imp id fun e => ⟨_, e, by simp⟩)
      case measure => simp [intOf]; omega
    · obtain rfl : k = L.length := by omega
      rw [List.take_length] at a2 a3
      have hl : vs.length = (chgs L).length := by have := a3.1.1; rw [this]; simp [chgs]
      obtain ⟨g, c, rfl, h1, h2, h3, h4, h5⟩ := own_form3 a2 a1
      clear a1 a2 a5 HR
      go_wp2
      go_ret
      have hcl : (chgs L).length = L.length := by simp [chgs]
      refine ⟨g, c, by rw [hcl]; rfl, by rw [hcl]; exact h1, h2, fun j hj => ?_, fun j hj => ?_, a4⟩
      rotate_left
      · obtain ⟨A, cp, e1, e2, e3, e4⟩ := a3.1.2 j (by simpa [chgs] using hj)
        have hcw := a3.2 j _ _ _ e1
        simp only [List.getElem_map] at e1 hcw
        have hval : (chgs L)[j].val = (L[j]'(by rw [hcl] at hj; exact hj)).2 := by simp [chgs]
        rw [← hval] at e1 hcw
        refine ⟨A, cp, h5 _ _ (rows_get _ _ hl j hj 1 _ _ e1 rfl), ?_⟩
        rcases hcw with h0 | ⟨g2, cs, rfl, ⟨k1, k2, k3⟩, k4, k5⟩
        · exact .inl h0
        · exact .inr ⟨g2, cs, rfl, k1, fun e => k3 (by rw [e]; rfl), k4, k5⟩
      obtain ⟨A, cp, e1, e2, e3, e4⟩ := a3.1.2 j (by simpa [chgs] using hj)
      simp only [List.getElem_map] at e1 e2 e4
      have hval : (chgs L)[j].val = (L[j]'(by rw [hcl] at hj; exact hj)).2 := by simp [chgs]
      rw [← hval] at e1 e2 e4
      refine ⟨g, 0, A, cp, rfl, ⟨h3, h4⟩, fun i u hu => ?_, e2, e3, ?_, e4.imp fun b hb => ⟨hb.1, hb.2.1⟩⟩
      · rw [Nat.zero_add]
        exact h5 _ _ (rows_get _ _ hl j hj i u _ e1 hu)
      · have := hnm (L[j]'(by rw [hcl] at hj; exact hj)) (List.getElem_mem _)
        simp only [chgs, List.getElem_map]
        unfold maxLen; omega
theorem all_stw {w : World} {fs : Nat → Prop} {sp dp : Nat} {t : Ste} (h : Stm w fs sp dp t) (hl : t.L.length ≤ 64) : Calls Tryz.prog 16 #[.pointer (some ⟨sp, 0, none⟩)] w (AllW w (chgs t.L)) := by
  obtain ⟨mb, h1, h2, h3, h4, h5, h6⟩ := h
  have c5 : w.cell? ⟨sp, 5, none⟩ = some (.map (some mb)) := h1.get 5 _ rfl
  have hall := all_w h2 (fun b hb => ⟨h6 b hb.1, hb.2⟩) (by omega) (fun x hx => Nat.le_trans (h2.names x hx).1 (by decide))
  clear h1 h2 h3 h4 h5 h6
  go_enter Tryz.func16, Tryz.ntmps16
  go_wp2_with (go_at_call 44; refine hall.mono ?_; rintro _ w2 ⟨g, c, rfl, hx⟩)
  go_ret
  exact ⟨g, c, rfl, hx⟩
end Go.Proofs.YtonpcenjipigpaaGreat
