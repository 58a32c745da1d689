/- Changes in memory; which are wrong; their payload. Conditions: names and values as long as they may be. -/
import Derived.Test.YtonpcenjipigpaaGreatZ14
import Derived.Test.YtonpcenjipigpaaGreatZ8
import Derived.Laws.IdiomStrings
namespace Go.Proofs.YtonpcenjipigpaaGreat
open Go.RowKit
/-- A change. -/
structure Chg where
  name : List UInt8
  val : List UInt8
  gone : Bool
/-- Why a change may not be. -/
def Chg.err (c : Chg) : Nat := if c.name = [] ∨ 32 < c.name.length ∨ (c.gone = true ∧ 0 < c.val.length) then 1 else if 4000 < c.val.length then 5 else 0
/-- Bytes as a string. -/
def strV (xs : List UInt8) : Value := .string ⟨xs.toArray⟩
/-- A change's cells. -/
def ccells (c : Chg) (v : Value) : List Value := [strV c.name, v, .bool c.gone]
/-- A list of changes lies at A, in blocks that are 'ok'. -/
def Chs (w : World) (ok : Nat → Prop) (A : Option Addr) (l : List Chg) : Prop :=
  ∀ j (h : j < l.length), ∃ b o A' c', A = some ⟨b, o, none⟩ ∧ ok b ∧ w.rangeAt b (o + j * 3) (ccells l[j] (.slice A' l[j].val.length c')) ∧ l[j].val.length ≤ c' ∧ c' ≤ maxLen ∧ l[j].name.length ≤ maxLen ∧ Byt w ok A' l[j].val
section
variable {w w' : World} {ok ok' : Nat → Prop} {A : Option Addr} {l : List Chg}
theorem rangeAt_keep {b o : Nat} {cs : List Value} (h : w.rangeAt b o cs) (hk : w'.heap[b]? = w.heap[b]?) : w'.rangeAt b o cs := fun j u hu => (World.cell?_of_block (a := ⟨b, o + j, none⟩) hk).trans (h j u hu)
theorem Chs.keep (h : Chs w ok A l) (hk : ∀ b, ok b → w'.heap[b]? = w.heap[b]?) : Chs w' ok A l := fun j hj => by
  obtain ⟨b, o, A', c', h1, h2, h3, h4, h5, h6, h7⟩ := h j hj
  exact ⟨b, o, A', c', h1, h2, rangeAt_keep h3 (hk b h2), h4, h5, h6, h7.keep hk⟩
theorem Chs.imp (h : Chs w ok A l) (hi : ∀ b, ok b → ok' b) : Chs w ok' A l := fun j hj => by
  obtain ⟨b, o, A', c', h1, h2, h3, h4, h5, h6, h7⟩ := h j hj
  exact ⟨b, o, A', c', h1, hi _ h2, h3, h4, h5, h6, h7.imp hi⟩
theorem Chs.below {B : Nat} (h : Chs w ok A l) (hb : Below B w w') (hok : ∀ b, ok b → b < B) : Chs w' ok A l := h.keep fun b hbb => hb.block b (hok b hbb)
theorem Chs.nil : Chs w ok A [] := fun _ h => absurd h (by simp)
end
theorem size42 : (Tryz.prog.info? 56).map (·.size) = some 3 := by kernel_rfl
theorem wrong_any (w : World) (c : Chg) (A : Option Addr) (n cp : Nat) (hn : c.val.length = n) (hm : n ≤ maxLen) (hnm : c.name.length ≤ maxLen) :
    Calls Tryz.prog 38 #[.agg (ccells c (.slice A n cp)).toArray] w fun e w' => e = .returned (.int .i64 (c.err : Nat)) ∧ w.grownBy w' none := by
  obtain ⟨nm, vl, gn⟩ := c
  simp only at hn hnm
  have hg1 := World.grownBy_alloc w (.cells #[.string ⟨nm.toArray⟩, .slice A n cp, .bool gn] 56) none
  unfold maxLen at hm hnm
  simp only [ccells, strV]
  obtain ⟨E, hE⟩ : ∃ E, E = (Chg.mk nm vl gn).err := ⟨_, rfl⟩
  rw [← hE]
  by_cases h0 : nm = []
  · have he : nm.isEmpty = true := by simp [h0]
    have hEE : E = 1 := by rw [hE, Chg.err, if_pos (.inl h0)]
    clear hE h0
    subst hEE
    go_enter Tryz.func38, Tryz.ntmps38
    go_wp2
    all_goals first | (go_ret; exact ⟨rfl, hg1⟩) | simp_all
  · have he : nm.isEmpty = false := by simpa using h0
    by_cases h1 : 32 < nm.length
    · have hEE : E = 1 := by rw [hE, Chg.err, if_pos (.inr (.inl h1))]
      have d1 : decide (32 < (nm.length : Int)) = true := decide_eq_true (by omega)
      clear hE h0
      subst hEE
      go_enter Tryz.func38, Tryz.ntmps38
      go_wp2
      go_ret
      exact ⟨rfl, hg1⟩
    · have d1 : decide (32 < (nm.length : Int)) = false := decide_eq_false (by omega)
      cases gn with
      | true =>
        by_cases h2 : 0 < n
        · have hEE : E = 1 := by rw [hE, Chg.err, if_pos (.inr (.inr ⟨rfl, by rw [hn]; exact h2⟩))]
          have d2 : decide (0 < (n : Int)) = true := decide_eq_true (by omega)
          clear hE h0
          subst hEE
          go_enter Tryz.func38, Tryz.ntmps38
          go_wp2
          go_ret
          exact ⟨rfl, hg1⟩
        · have hEE : E = 0 := by rw [hE, Chg.err, if_neg (by simp only [hn]; intro hc; rcases hc with hc | hc | hc; exact h0 hc; exact h1 hc; exact h2 hc.2), if_neg (by simp only [hn]; omega)]
          have d2 : decide (0 < (n : Int)) = false := decide_eq_false (by omega)
          have d3 : decide (4000 < (n : Int)) = false := decide_eq_false (by omega)
          clear hE h0
          subst hEE
          go_enter Tryz.func38, Tryz.ntmps38
          go_wp2
          go_ret
          exact ⟨rfl, hg1⟩
      | false =>
        by_cases h2 : 4000 < n
        · have hEE : E = 5 := by rw [hE, Chg.err, if_neg (by intro hc; rcases hc with hc | hc | hc; exact h0 hc; exact h1 hc; exact absurd hc.1 (by simp)), if_pos (by simp only [hn]; omega)]
          have d3 : decide (4000 < (n : Int)) = true := decide_eq_true (by omega)
          clear hE h0
          subst hEE
          go_enter Tryz.func38, Tryz.ntmps38
          go_wp2
          go_ret
          exact ⟨rfl, hg1⟩
        · have hEE : E = 0 := by rw [hE, Chg.err, if_neg (by intro hc; rcases hc with hc | hc | hc; exact h0 hc; exact h1 hc; exact absurd hc.1 (by simp)), if_neg (by simp only [hn]; omega)]
          have d3 : decide (4000 < (n : Int)) = false := decide_eq_false (by omega)
          clear hE h0
          subst hEE
          go_enter Tryz.func38, Tryz.ntmps38
          go_wp2
          go_ret
          exact ⟨rfl, hg1⟩
end Go.Proofs.YtonpcenjipigpaaGreat
/- The payload of changes. Conditions: none is wrong, and they are not too many. -/
namespace Go.Proofs.YtonpcenjipigpaaGreat
open Go.RowKit
theorem str_bytes (w : World) (s : ByteArray) (xs : List UInt8) (hs : s.data.toList = xs) (hm : s.size ≤ maxLen) :
    ∃ c w1, (convert 9 40 (.string s)).run Tryz.prog w = .ok (.slice (some ⟨w.heap.size, 0, none⟩) s.size c) w1 ∧ s.size ≤ c ∧ c ≤ maxLen ∧ Byt w1 (fun b => w.heap.size ≤ b ∧ b < w1.heap.size) (some ⟨w.heap.size, 0, none⟩) xs ∧ Below w.heap.size w w1 := by
  refine ⟨_, _, run_bytes_of_string w 9 40 5 s Tryz.underlying9 Tryz.underlying40 Tryz.underlying5, grownCap_ge _ _ _ _, grownCap_le_maxLen _ _ _ _ hm, ?_, ((Below.refl _ _).drew.alloc (Nat.le_refl _) _)⟩
  intro j hj
  refine ⟨_, rfl, ⟨Nat.le_refl _, by simp⟩, ?_⟩
  rw [Addr.add_lit, Nat.zero_add]
  have hb : (w.drew.alloc (.cells (bytesRow s (grownCap w s.size 0 5)) 5 ((bytesRow s (grownCap w s.size 0 5)).size, (bytesRow s (grownCap w s.size 0 5)).size + 1))).heap[w.heap.size]? = _ := heap_alloc_new w.drew _
  rw [cell_of_row _ _ j _ _ _ hb]
  subst hs
  unfold bytesRow
  rw [Array.getElem?_append_left (by simpa using hj)]
  simp at hj
  simp [hj]
theorem wpList_conv {w : World} {ops : Array Oper} {rest : List Oper} {o : Oper} {a : Act} {Q : Exit → Act → World → Prop} (hgd : o.guard = none) (x : Operand) (ho : o.op = .convert 9 40 x) (xs : List UInt8) (hx : a.eval x = .string ⟨xs.toArray⟩) (hm : xs.length ≤ maxLen)
    (h : ∀ A c w', xs.length ≤ c → c ≤ maxLen → Byt w' (fun b => w.heap.size ≤ b ∧ b < w'.heap.size) A xs → Below w.heap.size w w' → wpList Tryz.prog ops Q rest (a.put o.dst (.slice A xs.length c)) w') : wpList Tryz.prog ops Q (o :: rest) a w :=
  wpList_plain hgd fun _ hK => by
    obtain ⟨c, w1, hr, h1, h2, h3, h4⟩ := str_bytes w ⟨xs.toArray⟩ xs (by simp) (by simpa [ByteArray.size] using hm)
    have hs : (⟨xs.toArray⟩ : ByteArray).size = xs.length := by simp [ByteArray.size]
    rw [hs] at hr h1
    unfold Oper.wp execOp
    simp only [ho, hx, Sem.run_bind, hr, Sem.run_pure, Result.andThen_ok]
    exact hK _ _ (h _ c w1 h1 h2 h3 h4)
/-- A change's bytes. -/
def chgB (c : Chg) : List UInt8 := jn (if c.gone = true then [c.name] else [c.name, c.val])
/-- The payload of changes. -/
def payB (l : List Chg) : List UInt8 := jn (l.map chgB)
/-- Changes of which none is wrong. -/
def Good (l : List Chg) : Prop := ∀ c ∈ l, c.err = 0
theorem err_zero {c : Chg} (h : c.err = 0) : c.name ≠ [] ∧ c.name.length ≤ 32 ∧ (c.gone = true → c.val = []) ∧ c.val.length ≤ 4000 := by
  unfold Chg.err at h
  split at h
  · omega
  · rename_i h1
    split at h
    · omega
    · rename_i h2
      refine ⟨fun hc => h1 (.inl hc), Nat.le_of_not_lt fun hc => h1 (.inr (.inl hc)), fun hg => ?_, by omega⟩
      exact List.eq_nil_of_length_eq_zero (Nat.eq_zero_of_not_pos fun hc => h1 (.inr (.inr ⟨hg, hc⟩)))
theorem chgB_length {c : Chg} (h : c.err = 0) : (chgB c).length ≤ 4037 := by
  obtain ⟨_, h1, _, h2⟩ := err_zero h
  unfold chgB jn
  split
  · simp [enc]; omega
  · simp [enc]; omega
theorem payB_fit {l : List Chg} (h : Good l) (hl : l.length ≤ 64) : oFit (l.map chgB) := by
  refine ⟨by simpa using hl, fun p hp => ?_⟩
  obtain ⟨c, hc, rfl⟩ := List.mem_map.1 hp
  have := chgB_length (h c hc)
  omega
theorem run_make102 {N : Nat} (hN : N ≤ 4096) (w : World) : (Instr.makeSlice 42 (.int .i64 (N : Int)) (.int .i64 (N : Int))).run Tryz.prog w = .ok (.slice (some ⟨w.heap.size, 0, none⟩) N N) (w.alloc (.cells (List.replicate N (Value.slice none 0 0)).toArray 40)) := by
  obtain ⟨i, hi, hz, hs, hb⟩ := info_parts Tryz.info40
  have h := run_makeSlice (P := Tryz.prog) w 42 40 i _ Tryz.underlying42 hi hz .i64 .i64 (N : Int) (N : Int) (by omega) (by omega) (by rw [hs]; simp; omega) (by rw [hb]; simp; omega) (by omega)
  rw [h, hs]
  simp only [Int.toNat_natCast, Value.cells, Nat.mul_one]
  have e : madeCells #[Value.slice none 0 0] N = (List.replicate N (Value.slice none 0 0)).toArray := by
    apply Array.ext'
    rw [toList_madeCells_one]
  rw [e]
theorem Chs.at {w : World} {ok : Nat → Prop} {A : Option Addr} {l : List Chg} (h : Chs w ok A l) {k : Nat} (hk : k < l.length) : ∃ b o A' c', A = some ⟨b, o, none⟩ ∧ ok b ∧ w.cell? ⟨b, o + k * 3, none⟩ = some (.string ⟨l[k].name.toArray⟩) ∧ w.cell? ⟨b, o + k * 3 + 1, none⟩ = some (.slice A' l[k].val.length c') ∧ w.cell? ⟨b, o + k * 3 + 2, none⟩ = some (.bool l[k].gone) ∧ l[k].val.length ≤ c' ∧ c' ≤ maxLen ∧ l[k].name.length ≤ maxLen ∧ Byt w ok A' l[k].val := by
  obtain ⟨b, o, A', c', h1, h2, h3, h4, h5, h6, h7⟩ := h k hk
  exact ⟨b, o, A', c', h1, h2, h3 0 _ rfl, h3 1 _ rfl, h3 2 _ rfl, h4, h5, h6, h7⟩
/-- In new memory lies just xs. -/
def NewS (w : World) (xs : List UInt8) (e : Ending) (w' : World) : Prop := ∃ A c, e = .returned (.slice A xs.length c) ∧ xs.length ≤ c ∧ c ≤ maxLen ∧ Byt w' (fun b => w.heap.size ≤ b ∧ b < w'.heap.size) A xs ∧ Below w.heap.size w w'
theorem Sls.snoc {w : World} {ok : Nat → Prop} {vs : List Value} {ps : List (List UInt8)} {A : Option Addr} {c : Nat} {p : List UInt8} (h : Sls w ok vs ps) (hb : Byt w ok A p) (hc : p.length ≤ c) (hm : c ≤ maxLen) : Sls w ok (vs ++ [.slice A p.length c]) (ps ++ [p]) := by
  refine ⟨by simp [h.1], fun j hj => ?_⟩
  by_cases hlt : j < ps.length
  · obtain ⟨A', c', h1, h2, h3, h4⟩ := h.2 j hlt
    refine ⟨A', c', ?_, ?_, h3, ?_⟩
    · rw [List.getElem?_append_left (by rw [h.1]; exact hlt), h1, List.getElem_append_left hlt]
    · rw [List.getElem_append_left hlt]; exact h2
    · rw [List.getElem_append_left hlt]; exact h4
  · have hj' : j = ps.length := by simp at hj; omega
    subst hj'
    refine ⟨A, c, ?_, ?_, hm, ?_⟩
    · rw [List.getElem?_append_right (by rw [h.1]; exact Nat.le_refl _)]; simp [h.1]
    · simpa using hc
    · simpa using hb
theorem size40 : (Tryz.prog.info? 40).map (·.size) = some 1 := by kernel_rfl
theorem chg_join {w : World} {A1 A2 : Option Addr} {nm vl : List UInt8} {c1 c2 : Nat} (gn : Bool) (y1 : Byt w (fun b => b < w.heap.size) A1 nm) (y2 : Byt w (fun b => b < w.heap.size) A2 vl) (h1 : nm.length ≤ c1) (h2 : c1 ≤ maxLen) (h3 : vl.length ≤ c2) (h4 : c2 ≤ maxLen) (hn : nm.length ≤ 32) (hv : vl.length ≤ 4000) :
    Calls Tryz.prog 86 #[.slice (some ⟨w.heap.size, 0, none⟩) (if gn = true then 1 else 2) 2] (w.alloc (.cells #[.slice A1 nm.length c1, .slice A2 vl.length c2] 40)) (YesB (w.alloc (.cells #[.slice A1 nm.length c1, .slice A2 vl.length c2] 40)) (chgB ⟨nm, vl, gn⟩)) := by
  have hs : Sls w (fun b => b < w.heap.size) [.slice A1 nm.length c1, .slice A2 vl.length c2] [nm, vl] := ((Sls.nil _ _).cons y2 rfl h3 h4).cons y1 rfl h1 h2
  have hl := (hs.old (below_alloc w (.cells #[.slice A1 nm.length c1, .slice A2 vl.length c2] 40))).lst (Blk.of_alloc w #[.slice A1 nm.length c1, .slice A2 vl.length c2] 40) (by simp)
  cases gn with
  | true =>
    have hl1 : Lst (w.alloc (.cells #[.slice A1 nm.length c1, .slice A2 vl.length c2] 40)) (fun b => b < (w.alloc (.cells #[.slice A1 nm.length c1, .slice A2 vl.length c2] 40)).heap.size) (some ⟨w.heap.size, 0, none⟩) [nm] := fun j hj => by
      have hj0 : j = 0 := by simpa using hj
      subst hj0
      exact hl 0 (by simp)
    exact join_yes (c := 2) hl1 (fun _ hb => hb) ⟨by simp, fun p hp => by simp at hp; subst hp; omega⟩
  | false => exact join_yes (c := 2) hl (fun _ hb => hb) ⟨by simp, fun p hp => by simp at hp; rcases hp with rfl | rfl <;> omega⟩
theorem chg_one {w : World} {A1 A2 : Option Addr} {nm vl : List UInt8} {c1 c2 : Nat} (y1 : Byt w (fun b => b < w.heap.size) A1 nm) (y2 : Byt w (fun b => b < w.heap.size) A2 vl) (h1 : nm.length ≤ c1) (h2 : c1 ≤ maxLen) (h3 : vl.length ≤ c2) (h4 : c2 ≤ maxLen) (hn : nm.length ≤ 32) (hv : vl.length ≤ 4000) :
    Calls Tryz.prog 86 #[.slice (some ⟨w.heap.size, 0, none⟩) 1 2] (w.alloc (.cells #[.slice A1 nm.length c1, .slice A2 vl.length c2] 40)) (YesB (w.alloc (.cells #[.slice A1 nm.length c1, .slice A2 vl.length c2] 40)) (chgB ⟨nm, vl, true⟩)) := chg_join true y1 y2 h1 h2 h3 h4 hn hv
theorem chg_two {w : World} {A1 A2 : Option Addr} {nm vl : List UInt8} {c1 c2 : Nat} (y1 : Byt w (fun b => b < w.heap.size) A1 nm) (y2 : Byt w (fun b => b < w.heap.size) A2 vl) (h1 : nm.length ≤ c1) (h2 : c1 ≤ maxLen) (h3 : vl.length ≤ c2) (h4 : c2 ≤ maxLen) (hn : nm.length ≤ 32) (hv : vl.length ≤ 4000) :
    Calls Tryz.prog 86 #[.slice (some ⟨w.heap.size, 0, none⟩) 2 2] (w.alloc (.cells #[.slice A1 nm.length c1, .slice A2 vl.length c2] 40)) (YesB (w.alloc (.cells #[.slice A1 nm.length c1, .slice A2 vl.length c2] 40)) (chgB ⟨nm, vl, false⟩)) := chg_join false y1 y2 h1 h2 h3 h4 hn hv
theorem rep_succ {n k : Nat} (h : k < n) (v : Value) : List.replicate (n - k) v = v :: List.replicate (n - (k + 1)) v := by
  rw [show n - k = (n - (k + 1)) + 1 by omega, List.replicate_succ]
set_option maxRecDepth 100000 in
set_option maxHeartbeats 4000000 in
theorem payload_any {w : World} {ok : Nat → Prop} {A : Option Addr} {l : List Chg} {n cp : Nat} (hx : Chs w ok A l) (hok : ∀ b, ok b → b < w.heap.size) (hn : l.length = n) (h64 : n ≤ 64) (hg : Good l) :
    Calls Tryz.prog 67 #[.slice A n cp] w (NewS w (payB l)) := by
  subst hn
  have hm := fun w => run_make102 (N := l.length) (by omega) w
  have HG := Lib.hid hg
  clear hg
  go_enter Tryz.func67, Tryz.ntmps67
  go_wp2
  go_loopw [14] (fun i wr => ∃ (k : Nat) (vs : List Value), k ≤ l.length ∧ i = .int .i64 (k : Int) ∧ Blk wr w.heap.size 40 (vs ++ List.replicate (l.length - k) (.slice none 0 0)) ∧ Sls wr (fun b => b < wr.heap.size ∧ b ≠ w.heap.size) vs ((l.map chgB).take k) ∧ Below w.heap.size w wr) (fun i _ => l.length - (intOf i).toNat)
  case atStart => exact ⟨0, [], Nat.zero_le _, rfl, Blk.of_alloc w _ 40, Sls.nil _ _, below_alloc _ _⟩
  case round =>
    obtain ⟨k, vs, hk, rfl, hB, hS, hb⟩ := hrel
    by_cases hlt : k < l.length
    · obtain ⟨b, o, A', c', rfl, hokb, d0, d1, d2, e1, e2, e3, hby⟩ := hx.at hlt
      have hbs := hb.size
      have q0 : wr.cell? ⟨b, o + k * 3, none⟩ = some (.string ⟨l[k].name.toArray⟩) := (hb.cell (hok b hokb)).trans d0
      have q1 : wr.cell? ⟨b, o + k * 3 + 1, none⟩ = some (.slice A' l[k].val.length c') := (hb.cell (hok b hokb)).trans d1
      have q2 : wr.cell? ⟨b, o + k * 3 + 2, none⟩ = some (.bool l[k].gone) := (hb.cell (hok b hokb)).trans d2
      have HBY : Hid (Byt wr ok A' l[k].val) := hby.below hb hok
      obtain ⟨c, hc⟩ : ∃ c, c = l[k] := ⟨_, rfl⟩
      rw [← hc] at q0 q1 q2 HBY e1 e3
      have hgc := err_zero (HG.out c (by rw [hc]; exact List.getElem_mem hlt))
      have hfit0 : (l.map chgB).take (k + 1) = (l.map chgB).take k ++ [chgB c] := by
        have : (l.map chgB).take (k + 1) = (l.map chgB).take k ++ [(l.map chgB)[k]'(by simpa using hlt)] := (List.take_append_getElem _).symm
        rw [this]; simp [hc]
      have hfit := Lib.hid hfit0
      obtain ⟨nm, vl, gn⟩ := c
      obtain ⟨hg1, hg2, hg3, hg4⟩ := hgc
      simp only at q0 q1 q2 HBY e1 e3 hg1 hg2 hg3 hg4
      have HHB := Lib.hid hB
      have HHS := Lib.hid hS
      have HHO := Lib.hid hok
      have HC := Lib.hid hc
      clear d0 d1 d2 hby hB hS hc hok hx hg1 hfit0
      have HBE := Lib.hid hb
      have hlt3 : k < l.length := hlt
      clear hg3 hb
      cases gn with
      | true =>
        go_wp2_with (first
          | (refine wpList_conv rfl _ rfl nm rfl e3 ?_; intro A1 c1 w1 m1 m2 y1 hb1; have p1 : w1.cell? ⟨wr.heap.size, 1, none⟩ = some (.slice A' vl.length c') := (hb1.cell (by simp)).trans ((Blk.of_alloc wr #[.string ⟨nm.toArray⟩, .slice A' vl.length c', .bool true] 56).get 1 _ rfl); have p2 : (w1.alloc (.cells #[.slice A1 nm.length c1, .slice A' vl.length c'] 40)).cell? ⟨wr.heap.size, 2, none⟩ = some (.bool true) := ((below_alloc w1 _).cell (Nat.lt_of_lt_of_le (by simp) hb1.size)).trans ((hb1.cell (by simp)).trans ((Blk.of_alloc wr #[.string ⟨nm.toArray⟩, .slice A' vl.length c', .bool true] 56).get 2 _ rfl)); have hb2 : Below wr.heap.size wr w1 := below_then (below_alloc wr _) hb1; have y2 : Byt w1 (fun b => b < w1.heap.size) A' vl := (HBY.out.below hb2 (fun b hk => Nat.lt_of_lt_of_le (HHO.out b hk) hbs)).imp fun b hk => Nat.lt_of_lt_of_le (HHO.out b hk) (Nat.le_trans hbs hb2.size))
          | (go_at_call 86; refine (chg_one (y1.imp fun _ hk => hk.2) y2 m1 m2 e1 e2 hg2 hg4).mono ?_; rintro _ w3 ⟨A3, c3, rfl, n1, n2, y3, hb3⟩; have hb4 : Below wr.heap.size wr w3 := below_then (below_then hb2 (below_alloc w1 _)) hb3; have HB3 := Lib.hid (HHB.out.below hb4 HHB.out.lt); have Y3 : Hid (Byt w3 (fun b => wr.heap.size ≤ b ∧ b < w3.heap.size) A3 (chgB ⟨nm, vl, true⟩)) := y3.imp fun b hk => ⟨Nat.le_trans hb2.size (Nat.le_trans (below_alloc w1 _).size hk.1), hk.2⟩; clear y3 hb3 y1 y2 hb1)
          | (refine wpList_store_cell rfl 40 _ _ rfl size40 w.heap.size k (.slice A3 (chgB ⟨nm, vl, true⟩).length c3) rfl rfl rfl _ _ HB3.out (by rw [List.length_append, List.length_replicate, HHS.out.1, List.length_take, List.length_map]; omega) ?_; intro w5 g5 r5)
          | fail)
        go_roundw
        case rel =>
          have hvl : vs.length = k := by rw [HHS.out.1, List.length_take, List.length_map]; omega
          have hgt := HHB.out.lt
          refine ⟨k + 1, vs ++ [.slice A3 (chgB ⟨nm, vl, true⟩).length c3], by omega, by go_num, ?_, ?_, ?_⟩
          · have := g5.out
            rw [rep_succ hlt3] at this
            rw [show (vs ++ (Value.slice none 0 0 :: List.replicate (l.length - (k + 1)) (Value.slice none 0 0))).set k (.slice A3 (chgB ⟨nm, vl, true⟩).length c3) = vs ++ [.slice A3 (chgB ⟨nm, vl, true⟩).length c3] ++ List.replicate (l.length - (k + 1)) (Value.slice none 0 0) by rw [List.set_append_right _ _ (by omega)]; simp [hvl]] at this
            exact this
          · rw [hfit.out]
            refine Sls.snoc ?_ ?_ n1 n2
            · refine (HHS.out.keep fun b hk => ?_).imp fun b hk => ⟨by rw [r5.out.size]; exact Nat.lt_of_lt_of_le hk.1 hb4.size, hk.2⟩
              exact (r5.out.block b hk.2).trans (hb4.block b hk.1)
            · refine (Y3.out.keep fun b hk => r5.out.block b (by omega)).imp fun b hk => ⟨by rw [r5.out.size]; exact hk.2, by omega⟩
          · exact Below.wr (below_then HBE.out hb4) r5.out (Nat.le_refl _)
        case measure => simp [intOf]; omega
      | false =>
        go_wp2_with (first
          | (refine wpList_conv rfl _ rfl nm rfl e3 ?_; intro A1 c1 w1 m1 m2 y1 hb1; have p1 : w1.cell? ⟨wr.heap.size, 1, none⟩ = some (.slice A' vl.length c') := (hb1.cell (by simp)).trans ((Blk.of_alloc wr #[.string ⟨nm.toArray⟩, .slice A' vl.length c', .bool false] 56).get 1 _ rfl); have p2 : (w1.alloc (.cells #[.slice A1 nm.length c1, .slice A' vl.length c'] 40)).cell? ⟨wr.heap.size, 2, none⟩ = some (.bool false) := ((below_alloc w1 _).cell (Nat.lt_of_lt_of_le (by simp) hb1.size)).trans ((hb1.cell (by simp)).trans ((Blk.of_alloc wr #[.string ⟨nm.toArray⟩, .slice A' vl.length c', .bool false] 56).get 2 _ rfl)); have hb2 : Below wr.heap.size wr w1 := below_then (below_alloc wr _) hb1; have y2 : Byt w1 (fun b => b < w1.heap.size) A' vl := (HBY.out.below hb2 (fun b hk => Nat.lt_of_lt_of_le (HHO.out b hk) hbs)).imp fun b hk => Nat.lt_of_lt_of_le (HHO.out b hk) (Nat.le_trans hbs hb2.size))
          | (go_at_call 86; refine (chg_two (y1.imp fun _ hk => hk.2) y2 m1 m2 e1 e2 hg2 hg4).mono ?_; rintro _ w3 ⟨A3, c3, rfl, n1, n2, y3, hb3⟩; have hb4 : Below wr.heap.size wr w3 := below_then (below_then hb2 (below_alloc w1 _)) hb3; have HB3 := Lib.hid (HHB.out.below hb4 HHB.out.lt); have Y3 : Hid (Byt w3 (fun b => wr.heap.size ≤ b ∧ b < w3.heap.size) A3 (chgB ⟨nm, vl, false⟩)) := y3.imp fun b hk => ⟨Nat.le_trans hb2.size (Nat.le_trans (below_alloc w1 _).size hk.1), hk.2⟩; clear y3 hb3 y1 y2 hb1)
          | (refine wpList_store_cell rfl 40 _ _ rfl size40 w.heap.size k (.slice A3 (chgB ⟨nm, vl, false⟩).length c3) rfl rfl rfl _ _ HB3.out (by rw [List.length_append, List.length_replicate, HHS.out.1, List.length_take, List.length_map]; omega) ?_; intro w5 g5 r5)
          | fail)
        go_roundw
        case rel =>
          have hvl : vs.length = k := by rw [HHS.out.1, List.length_take, List.length_map]; omega
          have hgt := HHB.out.lt
          refine ⟨k + 1, vs ++ [.slice A3 (chgB ⟨nm, vl, false⟩).length c3], by omega, by go_num, ?_, ?_, ?_⟩
          · have := g5.out
            rw [rep_succ hlt3] at this
            rw [show (vs ++ (Value.slice none 0 0 :: List.replicate (l.length - (k + 1)) (Value.slice none 0 0))).set k (.slice A3 (chgB ⟨nm, vl, false⟩).length c3) = vs ++ [.slice A3 (chgB ⟨nm, vl, false⟩).length c3] ++ List.replicate (l.length - (k + 1)) (Value.slice none 0 0) by rw [List.set_append_right _ _ (by omega)]; simp [hvl]] at this
            exact this
          · rw [hfit.out]
            refine Sls.snoc ?_ ?_ n1 n2
            · refine (HHS.out.keep fun b hk => ?_).imp fun b hk => ⟨by rw [r5.out.size]; exact Nat.lt_of_lt_of_le hk.1 hb4.size, hk.2⟩
              exact (r5.out.block b hk.2).trans (hb4.block b hk.1)
            · refine (Y3.out.keep fun b hk => r5.out.block b (by omega)).imp fun b hk => ⟨by rw [r5.out.size]; exact hk.2, by omega⟩
          · exact Below.wr (below_then HBE.out hb4) r5.out (Nat.le_refl _)
        case measure => simp [intOf]; omega
    · obtain rfl : k = l.length := by omega
      have hl : Lst wr (fun b => b < wr.heap.size) (some ⟨w.heap.size, 0, none⟩) (l.map chgB) := by
        rw [List.take_of_length_le (by simp)] at hS
        rw [Nat.sub_self, List.replicate_zero, List.append_nil] at hB
        exact (hS.imp fun b hb => hb.1).lst hB hB.lt
      have hj := join_yes (c := l.length) hl (fun _ hb => hb) (payB_fit HG.out h64)
      rw [List.length_map] at hj
      clear hl hB hS hx
      go_wp2_with (go_at_call 86; refine hj.mono ?_; rintro _ w3 ⟨A3, c3, rfl, n1, n2, y3, hb3⟩)
      go_ret
      exact ⟨A3, c3, rfl, n1, n2, y3.imp fun b hk => ⟨Nat.le_trans hb.size hk.1, hk.2⟩, below_then hb hb3⟩
end Go.Proofs.YtonpcenjipigpaaGreat
/- What a payload says. Conditions: none. -/
namespace Go.Proofs.YtonpcenjipigpaaGreat
open Go.RowKit
/-- What the pieces of a piece say as a change. -/
def chgQ : List (List UInt8) × Nat → Option Chg
  | ([x], 0) => if (Chg.mk x [] true).err = 0 then some ⟨x, [], true⟩ else none
  | ([x, y], 0) => if (Chg.mk x y false).err = 0 then some ⟨x, y, false⟩ else none
  | _ => none
/-- What a piece says as a change. -/
def chgT (p : List UInt8) : Option Chg := chgQ (split p)
/-- The pieces' changes. -/
def chgL : List (List UInt8) → Option (List Chg)
  | [] => some []
  | p :: ps => match chgT p, chgL ps with
    | some c, some l => some (c :: l)
    | _, _ => none
/-- What bytes say as changes. -/
def chgsT (b : List UInt8) : Option (List Chg) := if (split b).2 = 0 then chgL (split b).1 else none
theorem chgL_snoc : ∀ (ps : List (List UInt8)) (p : List UInt8), chgL (ps ++ [p]) = match chgL ps, chgT p with | some l, some c => some (l ++ [c]) | _, _ => none
  | [], p => by
    simp only [List.nil_append, chgL]
    cases chgT p <;> rfl
  | q :: ps, p => by
    simp only [List.cons_append, chgL, chgL_snoc ps p]
    cases chgT q <;> cases chgL ps <;> cases chgT p <;> rfl
theorem chgL_none : ∀ (ps qs : List (List UInt8)), chgL ps = none → chgL (ps ++ qs) = none
  | [], _, h => by cases h
  | p :: ps, qs, h => by
    simp only [List.cons_append, chgL] at h ⊢
    cases hp : chgT p with
    | none => rfl
    | some c =>
      rw [hp] at h
      cases hl : chgL ps with
      | none => rw [chgL_none ps qs hl]
      | some l => rw [hl] at h; cases h
theorem chgL_at {ps : List (List UInt8)} {k : Nat} (hk : k < ps.length) {l : List Chg} (h : chgL (ps.take k) = some l) : (∀ c, chgT ps[k] = some c → chgL (ps.take (k + 1)) = some (l ++ [c])) ∧ (chgT ps[k] = none → chgL ps = none) := by
  have e : ps.take (k + 1) = ps.take k ++ [ps[k]] := (List.take_append_getElem hk).symm
  refine ⟨fun c hc => by rw [e, chgL_snoc, h, hc], fun hc => ?_⟩
  have h2 : chgL (ps.take (k + 1)) = none := by rw [e, chgL_snoc, h, hc]
  have := chgL_none _ (ps.drop (k + 1)) h2
  rwa [List.take_append_drop] at this
/-- The zero change's cells, so many times. -/
def z3 (m : Nat) : List Value := (List.replicate m [Value.string ⟨#[]⟩, .slice none 0 0, .bool false]).flatten
theorem z3_length (m : Nat) : (z3 m).length = 3 * m := by simp [z3]; omega
theorem z3_succ (m : Nat) : z3 (m + 1) = [Value.string ⟨#[]⟩, .slice none 0 0, .bool false] ++ z3 m := by simp [z3, List.replicate_succ]
theorem z3_get : ∀ (m i : Nat), i < 3 * m → (z3 m)[i]? = [Value.string ⟨#[]⟩, Value.slice none 0 0, Value.bool false][i % 3]?
  | 0, _, h => by omega
  | m + 1, i, h => by
    rw [z3_succ]
    by_cases hi : i < 3
    · rw [List.getElem?_append_left (by simpa using hi), Nat.mod_eq_of_lt hi]
    · rw [List.getElem?_append_right (by simp; omega)]
      simp only [List.length_cons, List.length_nil, Nat.zero_add, Nat.reduceAdd]
      rw [z3_get m (i - 3) (by omega)]
      congr 1
      omega
theorem Tryz.info56 : (Tryz.prog.info? 56).map (fun i => (i.zero, i.size, i.bytes)) = some (some (.agg #[.string ⟨#[]⟩, .slice none 0 0, .bool false]), 3, 48) := by kernel_rfl
theorem made_z3 (N : Nat) : madeCells #[Value.string ⟨#[]⟩, .slice none 0 0, .bool false] (N * 3) = (z3 N).toArray := by
  apply Array.ext
  · simp [z3_length, size_madeCells]; omega
  · intro i h1 h2
    have h3 : i < 3 * N := by simpa [z3_length] using h2
    have hg := z3_get N i h3
    have e1 : (madeCells #[Value.string ⟨#[]⟩, .slice none 0 0, .bool false] (N * 3))[i] = (#[Value.string ⟨#[]⟩, .slice none 0 0, .bool false] : Array Value)[i % 3]! := by simp [madeCells]
    have hm : i % 3 < 3 := Nat.mod_lt _ (by omega)
    rw [e1, getElem!_def]
    have e2 : (#[Value.string ⟨#[]⟩, Value.slice none 0 0, Value.bool false] : Array Value)[i % 3]? = [Value.string ⟨#[]⟩, Value.slice none 0 0, Value.bool false][i % 3]? := by simp
    rw [e2, ← hg]
    simp [List.getElem?_eq_getElem (show i < (z3 N).length by rw [z3_length]; exact h3)]
theorem run_make23 {N : Nat} (hN : N ≤ 4096) (w : World) : (Instr.makeSlice 36 (.int .i64 (N : Int)) (.int .i64 (N : Int))).run Tryz.prog w = .ok (.slice (some ⟨w.heap.size, 0, none⟩) N N) (w.alloc (.cells (z3 N).toArray 56)) := by
  obtain ⟨i, hi, hz, hs, hb⟩ := info_parts Tryz.info56
  have h := run_makeSlice (P := Tryz.prog) w 36 56 i _ Tryz.underlying36 hi hz .i64 .i64 (N : Int) (N : Int) (by omega) (by omega) (by rw [hs]; simp; omega) (by rw [hb]; simp; omega) (by omega)
  rw [h, hs]
  simp only [Int.toNat_natCast, Value.cells]
  rw [made_z3]
end Go.Proofs.YtonpcenjipigpaaGreat
