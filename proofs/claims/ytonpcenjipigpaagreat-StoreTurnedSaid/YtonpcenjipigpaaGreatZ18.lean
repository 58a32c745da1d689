/- Names with values as lists by rising names; the same as a map in memory. Conditions: none. -/
import Derived.Test.YtonpcenjipigpaaGreatZ17
import Derived.Maps.OwnSet
import Derived.Sort.KeysCollected
namespace Go.Proofs.YtonpcenjipigpaaGreat
open Go.RowKit Go.Maps
theorem before_lt : ∀ a b : List UInt8, bytesBefore a b = decide (a < b)
  | [], [] => by simp [bytesBefore]
  | [], _ :: _ => by simp [bytesBefore]
  | _ :: _, [] => by simp [bytesBefore]
  | a :: r, b :: s => by
    simp only [bytesBefore, before_lt r s, List.cons_lt_cons_iff]
    rw [Bool.eq_iff_iff]
    simp
/-- x among pairs by rising names. -/
def insA {α : Type} (x : List UInt8 × α) : List (List UInt8 × α) → List (List UInt8 × α)
  | [] => [x]
  | y :: r => if bytesBefore x.1 y.1 = true then x :: y :: r else y :: insA x r
/-- k's pair is struck. -/
def delA {α : Type} (k : List UInt8) (l : List (List UInt8 × α)) : List (List UInt8 × α) := l.filter fun p => !(p.1 == k)
/-- k has a from now on. -/
def putA {α : Type} (k : List UInt8) (a : α) (l : List (List UInt8 × α)) : List (List UInt8 × α) := insA (k, a) (delA k l)
/-- What k has. -/
def getA {α : Type} (k : List UInt8) (l : List (List UInt8 × α)) : Option α := (l.find? fun p => p.1 == k).map (·.2)
/-- The second parts turned. -/
def mapA {α β : Type} (g : α → β) (l : List (List UInt8 × α)) : List (List UInt8 × β) := l.map fun x => (x.1, g x.2)
/-- A change done. -/
def doC (L : List (List UInt8 × List UInt8)) (c : Chg) : List (List UInt8 × List UInt8) := if c.gone = true then delA c.name L else putA c.name c.val L
/-- Changes done, one by one. -/
def doAll (L : List (List UInt8 × List UInt8)) (l : List Chg) : List (List UInt8 × List UInt8) := l.foldl doC L
section
variable {α β : Type}
theorem mapA_ins (g : α → β) (k : List UInt8) (a : α) : ∀ l, mapA g (insA (k, a) l) = insA (k, g a) (mapA g l)
  | [] => rfl
  | y :: r => by
    have ih := mapA_ins g k a r
    simp only [mapA] at ih ⊢
    simp only [insA, List.map_cons]
    split
    · rfl
    · rw [List.map_cons, ih]
theorem mapA_del (g : α → β) (k : List UInt8) (l : List (List UInt8 × α)) : mapA g (delA k l) = delA k (mapA g l) := by
  unfold mapA delA
  rw [List.filter_map]
  rfl
theorem mapA_put (g : α → β) (k : List UInt8) (a : α) (l : List (List UInt8 × α)) : mapA g (putA k a l) = putA k (g a) (mapA g l) := by
  rw [putA, mapA_ins, mapA_del]; rfl
theorem mapA_get (g : α → β) (k : List UInt8) (l : List (List UInt8 × α)) : getA k (mapA g l) = (getA k l).map g := by
  unfold getA mapA
  rw [List.find?_map]
  cases h : l.find? ((fun p => p.1 == k) ∘ fun x => (x.1, g x.2)) with
  | none => rw [show (l.find? fun p => p.1 == k) = none from h]; rfl
  | some x => rw [show (l.find? fun p => p.1 == k) = some x from h]; rfl
theorem mem_ins {x y : List UInt8 × α} : ∀ {l : List (List UInt8 × α)}, y ∈ insA x l ↔ y = x ∨ y ∈ l
  | [] => by simp [insA]
  | z :: r => by
    unfold insA
    split
    · simp
    · simp only [List.mem_cons, mem_ins (l := r)]
      constructor
      · rintro (h | h | h)
        · exact .inr (.inl h)
        · exact .inl h
        · exact .inr (.inr h)
      · rintro (h | h | h)
        · exact .inr (.inl h)
        · exact .inl h
        · exact .inr (.inr h)
theorem mem_put {k : List UInt8} {a : α} {y : List UInt8 × α} {l : List (List UInt8 × α)} (h : y ∈ putA k a l) : y = (k, a) ∨ y ∈ l := by
  rcases mem_ins.1 h with h | h
  · exact .inl h
  · exact .inr (List.mem_filter.1 h).1
theorem mem_del {k : List UInt8} {y : List UInt8 × α} {l : List (List UInt8 × α)} (h : y ∈ delA k l) : y ∈ l := (List.mem_filter.1 h).1
theorem ins_length (x : List UInt8 × α) : ∀ l, (insA x l).length = l.length + 1
  | [] => rfl
  | y :: r => by
    unfold insA
    split
    · rfl
    · simp [ins_length x r]
end
/-- A map's datum. -/
def dat (M : List (List UInt8 × Value)) : DataW Value := .map (M.map fun x => (Lit.string x.1, DataW.held x.2))
/-- Each value reads as itself. -/
def RV : Value → Option (DataW Value × List MemPlace) := fun v => some (.held v, [])
theorem dat_ins (k : List UInt8) (v : Value) : ∀ M : List (List UInt8 × Value), DataW.insert (Lit.string k, DataW.held v) (M.map fun x => (Lit.string x.1, DataW.held x.2)) = (insA (k, v) M).map fun x => (Lit.string x.1, DataW.held x.2)
  | [] => rfl
  | y :: r => by
    simp only [List.map_cons, DataW.insert, insA]
    rw [show (Lit.string k).before (Lit.string y.1) = bytesBefore k y.1 from rfl]
    by_cases h : bytesBefore k y.1 = true
    · rw [if_pos h, if_pos h]; rfl
    · rw [if_neg h, if_neg h, dat_ins k v r]; rfl
theorem dat_filter (k : List UInt8) (M : List (List UInt8 × Value)) : (M.map fun x => (Lit.string x.1, DataW.held (H := Value) x.2)).filter (fun p => !p.1.sameKey (.string k)) = (delA k M).map fun x => (Lit.string x.1, DataW.held x.2) := by
  unfold delA
  rw [List.filter_map]
  rfl
theorem dat_put (k : List UInt8) (v : Value) (M : List (List UInt8 × Value)) : (dat M).put (.string k) (.held v) = dat (putA k v M) := by
  show DataW.map (DataW.insert _ _) = _
  rw [dat_filter, dat_ins]
  rfl
theorem dat_del (k : List UInt8) (M : List (List UInt8 × Value)) : (dat M).del (.string k) = dat (delA k M) := by
  show DataW.map _ = _
  rw [dat_filter]
  rfl
theorem dat_at (k : List UInt8) (M : List (List UInt8 × Value)) (z : Value) : (dat M).atKey (.string k) (.held z) = .held ((getA k M).getD z) := by
  have e : (M.map fun x => (Lit.string x.1, DataW.held (H := Value) x.2)).find? (fun p => p.1.sameKey (.string k)) = (M.find? fun p => p.1 == k).map fun x => (Lit.string x.1, DataW.held x.2) := by
    rw [List.find?_map]; rfl
  simp only [DataW.atKey, dat, e, getA]
  cases M.find? (fun p => p.1 == k) <;> rfl
theorem dat_has (k : List UInt8) (M : List (List UInt8 × Value)) : Maps.has (dat M) (.string k) = (getA k M).isSome := by
  show (M.map fun x => (Lit.string x.1, DataW.held (H := Value) x.2)).any (fun p => p.1.sameKey (.string k)) = _
  rw [List.any_map]
  unfold getA
  rw [Option.isSome_map, Bool.eq_iff_iff, List.any_eq_true, List.find?_isSome]
  rfl
theorem dat_size (M : List (List UInt8 × Value)) : Maps.size (dat M) = M.length := by simp [dat, Maps.size]
theorem dat_keys (M : List (List UInt8 × Value)) : strKeys (dat M) = M.map (·.1) := by
  show (M.map fun x => (Lit.string x.1, DataW.held (H := Value) x.2)).map (fun p => strOf p.1) = _
  rw [List.map_map]
  rfl
end Go.Proofs.YtonpcenjipigpaaGreat
/- Names with values in a map in memory; changes done. Conditions: none of the changes is wrong. -/
namespace Go.Proofs.YtonpcenjipigpaaGreat
open Go.RowKit Go.Maps Go.ChangeMaps Go.MapKept
theorem keyed9 : Keyed Tryz.prog 9 := string_keyed Tryz.underlying9
theorem key_of {k : List UInt8} (h : k.length ≤ maxLen) : keyOf Tryz.prog 9 (.string ⟨k.toArray⟩) = some (.string k) := by
  have hs : (⟨k.toArray⟩ : ByteArray).size ≤ maxLen := by simpa [ByteArray.size] using h
  simp [keyOf, Tryz.underlying9, mapKey, hs]
theorem zero40 (w : World) : (zeroValue 40).run Tryz.prog w = .ok (.slice none 0 0) w := by kernel_rfl
/-- In block mb lies a map of these names and values, the values' bytes in blocks that are 'ok'. -/
def Vals (w : World) (ok : Nat → Prop) (mb n : Nat) (L : List (List UInt8 × List UInt8)) : Prop :=
  ∃ Z : List (List UInt8 × (Value × List UInt8)), w.ownsMap Tryz.prog 9 RV mb n (dat (mapA (·.1) Z)) ∧ L = mapA (·.2) Z ∧
    ∀ x ∈ Z, ∃ A c, x.2.1 = .slice A x.2.2.length c ∧ x.2.2.length ≤ c ∧ c ≤ maxLen ∧ x.2.2.length ≤ 4000 ∧ x.1.length ≤ 32 ∧ Byt w ok A x.2.2
section
variable {w w' : World} {ok ok' : Nat → Prop} {mb n : Nat} {L : List (List UInt8 × List UInt8)}
theorem Vals.imp (h : Vals w ok mb n L) (hi : ∀ b, ok b → ok' b) : Vals w ok' mb n L := by
  obtain ⟨Z, h1, h2, h3⟩ := h
  exact ⟨Z, h1, h2, fun x hx => by obtain ⟨A, c, a1, a2, a3, a4, a5, a6⟩ := h3 x hx; exact ⟨A, c, a1, a2, a3, a4, a5, a6.imp hi⟩⟩
theorem own_map_keep {D : DataW Value} (h : w.ownsMap Tryz.prog 9 RV mb n D) (hk : w'.heap[mb]? = w.heap[mb]?) : w'.ownsMap Tryz.prog 9 RV mb n D := by
  obtain ⟨es, clock, h1, h2, h3, h4⟩ := h
  exact ⟨es, clock, hk.trans h1, h2, h3, h4⟩
theorem Vals.keep (h : Vals w ok mb n L) (hm : w'.heap[mb]? = w.heap[mb]?) (hk : ∀ b, ok b → w'.heap[b]? = w.heap[b]?) : Vals w' ok mb n L := by
  obtain ⟨Z, h1, h2, h3⟩ := h
  exact ⟨Z, own_map_keep h1 hm, h2, fun x hx => by obtain ⟨A, c, a1, a2, a3, a4, a5, a6⟩ := h3 x hx; exact ⟨A, c, a1, a2, a3, a4, a5, a6.keep hk⟩⟩
theorem Vals.lt (h : Vals w ok mb n L) : mb < w.heap.size := by
  obtain ⟨Z, h1, _⟩ := h
  exact h1.lt
theorem Vals.mono (h : Vals w ok mb n L) {n' : Nat} (hn : n ≤ n') : Vals w ok mb n' L := by
  obtain ⟨Z, h1, h2, h3⟩ := h
  exact ⟨Z, h1.mono hn, h2, h3⟩
theorem Vals.len (h : Vals w ok mb n L) : L.length ≤ n := by
  obtain ⟨Z, h1, h2, h3⟩ := h
  have := h1.size_le
  rw [dat_size] at this
  rw [h2]
  simpa [mapA] using this
theorem Vals.made (w : World) (ok : Nat → Prop) : Vals (w.alloc (.map #[] 0)) ok w.heap.size 0 [] := ⟨[], World.ownsMap_made w _ _ _, rfl, by simp⟩
/-- A name is struck. -/
theorem Vals.del (h : Vals w ok mb n L) {k : List UInt8} (hk : k.length ≤ maxLen) (ty : TypeId) (hok : ∀ b, ok b → b ≠ mb) :
    ∃ w', (Builtin.delete_ #[71, 9] ty #[.map (some mb), .string ⟨k.toArray⟩]).run Tryz.prog w = .ok (.tuple #[]) w' ∧ Vals w' ok mb n (delA k L) ∧ w.grownBy w' (some mb) ∧ w'.heap.size = w.heap.size := by
  obtain ⟨Z, h1, h2, h3⟩ := h
  obtain ⟨w', r1, r2, r3⟩ := h1.drop keyed9 Tryz.underlying71 (key_of hk) ty
  have hg := r3.grown
  refine ⟨w', r1, ⟨delA k Z, ?_, ?_, fun x hx => ?_⟩, hg, ?_⟩
  · rw [dat_del, ← mapA_del] at r2; exact r2
  · rw [h2, mapA_del]
  · obtain ⟨A, c, a1, a2, a3, a4, a5, a6⟩ := h3 x (mem_del hx)
    exact ⟨A, c, a1, a2, a3, a4, a5, fun j hj => by
      obtain ⟨ad, e, ho, hc⟩ := a6 j hj
      exact ⟨ad, e, ho, hg.cell hc (by rw [block_of_plus]; intro e2; injection e2 with e2; exact hok _ ho e2)⟩⟩
  · obtain ⟨es, clock, es', clock', hb, rfl⟩ := r3
    simp [setBlock]
/-- A name has a value from now on. -/
theorem Vals.put (h : Vals w ok mb n L) {k xs : List UInt8} {A : Option Addr} {c : Nat} (hk : k.length ≤ 32) (hx : Byt w ok A xs) (hl : xs.length ≤ 4000) (hc : xs.length ≤ c) (hm : c ≤ maxLen) (hn : n < maxLen) (hok : ∀ b, ok b → b ≠ mb) :
    ∃ w', (Instr.mapUpdate 71 (.map (some mb)) (.string ⟨k.toArray⟩) (.slice A xs.length c)).run Tryz.prog w = .ok () w' ∧ Vals w' ok mb (n + 1) (putA k xs L) ∧ w.grownBy w' (some mb) ∧ w'.heap.size = w.heap.size := by
  obtain ⟨Z, h1, h2, h3⟩ := h
  obtain ⟨w', r1, r2, r3⟩ := h1.store keyed9 Tryz.underlying71 hn (key_of (Nat.le_trans hk (by unfold maxLen; omega))) (val := .slice A xs.length c) (d := .held (.slice A xs.length c)) (ps := []) rfl
  have hg := r3.grown
  refine ⟨w', r1, ⟨putA k (.slice A xs.length c, xs) Z, ?_, ?_, fun x hx' => ?_⟩, hg, ?_⟩
  · rw [dat_put] at r2; rw [mapA_put]; exact r2
  · rw [h2, mapA_put]
  · rcases mem_put hx' with rfl | hx'
    · exact ⟨A, c, rfl, hc, hm, hl, hk, fun j hj => by
        obtain ⟨ad, e, ho, hcl⟩ := hx j hj
        exact ⟨ad, e, ho, hg.cell hcl (by rw [block_of_plus]; intro e2; injection e2 with e2; exact hok _ ho e2)⟩⟩
    · obtain ⟨A, c, a1, a2, a3, a4, a5, a6⟩ := h3 x hx'
      exact ⟨A, c, a1, a2, a3, a4, a5, fun j hj => by
        obtain ⟨ad, e, ho, hc⟩ := a6 j hj
        exact ⟨ad, e, ho, hg.cell hc (by rw [block_of_plus]; intro e2; injection e2 with e2; exact hok _ ho e2)⟩⟩
  · obtain ⟨es, clock, es', clock', hb, rfl⟩ := r3
    simp [setBlock]
end
theorem sclone_any (w : World) (k : List UInt8) (hk : k.length ≤ 4096) : Calls Tryz.prog 65 #[.string ⟨k.toArray⟩] w fun e w' => e = .returned (.string ⟨k.toArray⟩) ∧ Below w.heap.size w w' := by
  have hc := Any.stringslite_Clone Tryz.cloneS ⟨k.toArray⟩ w (by simp [ByteArray.size]; omega)
  change Calls Tryz.prog 85 _ _ _ at hc
  go_enter Tryz.func65, Tryz.ntmps65
  go_wp2_with (go_at_call 85; refine hc.mono ?_; rintro _ w1 ⟨rfl, hb⟩)
  go_ret
  exact ⟨rfl, hb⟩
end Go.Proofs.YtonpcenjipigpaaGreat
/- Changes done in a map, one by one. Conditions: none of them is wrong. -/
namespace Go.Proofs.YtonpcenjipigpaaGreat
open Go.RowKit Go.Maps
theorem wpList_delV {w : World} {ops : Array Oper} {rest : List Oper} {o : Oper} {a : Act} {Q : Exit → Act → World → Prop} {ok : Nat → Prop} {mb n : Nat} {L : List (List UInt8 × List UInt8)} (hgd : o.guard = none) (m x : Operand)
    (ho : o.op = .call { callee := .builtin .delete, args := #[m, x], argTypes := #[71, 9] }) (k : List UInt8) (hm : a.eval m = .map (some mb)) (hx : a.eval x = .string ⟨k.toArray⟩) (hv : Vals w ok mb n L) (hk : k.length ≤ maxLen) (hok : ∀ b, ok b → b ≠ mb)
    (h : ∀ w', Vals w' ok mb n (delA k L) → w.grownBy w' (some mb) → w'.heap.size = w.heap.size → wpList Tryz.prog ops Q rest (a.put o.dst (.tuple #[])) w') : wpList Tryz.prog ops Q (o :: rest) a w :=
  wpList_plain hgd fun _ hK => by
    obtain ⟨w', hr, h1, h2, h3⟩ := hv.del hk o.type hok
    unfold Oper.wp execOp
    simp only [ho, resolve, invoke, builtin, Sem.run_bind, Sem.run_pure, Result.andThen_ok, List.map_toArray, List.map_cons, List.map_nil, hm, hx, hr]
    exact hK _ _ (h w' h1 h2 h3)
theorem doAll_succ (L : List (List UInt8 × List UInt8)) (l : List Chg) {k : Nat} (hk : k < l.length) : doAll L (l.take (k + 1)) = doC (doAll L (l.take k)) l[k] := by
  rw [← List.take_append_getElem hk, doAll, List.foldl_append]; rfl
/-- What the changes done answer. -/
def DoE (w : World) (ok : Nat → Prop) (mb n : Nat) (L : List (List UInt8 × List UInt8)) (e : Ending) (w' : World) : Prop :=
  e = .returned (.tuple #[]) ∧ Vals w' (fun b => ok b ∨ (w.heap.size ≤ b ∧ b < w'.heap.size)) mb n L ∧ w.grownBy w' (some mb)
set_option maxRecDepth 100000 in
set_option maxHeartbeats 4000000 in
theorem do_any {w : World} {ok okl : Nat → Prop} {mb N : Nat} {L : List (List UInt8 × List UInt8)} {A : Option Addr} {l : List Chg} {n cp : Nat} (hv : Vals w ok mb N L) (hok : ∀ b, ok b → b < w.heap.size ∧ b ≠ mb) (hx : Chs w okl A l) (hokl : ∀ b, okl b → b < w.heap.size ∧ b ≠ mb) (hn : l.length = n) (hg : Good l) (hN : N + n ≤ 100000) :
    Calls Tryz.prog 40 #[.map (some mb), .slice A n cp] w (DoE w ok mb (N + n) (doAll L l)) := by
  subst hn
  have HG := Lib.hid hg
  have HOK := Lib.hid hok
  have HOL := Lib.hid hokl
  have hmb := hv.lt
  have hv0 : Vals w (fun b => ok b ∨ (w.heap.size ≤ b ∧ b < w.heap.size)) mb N L := hv.imp fun b hb => .inl hb
  by_cases h63 : l.length ≤ 9223372036854775807
  · clear hg hok hokl hv
    go_enter Tryz.func40, Tryz.ntmps40
    go_wp2
    go_loopw [8] (fun i wr => ∃ k : Nat, k ≤ l.length ∧ i = .int .i64 (k : Int) ∧ Vals wr (fun b => ok b ∨ (w.heap.size ≤ b ∧ b < wr.heap.size)) mb (N + k) (doAll L (l.take k)) ∧ w.grownBy wr (some mb)) (fun i _ => l.length - (intOf i).toNat)
    case atStart => exact ⟨0, Nat.zero_le _, rfl, hv0, World.grownBy.refl _ _⟩
    case round =>
      clear hv0
      obtain ⟨k, hk, rfl, hV, hgw⟩ := hrel
      by_cases hlt : k < l.length
      · obtain ⟨b, o, A', c', rfl, hokb, d0, d1, d2, e1, e2, e3, hby⟩ := hx.at hlt
        have hob := HOL.out b hokb
        have q0 : wr.cell? ⟨b, o + k * 3, none⟩ = some (.string ⟨l[k].name.toArray⟩) := hgw.cell d0 (by simpa using hob.2)
        have q1 : wr.cell? ⟨b, o + k * 3 + 1, none⟩ = some (.slice A' l[k].val.length c') := hgw.cell d1 (by simpa using hob.2)
        have q2 : wr.cell? ⟨b, o + k * 3 + 2, none⟩ = some (.bool l[k].gone) := hgw.cell d2 (by simpa using hob.2)
        have hby2 : Byt wr okl A' l[k].val := hby.grown hgw fun b hb => ⟨(HOL.out b hb).1, by simpa using (HOL.out b hb).2⟩
        have hs := doAll_succ L l hlt
        obtain ⟨c, hc⟩ : ∃ c, c = l[k] := ⟨_, rfl⟩
        rw [← hc] at q0 q1 q2 hby2 e1 hs
        have hce := err_zero (HG.out c (by rw [hc]; exact List.getElem_mem hlt))
        obtain ⟨nm, vl, gn⟩ := c
        obtain ⟨hg1, hg2, hg3, hg4⟩ := hce
        simp only at q0 q1 q2 hby2 e1 hg1 hg2 hg3 hg4
        have HBY := Lib.hid hby2
        have HSS := Lib.hid hs
        have HGW := Lib.hid hgw
        have hbox := Blk.of_alloc wr #[.string ⟨nm.toArray⟩, .slice A' vl.length c', .bool gn] 56
        have hwn : mb < wr.heap.size := Nat.lt_of_lt_of_le hmb hgw.size
        have hsz := hgw.size
        have hV1 := (hV.keep (w' := wr.alloc (.cells #[.string ⟨nm.toArray⟩, .slice A' vl.length c', .bool gn] 56)) (Below.heap_alloc wr _ _ hwn) (fun b hb => Below.heap_alloc wr _ _ (by rcases hb with hb | hb; exact Nat.lt_of_lt_of_le (HOK.out b hb).1 hsz; exact hb.2)))
        have HV := Lib.hid hV1
        have HBX := Lib.hid hbox
        have hlt3 : k < l.length := hlt
        clear d0 d1 d2 hby hby2 hs hc hV hgw hbox hV1 hx hg1 hg3
        cases gn with
        | true =>
          go_wp2_with (first
            | (at_delete; refine wpList_delV rfl _ _ rfl nm rfl rfl HV.out (by unfold maxLen; omega) (fun b hb => by rcases hb with hb | hb; exact (HOK.out b hb).2; omega) ?_; intro w2 hv2 hg2 hs2)
            | fail)
          go_roundw
          case rel =>
            refine ⟨k + 1, by omega, by go_num, ?_, (HGW.out.trans (World.grownBy_alloc _ _ _)).trans hg2⟩
            rw [HSS.out]
            exact ((hv2.imp fun b hb => hb.imp id fun hb => ⟨hb.1, by rw [hs2]; simp; omega⟩).mono (by omega))
          case measure => simp [intOf]; omega
        | false =>
          obtain ⟨w0, hw0⟩ : ∃ w0, w0 = wr.alloc (.cells #[.string ⟨nm.toArray⟩, .slice A' vl.length c', .bool false] 56) := ⟨_, rfl⟩
          have hgr0 : wr.grownBy w0 none := by rw [hw0]; exact World.grownBy_alloc _ _ _
          have hs0 : w0.heap.size = wr.heap.size + 1 := by rw [hw0]; simp
          rw [← hw0] at HV HBX
          have hne : wr.heap.size ≠ mb := by omega
          have KP : Hid (∀ W, w0.grownBy W (some mb) → W.cell? ⟨wr.heap.size, 0, none⟩ = some (.string ⟨nm.toArray⟩) ∧ W.cell? ⟨wr.heap.size, 1, none⟩ = some (.slice A' vl.length c')) := fun W hW =>
            ⟨hW.cell (HBX.out.get 0 _ rfl) (by simpa using hne), hW.cell (HBX.out.get 1 _ rfl) (by simpa using hne)⟩
          have hq0 : w0.grownBy w0.drew (some mb) := ⟨rfl, rfl, rfl, Nat.le_refl _, fun _ _ _ => rfl⟩
          have hyd : Hid (∀ W, Below w0.heap.size w0 W → Byt W okl A' vl) := fun W hW => (HBY.out.below (below_of_grown hgr0) fun b hb => Nat.lt_of_lt_of_le (HOL.out b hb).1 hsz).below hW fun b hb => by have := (HOL.out b hb).1; omega
          have HW0 := Lib.hid hw0
          clear hw0
          go_wp2_with fail
          rw [← HW0.out]
          go_region_held3 (fun W => W.cell? ⟨wr.heap.size, 0, none⟩ = some (.string ⟨nm.toArray⟩) ∧ W.cell? ⟨wr.heap.size, 1, none⟩ = some (.slice A' vl.length c')) (first | exact KP.out _ hq0 | exact KP.out _ hq1 | exact KP.out _ hq2 | exact KP.out _ hq4) (first
            | (go_at_call 65; (with_reducible refine (sclone_any _ nm (by omega)).mono ?_); rintro _ w1 ⟨rfl, hb1⟩; have hbb1 : Below w0.heap.size w0 w1 := below_then (below_of_grown (grown_drewN 1)) hb1; have hq1 : w0.grownBy w1 (some mb) := ⟨hbb1.os, hbb1.tape, hbb1.output, hbb1.size, fun k hk _ => hbb1.block k hk⟩)
            | (go_at_call 47; (with_reducible refine (clone_any (hyd.out _ hbb1) (fun b hb => by have h1 := (HOL.out b hb).1; have h2 := hbb1.size; omega) (by omega)).mono ?_); rintro _ w2 ⟨A2, c2, rfl, l2, m2, y2, hb2⟩; have hbb2 := below_then hbb1 hb2; have hq2 : w0.grownBy w2 (some mb) := ⟨hbb2.os, hbb2.tape, hbb2.output, hbb2.size, fun k hk _ => hbb2.block k hk⟩; have hv2 : Vals w2 (fun b => ok b ∨ (w.heap.size ≤ b ∧ b < w2.heap.size)) mb (N + k) (doAll L (l.take k)) := (HV.out.keep (hbb2.block _ (by omega)) (fun b hb => hbb2.block _ (by rcases hb with hb | hb; have h1 := (HOK.out b hb).1; omega; omega))).imp fun b hb => hb.imp id fun hb => ⟨hb.1, by have := hbb2.size; omega⟩; obtain ⟨w4, hrun, hv4, hg4, hs4⟩ := hv2.put (k := nm) hg2 (y2.imp fun b hb => .inr ⟨by have h1 := hbb1.size; omega, hb.2⟩) hg4 l2 m2 (by unfold maxLen; omega) (fun b hb => by rcases hb with hb | hb; exact (HOK.out b hb).2; omega); have hq4 : w0.grownBy w4 (some mb) := hq2.trans hg4)
            | fail)
          all_goals
            clear hyd KP hq0 hq1 hq2 hrun y2
            go_wp2
            go_roundw
            case rel =>
              refine ⟨k + 1, by omega, by go_num, ?_, (HGW.out.trans ⟨hgr0.os, hgr0.tape, hgr0.output, hgr0.size, fun k hk _ => hgr0.block k hk (by simp)⟩).trans hq4⟩
              rw [HSS.out]
              exact hv4.imp fun b hb => hb.imp id fun hb => ⟨hb.1, by rw [hs4]; exact hb.2⟩
            case measure => simp [intOf]; omega
      · obtain rfl : k = l.length := by omega
        rw [List.take_length] at hV
        go_wp2
        go_end0
        exact ⟨rfl, hV, hgw⟩
  · omega
end Go.Proofs.YtonpcenjipigpaaGreat
