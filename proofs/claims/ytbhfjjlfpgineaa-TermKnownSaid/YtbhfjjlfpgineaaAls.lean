/- The document's example: its steps in a region that draws its order. Conditions: none. -/
import Derived.Test.YtbhfjjlfpgineaaAli
namespace Go.Proofs.Ytbhfjjlfpgineaa
open Go.RowKit

section
variable {o : Oper} {a : Act} {w : World} {K : Act → World → Prop} {Q : Exit → Act → World → Prop}
theorem op_alloc49 (ho : o.op = .alloc 49) (h : ∀ w', Arr w' 49 w.heap.size z32 → Below w.heap.size w w' → K (a.put o.dst (.pointer (some ⟨w.heap.size, 0, none⟩))) w') : Oper.wp Try.prog o a w K Q := by
  have hrun := run_alloc49 w
  unfold Oper.wp
  simp [execOp, ho, hrun, Result.andThen]
  exact h _ (heap_alloc_new w _) ((Below.refl _ _).alloc (Nat.le_refl _) _)
theorem op_store49 (x y : Operand) (ho : o.op = .store 49 x y) (g : Nat) (xs ys : List UInt8) (hx : a.eval x = .pointer (some ⟨g, 0, none⟩)) (hy : a.eval y = .agg (u8s ys).toArray)
    (hk : Arr w 49 g xs) (hxl : xs.length = 32) (hyl : ys.length = 32)
    (h : ∀ w', Arr w' 49 g ys → (∀ B, B ≤ g → Below B w w') → (∀ i, i ≠ g → w'.heap[i]? = w.heap[i]?) → K (a.put o.dst undef) w') : Oper.wp Try.prog o a w K Q := by
  have hoth : ∀ i, i ≠ g → (w.setRow g (u8s ys).toArray).heap[i]? = w.heap[i]? := fun i hi => setRow_other w g i _ hi
  refine wp_store_row 49 x y ho g _ hx hy 49 _ hk (by rw [size49]; simp [u8s_length, hyl]) (by simp [u8s_length, hxl, hyl]) (all_oneCell_toArray (u8s_one ys)) ?_
  exact h _ (setRow_heap w g _ _ 49 _ hk) (fun B hB => ⟨rfl, rfl, rfl, by simp, fun i hi => hoth i (by omega)⟩) hoth
/-- The mark of a text. -/
theorem op_mark (x : Operand) (ho : o.op = .convert 41 41 x) (g n c : Nat) (t : UInt8) (hx : a.eval x = .slice (some ⟨g, 0, none⟩) n c) (hk : w.heap[g]? = some (.cells #[.int .u8 (t.toNat : Int)] 5 (0, 0)))
    (h : ∀ w', (∀ i, i ≠ g → w'.heap[i]? = w.heap[i]?) → Byt w' (fun b => b < w'.heap.size) (some ⟨g, 0, none⟩) [t] → (∀ B, B ≤ g → Below B w w') → K (a.put o.dst (.slice (some ⟨g, 0, none⟩) n c)) w') : Oper.wp Try.prog o a w K Q := by
  have hlt : g < w.heap.size := (Array.getElem?_eq_some_iff.1 hk).1
  have hsh : w.shape? g = some (5, 1) := by unfold World.shape?; rw [hk]; rfl
  have hrun : (convert 41 41 (.slice (some ⟨g, 0, none⟩) n c)).run Try.prog w = .ok (.slice (some ⟨g, 0, none⟩) n c) (w.freeze ⟨g, 1, none⟩ 1) := by
    simp [convert, run_underlying Try.underlying41, run_underlying Try.underlying5, markStringish, hsh]
  have hoth : ∀ i, i ≠ g → (w.freeze ⟨g, 1, none⟩ 1).heap[i]? = w.heap[i]? := fun i hi => by
    unfold World.freeze
    rw [if_neg (by decide)]
    show (w.heap.modify g _)[i]? = _
    rw [Array.getElem?_modify, if_neg (fun e => hi e.symm)]
  have hnew : ∃ fr, (w.freeze ⟨g, 1, none⟩ 1).heap[g]? = some (.cells #[.int .u8 (t.toNat : Int)] 5 fr) := by
    unfold World.freeze
    rw [if_neg (by decide)]
    show ∃ fr, (w.heap.modify g _)[g]? = _
    rw [Array.getElem?_modify, if_pos rfl, hk]
    exact ⟨_, rfl⟩
  have hsz : (w.freeze ⟨g, 1, none⟩ 1).heap.size = w.heap.size := by
    unfold World.freeze
    rw [if_neg (by decide)]
    exact Array.size_modify
  obtain ⟨fr, hnew⟩ := hnew
  unfold Oper.wp
  simp only [execOp, ho, hx, Sem.run_bind, hrun, Result.andThen_ok, Sem.run_pure]
  refine h _ hoth (fun j hj => ?_) fun B hB => ⟨?_, ?_, ?_, by omega, fun k hk => hoth k (by omega)⟩
  · obtain rfl : j = 0 := by simpa using hj
    refine ⟨_, rfl, by show g < _; omega, ?_⟩
    rw [Addr.add_lit]
    simp [World.cell?, hnew]
  all_goals
    unfold World.freeze
    rw [if_neg (by decide)]
/-- append of bytes that doesn't fit. -/
theorem op_append (s x : Operand) (ho : o.op = .call { callee := .builtin .append, args := #[s, x], argTypes := #[41, 41] }) (A1 A2 : Option Addr) (n1 n2 c2 : Nat) (xs ys : List UInt8)
    (hs : a.eval s = .slice A1 n1 n1) (hx : a.eval x = .slice A2 n2 c2) (h1 : Byt w (fun b => b < w.heap.size) A1 xs) (h2 : Byt w (fun b => b < w.heap.size) A2 ys) (e1 : xs.length = n1) (e2 : ys.length = n2) (p1 : 0 < n1) (p2 : 0 < n2) (hle : n1 + n2 ≤ 1000)
    (h : ∀ A c w', Below w.heap.size w w' → Byt w' (fun b => b < w'.heap.size) A (xs ++ ys) → n1 + n2 ≤ c → c ≤ maxLen → K (a.put o.dst (.slice A (n1 + n2) c)) w') : Oper.wp Try.prog o a w K Q := by
  obtain ⟨a1, rfl, _, h1'⟩ := h1.some_ (by omega)
  obtain ⟨a2, rfl, _, h2'⟩ := h2.some_ (by omega)
  obtain ⟨i, hi, hz, hsize, hby⟩ : ∃ i, Try.prog.info? 5 = some i ∧ i.zero = some (.int .u8 0) ∧ i.size = 1 ∧ i.bytes = 1 := by
    have := Try.info5
    rcases hq : Try.prog.info? 5 with _ | i
    · rw [hq] at this; cases this
    · rw [hq] at this
      simp only [Option.map_some, Option.some.injEq, Prod.mk.injEq] at this
      exact ⟨i, rfl, this.1, this.2.1, this.2.2⟩
  obtain ⟨v', w', hr, ho', hg⟩ := run_append_arg_grows (P := Try.prog) w 41 o.type 5 i (.int .u8 0) 1 1 Try.underlying41 hi hz hsize hby rfl Nat.one_pos a1 n1 n1 (u8s xs) (by rw [u8s_length]; omega) (fun j u hu => by
    obtain ⟨hj, rfl⟩ := u8s_get xs j u hu
    exact h1' j hj) a2 n2 c2 (u8s ys) (by rw [u8s_length]; omega) (fun j u hu => by
    obtain ⟨hj, rfl⟩ := u8s_get ys j u hu
    exact h2' j hj) (by omega) (by unfold maxLen; omega) (by omega)
  rw [← u8s_append] at ho'
  obtain ⟨A, c, rfl, q1, q2, q3, q4⟩ := own_form ho'
  unfold Oper.wp execOp
  simp only [ho, resolve, invoke, builtin, Sem.run_bind, Sem.run_pure, Result.andThen_ok, List.map_toArray, List.map_cons, List.map_nil, hs, hx, hr]
  rw [← q1]
  exact h A c w' ⟨hg.os, hg.tape, hg.output, hg.size, fun k hk => hg.block k hk (by simp)⟩ (q4.imp fun b hb => hb.2.2) (by omega) q3
end
section
variable {w0 w w' : World} {tb : Nat} {T : List Trm} {ks : List (Nat × List UInt8)}
theorem Exm.drew (h : Exm w0 w tb T ks) : Exm w0 w.drew tb T ks := h.up (Below.refl _ _).drew
/-- .. with a block that is not yet written. -/
def ExA (w0 w : World) (tb : Nat) (T : List Trm) (ks : List (Nat × List UInt8)) (g : Nat) : Prop := Exm w0 w tb T ((g, z32) :: ks) ∧ ∀ x ∈ ks, x.1 < g
theorem exa_alloc (h : Exm w0 w tb T ks) (h1 : Arr w' 49 w.heap.size z32) (h2 : Below w.heap.size w w') : ExA w0 w' tb T ks w.heap.size :=
  ⟨h.key h2 (Nat.le_refl _) h1, fun x hx => Arr.lt (h.keys x hx).1⟩
theorem ExA.up {g : Nat} (h : ExA w0 w tb T ks g) (hb : Below w.heap.size w w') : ExA w0 w' tb T ks g := ⟨h.1.up hb, h.2⟩
theorem Lst.up {A : Option Addr} {ps : List (List UInt8)} (h : Lst w (fun b => b < w.heap.size) A ps) (hb : Below w.heap.size w w') : Lst w' (fun b => b < w'.heap.size) A ps :=
  (h.below hb (fun _ hb => hb)).imp fun _ hb' => Nat.lt_of_lt_of_le hb' hb.size
theorem Byt.up {A : Option Addr} {xs : List UInt8} (h : Byt w (fun b => b < w.heap.size) A xs) (hb : Below w.heap.size w w') : Byt w' (fun b => b < w'.heap.size) A xs :=
  (h.below hb (fun _ hb => hb)).imp fun _ hb' => Nat.lt_of_lt_of_le hb' hb.size
theorem below_alc (w : World) (o : Obj) : Below w.heap.size w (w.alloc o) := (Below.refl _ _).alloc (Nat.le_refl _) _
theorem exm_make {A : Option Addr} {ps : List (List UInt8)} {n c N k : Nat} {T' : List Trm} (h : Exm w0 w tb T ks) (hx : Lst w (fun b => b < w.heap.size) A ps) (hn : ps.length = n) (hn6 : n ≤ 64) (hmk : mk T (k : Int) ps = (N, T')) (hN : 0 < N) :
    Calls Try.prog 21 #[.pointer (some ⟨tb, 0, none⟩), .int .i64 (k : Int), .slice A n c] w (MkE w0 tb N T' ks) := Exm.make h hx (fun _ h => h) hn hn6 hmk hN
theorem exa_make {A : Option Addr} {ps : List (List UInt8)} {n c N k g : Nat} {T' : List Trm} (h : ExA w0 w tb T ks g) (hx : Lst w (fun b => b < w.heap.size) A ps) (hn : ps.length = n) (hn6 : n ≤ 64) (hmk : mk T (k : Int) ps = (N, T')) (hN : 0 < N) :
    Calls Try.prog 21 #[.pointer (some ⟨tb, 0, none⟩), .int .i64 (k : Int), .slice A n c] w fun e w2 => e = .returned (.tuple #[.agg (u8s (nm N)).toArray, .bool true]) ∧ ExA w0 w2 tb T' ks g :=
  (Exm.make h.1 hx (fun _ h => h) hn hn6 hmk hN).mono fun _ _ h' => ⟨h'.1, h'.2, h.2⟩
theorem exa_store {g : Nat} {ys : List UInt8} (h : ExA w0 w tb T ks g) (h1 : Arr w' 49 g ys) (h2 : ∀ B, B ≤ g → Below B w w') (h3 : ∀ i, i ≠ g → w'.heap[i]? = w.heap[i]?) : Exm w0 w' tb T ((g, ys) :: ks) := by
  obtain ⟨ok, e1, e2, e3⟩ := h.1.tbl
  have hg := (h.1.keys (g, z32) (by simp)).2
  have hz := (h2 g (Nat.le_refl _)).size
  have hsame : ∀ b, ok b → w'.heap[b]? = w.heap[b]? := fun b hb => h3 b fun e => e3 (g, z32) (by simp) (by rw [e] at hb; exact hb)
  refine ⟨⟨ok, e1.keep fun b hb _ => hsame b hb, fun b hb => ⟨(e2 b hb).1, Nat.lt_of_lt_of_le (e2 b hb).2 hz⟩, fun x hx => ?_⟩, h.1.below.trans (h2 _ hg), fun x hx => ?_⟩
  · rcases List.mem_cons.1 hx with rfl | hx
    · exact e3 (g, z32) (by simp)
    · exact e3 x (by simp [hx])
  · rcases List.mem_cons.1 hx with rfl | hx
    · exact ⟨h1, hg⟩
    · have hlt := h.2 x hx
      obtain ⟨a, b⟩ := h.1.keys x (by simp [hx])
      exact ⟨(h3 x.1 (by omega)).trans a, b⟩
theorem lst2 (h : Exm w0 w tb T ks) {g g2 : Nat} {xs ys : List UInt8} (hm : (g, xs) ∈ ks) (hl : xs.length = 32) (hm2 : (g2, ys) ∈ ks) (hl2 : ys.length = 32) : Lst (w.alloc (.cells #[.slice (some ⟨g, 0, none⟩) 32 32, .slice (some ⟨g2, 0, none⟩) 32 32] 41)) (fun b => b < (w.alloc (.cells #[.slice (some ⟨g, 0, none⟩) 32 32, .slice (some ⟨g2, 0, none⟩) 32 32] 41)).heap.size) (some ⟨w.heap.size, 0, none⟩) [xs, ys] := by
  rw [alloc_size]
  exact lst_two h hm hl hm2 hl2
theorem exa_of {v : World} {g : Nat} (h : Exm w0 v tb T ks) (hb : Below v.heap.size v w) (hk : Arr w 49 g z32) (hg : v.heap.size ≤ g) : ExA w0 w tb T ks g :=
  ⟨h.key hb hg hk, fun x hx => Nat.lt_of_lt_of_le (Arr.lt (h.keys x hx).1) hg⟩
theorem exm_known {A : Option Addr} {ps : List (List UInt8)} {n c : Nat} (h : Exm w0 w tb T ks) (hx : Lst w (fun b => b < w.heap.size) A ps) (hn : ps.length = n) (hn6 : n ≤ 64) (hp : ∀ s ∈ ps, s.length < 4294967281) (hM : Mx w0) :
    Calls Try.prog 18 #[.pointer (some ⟨tb, 0, none⟩), .slice A n c] w (KnwE w T ps) := by
  obtain ⟨ok, e1, e2, _⟩ := h.tbl
  exact known_any (e1.imp (ok' := fun b => b < w.heap.size) fun b hb _ => hb) (fun _ h => h) hn hx (hM.below (h.below.mono (Nat.le_refl _))) (by omega) hp
theorem exm_has {kb nb g n : Nat} {K : Nat → Bool} {b : Bool} (h : Exm w0 w tb T ks) (hk : Knm w kb nb 7 K) (hm : (g, nm n) ∈ ks) (h1 : 0 < n) (h2 : n < 7) (hb : K n = b) (hM : Mx w0) :
    Calls Try.prog 20 #[.pointer (some ⟨kb, 0, none⟩), .slice (some ⟨g, 0, none⟩) 32 32] w fun e w' => e = .returned (.bool b) ∧ Below w.heap.size w w' := by
  obtain ⟨_, e2, e3⟩ := key_byt h hm (nm_length n)
  have hh := has_any hk (nm_length n) e3 (fun _ h => h) (Nat.le_refl _) e2 (by omega) (by omega) (hM.below h.below)
  have he : decide ((ms K (nm n) 7).1 = 0) = b := by
    rw [← hb]
    have := ms_iff (K := K) (b := nm n) (below := 7)
    rw [nms_is n 7 h1 h2 (by omega)] at this
    rw [Bool.eq_iff_iff, decide_eq_true_iff, this]
    simp
  rw [he] at hh
  exact hh
theorem below_dalc (w : World) (o : Obj) : Below w.heap.size w (w.drew.alloc o) := (Below.refl _ _).drew.alloc (Nat.le_refl _) _
theorem exm_len (h : Exm w0 w tb exT ks) : Calls Try.prog 22 #[.pointer (some ⟨tb, 0, none⟩)] w fun e w' => e = .returned (.int .i64 6) ∧ w = w' := by
  obtain ⟨ok, e1, _⟩ := h.tbl
  exact (len_any e1).mono fun _ _ hn => ⟨hn.1, hn.2⟩
/-- A block of text, not yet marked. -/
def Txt (w : World) (g : Nat) (x : UInt8) : Prop := w.heap[g]? = some (.cells #[.int .u8 (x.toNat : Int)] 5 (0, 0))
theorem Txt.lt {g : Nat} {x : UInt8} (h : Txt w g x) : g < w.heap.size := (Array.getElem?_eq_some_iff.1 h).1
theorem Txt.up {g : Nat} {x : UInt8} (h : Txt w g x) (hb : Below w.heap.size w w') : Txt w' g x := (hb.block g h.lt).trans h
theorem txt_new (w : World) (x : UInt8) : Txt (w.alloc (.cells #[.int .u8 (x.toNat : Int)] 5)) w.heap.size x := heap_alloc_new w _
theorem lst9 (h : Exm w0 w tb T ks) {g n c : Nat} {xs ys : List UInt8} {A : Option Addr} (hm : (g, xs) ∈ ks) (hl : xs.length = 32) (hy : Byt w (fun b => b < w.heap.size) A ys) (hc : n ≤ c ∧ c ≤ maxLen) (hn : ys.length = n) : Lst (w.alloc (.cells #[.slice (some ⟨g, 0, none⟩) 32 32, .slice A n c] 41)) (fun b => b < (w.alloc (.cells #[.slice (some ⟨g, 0, none⟩) 32 32, .slice A n c] 41)).heap.size) (some ⟨w.heap.size, 0, none⟩) [xs, ys] := by
  rw [alloc_size]
  refine lst_lit (ok := fun b => b < w.heap.size) (As := [.slice (some ⟨g, 0, none⟩) 32 32, .slice A n c]) (fun i hi => ?_) fun _ h => h
  have hi2 : i < 2 := hi
  rcases (by omega : i = 0 ∨ i = 1) with rfl | rfl
  · obtain ⟨a, b, c⟩ := key_byt h hm hl
    exact ⟨_, 32, by show _ = some (Value.slice _ xs.length _); rw [hl]; rfl, a, b, c⟩
  · exact ⟨A, c, by show _ = some (Value.slice _ ys.length _); rw [hn]; rfl, by show ys.length ≤ c; omega, hc.2, hy⟩
theorem lst3 (h : Exm w0 w tb T ks) {g g2 g3 : Nat} {xs ys zs : List UInt8} (hm : (g, xs) ∈ ks) (hl : xs.length = 32) (hm2 : (g2, ys) ∈ ks) (hl2 : ys.length = 32) (hm3 : (g3, zs) ∈ ks) (hl3 : zs.length = 32) : Lst (w.alloc (.cells #[.slice (some ⟨g, 0, none⟩) 32 32, .slice (some ⟨g2, 0, none⟩) 32 32, .slice (some ⟨g3, 0, none⟩) 32 32] 41)) (fun b => b < (w.alloc (.cells #[.slice (some ⟨g, 0, none⟩) 32 32, .slice (some ⟨g2, 0, none⟩) 32 32, .slice (some ⟨g3, 0, none⟩) 32 32] 41)).heap.size) (some ⟨w.heap.size, 0, none⟩) [xs, ys, zs] := by
  rw [alloc_size]
  refine lst_lit (ok := fun b => b < w.heap.size) (As := [.slice (some ⟨g, 0, none⟩) 32 32, .slice (some ⟨g2, 0, none⟩) 32 32, .slice (some ⟨g3, 0, none⟩) 32 32]) (fun i hi => ?_) fun _ h => h
  have hi2 : i < 3 := hi
  rcases (by omega : i = 0 ∨ i = 1 ∨ i = 2) with rfl | rfl | rfl
  · obtain ⟨a, b, c⟩ := key_byt h hm hl
    exact ⟨_, 32, by show _ = some (Value.slice _ xs.length _); rw [hl]; rfl, a, b, c⟩
  · obtain ⟨a, b, c⟩ := key_byt h hm2 hl2
    exact ⟨_, 32, by show _ = some (Value.slice _ ys.length _); rw [hl2]; rfl, a, b, c⟩
  · obtain ⟨a, b, c⟩ := key_byt h hm3 hl3
    exact ⟨_, 32, by show _ = some (Value.slice _ zs.length _); rw [hl3]; rfl, a, b, c⟩
/-- What a step of the example leaves. -/
def Stp (w0 : World) (tb N : Nat) (T : List Trm) (ks : List (Nat × List UInt8)) (s t : Value) (wx : World) : Prop := t = .bool true ∧ ∃ g, s = .pointer (some ⟨g, 0, none⟩) ∧ Exm w0 wx tb T ((g, nm N) :: ks)
end
end Go.Proofs.Ytbhfjjlfpgineaa
