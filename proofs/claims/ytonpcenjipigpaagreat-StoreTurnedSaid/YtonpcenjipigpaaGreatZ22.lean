/- slices.Chunk of bytes by 64: each block of them is handed to the loop's body, in order. Conditions: whole blocks, at most 2^16 of them. -/
import Derived.Test.YtonpcenjipigpaaGreatZ19
import Derived.Test.YtonpcenjipigpaaGreatZ21
import Derived.StillTailTactics
namespace Go.Proofs.YtonpcenjipigpaaGreat
open Go.RowKit Go.Shelf
attribute [local go_sem] Oper.semAt_some
/-- Two blocks are as they were. -/
def Kp2 (a b : Nat) (A B : World) : Prop := B.heap[a]? = A.heap[a]? ∧ B.heap[b]? = A.heap[b]?
theorem Kp2.refl (a b : Nat) (A : World) : Kp2 a b A A := ⟨rfl, rfl⟩
theorem Kp2.trans {a b : Nat} {A B C : World} (h : Kp2 a b A B) (k : Kp2 a b B C) : Kp2 a b A C := ⟨k.1.trans h.1, k.2.trans h.2⟩
/-- A number under M. -/
abbrev Und (M : Nat) := { x : Nat // x < M }
theorem range_snoc (k : Nat) : List.range k ++ [k] = List.range (k + 1) := List.range_succ.symm
set_option maxRecDepth 100000 in
set_option maxHeartbeats 2000000 in
theorem chunk_in (Fe : Fence) (n : Nat) (hf : Fe.fn 97) (hro : Fe.round = none) (hn : 1 ≤ n) (l Bs Bn g o M cp : Nat) (hM : M ≤ 65536) (hcp : 64 * M ≤ cp)
    (J Jx : List (Und M) → World → Prop) (hJd : ∀ pre V, J pre V → J pre V.drew)
    (hY : ∀ pre (x : Und M) W1, J pre W1 → pre.length < M → YieldAt Fe (n - 1) Tryz.prog l #[.slice (some ⟨g, o + 64 * x.1, none⟩) 64 64] W1 fun e W' =>
      (e = .returned (.bool true) ∧ J (pre ++ [x]) W' ∧ Kp2 Bs Bn W1 W') ∨ (e = .returned (.bool false) ∧ Jx (pre ++ [x]) W'))
    (w : World) (hc : w.cell? ⟨Bs, 0, none⟩ = some (.slice (some ⟨g, o, none⟩) (64 * M) cp)) (hc2 : w.cell? ⟨Bn, 0, none⟩ = some (.int .i64 64)) (h0 : J [] w) :
    CallsIn Fe n Tryz.prog 97 #[.func (.yield l) #[] #[], .pointer (some ⟨Bs, 0, none⟩), .pointer (some ⟨Bn, 0, none⟩)] w fun e W' => (∃ v, e = .returned v) ∧
      ((∃ ys : List (Und M), ys.map (·.1) = List.range M ∧ J ys W') ∨ (∃ pre : List (Und M), (∃ k, k ≤ M ∧ pre.map (·.1) = List.range k) ∧ Jx pre W')) := by
  refine callsIn_of_wp Tryz.func97 rfl hf ?_ hro
  simp only [Tryz.ntmps97, List.size_toArray, List.length_cons, List.length_nil, Nat.reduceAdd, Nat.reduceSub, Array.replicate_succ, Array.replicate_zero, List.push_toArray, List.append_toArray, List.nil_append, List.cons_append]
  gi_wp2
  gi_loopw [4] (fun i wr => ∃ (k : Nat) (pre : List (Und M)), k ≤ M ∧ i = .int .i64 (64 * (k : Int)) ∧ pre.map (·.1) = List.range k ∧ J pre wr ∧ Kp2 Bs Bn w wr)
    (fun i _ => 64 * M - (intOf i).toNat)
  case atStart => exact ⟨0, [], Nat.zero_le _, by simp, by simp, h0, Kp2.refl _ _ _⟩
  case round =>
    obtain ⟨k, pre, hk, rfl, hpre, hJ, hB⟩ := hrel
    have hpl : pre.length = k := by simpa using congrArg List.length hpre
    have hcr : wr.cell? ⟨Bs, 0, none⟩ = some (.slice (some ⟨g, o, none⟩) (64 * M) cp) := (World.cell?_of_block hB.1).trans hc
    have hcr2 : wr.cell? ⟨Bn, 0, none⟩ = some (.int .i64 64) := (World.cell?_of_block hB.2).trans hc2
    by_cases hlt : k < M
    · obtain ⟨fn, tmps, assign, body, hy, hR⟩ := hY pre ⟨k, hlt⟩ wr.drew (hJd _ _ hJ) (by rw [hpl]; exact hlt)
      dsimp only at hy
      have HPRE : Hid ((pre ++ [(⟨k, hlt⟩ : Und M)]).map (fun x : Und M => x.1) = List.range (k + 1)) := by
        refine Lib.hid ?_
        rw [List.map_append, hpre, ← range_snoc]
        rfl
      clear hpre hpl
      gi_wp2
      have hmin : min (64 : Int) ((64 * M - 64 * k : Nat) : Int) = 64 := by omega
      have hmax : ((64 * (k : Int) + 64).toNat - 64 * k) = 64 := by omega
      have HB := Lib.hid hB
      clear hB hJ hc hc2
      gi_region
      all_goals
        gi_wp2
        refine hR.mono ?_
        rintro e W3 (⟨rfl, hJ3, hk3⟩ | ⟨rfl, hJx3⟩)
        · have hcw2 : W3.cell? ⟨Bn, 0, none⟩ = some (.int .i64 64) := (World.cell?_of_block hk3.2).trans hcr2
          gi_wp2
          go_roundw
          case rel => exact ⟨k + 1, _, hlt, by first | (congr 1; done) | (congr 1; omega), HPRE.out, hJ3, HB.out.trans hk3⟩
          case measure => simp [intOf]; omega
        · gi_wp2
          refine bodyPost_ret (results_none rfl _ _ _) rfl ?_
          exact ⟨⟨_, rfl⟩, .inr ⟨_, ⟨k + 1, hlt, HPRE.out⟩, hJx3⟩⟩
    · obtain rfl : k = M := by omega
      gi_wp2
      go_end0
      exact ⟨⟨_, rfl⟩, .inl ⟨_, hpre, hJ⟩⟩
theorem chunk_stops (Fe : Fence) (n : Nat) (hf : Fe.fn 97) (hro : Fe.round = none) (hn : 1 ≤ n) (Bs Bn g o M cp : Nat) (hM : M ≤ 65536) (hcp : 64 * M ≤ cp) (w : World) (hBs : Bs < w.heap.size) (hBn : Bn < w.heap.size)
    (hc : w.cell? ⟨Bs, 0, none⟩ = some (.slice (some ⟨g, o, none⟩) (64 * M) cp)) (hc2 : w.cell? ⟨Bn, 0, none⟩ = some (.int .i64 64)) :
    SeqStopsK Fe n Tryz.prog 97 #[.pointer (some ⟨Bs, 0, none⟩), .pointer (some ⟨Bn, 0, none⟩)] (fun x : Und M => #[Value.slice (some ⟨g, o + 64 * x.1, none⟩) 64 64]) (Kp2 Bs Bn) (fun ys => ys.map (·.1) = List.range M) (fun pre => ∃ k, k ≤ M ∧ pre.map (·.1) = List.range k) M w :=
  fun l J Jx V hV hJ _ hY h0 => chunk_in Fe n hf hro hn l Bs Bn g o M cp hM hcp J Jx (fun pre X h => hJ pre X X.drew none h (grown_drewN 1) (fun _ e => by simp at e)) hY V ((hV.cell (p := ⟨Bs, 0, none⟩) hBs).trans hc) ((hV.cell (p := ⟨Bn, 0, none⟩) hBn).trans hc2) h0
set_option maxRecDepth 100000 in
set_option maxHeartbeats 1000000 in
theorem chunk_make (Fe : Fence) (n : Nat) (h31 : Fe.fn 87) (hro : Fe.round = none) (A : Option Addr) (len cap : Nat) (w : World) :
    CallsIn Fe n Tryz.prog 87 #[.slice A len cap, .int .i64 64] w fun e w' => e = .returned (.func (.func 97) #[] #[.pointer (some ⟨w.heap.size, 0, none⟩), .pointer (some ⟨w.heap.size + 1, 0, none⟩)]) ∧ w' = (w.alloc (.cells #[.slice A len cap] 40)).alloc (.cells #[.int .i64 64] 3) := by
  refine callsIn_of_wp Tryz.func87 rfl h31 ?_ hro
  simp only [Tryz.ntmps87, List.size_toArray, List.length_cons, List.length_nil, Nat.reduceAdd, Nat.reduceSub, Array.replicate_succ, Array.replicate_zero, List.push_toArray, List.append_toArray, List.nil_append, List.cons_append]
  gi_wp2
  go_ret
  exact ⟨rfl, rfl⟩
end Go.Proofs.YtonpcenjipigpaaGreat
/- lay: a record's blocks are written, then synced. Conditions: they have room; at most 2^20 writes wait. -/
namespace Go.Proofs.YtonpcenjipigpaaGreat
open Go.RowKit Go.Shelf
attribute [local go_sem] Oper.semAt_some
/-- What a disk makes of blocks laid one behind the other, and a sync: the error, the disk. -/
def St.laid : St → Nat → List (List UInt8) → Nat × St
  | s, _, [] => (s.keptE, s.synced)
  | s, i, c :: cs => if s.wroteE = 0 then St.laid (s.wrote i c) (i + 1) cs else (150, s.wrote i c)
/-- The blocks of bytes. -/
def cuts (b : List UInt8) (M : Nat) : List (List UInt8) := (List.range M).map (blk b)
theorem Dsk.tight {w : World} {foot : Nat → Prop} {p : Nat} {s : St} (h : Dsk w foot p s) : Dsk w (fun k => foot k ∧ ∃ o : Obj, w.heap[k]? = some o ∧ o.isCells = true) p s := by
  obtain ⟨gb, Wv, B, W, h1, h2, h3, h4, h5⟩ := h
  refine ⟨gb, Wv, B, W, h1, h2, h3, ⟨⟨h4.hp, _, h1, rfl⟩, ⟨h4.hgb, _, h2, rfl⟩, h4.ne, fun k hk => ⟨⟨(h4.wv k hk).1, ?_⟩, (h4.wv k hk).2⟩, fun k hk => h4.lt k hk.1⟩, h5⟩
  rcases h3.2 with ⟨rfl, -⟩ | ⟨g, cap, cur, rfl, hb, hgg, rest⟩
  · simp [Value.ownBlock] at hk
  · obtain rfl : g = k := by simpa [Value.ownBlock] using hk
    exact ⟨_, hgg, rfl⟩
theorem St.wrote_n (s : St) (i : Nat) (b : List UInt8) : (s.wrote i b).n = s.n := by unfold St.wrote; split <;> rfl
/-- What is laid at each round of the loop. -/
structure LayAt (foot : Nat → Prop) (w : World) (sp dp h a : Nat) (b : List UInt8) (i0 : Nat) (s : St) (z : Nat) (pre : List Nat) (V : World) : Prop where
  disk : ∃ f s', Dsk V f dp s' ∧ (∀ j, f j → ((foot j ∧ j < w.heap.size) ∨ z ≤ j) ∧ ∃ o : Obj, V.heap[j]? = some o ∧ o.isCells = true) ∧ s'.n = s.n ∧ s'.L.length ≤ s.L.length + pre.length ∧ ∀ cs, s.laid i0 (pre.map (blk b) ++ cs) = s'.laid (i0 + pre.length) cs
  md : Md foot w V
  b0 : Blk V w.heap.size 28 [.pointer (some ⟨sp, 0, none⟩)]
  b1 : Blk V (w.heap.size + 1) 3 [.int .i64 (h : Int)]
  b2 : Blk V (w.heap.size + 2) 49 [.int .u64 ((a + pre.length : Nat) : Int)]
  b3 : Blk V (w.heap.size + 3) 29 [.int .i64 0]
  size : z ≤ V.heap.size
/-- What is laid when the loop was left. -/
structure LayEnd (foot : Nat → Prop) (w : World) (dp : Nat) (b : List UInt8) (i0 : Nat) (s : St) (z : Nat) (pre : List Nat) (V : World) : Prop where
  disk : ∃ f s', Dsk V f dp s' ∧ (∀ cs, s.laid i0 (pre.map (blk b) ++ cs) = (150, s')) ∧ (∀ j, f j → ((foot j ∧ j < w.heap.size) ∨ z ≤ j) ∧ ∃ o : Obj, V.heap[j]? = some o ∧ o.isCells = true)
  md : Md foot w V
  b3 : Blk V (w.heap.size + 3) 29 [.int .i64 150]
  size : z ≤ V.heap.size
theorem Md.grownBy {foot : Nat → Prop} {w X Y : World} {row : Option Nat} (h : Md foot w X) (hg : X.grownBy Y row) (hr : ∀ r, row = some r → w.heap.size ≤ r) : Md foot w Y :=
  ⟨hg.os.trans h.os, hg.tape.trans h.tape, hg.output.trans h.output, Nat.le_trans h.size hg.size, fun k hk hn => (hg.block k (Nat.lt_of_lt_of_le hk h.size) fun e => by have := hr k e.symm; omega).trans (h.block k hk hn)⟩
theorem cells_grown {X Y : World} {row : Option Nat} (hg : X.grownBy Y row) (hr : ∀ r, row = some r → ∃ o : Obj, X.heap[r]? = some o ∧ o.isCells = false) {k : Nat} {o : Obj} (h : X.heap[k]? = some o) (ho : o.isCells = true) : Y.heap[k]? = X.heap[k]? :=
  hg.block k (Array.getElem?_eq_some_iff.1 h).1 fun e => by
    obtain ⟨o', h', ho'⟩ := hr k e.symm
    rw [h] at h'
    cases h'
    rw [ho] at ho'
    cases ho'
section
variable {foot : Nat → Prop} {w : World} {sp dp h a : Nat} {b : List UInt8} {i0 : Nat} {s : St} {z : Nat}
theorem disk_grown {X Y : World} {row : Option Nat} {dp : Nat} {f : Nat → Prop} {s' : St} (hd : Dsk X f dp s') (hf : ∀ j, f j → ((foot j ∧ j < w.heap.size) ∨ z ≤ j) ∧ ∃ o : Obj, X.heap[j]? = some o ∧ o.isCells = true) (hg : X.grownBy Y row) (hr : ∀ r, row = some r → ∃ o : Obj, X.heap[r]? = some o ∧ o.isCells = false) :
    Dsk Y f dp s' ∧ ∀ j, f j → ((foot j ∧ j < w.heap.size) ∨ z ≤ j) ∧ ∃ o : Obj, Y.heap[j]? = some o ∧ o.isCells = true := by
  refine ⟨hd.keep hg.size fun k hk => ?_, fun j hj => ⟨(hf j hj).1, ?_⟩⟩
  · obtain ⟨-, o, ho, hc⟩ := hf k hk
    exact cells_grown hg hr ho hc
  · obtain ⟨-, o, ho, hc⟩ := hf j hj
    exact ⟨o, (cells_grown hg hr ho hc).trans ho, hc⟩
theorem blk_grown {X Y : World} {row : Option Nat} {g : Nat} {t : TypeId} {l : List Value} (hb : Blk X g t l) (hg : X.grownBy Y row) (hr : ∀ r, row = some r → ∃ o : Obj, X.heap[r]? = some o ∧ o.isCells = false) : Blk Y g t l :=
  hb.keep (cells_grown hg hr hb rfl)
theorem LayAt.own {X Y : World} {row : Option Nat} {pre : List Nat} (h' : LayAt foot w sp dp h a b i0 s z pre X) (hg : X.grownBy Y row) (hz : w.heap.size ≤ z) (hr : ∀ r, row = some r → z ≤ r ∧ ∃ o : Obj, X.heap[r]? = some o ∧ o.isCells = false) : LayAt foot w sp dp h a b i0 s z pre Y := by
  obtain ⟨⟨f, s', hd, hf, rest⟩, md, b0, b1, b2, b3, sz⟩ := h'
  have hr' := fun r e => (hr r e).2
  obtain ⟨hd', hf'⟩ := disk_grown hd hf hg hr'
  exact ⟨⟨f, s', hd', hf', rest⟩, md.grownBy hg fun r e => by have := (hr r e).1; omega, blk_grown b0 hg hr', blk_grown b1 hg hr', blk_grown b2 hg hr', blk_grown b3 hg hr', Nat.le_trans sz hg.size⟩
theorem LayEnd.own {X Y : World} {row : Option Nat} {pre : List Nat} (h' : LayEnd foot w dp b i0 s z pre X) (hg : X.grownBy Y row) (hz : w.heap.size ≤ z) (hr : ∀ r, row = some r → z ≤ r ∧ ∃ o : Obj, X.heap[r]? = some o ∧ o.isCells = false) : LayEnd foot w dp b i0 s z pre Y := by
  obtain ⟨⟨f, s', hd, hl, hf⟩, md, b3, sz⟩ := h'
  have hr' := fun r e => (hr r e).2
  obtain ⟨hd', hf'⟩ := disk_grown hd hf hg hr'
  exact ⟨⟨f, s', hd', hl, hf'⟩, md.grownBy hg fun r e => by have := (hr r e).1; omega, blk_grown b3 hg hr', Nat.le_trans sz hg.size⟩
end
theorem cuts_split (b : List UInt8) {M k : Nat} (hk : k ≤ M) : cuts b M = (List.range k).map (blk b) ++ (cuts b M).drop k := by
  have : (cuts b M).take k = (List.range k).map (blk b) := by
    unfold cuts
    rw [← List.map_take, List.take_range, Nat.min_eq_left hk]
  rw [← this, List.take_append_drop]
end Go.Proofs.YtonpcenjipigpaaGreat
/- A region that draws its order within a round of a range over a function: reads first, then one call that writes. Conditions: no defer statement. -/
namespace Go.Proofs.YtonpcenjipigpaaGreat
open Go.RowKit Go.Shelf
theorem rowsIn_wide {n : Nat} {P : Program} {row : String} {args : Array Value} {w : World} {R : Value → World → Prop} (h : Rows P row args w R) : RowsIn Fence.wide n P row args w R := fun c cs _ => by
  obtain ⟨v, w', hR, hs⟩ := h c cs
  exact ⟨v, w', hR, stepsIn_wide.2 hs⟩
theorem oper_round {n l : Nat} {P : Program} {o : Oper} {a : Act} {w : World} {K : Act → World → Prop} {Q : Exit → Act → World → Prop} (hnd : ∀ c, o.op ≠ .defer c) (h : o.wp P a w K Q) : o.wpIn (Fence.wide.inRound l) n P a w K Q := by
  refine ⟨fun f _ => trivial, ?_⟩
  rw [show (Fence.wide.inRound l).round = some l from rfl, Oper.semAt_some _ _ _ hnd]
  unfold Oper.wp at h
  generalize (execOp a.eval o).run P w = r at *
  cases r with
  | ok x w' =>
    cases x with
    | value v => exact h
    | skip => exact h
    | «defer» d => exact h
    | enter f args => exact ⟨fun hd => absurd hd (by simp [Fence.wide, Fence.inRound]), CallsIn.inRound l (callsIn_wide.2 h)⟩
    | row rw args => exact ⟨fun hd => absurd hd (by simp [Fence.wide, Fence.inRound]), rowsIn_wide h⟩
    | _ => exact h.elim
  | halt x w' => cases x <;> exact h
theorem wpAny_round {l : Nat} {n : Nat} {P : Program} {md : Region.Mode} {ops : Array Oper} {Q : Exit → Act → World → Prop} (hnd : ∀ (i : Nat) (o : Oper), ops[i]? = some o → ∀ c, o.op ≠ .defer c) (hno : ¬ LetsOut Q) :
    ∀ (fuel : Nat) (listed : Array Bool) (a : Act) (w : World), wpAny P md ops Q fuel listed a w → wpAnyIn (Fence.wide.inRound l) n P md ops Q fuel listed a w
  | 0, _, _, _, h => h
  | fuel + 1, listed, a, w, h => ⟨h.1, fun i hi => by
    have h2 := h.2 i hi
    unfold wpOpIn
    unfold wpOp at h2
    cases ho : ops[i]? with
    | none =>
      rw [ho] at h2
      exact wpAny_round hnd hno fuel _ _ _ h2
    | some o =>
      rw [ho] at h2
      dsimp only at h2 ⊢
      split
      · rename_i hw
        rw [if_pos hw] at h2
        exact Oper.wpIn_mono (fun a' w' h' => wpAny_round hnd hno fuel _ _ _ h') (oper_round (hnd i o ho) (h2.resolve_right fun hc => hno hc.2))
      · rename_i hw
        rw [if_neg hw] at h2
        exact ⟨fun f _ => trivial, wpAny_round hnd hno fuel _ _ _ h2⟩⟩
theorem wpAnyIn_le {F : Fence} {n : Nat} {P : Program} {md : Region.Mode} {ops : Array Oper} {Q' : Act → World → Prop} {Q : Exit → Act → World → Prop} (hQ : ∀ a w, Q' a w → Q .normal a w) :
    ∀ (fuel : Nat) (listed : Array Bool) (a : Act) (w : World), wpAnyIn F n P md ops (fun e a w => e = .normal ∧ Q' a w) fuel listed a w → wpAnyIn F n P md ops Q fuel listed a w := by
  have hx : ∀ (a : Act) (w : World) (e : Exit), (e = .normal ∧ Q' a w) → Q e a w := fun a w e h => by rw [h.1]; exact hQ a w h.2
  have hop : ∀ (o : Oper) (a : Act) (w : World) (K K' : Act → World → Prop), (∀ a w, K a w → K' a w) → o.wpIn F n P a w K (fun e a w => e = .normal ∧ Q' a w) → o.wpIn F n P a w K' Q := fun o a w K K' hK h => by
    refine ⟨h.1, ?_⟩
    have h2 := h.2
    generalize (o.semAt F.round a.eval).run P w = r at *
    cases r with
    | ok x w' =>
      cases x with
      | value v => exact hK _ _ h2
      | skip => exact hK _ _ h2
      | «defer» d => exact hK _ _ h2
      | enter f args => exact ⟨h2.1, h2.2.mono fun e w'' he => by
          cases e with
          | returned v => exact hK _ _ he
          | panicked c => exact absurd he.1 (by simp)
          | outgrown => obtain ⟨_, _, h3, _⟩ := he; cases h3⟩
      | row rw args => exact ⟨h2.1, RowsIn.mono h2.2 fun _ _ he => hK _ _ he⟩
      | round l f tmps assign body => exact ⟨h2.1, RoundIn.mono h2.2 fun e w'' he => by
          cases e with
          | returned v => exact hK _ _ he
          | panicked c => exact absurd he.1 (by simp)
          | outgrown => obtain ⟨_, _, h3, _⟩ := he; cases h3⟩
      | _ => exact h2.elim
    | halt x w' => cases x <;> first | exact absurd h2.1 (by simp) | exact h2.elim
  intro fuel
  induction fuel with
  | zero => exact fun listed a w h => ⟨h.1, hQ _ _ h.2.2⟩
  | succ fuel ih =>
    refine fun listed a w h => ⟨fun hr => hQ _ _ (h.1 hr).2, fun i hi => ?_⟩
    have h2 := h.2 i hi
    unfold wpOpIn at *
    cases ho : ops[i]? with
    | none =>
      rw [ho] at h2
      exact ih _ _ _ h2
    | some o =>
      rw [ho] at h2
      dsimp only at h2 ⊢
      split
      · rename_i hw
        rw [if_pos hw] at h2
        exact hop o a w _ _ (fun a' w' h' => ih _ _ _ h') h2
      · rename_i hw
        rw [if_neg hw] at h2
        exact ⟨h2.1, ih _ _ _ h2.2⟩
/-- Reads and calls that leave all as it lies, then the last operations in their order: in a round. -/
theorem wpIn_region_round_tail {Fe : Fence} {m l id : Nat} {P : Program} {Q : Exit → Act → World → Prop} {a : Act} {w : World} {L : List Oper} (n : Nat) (hFe : Hid (Fe = Fence.wide)) (hm : P.follows .mixedOrders = true) (hB : Region.lexTailB .any L.toArray n = true)
    (hnd : ∀ o ∈ L, ∀ c, o.op ≠ .defer c)
    (h : wpStill P L.toArray w.drew (fun a' => wpList P L.toArray (fun e a w => e = .normal ∧ Q .normal a w) (L.drop n) a' w.drew) (L.take n) a) : (Code.region id L.toArray true).wpIn (Fe.inRound l) m P Q a w := by
  obtain rfl := hFe.out
  have hQ : ∀ a w, Q .normal a w → Q .normal a w := fun _ _ h => h
  simp only [Region.lexTailB, Bool.and_eq_true, decide_eq_true_eq] at hB
  obtain ⟨⟨⟨⟨hsel, hn⟩, hs⟩, hc⟩, hlex⟩ := hB
  have hn' : n < L.length := by simpa using hn
  have htl : (L.take n).length = n := by simp; omega
  have hdl : (L.drop n).length = L.toArray.size - n := by simp
  have inv0 : HeadInv .any L.toArray n (Array.replicate L.toArray.size false) :=
    ⟨by simp, fun j oj _ hl => (by rw [getD_replicate_false] at hl; cases hl), fun t _ ht => getD_in (by simpa using ht) (getD_replicate_false _ _)⟩
  have H := wpAnyL_lex (md := .any) (g := L.toArray.size - n) hsel hs hc hn (L.take n) 0 _ a (fun j hj => by
    have hj' : j < n := by rw [htl] at hj; exact hj
    simp [hj']) (by simpa using htl) inv0 (by rw [htl]; exact hlex) h
  refine wpIn_region_any hm (wpAnyIn_le hQ _ _ _ _ (wpAny_round (fun i o ho => hnd o ?_) (fun h3 => by obtain ⟨_, _, h4, _⟩ := h3; cases h4) _ _ _ _ ?_))
  · have : L[i]? = some o := by simpa using ho
    exact List.mem_of_getElem? this
  have := wpAny_of_head (Q' := fun e a w => e = Exit.normal ∧ Q .normal a w) (g := L.toArray.size - n) (fun listed a' hL => by
    have := wpAny_of_seq (md := .any) (Q' := fun e a w => e = Exit.normal ∧ Q .normal a w) (L.drop n) n listed a' w.drew (fun j => by simp [List.getElem?_drop]) (by rw [hdl]; exact hL.1) hL.2
    rwa [hdl] at this) _ _ _ H
  rw [htl, show n + (L.toArray.size - n) = L.toArray.size by omega] at this
  exact this
end Go.Proofs.YtonpcenjipigpaaGreat
