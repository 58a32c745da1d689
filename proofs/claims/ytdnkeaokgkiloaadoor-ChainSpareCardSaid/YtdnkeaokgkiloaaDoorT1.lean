/- The laws' suites; operations behind a guard; the document's example. Conditions: the tables of the hash lie where the program lays them. -/
import Derived.Test.YtdnkeaokgkiloaaDoorS3
import Derived.Test.YtdnkeaokgkiloaaDoorR7
namespace Go.Proofs.YtdnkeaokgkiloaaDoor
open Go.RowKit T
/-- A new suite of a kind. -/
def sg0 (f : Bool) : Sg := if f then some [] else none
theorem sg0_room (f : Bool) (n : Nat) : Room n (sg0 f) := by
  cases f
  · exact trivial
  · exact Nat.zero_le _
theorem suite_any (w : World) (hT : S.Tab w) (f : Bool) : Calls Tryd.prog 11 #[.bool f] w fun e w' => ∃ p ok, e = .returned (tab p) ∧ Sui w' ok p (sg0 f) ∧ (∀ b, ok b → w.heap.size ≤ b) ∧ w.grownBy w' none := by
  have h2 : 2 ≤ w.heap.size := hT.lt
  cases f
  · exact (suite_real w).mono fun e w' ⟨he, hg⟩ => ⟨none, fun _ => False, he, ⟨hT.grown hg (by simp) (by simp), fun _ hb => hb.elim, Nat.le_trans h2 hg.size⟩, fun _ hb => hb.elim, hg⟩
  · exact (suite_free w).mono fun e w' ⟨tb, he, ht, hg⟩ => ⟨some tb, fun b => w.heap.size ≤ b ∧ b < w'.heap.size, he, ⟨ht, fun b hb => hb.2, Nat.le_trans h2 hg.size⟩, fun b hb => hb.1, hg⟩
theorem rsuite_any (w : World) (f : Bool) : Calls Tryd.prog 13 #[.bool f] w fun e w' => ∃ p ok, e = .returned (tab p) ∧ Rui w' ok p (sg0 f) ∧ (∀ b, ok b → w.heap.size ≤ b) ∧ w.grownBy w' none := by
  refine (ref_any w f).mono fun e w' ⟨hg, h⟩ => ?_
  rcases h with ⟨rfl, he⟩ | ⟨rfl, rb, he, ht⟩
  · exact ⟨none, fun _ => False, he, ⟨trivial, fun _ hb => hb.elim⟩, fun _ hb => hb.elim, hg⟩
  · exact ⟨some rb, fun b => w.heap.size ≤ b ∧ b < w'.heap.size, he, ⟨⟨ht, fun x hx => by cases hx⟩, fun b hb => hb.2⟩, fun b hb => hb.1, hg⟩
theorem zeS : Ze 29 [.pointer none] := ⟨fun _ => by kernel_rfl, fun _ => by kernel_rfl⟩
theorem zeR : Ze 35 [.pointer none] := ⟨fun _ => by kernel_rfl, fun _ => by kernel_rfl⟩
section
variable {w0 w v : World} {ok okX : Nat → Prop} {p : Option Nat} {τ : Sg}
theorem md_grown (h : Md ok w v) (hg : w0.grownBy w none) (hn : ∀ b, ok b → w0.heap.size ≤ b) : w0.grownBy v none :=
  ⟨h.os.trans hg.os, h.tape.trans hg.tape, h.output.trans hg.output, Nat.le_trans hg.size h.size, fun k hk _ => (h.block k (Nat.lt_of_lt_of_le hk hg.size) fun hb => by have := hn k hb; omega).trans (hg.block k hk (by simp))⟩
theorem more_new (hz : w0.heap.size ≤ w.heap.size) (hn : ∀ b, ok b → w0.heap.size ≤ b) : ∀ b, More ok w v b → w0.heap.size ≤ b := fun b hb => hb.elim (hn b) fun h => Nat.le_trans hz h.1
theorem Reg.new (h : Reg w v ok okX p τ) (hz : w0.heap.size ≤ w.heap.size) (hn : ∀ b, ok b → w0.heap.size ≤ b) : ∀ b, okX b → w0.heap.size ≤ b := fun b hb => more_new hz hn b (h.sub b hb)
theorem Rrg.new (h : Rrg w v ok okX p τ) (hz : w0.heap.size ≤ w.heap.size) (hn : ∀ b, ok b → w0.heap.size ≤ b) : ∀ b, okX b → w0.heap.size ≤ b := fun b hb => more_new hz hn b (h.sub b hb)
end
section
variable {w : World} {ops : Array Oper} {rest : List Oper} {S : World → Prop} {o : Oper} {a : Act} {K : Act → World → Prop} {Q : Exit → Act → World → Prop} {t t' : TypeId} {m g : Nat} {vs z old : List Value}
theorem wpList_loadGw (hT : Ag t m) (hw : Region.wanted o (yielded ops a.tmps) = true) (x : Operand) (ho : o.op = .load t x) (g : Nat) (hx : a.eval x = .pointer (some ⟨g, 0, none⟩)) (hb : C.Blk w g t' vs) (hl : vs.length = m)
    (h : wpList Tryd.prog ops Q rest (a.put o.dst (.agg vs.toArray)) w) : wpList Tryd.prog ops Q (o :: rest) a w :=
  wpList_step fun K hK => by
    rw [if_pos hw]
    exact wp_loadG hT x ho g hx hb hl (hK _ _ h)
theorem wpList_indexKw (hw : Region.wanted o (yielded ops a.tmps) = true) (x y : Operand) (ho : o.op = .indexAddr 47 x y) (g off n c i : Nat) (hx : a.eval x = .slice (some ⟨g, off, none⟩) n c) (hy : a.eval y = .int .i64 (i : Int)) (hi : i < n)
    (h : wpList Tryd.prog ops Q rest (a.put o.dst (.pointer (some ⟨g, off + 65 * i, none⟩))) w) : wpList Tryd.prog ops Q (o :: rest) a w :=
  wpList_step fun K hK => by
    have hrun := run_indexK w g off n c i hi
    rw [if_pos hw]
    unfold Oper.wp execOp
    simp only [ho, hx, hy, hrun, Sem.run_bind, Sem.run_pure, Result.andThen_ok]
    exact hK _ _ h
end
theorem run_rowN (w : World) (i : Int) : (Instr.build 40 #[(1, .int .u16 i)]).run Tryd.prog w = .ok (.agg (u8s z32 ++ [Value.int .u16 i]).toArray) w := by kernel_rfl
section
variable {w : World} {ops : Array Oper} {rest : List Oper} {o : Oper} {a : Act} {Q : Exit → Act → World → Prop}
/-- A row's value of a number alone; the key that begins with 1. -/
theorem wpList_rowN (hgd : o.guard = none) (x : Operand) (ho : o.op = .build 40 #[(1, x)]) (n : Nat) (hx : a.eval x = .int .u16 (n : Int))
    (h : wpList Tryd.prog ops Q rest (a.put o.dst (.agg (rv z32 n).toArray)) w) : wpList Tryd.prog ops Q (o :: rest) a w := by
  refine wpList_plain hgd fun K hK => ?_
  have hrun : (Instr.build 40 #[(1, .int .u16 (n : Int))]).run Tryd.prog w = .ok (.agg (rv z32 n).toArray) w := run_rowN w n
  generalize rv z32 n = z at *
  unfold Oper.wp
  simp only [execOp, ho, List.map_toArray, List.map_cons, List.map_nil, hx, Sem.run_bind, hrun, Result.andThen_ok, Sem.run_pure]
  exact hK _ _ h
theorem wpList_rowK (hgd : o.guard = none) (x y : Operand) (ho : o.op = .build 40 #[(0, x), (1, y)]) {k : List UInt8} (n : Nat) (hk : k.length = 32) (hx : a.eval x = .agg (u8s k).toArray) (hy : a.eval y = .int .u16 (n : Int))
    (h : wpList Tryd.prog ops Q rest (a.put o.dst (.agg (rv k n).toArray)) w) : wpList Tryd.prog ops Q (o :: rest) a w := by
  refine wpList_plain hgd fun K hK => ?_
  have hrun := run_buildC w hk n
  generalize rv k n = z at *
  generalize u8s k = y' at *
  unfold Oper.wp
  simp only [execOp, ho, List.map_toArray, List.map_cons, List.map_nil, hx, hy, Sem.run_bind, hrun, Result.andThen_ok, Sem.run_pure]
  exact hK _ _ h
end
def key1 : List UInt8 := 1 :: List.replicate 31 0
theorem key1_length : key1.length = 32 := by simp [key1]
theorem run_key1 (w : World) : (Instr.build 24 #[(0, .int .u8 1)]).run Tryd.prog w = .ok (.agg (u8s key1).toArray) w := by kernel_rfl
theorem wpList_key1 {w : World} {ops : Array Oper} {rest : List Oper} {o : Oper} {a : Act} {Q : Exit → Act → World → Prop} (hgd : o.guard = none) (ho : o.op = .build 24 #[(0, .const (.int .u8 1))])
    (h : wpList Tryd.prog ops Q rest (a.put o.dst (.agg (u8s key1).toArray)) w) : wpList Tryd.prog ops Q (o :: rest) a w := by
  refine wpList_plain hgd fun K hK => ?_
  have hrun := run_key1 w
  have e1 : a.eval (.const (.int .u8 1)) = .int .u8 1 := rfl
  generalize u8s key1 = z at hrun h
  unfold Oper.wp
  simp only [execOp, ho, List.map_toArray, List.map_cons, List.map_nil, e1, Sem.run_bind, hrun, Result.andThen_ok, Sem.run_pure]
  exact hK _ _ h
/-- So many letters on, where nothing is in the way. -/
def goS : Nat → Sg → List UInt8 → Sg
  | 0, σ, _ => σ
  | m + 1, σ, k => goS m (nextS σ k) (nextK σ k)
def goK : Nat → Sg → List UInt8 → List UInt8
  | 0, _, k => k
  | m + 1, σ, k => goK m (nextS σ k) (nextK σ k)
def goM (r : List UInt8) : Nat → Sg → List UInt8 → Nat → List Kep
  | 0, _, _, _ => []
  | m + 1, σ, k, n => (r, n, nextL σ k) :: goM r m (nextS σ k) (nextK σ k) (n + 1)
theorem goM_length (r : List UInt8) : ∀ m σ k n, (goM r m σ k n).length = m
  | 0, _, _, _ => rfl
  | m + 1, σ, k, n => by rw [goM, List.length_cons, goM_length r m]
theorem goK_length : ∀ m σ k, k.length = 32 → (goK m σ k).length = 32
  | 0, _, _, h => h
  | m + 1, σ, k, _ => goK_length m _ _ (nextK_length σ k)
theorem goM_ok {r : List UInt8} (hr : r.length = 32) : ∀ m σ k n, n + m ≤ 65536 → KAll (goM r m σ k n)
  | 0, _, _, _, _ => KAll.nil
  | m + 1, σ, k, n, h => fun x hx => by
    rcases List.mem_cons.1 hx with rfl | hx
    · exact KOk.made hr (by omega)
    · exact goM_ok hr m _ _ (n + 1) (by omega) x hx
theorem goM_lt {r : List UInt8} : ∀ m σ k n, ∀ x ∈ goM r m σ k n, n ≤ x.2.1 ∧ x.2.1 < n + m
  | m + 1, σ, k, n, x, hx => by
    rcases List.mem_cons.1 hx with rfl | hx
    · exact ⟨Nat.le_refl _, by show n < n + (m + 1); omega⟩
    · have := goM_lt m _ _ (n + 1) x hx
      omega
theorem keep_clean {L : List Kep} {r x : List UInt8} {n : Nat} (hL : ∀ y ∈ L, y.2.1 < n) (hl : L.length < 16) : keepE L (r, n, x) = 0 := by
  have hp : plc L r n = -1 := plc_none fun j hj => by
    have := hL _ (List.getElem_mem hj)
    unfold hit
    rw [show (L[j].2.1 == n) = false by simp; omega, Bool.and_false]
  unfold keepE
  dsimp only
  rw [hp, if_neg (by omega), if_neg (by omega)]
theorem goF_clean (r : List UInt8) : ∀ m σ k n L, (∀ y ∈ L, y.2.1 < n) → L.length + m ≤ 16 → goF r m σ k n L = (goS m σ k, goK m σ k, n + m, L ++ goM r m σ k n, 0)
  | 0, σ, k, n, L, _, _ => by simp [goF, goS, goK, goM]
  | m + 1, σ, k, n, L, hL, hl => by
    unfold goF
    rw [if_pos (keep_clean hL (by omega)), goF_clean r m (nextS σ k) (nextK σ k) (n + 1) _ (fun y hy => ?_) (by rw [List.length_append]; simp; omega)]
    · simp only [goS, goK, goM, List.append_assoc, List.singleton_append, Nat.add_assoc, Nat.add_comm 1 m]
    · rcases List.mem_append.1 hy with hy | hy
      · have := hL y hy; omega
      · obtain rfl := List.mem_singleton.1 hy; exact Nat.lt_succ_self n
theorem skip_clean {r : List UInt8} {σ : Sg} {k : List UInt8} {n m : Nat} {L : List Kep} (hL : ∀ y ∈ L, y.2.1 < n) (hl : L.length + m ≤ 16) : skipF r σ k n (n + m) L = (goS m σ k, goK m σ k, n + m, L ++ goM r m σ k n, 0) := by
  have hf : far n (n + m) L.length = 0 := by
    unfold far
    rw [if_neg (by omega), if_neg (by omega)]
  have hg := goF_clean r m σ k n L hL hl
  unfold skipF
  rw [if_neg (by rw [hf]; simp), show n + m - n = m by omega, hg, if_pos rfl]
theorem skip_back {r : List UInt8} {σ : Sg} {k : List UInt8} {n q : Nat} {L : List Kep} (h : q < n) : skipF r σ k n q L = (σ, k, n, L, 180) := by
  have hf : far n q L.length = 180 := by
    unfold far
    rw [if_pos h]
  unfold skipF
  rw [if_pos (by rw [hf]; simp), hf]
theorem goS_room {n : Nat} : ∀ m σ k, k.length = 32 → Room n σ → n + 2 * m ≤ 59000 → Room (n + 2 * m) (goS m σ k)
  | 0, _, _, _, h, _ => h
  | m + 1, σ, k, hk, h, hn => by
    have h1 := h.next hk (by omega)
    have := goS_room (n := n + 2) m (nextS σ k) (nextK σ k) (nextK_length _ _) h1 (by omega)
    rw [show n + 2 * (m + 1) = n + 2 + 2 * m by omega]
    exact this
end Go.Proofs.YtdnkeaokgkiloaaDoor
