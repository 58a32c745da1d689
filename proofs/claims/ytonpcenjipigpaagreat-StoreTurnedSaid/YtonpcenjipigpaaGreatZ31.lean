/- What a payload, a record and blocks laid say when they are read again. Conditions: none. -/
import Derived.Test.YtonpcenjipigpaaGreatZ29
namespace Go.Proofs.YtonpcenjipigpaaGreat
open Go.RowKit
theorem chgT_B {c : Chg} (h : c.err = 0) : chgT (chgB c) = some c := by
  obtain ⟨h1, h2, h3, h4⟩ := err_zero h
  obtain ⟨nm, vl, gn⟩ := c
  cases gn with
  | true =>
    obtain rfl : vl = [] := h3 rfl
    have hs : split (chgB ⟨nm, [], true⟩) = ([nm], 0) := by
      unfold chgB
      rw [if_pos rfl]
      exact split_jn _ ⟨by simp, fun p hp => by simp at hp; subst hp; simp only at h2; omega⟩
    unfold chgT
    rw [hs, chgQ, if_pos h]
  | false =>
    have hs : split (chgB ⟨nm, vl, false⟩) = ([nm, vl], 0) := by
      unfold chgB
      rw [if_neg (by simp)]
      exact split_jn _ ⟨by simp, fun p hp => by simp at hp; rcases hp with rfl | rfl <;> simp only at h2 h4 <;> omega⟩
    unfold chgT
    rw [hs, chgQ, if_pos h]
theorem chgL_map : ∀ {l : List Chg}, Good l → chgL (l.map chgB) = some l
  | [], _ => rfl
  | c :: l, h => by
    rw [List.map_cons, chgL, chgT_B (h c (by simp)), chgL_map fun x hx => h x (by simp [hx])]
theorem chgsT_pay {l : List Chg} (h : Good l) (hl : l.length ≤ 64) : chgsT (payB l) = some l := by
  unfold chgsT payB
  rw [split_jn _ (payB_fit h hl), if_pos rfl]
  exact chgL_map h
theorem readT_rec {B : List UInt8} {base e n a k : Nat} {p : List UInt8} {l : List Chg} (h : secs B (base + a) (nblk (8 + p.length)) = recB e k p) (hp : p.length < 4294967296) (hn : a + nblk (8 + p.length) ≤ n) (hc : chgsT p = some l) : readT B base e n a k = some (l, a + nblk (8 + p.length)) := by
  have hm : 1 ≤ nblk (8 + p.length) := by unfold nblk; omega
  have h4 : (blk B (base + a)).take 4 = be 4 p.length := by
    rw [← secs_head B (base + a) _ 4 hm (by decide), h, recB, fillB, frontB]
    rw [List.append_assoc, List.append_assoc, List.take_left' (be_length _ _)]
  have h8 : (blk B (base + a)).take 8 = frontB e k p := by
    rw [← secs_head B (base + a) _ 8 hm (by decide), h, recB, fillB, List.append_assoc, List.take_left' (frontB_length _ _ _)]
  have hnb : nb ((blk B (base + a)).take 4) = p.length := by rw [h4, nb_be, Nat.mod_eq_of_lt (by simpa using hp)]
  have hd : ((secs B (base + a) (nblk (8 + p.length))).drop 8).take p.length = p := by
    rw [h, recB, fillB, List.append_assoc, List.drop_left' (frontB_length _ _ _), List.take_left]
  unfold readT
  rw [hnb, if_neg (by omega), if_neg (by omega), hd, h8, if_pos rfl, hc]
  rfl
theorem secs_congr {B B' : List UInt8} (i : Nat) : ∀ k, (∀ j, j < k → blk B' (i + j) = blk B (i + j)) → secs B' i k = secs B i k
  | 0, _ => by simp [secs]
  | k + 1, h => by rw [← secs_succ, ← secs_succ, secs_congr i k fun j hj => h j (by omega), h k (by omega)]
theorem readT_congr {B B' : List UInt8} {base e n a k : Nat} (h : ∀ i, a ≤ i → i < n → blk B' (base + i) = blk B (base + i)) : readT B' base e n a k = readT B base e n a k := by
  unfold readT
  by_cases h1 : n ≤ a
  · rw [if_pos h1, if_pos h1]
  · rw [if_neg h1, if_neg h1, h a (Nat.le_refl _) (by omega)]
    by_cases h2 : n < a + nblk (8 + nb ((blk B (base + a)).take 4))
    · rw [if_pos h2, if_pos h2]
    · rw [if_neg h2, if_neg h2, secs_congr (B := B) (B' := B') (base + a) _ fun j hj => by
        have := h (a + j) (by omega) (by omega)
        rwa [← Nat.add_assoc] at this]
theorem readT_mono {B : List UInt8} {base e n N a k : Nat} {x : List Chg × Nat} (h : readT B base e n a k = some x) (hN : n ≤ N) : readT B base e N a k = some x := by
  unfold readT at h ⊢
  by_cases h1 : n ≤ a
  · rw [if_pos h1] at h; cases h
  · rw [if_neg h1] at h
    rw [if_neg (by omega)]
    by_cases h2 : n < a + nblk (8 + nb ((blk B (base + a)).take 4))
    · rw [if_pos h2] at h; cases h
    · rw [if_neg h2] at h
      rw [if_neg (by omega)]
      exact h
theorem readT_up {B : List UInt8} {base e n a k : Nat} {l : List Chg} {en : Nat} (h : readT B base e n a k = some (l, en)) : a + 1 ≤ en := by
  unfold readT at h
  split at h
  · cases h
  · split at h
    · cases h
    · split at h
      · obtain ⟨x, hx, he⟩ := Option.map_eq_some_iff.1 h
        simp only [Prod.mk.injEq] at he
        have : 1 ≤ nblk (8 + nb ((blk B (base + a)).take 4)) := by unfold nblk; omega
        omega
      · cases h
theorem loadT_congr {B B' : List UInt8} {base e n : Nat} : ∀ (m a k : Nat) (L : List (List UInt8 × List UInt8)), (∀ i, a ≤ i → i < n → blk B' (base + i) = blk B (base + i)) → loadT B' base e n m a k L = loadT B base e n m a k L
  | 0, _, _, _, _ => rfl
  | m + 1, a, k, L, h => by
    rw [loadT, loadT, readT_congr h]
    cases hr : readT B base e n a (k + 1) with
    | none => rfl
    | some x =>
      obtain ⟨l, en⟩ := x
      have := readT_up hr
      simp only
      rw [loadT_congr m en (k + 1) _ fun i h1 h2 => h i (by omega) h2]
theorem loadT_zero (B : List UInt8) (base e n a k : Nat) (L : List (List UInt8 × List UInt8)) : loadT B base e n 0 a k L = if a = n then some L else none := by rw [loadT]
theorem loadT_succ (B : List UInt8) (base e n m a k : Nat) (L : List (List UInt8 × List UInt8)) {l : List Chg} {en : Nat} (h : readT B base e n a (k + 1) = some (l, en)) : loadT B base e n (m + 1) a k L = if 64 < (doAll L l).length then none else loadT B base e n m en (k + 1) (doAll L l) := by rw [loadT, h]
theorem loadT_inv {B : List UInt8} {base e n m a k : Nat} {L L' : List (List UInt8 × List UInt8)} (h : loadT B base e n (m + 1) a k L = some L') : ∃ l en, readT B base e n a (k + 1) = some (l, en) ∧ ¬ 64 < (doAll L l).length ∧ loadT B base e n m en (k + 1) (doAll L l) = some L' := by
  cases hr : readT B base e n a (k + 1) with
  | none => rw [loadT, hr] at h; cases h
  | some x =>
    obtain ⟨l, en⟩ := x
    rw [loadT_succ _ _ _ _ _ _ _ _ hr] at h
    by_cases h1 : 64 < (doAll L l).length
    · rw [if_pos h1] at h; cases h
    · rw [if_neg h1] at h
      exact ⟨l, en, rfl, h1, h⟩
theorem loadT_more {B : List UInt8} {base e n N : Nat} (hN : n ≤ N) {l : List Chg} {L' : List (List UInt8 × List UInt8)} (h64 : (doAll L' l).length ≤ 64) (m : Nat) : ∀ (a k : Nat) (L : List (List UInt8 × List UInt8)), loadT B base e n m a k L = some L' → readT B base e N n (k + m + 1) = some (l, N) → loadT B base e N (m + 1) a k L = some (doAll L' l) := by
  induction m with
  | zero =>
    intro a k L h hr
    rw [loadT_zero] at h
    by_cases ha : a = n
    · rw [if_pos ha] at h
      obtain rfl : L = L' := Option.some.inj h
      rw [Nat.add_zero, ← ha] at hr
      rw [loadT_succ _ _ _ _ _ _ _ _ hr, if_neg (by omega), loadT_zero, if_pos rfl]
    · rw [if_neg ha] at h; cases h
  | succ m ih =>
    intro a k L h hr
    obtain ⟨l1, en, hr1, h1, h2⟩ := loadT_inv h
    rw [loadT_succ _ _ _ _ _ _ _ _ (readT_mono hr1 hN), if_neg h1]
    exact ih en (k + 1) _ h2 (by rw [show k + 1 + m + 1 = k + (m + 1) + 1 by omega]; exact hr)
/-- Blocks written one behind the other. -/
def wrs : Nat → List (List UInt8) → List (Nat × List UInt8)
  | _, [] => []
  | i, c :: cs => (i, c) :: wrs (i + 1) cs
theorem wrs_at : ∀ (cs : List (List UInt8)) (i : Nat) (x : Nat × List UInt8), x ∈ wrs i cs → i ≤ x.1 ∧ x.1 < i + cs.length ∧ x.2 ∈ cs
  | [], _, _, h => by simp [wrs] at h
  | c :: cs, i, x, h => by
    rw [wrs] at h
    rcases List.mem_cons.1 h with rfl | h
    · simp
    · have := wrs_at cs (i + 1) x h
      simp only [List.length_cons, List.mem_cons]
      exact ⟨by omega, by omega, .inr this.2.2⟩
theorem redo_blk {n : Nat} : ∀ {L : List (Nat × List UInt8)} {K : List UInt8}, Fit n L → K.length = 64 * n → ∀ {j : Nat}, (∀ x ∈ L, x.1 ≠ j) → blk (redo K L) j = blk K j
  | [], _, _, _, _, _ => rfl
  | x :: L, K, hf, hK, j, hj => by
    have hx := hf x (by simp)
    show blk (redo (put x.1 x.2 K) L) j = _
    rw [redo_blk (fun y hy => hf y (by simp [hy])) (put_length hK hx.1 hx.2) fun y hy => hj y (by simp [hy]), blk_put_ne hK hx.1 hx.2 (hj x (by simp))]
theorem secs_cons (B : List UInt8) (i : Nat) : ∀ k, secs B i (k + 1) = blk B i ++ secs B (i + 1) k
  | 0 => by rw [secs_one, secs]; simp [secs]
  | k + 1 => by rw [← secs_succ, secs_cons B i k, List.append_assoc, show i + (k + 1) = i + 1 + k by omega, secs_succ]
theorem wrs_fit {n i : Nat} {cs : List (List UInt8)} (hi : i + cs.length ≤ n) (hc : ∀ c ∈ cs, c.length = 64) : Fit n (wrs i cs) := fun x hx => by
  obtain ⟨h1, h2, h3⟩ := wrs_at cs i x hx
  exact ⟨by omega, hc _ h3⟩
theorem redo_wrs {n : Nat} : ∀ (cs : List (List UInt8)) (i : Nat) (K : List UInt8), K.length = 64 * n → i + cs.length ≤ n → (∀ c ∈ cs, c.length = 64) → secs (redo K (wrs i cs)) i cs.length = cs.flatten
  | [], i, K, _, _, _ => by simp [secs]
  | c :: cs, i, K, hK, hi, hc => by
    have hc0 := hc c (by simp)
    have hi0 : i < n := by simp at hi; omega
    have hi1 : i + 1 + cs.length ≤ n := by simp at hi; omega
    have ih := redo_wrs cs (i + 1) (put i c K) (put_length hK hi0 hc0) hi1 fun d hd => hc d (by simp [hd])
    have hf := wrs_fit hi1 fun d hd => hc d (by simp [hd])
    show secs (redo (put i c K) (wrs (i + 1) cs)) i (cs.length + 1) = _
    rw [secs_cons, ih, redo_blk hf (put_length hK hi0 hc0) fun x hx => by have := wrs_at cs (i + 1) x hx; omega, blk_put hK hi0 hc0]
    rfl
theorem cuts_flat (b : List UInt8) : ∀ M, (cuts b M).flatten = secs b 0 M
  | 0 => by simp [cuts, secs]
  | M + 1 => by
    have e : cuts b (M + 1) = cuts b M ++ [blk b M] := by simp [cuts, List.range_succ]
    rw [e, List.flatten_append, cuts_flat b M, ← secs_succ, Nat.zero_add]
    simp
theorem cuts_all {b : List UInt8} {M : Nat} (h : b.length = 64 * M) : (cuts b M).flatten = b := by
  rw [cuts_flat, secs]
  simp [← h]
theorem cuts_length (b : List UInt8) (M : Nat) : (cuts b M).length = M := by simp [cuts]
theorem cuts_each {b : List UInt8} {M : Nat} (h : b.length = 64 * M) : ∀ c ∈ cuts b M, c.length = 64 := fun c hc => by
  unfold cuts at hc
  obtain ⟨i, hi, rfl⟩ := List.mem_map.1 hc
  exact blk_length h (List.mem_range.1 hi)
theorem sealed_laid (s : St) (i : Nat) (b : List UInt8) : s.sealed i b = s.laid i [b] := rfl
theorem wrs_length : ∀ (cs : List (List UInt8)) (i : Nat), (wrs i cs).length = cs.length
  | [], _ => rfl
  | c :: cs, i => by simp [wrs, wrs_length cs]
theorem redo_append (K : List UInt8) (L M : List (Nat × List UInt8)) : redo K (L ++ M) = redo (redo K L) M := by simp [redo]
/-- How laying blocks ends. -/
theorem laid_out : ∀ (cs : List (List UInt8)) (s : St) (i : Nat), s.dead = false →
    ((s.laid i cs).1 = 0 ∧ (s.laid i cs).2 = { s with K := redo s.K (s.L ++ wrs i cs), L := [], f := (s.laid i cs).2.f } ∧ (s.f = -1 → (s.laid i cs).2.f = -1)) ∨
    ((s.laid i cs).1 = 150 ∧ s.f ≠ -1 ∧ ∃ k, (s.laid i cs).2 = { s with L := s.L ++ (wrs i cs).take k, f := (s.laid i cs).2.f, dead := true })
  | [], s, i, hd => by
    rw [St.laid]
    by_cases hf : s.f = 0
    · right
      have hg : s.goes = false := by simp [St.goes, hf]
      refine ⟨by simp [St.keptE, hg], by omega, 0, ?_⟩
      simp [St.synced, hg, St.burn, hf]
    · left
      have hg : s.goes = true := by simp [St.goes, hf, hd]
      refine ⟨by simp [St.keptE, hg], ?_, ?_⟩
      · simp [St.synced, hg, St.burn, St.sync, hf, hd, wrs]
      · intro h
        simp [St.synced, hg, St.burn, St.sync, h]
  | c :: cs, s, i, hd => by
    rw [St.laid]
    by_cases hf : s.f = 0
    · right
      have hg : s.goes = false := by simp [St.goes, hf]
      have he : s.wroteE = 150 := by simp [St.wroteE, hg]
      rw [he, if_neg (by decide)]
      refine ⟨rfl, by omega, 0, ?_⟩
      simp [St.wrote, hg, St.burn, hf]
    · have hg : s.goes = true := by simp [St.goes, hf, hd]
      have he : s.wroteE = 0 := by simp [St.wroteE, hg]
      rw [he, if_pos rfl]
      have hw : s.wrote i c = { s with L := s.L ++ [(i, c)], f := s.burn.f } := by
        simp [St.wrote, hg, St.write, St.burn, hf, hd]
      have hbf : s.f = -1 → s.burn.f = -1 := fun h => by simp [St.burn, h]
      have hbf2 : s.f ≠ -1 ∨ s.burn.f = -1 := by
        by_cases h : s.f = -1
        · exact .inr (hbf h)
        · exact .inl h
      have hwf : (s.wrote i c).f = s.burn.f := by rw [hw]
      have hwL : (s.wrote i c).L = s.L ++ [(i, c)] := by rw [hw]
      have hwK : (s.wrote i c).K = s.K := by rw [hw]
      have hwn : (s.wrote i c).n = s.n := by rw [hw]
      have hwd : (s.wrote i c).dead = false := by rw [hw]; exact hd
      rcases laid_out cs (s.wrote i c) (i + 1) hwd with ⟨h1, h2, h3⟩ | ⟨h1, h2, k, h3⟩
      · left
        refine ⟨h1, ?_, fun h => h3 (by rw [hwf]; exact hbf h)⟩
        rw [hwL, hwK, hwn, hwd] at h2
        rw [hd, wrs]
        rw [List.append_assoc] at h2
        exact h2
      · right
        refine ⟨h1, fun h => h2 (by rw [hwf]; exact hbf h), k + 1, ?_⟩
        rw [hwL, hwK, hwn] at h3
        rw [wrs, List.take_succ_cons]
        rw [List.append_assoc] at h3
        exact h3
end Go.Proofs.YtonpcenjipigpaaGreat
/- Names with values: what changes leave of their order. Conditions: none. -/
namespace Go.Proofs.YtonpcenjipigpaaGreat
open Go.RowKit
theorem lt_or {a b : List UInt8} (h : ¬ a < b) (hne : b ≠ a) : b < a := by
  have h1 : b ≤ a := List.not_lt.1 h
  rcases List.le_iff_lt_or_eq.1 h1 with h2 | h2
  · exact h2
  · exact absurd h2 hne
theorem Ris.del {α : Type} {L : List (List UInt8 × α)} (h : Ris L) (k : List UInt8) : Ris (delA k L) := by
  unfold Ris at h ⊢
  unfold delA
  exact List.Pairwise.sublist (List.Sublist.map _ List.filter_sublist) h
theorem del_ne {α : Type} {L : List (List UInt8 × α)} {k : List UInt8} : ∀ y ∈ delA k L, y.1 ≠ k := fun y hy e => by
  have := (List.mem_filter.1 hy).2
  simp [e] at this
theorem Ris.ins {α : Type} (k : List UInt8) (a : α) : ∀ {L : List (List UInt8 × α)}, Ris L → (∀ y ∈ L, y.1 ≠ k) → Ris (insA (k, a) L)
  | [], _, _ => by simp [Ris, insA]
  | y :: L, h, hn => by
    unfold Ris at h
    rw [List.map_cons, List.pairwise_cons] at h
    unfold insA
    rw [before_lt]
    by_cases hk : k < y.1
    · rw [if_pos (by simpa using hk)]
      unfold Ris
      rw [List.map_cons, List.map_cons, List.pairwise_cons, List.pairwise_cons]
      refine ⟨fun z hz => ?_, h⟩
      rcases List.mem_cons.1 hz with rfl | hz
      · exact hk
      · exact List.lt_trans hk (h.1 z hz)
    · rw [if_neg (by simpa using hk)]
      have ih := Ris.ins k a (L := L) h.2 fun z hz => hn z (by simp [hz])
      unfold Ris at ih ⊢
      rw [List.map_cons, List.pairwise_cons]
      refine ⟨fun z hz => ?_, ih⟩
      obtain ⟨u, hu, rfl⟩ := List.mem_map.1 hz
      rcases mem_ins.1 hu with rfl | hu
      · exact lt_or hk (hn y (by simp))
      · exact h.1 _ (List.mem_map.2 ⟨u, hu, rfl⟩)
theorem Ris.doC {L : List (List UInt8 × List UInt8)} (h : Ris L) (c : Chg) : Ris (doC L c) := by
  unfold YtonpcenjipigpaaGreat.doC
  split
  · exact h.del _
  · exact (h.del _).ins _ _ del_ne
theorem Ris.doAll : ∀ {l : List Chg} {L : List (List UInt8 × List UInt8)}, Ris L → Ris (doAll L l)
  | [], _, h => h
  | c :: l, _, h => Ris.doAll (l := l) (h.doC c)
/-- Names and values as long as they may be. -/
def Gd (L : List (List UInt8 × List UInt8)) : Prop := Good (chgs L)
theorem Gd.doC {L : List (List UInt8 × List UInt8)} (h : Gd L) {c : Chg} (hc : c.err = 0) : Gd (doC L c) := by
  intro x hx
  obtain ⟨y, hy, rfl⟩ := List.mem_map.1 hx
  unfold YtonpcenjipigpaaGreat.doC at hy
  split at hy
  · exact h _ (List.mem_map.2 ⟨y, mem_del hy, rfl⟩)
  · rename_i hg
    rcases mem_put hy with rfl | hy
    · obtain ⟨nm, vl, gn⟩ := c
      cases gn with
      | true => simp at hg
      | false => exact hc
    · exact h _ (List.mem_map.2 ⟨y, hy, rfl⟩)
theorem Gd.doAll : ∀ {l : List Chg} {L : List (List UInt8 × List UInt8)}, Gd L → Good l → Gd (doAll L l)
  | [], _, h, _ => h
  | c :: l, _, h, hg => Gd.doAll (l := l) (h.doC (hg c (by simp))) fun x hx => hg x (by simp [hx])
theorem Gd.nil : Gd [] := fun _ h => by simp [chgs] at h
theorem Ris.nil {α : Type} : Ris ([] : List (List UInt8 × α)) := by simp [Ris]
theorem put_last {α : Type} {k : List UInt8} {a : α} : ∀ {A : List (List UInt8 × α)}, (∀ y ∈ A, y.1 < k) → putA k a A = A ++ [(k, a)] := by
  intro A h
  have hd : delA k A = A := by
    unfold delA
    rw [List.filter_eq_self]
    intro y hy
    have : y.1 ≠ k := fun e => by
      have := h y hy
      rw [e] at this
      exact List.lt_irrefl _ this
    simpa using this
  rw [putA, hd]
  induction A with
  | nil => rfl
  | cons y A ih =>
    have h1 := h y (by simp)
    have h2 : ¬ k < y.1 := fun h3 => List.lt_irrefl _ (List.lt_trans h1 h3)
    unfold insA
    rw [before_lt, if_neg (by simpa using h2)]
    have hd' : delA k A = A := by
      unfold delA at hd ⊢
      rw [List.filter_eq_self] at hd ⊢
      exact fun z hz => hd z (by simp [hz])
    rw [ih (fun z hz => h z (by simp [hz])) hd']
    rfl
theorem doAll_self : ∀ {L A : List (List UInt8 × List UInt8)}, Ris (A ++ L) → doAll A (chgs L) = A ++ L
  | [], A, _ => by simp [chgs, doAll]
  | x :: L, A, h => by
    have hx : ∀ y ∈ A, y.1 < x.1 := fun y hy => by
      unfold Ris at h
      rw [List.map_append, List.pairwise_append] at h
      exact h.2.2 _ (List.mem_map.2 ⟨y, hy, rfl⟩) _ (by simp)
    show doAll (doC A ⟨x.1, x.2, false⟩) (chgs L) = _
    have e : doC A ⟨x.1, x.2, false⟩ = A ++ [x] := by
      unfold doC
      rw [if_neg (by simp)]
      exact put_last hx
    rw [e, doAll_self (L := L) (A := A ++ [x]) (by rw [List.append_assoc]; exact h), List.append_assoc]
    rfl
theorem chgs_length (L : List (List UInt8 × List UInt8)) : (chgs L).length = L.length := by simp [chgs]
end Go.Proofs.YtonpcenjipigpaaGreat
/- What a store holds on its disk: kept by every commit, wherever the disk dies; and what is opened then. Conditions: none. -/
namespace Go.Proofs.YtonpcenjipigpaaGreat
open Go.RowKit
theorem headT_hdr {e c n nh : Nat} (he : e < 18446744073709551616) (hc : c < 4294967296) (hn : n < 4294967296) (h1 : 1 ≤ n) (h2 : n ≤ nh) : headT (hdrB e c n) nh = (0, e, c, n) := by
  have h0 : hdr0 e c n = head4 ++ (be 8 e ++ (be 4 c ++ be 4 n)) := by simp [hdr0]
  have hb : hdrB e c n = head4 ++ (be 8 e ++ (be 4 c ++ (be 4 n ++ (be 4 (sumS (hdr0 e c n)) ++ zb 40)))) := by
    rw [hdrB_eq, hdr1]
    conv => lhs; arg 1; arg 1; rw [h0]
    simp
  have d4 : (hdrB e c n).drop 4 = be 8 e ++ (be 4 c ++ (be 4 n ++ (be 4 (sumS (hdr0 e c n)) ++ zb 40))) := by rw [hb, List.drop_left' (by rfl)]
  have d12 : (hdrB e c n).drop 12 = be 4 c ++ (be 4 n ++ (be 4 (sumS (hdr0 e c n)) ++ zb 40)) := by
    rw [show 12 = 4 + 8 by rfl, ← List.drop_drop, d4, List.drop_left' (be_length _ _)]
  have d16 : (hdrB e c n).drop 16 = be 4 n ++ (be 4 (sumS (hdr0 e c n)) ++ zb 40) := by
    rw [show 16 = 12 + 4 by rfl, ← List.drop_drop, d12, List.drop_left' (be_length _ _)]
  have e1 : nb (((hdrB e c n).drop 4).take 8) = e := by rw [d4, List.take_left' (be_length _ _), nb_be, Nat.mod_eq_of_lt (by simpa using he)]
  have e2 : nb (((hdrB e c n).drop 12).take 4) = c := by rw [d12, List.take_left' (be_length _ _), nb_be, Nat.mod_eq_of_lt (by simpa using hc)]
  have e3 : nb (((hdrB e c n).drop 16).take 4) = n := by rw [d16, List.take_left' (be_length _ _), nb_be, Nat.mod_eq_of_lt (by simpa using hn)]
  have e4 : (hdrB e c n).take 24 = hdr1 e c n := by rw [hdrB_eq, List.take_left' (hdr1_length _ _ _)]
  have hz : hdrB e c n ≠ zb 64 := fun h => by
    have := congrArg (fun l => l[0]?) h
    rw [hb] at this
    simp [head4, zb] at this
  unfold headT
  rw [if_neg hz, e1, e2, e3, e4, if_pos ⟨rfl, h1, h2⟩]
theorem headT_none (nh : Nat) : headT (zb 64) nh = (2, 0, 0, 0) := by unfold headT; rw [if_pos rfl]
/-- On a disk of n blocks that keeps K lies a store of these names and values. -/
structure Hld (n : Nat) (K : List UInt8) (t : Ste) : Prop where
  len : K.length = 64 * n
  n4 : 4 ≤ n
  n4096 : n ≤ 4096
  ok : t.ok (n / 2)
  head : headT (blk K (t.hf * (n / 2))) (n / 2) = (0, t.e, t.c, t.n)
  other : (headT (blk K ((1 - t.hf) * (n / 2))) (n / 2)).1 = 2 ∨ ((headT (blk K ((1 - t.hf) * (n / 2))) (n / 2)).1 = 0 ∧ (headT (blk K ((1 - t.hf) * (n / 2))) (n / 2)).2.1 < t.e)
  load : loadT K (t.hf * (n / 2)) t.e t.n t.c 1 0 [] = some t.L
  ris : Ris t.L
  gd : Gd t.L
theorem Hld.finds {n : Nat} {K : List UInt8} {t : Ste} (h : Hld n K t) : findL K (n / 2) 2 0 (false, 0, 0, 0, 0) = some (true, t.hf, t.e, t.c, t.n) := by
  obtain ⟨hf, e, c, m, L⟩ := t
  have h1 := h.head
  have h2 := h.other
  have h3 := h.ok.hf
  simp only at h1 h2 h3 ⊢
  rcases (show hf = 0 ∨ hf = 1 by omega) with rfl | rfl
  · simp only [Nat.zero_mul, Nat.sub_zero, Nat.one_mul] at h1 h2
    rcases h2 with h2 | ⟨h2, h4⟩
    · simp [findL, h1, h2]
    · have h5 : ¬ (headT (blk K (n / 2)) (n / 2)).2.1 = e := by omega
      have h6 : ¬ e < (headT (blk K (n / 2)) (n / 2)).2.1 := by omega
      simp [findL, h1, h2, h5, h6]
  · simp only [Nat.zero_mul, Nat.sub_self, Nat.one_mul] at h1 h2
    rcases h2 with h2 | ⟨h2, h4⟩
    · simp [findL, h1, h2]
    · have h5 : ¬ e = (headT (blk K 0) (n / 2)).2.1 := by omega
      simp [findL, h1, h2, h5, h4]
theorem Hld.opens {s : St} {t : Ste} (h : Hld s.n s.K t) (hL : s.L = []) (hd : s.dead = false) : s.openT = (0, s, some t) := by
  have hi : s.img = s.K := by rw [St.img, hL]; rfl
  have := h.n4
  unfold St.openT
  rw [if_neg (by omega), if_neg (by rw [hd]; decide), hi, h.finds]
  simp only
  rw [h.load]
/-- Blocks beside those that count are written. -/
theorem Hld.stay {n : Nat} {K K' : List UInt8} {t : Ste} (h : Hld n K t) (hl : K'.length = 64 * n) (h0 : ∀ hf, hf ≤ 1 → blk K' (hf * (n / 2)) = blk K (hf * (n / 2))) (hr : ∀ i, 1 ≤ i → i < t.n → blk K' (t.hf * (n / 2) + i) = blk K (t.hf * (n / 2) + i)) : Hld n K' t :=
  ⟨hl, h.n4, h.n4096, h.ok, by rw [h0 _ h.ok.hf]; exact h.head, by rw [h0 _ (by omega)]; exact h.other, by rw [loadT_congr _ _ _ _ hr]; exact h.load, h.ris, h.gd⟩
/-- Where a record of m blocks is laid: behind the last one, or at the other half's beginning. -/
structure Pos (n : Nat) (t : Ste) (hf a m : Nat) : Prop where
  le : hf ≤ 1
  a1 : 1 ≤ a
  am : a + m ≤ n / 2
  free : hf = t.hf → t.n ≤ a
theorem half_lt {n hf i : Nat} (hh : hf ≤ 1) (hi : i < n / 2) : hf * (n / 2) + i < n := by
  rcases (show hf = 0 ∨ hf = 1 by omega) with rfl | rfl <;> omega
theorem half_ne {n hf hf' a i : Nat} (h1 : hf ≤ 1) (h2 : hf' ≤ 1) (ha : a < n / 2) (hi : i < n / 2) (hne : ¬ (hf = hf' ∧ a = i)) : hf * (n / 2) + a ≠ hf' * (n / 2) + i := by
  rcases (show hf = 0 ∨ hf = 1 by omega) with rfl | rfl <;> rcases (show hf' = 0 ∨ hf' = 1 by omega) with rfl | rfl <;> omega
theorem wrs_in {n : Nat} {t : Ste} {hf a m : Nat} (hp : Pos n t hf a m) {cs : List (List UInt8)} (hm : cs.length = m) {x : Nat × List UInt8} (hx : x ∈ wrs (hf * (n / 2) + a) cs) : ∃ i, a ≤ i ∧ i < n / 2 ∧ x.1 = hf * (n / 2) + i := by
  obtain ⟨h1, h2, -⟩ := wrs_at _ _ _ hx
  have := hp.am
  exact ⟨x.1 - hf * (n / 2), by omega, by omega, by omega⟩
/-- Part of a record is written. -/
theorem Hld.part {n : Nat} {K : List UInt8} {t : Ste} (h : Hld n K t) {hf a m : Nat} (hp : Pos n t hf a m) {cs : List (List UInt8)} (hm : cs.length = m) (hc : ∀ c ∈ cs, c.length = 64) (k : Nat) : Hld n (redo K ((wrs (hf * (n / 2) + a) cs).take k)) t := by
  have h64 := h.n4
  have ham := hp.am
  have hhf := hp.le
  have hin : hf * (n / 2) + a + cs.length ≤ n := by
    rw [hm]
    rcases (show hf = 0 ∨ hf = 1 by omega) with rfl | rfl <;> omega
  have hft : Fit n ((wrs (hf * (n / 2) + a) cs).take k) := (wrs_fit hin hc).take k
  refine h.stay (redo_length hft h.len) (fun hf' h' => redo_blk hft h.len fun x hx => ?_) (fun i h1 h2 => redo_blk hft h.len fun x hx => ?_)
  · obtain ⟨i, i1, i2, i3⟩ := wrs_in hp hm (List.mem_of_mem_take hx)
    rw [i3]
    have := half_ne (n := n) hhf h' i2 (show 0 < n / 2 by omega) (by have := hp.a1; omega)
    simpa using this
  · obtain ⟨j, i1, i2, i3⟩ := wrs_in hp hm (List.mem_of_mem_take hx)
    rw [i3]
    have hn := h.ok.n
    exact half_ne hhf h.ok.hf i2 (by omega) (fun ⟨e1, e2⟩ => by have := hp.free e1; omega)
/-- A record and its header are written. -/
theorem Hld.go {n : Nat} {K : List UInt8} {t : Ste} (h : Hld n K t) {hf a m e c : Nat} (hp : Pos n t hf a m) {p : List UInt8} {l : List Chg} {L2 : List (List UInt8 × List UInt8)} (hm : m = nblk (8 + p.length)) (hpl : p.length < 4294967296) (hcl : chgsT p = some l)
    (h64 : L2.length ≤ 64) (hris : Ris L2) (hgd : Gd L2) (he : e < 18446744073709551616) (hc : c < a)
    (hcase : (hf = t.hf ∧ a = t.n ∧ e = t.e ∧ c = t.c ∧ doAll t.L l = L2) ∨ (hf = 1 - t.hf ∧ a = 1 ∧ e = t.e + 1 ∧ c = 0 ∧ doAll [] l = L2)) :
    Hld n (redo K (wrs (hf * (n / 2) + a) (cuts (recB e (c + 1) p) m) ++ [(hf * (n / 2), hdrB e (c + 1) (a + m))])) ⟨hf, e, c + 1, a + m, L2⟩ := by
  have h4 := h.n4
  have h4096 := h.n4096
  have ham := hp.am
  have ha1 := hp.a1
  have hhf := hp.le
  have hm1 : 1 ≤ m := by rw [hm]; unfold nblk; omega
  have hRl : (recB e (c + 1) p).length = 64 * m := by rw [recB_length, hm]
  have hcl2 : (cuts (recB e (c + 1) p) m).length = m := cuts_length _ _
  have hce := cuts_each hRl
  have hin : hf * (n / 2) + a + (cuts (recB e (c + 1) p) m).length ≤ n := by
    rw [hcl2]
    rcases (show hf = 0 ∨ hf = 1 by omega) with rfl | rfl <;> omega
  have hft := wrs_fit hin hce
  have hK1 : (redo K (wrs (hf * (n / 2) + a) (cuts (recB e (c + 1) p) m))).length = 64 * n := redo_length hft h.len
  have hsec := redo_wrs _ _ K h.len hin hce
  rw [hcl2, cuts_all hRl] at hsec
  rw [redo_snoc]
  obtain ⟨K1, hK1e⟩ : ∃ K1, K1 = redo K (wrs (hf * (n / 2) + a) (cuts (recB e (c + 1) p) m)) := ⟨_, rfl⟩
  have hold : ∀ hf' i, hf' ≤ 1 → i < n / 2 → ¬ (hf' = hf ∧ a ≤ i) → blk K1 (hf' * (n / 2) + i) = blk K (hf' * (n / 2) + i) := fun hf' i h' hi hne => by
    rw [hK1e]
    refine redo_blk hft h.len fun x hx => ?_
    obtain ⟨j, i1, i2, i3⟩ := wrs_in hp hcl2 hx
    rw [i3]
    exact half_ne hhf h' i2 hi fun ⟨e1, e2⟩ => hne ⟨e1.symm, by omega⟩
  rw [← hK1e] at hK1 hsec ⊢
  clear hK1e
  have hpos : hf * (n / 2) < n := by
    have := half_lt (n := n) hhf (show 0 < n / 2 by omega)
    simpa using this
  have hhl := hdrB_length e (c + 1) (a + m)
  have hne2 : ∀ hf' i, hf' ≤ 1 → i < n / 2 → ¬ (hf' = hf ∧ i = 0) → blk (put (hf * (n / 2)) (hdrB e (c + 1) (a + m)) K1) (hf' * (n / 2) + i) = blk K1 (hf' * (n / 2) + i) := fun hf' i h' hi hne => by
    refine blk_put_ne hK1 hpos hhl ?_
    have := half_ne (n := n) hhf h' (show 0 < n / 2 by omega) hi fun ⟨e1, e2⟩ => hne ⟨e1.symm, e2.symm⟩
    simpa using this
  have hsec2 : secs (put (hf * (n / 2)) (hdrB e (c + 1) (a + m)) K1) (hf * (n / 2) + a) (nblk (8 + p.length)) = recB e (c + 1) p := by
    rw [← hm, ← hsec]
    refine secs_congr _ _ fun j hj => ?_
    rw [Nat.add_assoc]
    exact hne2 hf (a + j) hhf (by omega) (by omega)
  refine ⟨put_length hK1 hpos hhl, h4, h4096, ⟨hhf, he, by show c + 1 < a + m; omega, ham, by show 1 ≤ a + m; omega, h64⟩, ?_, ?_, ?_, hris, hgd⟩
  · show headT (blk (put _ _ K1) (hf * (n / 2))) _ = _
    rw [blk_put hK1 hpos hhl, headT_hdr he (by omega) (by omega) (by omega) ham]
  · show (headT (blk (put _ _ K1) ((1 - hf) * (n / 2))) (n / 2)).1 = 2 ∨ _
    have e0 : blk (put (hf * (n / 2)) (hdrB e (c + 1) (a + m)) K1) ((1 - hf) * (n / 2)) = blk K ((1 - hf) * (n / 2)) := by
      have h1 := hne2 (1 - hf) 0 (by omega) (by omega) (by omega)
      have h2 := hold (1 - hf) 0 (by omega) (by omega) (by omega)
      simp only [Nat.add_zero] at h1 h2
      rw [h1, h2]
    rw [e0]
    rcases hcase with ⟨e1, e2, e3, e4, e5⟩ | ⟨e1, e2, e3, e4, e5⟩
    · rw [e1, e3]
      exact h.other
    · right
      have := h.ok.hf
      have e6 : 1 - hf = t.hf := by omega
      rw [e6, h.head]
      exact ⟨rfl, by show t.e < e; omega⟩
  · show loadT (put (hf * (n / 2)) (hdrB e (c + 1) (a + m)) K1) (hf * (n / 2)) e (a + m) (c + 1) 1 0 [] = some L2
    have hrd := readT_rec hsec2 hpl (n := a + m) (by omega) hcl
    rw [← hm] at hrd
    have hcon : 1 ≤ t.n ∧ t.n ≤ n / 2 := ⟨h.ok.n1, h.ok.n⟩
    have hk : ∀ i, 1 ≤ i → i < a → hf = t.hf → blk (put (hf * (n / 2)) (hdrB e (c + 1) (a + m)) K1) (t.hf * (n / 2) + i) = blk K (t.hf * (n / 2) + i) := fun i h1 h2 h3 => by
      rw [← h3, hne2 hf i hhf (by omega) (by omega), hold hf i hhf (by omega) (by omega)]
    obtain ⟨K2, hK2⟩ : ∃ K2, K2 = put (hf * (n / 2)) (hdrB e (c + 1) (a + m)) K1 := ⟨_, rfl⟩
    rw [← hK2] at hrd hk ⊢
    clear hK2 hne2 hold hsec2 hsec
    rcases hcase with ⟨e1, e2, e3, e4, e5⟩ | ⟨e1, e2, e3, e4, e5⟩
    · rw [← e5]
      refine loadT_more (n := a) (by omega) (by rw [e5]; exact h64) c 1 0 [] ?_ (by rw [Nat.zero_add]; exact hrd)
      rw [loadT_congr (B := K) _ _ _ _ (fun i h1 h2 => by rw [e1]; exact hk i h1 h2 e1), e1, e2, e3, e4]
      exact h.load
    · subst e4
      rw [← e5]
      refine loadT_more (n := a) (L' := []) (by omega) (by rw [e5]; exact h64) 0 1 0 [] (by rw [loadT_zero, if_pos e2.symm]) (by rw [Nat.zero_add]; exact hrd)
end Go.Proofs.YtonpcenjipigpaaGreat
/- How a commit ends, in plain mathematics: what a store holds behind it, and what is opened behind a crash. Conditions: none. -/
namespace Go.Proofs.YtonpcenjipigpaaGreat
open Go.RowKit
/-- A new store on a new disk. -/
theorem start_out {n : Nat} (h4 : 4 ≤ n) (h4096 : n ≤ 4096) : ∃ s1, (St.mk0 n).openT = (0, s1, some ⟨0, 1, 0, 1, []⟩) ∧ Hld n s1.K ⟨0, 1, 0, 1, []⟩ ∧ s1.L = [] ∧ s1.dead = false ∧ s1.f = -1 ∧ s1.n = n := by
  have hz : ∀ i, i < n → blk (zb (64 * n)) i = zb 64 := fun i hi => by
    apply List.ext_getElem?
    intro j
    by_cases hj : j < 64
    · rw [blk_get _ _ _ hj, zb, zb, List.getElem?_replicate, List.getElem?_replicate, if_pos (by omega), if_pos hj]
    · rw [List.getElem?_eq_none (by rw [blk_length (n := n) (zb_length _) hi]; omega), List.getElem?_eq_none (by rw [zb_length]; omega)]
  have hi : (St.mk0 n).img = zb (64 * n) := rfl
  have hf : findL (zb (64 * n)) (n / 2) 2 0 (false, 0, 0, 0, 0) = some (false, 0, 0, 0, 0) := by
    have h0 : blk (zb (64 * n)) (0 * (n / 2)) = zb 64 := hz _ (by omega)
    have h1 : blk (zb (64 * n)) ((0 + 1) * (n / 2)) = zb 64 := hz _ (by omega)
    rw [findL, h0, headT_none, if_pos rfl, findL, h1, headT_none, if_pos rfl, findL]
  have hs : (St.mk0 n).sealed 0 (hdrB 1 0 1) = (0, { n := n, K := put 0 (hdrB 1 0 1) (zb (64 * n)), L := [], f := -1, dead := false }) := by
    simp [St.sealed, St.wroteE, St.wrote, St.keptE, St.synced, St.mk0, St.goes, St.burn, St.write, St.sync, redo]
  have hn : (St.mk0 n).n = n := rfl
  have hd : (St.mk0 n).dead = false := rfl
  refine ⟨{ n := n, K := put 0 (hdrB 1 0 1) (zb (64 * n)), L := [], f := -1, dead := false }, ?_, ?_, rfl, rfl, rfl, rfl⟩
  · unfold St.openT
    rw [hn, if_neg (by omega), if_neg (by rw [hd]; decide), hi, hf]
    simp only
    rw [hs, if_pos rfl]
  · have hlen : (zb (64 * n)).length = 64 * n := zb_length _
    have hhl := hdrB_length 1 0 1
    refine ⟨put_length hlen (by omega) hhl, h4, h4096, ⟨by decide, by decide, by decide, by show 1 ≤ n / 2; omega, by decide, by decide⟩, ?_, ?_, rfl, Ris.nil, Gd.nil⟩
    · show headT (blk (put 0 _ _) (0 * (n / 2))) _ = _
      rw [Nat.zero_mul, blk_put hlen (by omega) hhl, headT_hdr (by decide) (by decide) (by decide) (by decide) (by omega)]
    · left
      show (headT (blk (put 0 _ _) ((1 - 0) * (n / 2))) _).1 = 2
      rw [blk_put_ne hlen (by omega) hhl (by omega), hz _ (by omega), headT_none]
theorem good_of_find {l : List Chg} (h : l.find? (fun c => c.err ≠ 0) = none) : Good l := fun c hc => by
  have := List.find?_eq_none.1 h c hc
  simpa using this
/-- How laying a record and a header ends. -/
theorem lays_out {s : St} (hd : s.dead = false) (hL : s.L = []) (hf a : Nat) (b : List UInt8) (e c n : Nat) :
    (∃ f, s.lays hf a b e c n = (0, { s with K := redo s.K (wrs (hf * (s.n / 2) + a) (cuts b (nblk b.length)) ++ [(hf * (s.n / 2), hdrB e c n)]), L := [], f := f }, some (hf, e, c, n)) ∧ (s.f = -1 → f = -1)) ∨
    (∃ f K L, s.lays hf a b e c n = (150, { s with K := K, L := L, f := f, dead := true }, none) ∧ s.f ≠ -1 ∧
      ((K = s.K ∧ ∃ k, L = (wrs (hf * (s.n / 2) + a) (cuts b (nblk b.length))).take k) ∨ (K = redo s.K (wrs (hf * (s.n / 2) + a) (cuts b (nblk b.length))) ∧ ∃ k, L = [(hf * (s.n / 2), hdrB e c n)].take k))) := by
  unfold St.lays
  rcases laid_out (cuts b (nblk b.length)) s (hf * (s.n / 2) + a) hd with ⟨h1, h2, h3⟩ | ⟨h1, h2, k, h3⟩
  · obtain ⟨s1, hs1⟩ : ∃ s1, s1 = (s.laid (hf * (s.n / 2) + a) (cuts b (nblk b.length))).2 := ⟨_, rfl⟩
    rw [← hs1] at h2 h3 ⊢
    rw [h1, if_neg (by simp)]
    have hs1K : s1.K = redo s.K (wrs (hf * (s.n / 2) + a) (cuts b (nblk b.length))) := by rw [h2, hL]; rfl
    have hs1L : s1.L = [] := by rw [h2]
    have hs1d : s1.dead = false := by rw [h2]; exact hd
    have hs1n : s1.n = s.n := by rw [h2]
    rw [sealed_laid]
    rcases laid_out [hdrB e c n] s1 (hf * (s.n / 2)) hs1d with ⟨g1, g2, g3⟩ | ⟨g1, g2, k, g3⟩
    · left
      rw [g1, if_neg (by simp)]
      refine ⟨(s1.laid (hf * (s.n / 2)) [hdrB e c n]).2.f, ?_, fun h => g3 (h3 h)⟩
      have : (s1.laid (hf * (s.n / 2)) [hdrB e c n]).2 = { s with K := redo s.K (wrs (hf * (s.n / 2) + a) (cuts b (nblk b.length)) ++ [(hf * (s.n / 2), hdrB e c n)]), L := [], f := (s1.laid (hf * (s.n / 2)) [hdrB e c n]).2.f } := by
        conv => lhs; rw [g2]
        rw [hs1K, hs1L, hs1n, hs1d, hd]
        simp only [List.nil_append, wrs]
        rw [redo_snoc]
        rfl
      rw [← this]
    · right
      rw [g1, if_pos (by simp)]
      refine ⟨(s1.laid (hf * (s.n / 2)) [hdrB e c n]).2.f, redo s.K (wrs (hf * (s.n / 2) + a) (cuts b (nblk b.length))), [(hf * (s.n / 2), hdrB e c n)].take k, ?_, fun h => g2 (h3 h), .inr ⟨rfl, k, rfl⟩⟩
      have : (s1.laid (hf * (s.n / 2)) [hdrB e c n]).2 = { s with K := redo s.K (wrs (hf * (s.n / 2) + a) (cuts b (nblk b.length))), L := [(hf * (s.n / 2), hdrB e c n)].take k, f := (s1.laid (hf * (s.n / 2)) [hdrB e c n]).2.f, dead := true } := by
        conv => lhs; rw [g3]
        rw [hs1K, hs1L, hs1n]
        rfl
      rw [← this]
  · right
    rw [h1, if_pos (by simp)]
    refine ⟨(s.laid (hf * (s.n / 2) + a) (cuts b (nblk b.length))).2.f, s.K, (wrs (hf * (s.n / 2) + a) (cuts b (nblk b.length))).take k, ?_, h2, .inl ⟨rfl, k, rfl⟩⟩
    have : (s.laid (hf * (s.n / 2) + a) (cuts b (nblk b.length))).2 = { s with K := s.K, L := (wrs (hf * (s.n / 2) + a) (cuts b (nblk b.length))).take k, f := (s.laid (hf * (s.n / 2) + a) (cuts b (nblk b.length))).2.f, dead := true } := by
      conv => lhs; rw [h3]
      rw [hL]
      rfl
    rw [← this]
/-- How a commit ends. -/
structure ComDone (s : St) (t : Ste) (L2 : List (List UInt8 × List UInt8)) (s' : St) (t' : Ste) : Prop where
  L : t'.L = L2
  held : Hld s.n s'.K t'
  wait : s'.L = []
  live : s'.dead = false
  n : s'.n = s.n
  f : s.f = -1 → s'.f = -1
structure ComDied (s : St) (t : Ste) (L2 : List (List UInt8 × List UInt8)) (s' : St) (t' : Ste) : Prop where
  st : t' = t
  n : s'.n = s.n
  f : s.f ≠ -1
  dead : s'.dead = true
  opens : ∀ k, ∃ u, Hld s.n (redo s'.K (s'.L.take k)) u ∧ (u.L = t.L ∨ u.L = L2)
theorem lays_com {s : St} {t : Ste} (h : Hld s.n s.K t) (hL : s.L = []) (hd : s.dead = false) {hf a e c : Nat} {p : List UInt8} {l : List Chg} {L2 : List (List UInt8 × List UInt8)} (hp : Pos s.n t hf a (nblk (recB e (c + 1) p).length)) (hpl : p.length < 4294967296) (hcl : chgsT p = some l)
    (h64 : L2.length ≤ 64) (hris : Ris L2) (hgd : Gd L2) (he : e < 18446744073709551616) (hc : c < a)
    (hcase : (hf = t.hf ∧ a = t.n ∧ e = t.e ∧ c = t.c ∧ doAll t.L l = L2) ∨ (hf = 1 - t.hf ∧ a = 1 ∧ e = t.e + 1 ∧ c = 0 ∧ doAll [] l = L2)) :
    (∃ s', s.lays hf a (recB e (c + 1) p) e (c + 1) (a + nblk (recB e (c + 1) p).length) = (0, s', some (hf, e, c + 1, a + nblk (recB e (c + 1) p).length)) ∧ ComDone s t L2 s' ⟨hf, e, c + 1, a + nblk (recB e (c + 1) p).length, L2⟩) ∨
    (∃ s', s.lays hf a (recB e (c + 1) p) e (c + 1) (a + nblk (recB e (c + 1) p).length) = (150, s', none) ∧ ComDied s t L2 s' t) := by
  have hmm : nblk (recB e (c + 1) p).length = nblk (8 + p.length) := by rw [recB_length]; unfold nblk; omega
  have hgo := h.go hp hmm hpl hcl h64 hris hgd he hc hcase
  have hRl : (recB e (c + 1) p).length = 64 * nblk (recB e (c + 1) p).length := by rw [recB_length]; unfold nblk; omega
  have hpart := fun k => h.part hp (cuts_length (recB e (c + 1) p) _) (cuts_each hRl) k
  rcases lays_out hd hL hf a (recB e (c + 1) p) e (c + 1) (a + nblk (recB e (c + 1) p).length) with ⟨f, h1, h2⟩ | ⟨f, K, L, h1, h2, h3⟩
  · exact .inl ⟨_, h1, ⟨rfl, hgo, rfl, hd, rfl, h2⟩⟩
  · refine .inr ⟨_, h1, ⟨rfl, rfl, h2, rfl, fun k => ?_⟩⟩
    rcases h3 with ⟨rfl, j, rfl⟩ | ⟨rfl, j, rfl⟩
    · refine ⟨t, ?_, .inl rfl⟩
      show Hld s.n (redo s.K (List.take k (List.take j _))) t
      rw [List.take_take]
      exact hpart _
    · by_cases hjk : 1 ≤ min k j
      · refine ⟨⟨hf, e, c + 1, a + nblk (recB e (c + 1) p).length, L2⟩, ?_, .inr rfl⟩
        show Hld s.n (redo (redo s.K _) (List.take k (List.take j _))) _
        rw [List.take_take, List.take_of_length_le (by simpa using hjk), ← redo_append]
        exact hgo
      · refine ⟨t, ?_, .inl rfl⟩
        show Hld s.n (redo (redo s.K _) (List.take k (List.take j _))) t
        rw [List.take_take, show min k j = 0 by omega, List.take_zero]
        have := hpart (nblk (recB e (c + 1) p).length)
        rw [List.take_of_length_le (by rw [wrs_length, cuts_length]; omega)] at this
        exact this
/-- How a commit ends. -/
theorem commit_out {s : St} {t : Ste} (h : Hld s.n s.K t) (hL : s.L = []) (hd : s.dead = false) (l : List Chg) :
    (∃ s' t', s.commitT t l = (0, s', t') ∧ ComDone s t (doAll t.L l) s' t' ∧ Good l ∧ l.length ≤ 64) ∨ (∃ e, s.commitT t l = (e, s, t) ∧ e ≠ 0 ∧ e ≠ 150) ∨ (∃ s', s.commitT t l = (150, s', t) ∧ ComDied s t (doAll t.L l) s' t) := by
  unfold St.commitT
  cases hfd : l.find? (fun c => c.err ≠ 0) with
  | some c =>
    right; left
    have h0 : c.err ≠ 0 := by simpa using List.find?_some hfd
    have h1 : c.err = 1 ∨ c.err = 5 := by
      unfold Chg.err at h0 ⊢
      split
      · exact .inl rfl
      · rename_i h2
        rw [if_neg h2] at h0
        split
        · exact .inr rfl
        · rename_i h3
          rw [if_neg h3] at h0
          exact absurd rfl h0
    exact ⟨c.err, rfl, h0, by omega⟩
  | none =>
    have hg := good_of_find hfd
    simp only
    by_cases h64 : 64 < l.length
    · rw [if_pos h64]
      exact .inr (.inl ⟨4, rfl, by decide, by decide⟩)
    · rw [if_neg h64]
      by_cases h642 : 64 < (doAll t.L l).length
      · rw [if_pos h642]
        exact .inr (.inl ⟨4, rfl, by decide, by decide⟩)
      · rw [if_neg h642, if_neg (by rw [hd]; decide)]
        by_cases hnil : l = []
        · rw [if_pos hnil]
          subst hnil
          exact .inl ⟨s, t, rfl, ⟨rfl, h, hL, hd, rfl, id⟩, hg, by simp⟩
        · rw [if_neg hnil]
          have hris : Ris (doAll t.L l) := h.ris.doAll
          have hgd : Gd (doAll t.L l) := h.gd.doAll hg
          have hpl := payB_length hg (by omega)
          have hpl2 := payB_length hgd (by rw [chgs_length]; omega)
          have hok := h.ok
          have hself : doAll [] (chgs (doAll t.L l)) = doAll t.L l := by
            have := doAll_self (A := []) (L := doAll t.L l) (by simpa using hris)
            simpa using this
          have hfin : ∀ x : Nat × St × Option (Nat × Nat × Nat × Nat), s.keepT t l (doAll t.L l) = x →
              ((∃ s' hf e c n, x = (0, s', some (hf, e, c, n)) ∧ ComDone s t (doAll t.L l) s' ⟨hf, e, c, n, doAll t.L l⟩) ∨ (∃ e, x = (e, s, none) ∧ e ≠ 0 ∧ e ≠ 150) ∨ (∃ s', x = (150, s', none) ∧ ComDied s t (doAll t.L l) s' t)) →
              ((∃ s' t', (match x with | (e, s', none) => (e, s', t) | (e, s', some (hf, ep, c, n)) => (e, s', ⟨hf, ep, c, n, doAll t.L l⟩) : Nat × St × Ste) = (0, s', t') ∧ ComDone s t (doAll t.L l) s' t' ∧ Good l ∧ l.length ≤ 64) ∨ (∃ e, (match x with | (e, s', none) => (e, s', t) | (e, s', some (hf, ep, c, n)) => (e, s', ⟨hf, ep, c, n, doAll t.L l⟩) : Nat × St × Ste) = (e, s, t) ∧ e ≠ 0 ∧ e ≠ 150) ∨
                (∃ s', (match x with | (e, s', none) => (e, s', t) | (e, s', some (hf, ep, c, n)) => (e, s', ⟨hf, ep, c, n, doAll t.L l⟩) : Nat × St × Ste) = (150, s', t) ∧ ComDied s t (doAll t.L l) s' t)) := by
            rintro x - (⟨s', hf, e, c, n, rfl, h1⟩ | ⟨e, rfl, h1⟩ | ⟨s', rfl, h1⟩)
            · exact .inl ⟨s', _, rfl, h1, hg, by omega⟩
            · exact .inr (.inl ⟨e, rfl, h1⟩)
            · exact .inr (.inr ⟨s', rfl, h1⟩)
          refine hfin _ rfl ?_
          unfold St.keepT
          by_cases hfit : t.n + nblk (recB t.e (t.c + 1) (payB l)).length ≤ s.n / 2
          · rw [if_pos hfit]
            rcases lays_com h hL hd (hf := t.hf) (a := t.n) (e := t.e) (c := t.c) ⟨hok.hf, hok.n1, hfit, fun _ => Nat.le_refl _⟩ (by omega) (chgsT_pay hg (by omega)) (by omega) hris hgd hok.e hok.c (.inl ⟨rfl, rfl, rfl, rfl, rfl⟩) with ⟨s', h1, h2⟩ | ⟨s', h1, h2⟩
            · exact .inl ⟨s', _, _, _, _, h1, h2⟩
            · exact .inr (.inr ⟨s', h1, h2⟩)
          · rw [if_neg hfit]
            by_cases hmx : t.e = 18446744073709551615
            · rw [if_pos hmx]
              exact .inr (.inl ⟨7, rfl, by decide, by decide⟩)
            · rw [if_neg hmx]
              by_cases hfit2 : 1 + nblk (recB (t.e + 1) 1 (payB (chgs (doAll t.L l)))).length ≤ s.n / 2
              · rw [if_pos hfit2]
                have hhf := hok.hf
                have he := hok.e
                rcases lays_com h hL hd (hf := 1 - t.hf) (a := 1) (e := t.e + 1) (c := 0) ⟨by omega, Nat.le_refl _, hfit2, fun hh => by omega⟩ (by omega) (chgsT_pay hgd (by rw [chgs_length]; omega)) (by omega) hris hgd (by omega) (by omega) (.inr ⟨rfl, rfl, rfl, rfl, hself⟩) with ⟨s', h1, h2⟩ | ⟨s', h1, h2⟩
                · exact .inl ⟨s', _, _, _, _, h1, h2⟩
                · exact .inr (.inr ⟨s', h1, h2⟩)
              · rw [if_neg hfit2]
                exact .inr (.inl ⟨4, rfl, by decide, by decide⟩)
end Go.Proofs.YtonpcenjipigpaaGreat
