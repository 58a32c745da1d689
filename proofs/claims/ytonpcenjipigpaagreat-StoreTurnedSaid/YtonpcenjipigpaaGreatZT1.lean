/- A byte of a header, of S or of a payload that is another one is found: plain mathematics. Conditions: none. -/
import Derived.Test.YtonpcenjipigpaaGreatZ52
namespace Go.Proofs.YtonpcenjipigpaaGreat
open Go.RowKit
theorem getD_set (b : List UInt8) (i : Nat) (v : UInt8) (hi : i < b.length) (j : Nat) : (b.set i v).getD j 0 = if j = i then v else b.getD j 0 := by
  simp only [List.getD_eq_getElem?_getD, List.getElem?_set]
  by_cases h : j = i
  · subst h; simp [hi]
  · rw [if_neg (fun e => h e.symm), if_neg h]
theorem sumTo_before (b : List UInt8) (i : Nat) (v : UInt8) (hi : i < b.length) : ∀ k, k ≤ i → sumTo (b.set i v) k = sumTo b k
  | 0, _ => rfl
  | k + 1, h => by
    rw [sumTo, sumTo, sumTo_before b i v hi k (by omega), getD_set b i v hi, if_neg (by omega)]
theorem sumTo_set (b : List UInt8) (i : Nat) (v : UInt8) (hi : i < b.length) : ∀ k, i < k → (sumTo (b.set i v) k + (i + 1) * (b.getD i 0).toNat) % 2147483647 = (sumTo b k + (i + 1) * v.toNat) % 2147483647
  | 0, h => absurd h (by omega)
  | k + 1, h => by
    rw [sumTo, sumTo, getD_set b i v hi]
    by_cases hk : k = i
    · subst hk
      rw [if_pos rfl, sumTo_before b k v hi k (Nat.le_refl _)]
      omega
    · rw [if_neg hk]
      have ih := sumTo_set b i v hi k (by omega)
      omega
theorem sumS_set {b : List UInt8} {i : Nat} {v : UInt8} (hi : i < b.length) (hl : b.length ≤ 1048576) (hv : v ≠ b[i]) : sumS (b.set i v) ≠ sumS b := fun h => by
  unfold sumS at h
  rw [List.length_set] at h
  have h1 := sumTo_set b i v hi b.length hi
  rw [h] at h1
  have e : b.getD i 0 = b[i] := by simp [List.getD_eq_getElem?_getD, hi]
  rw [e] at h1
  have h2 := sumTo_lt b b.length
  have hx := b[i].toNat_lt
  have hy := v.toNat_lt
  obtain ⟨D, hD⟩ : ∃ D, D = i + 1 := ⟨_, rfl⟩
  rw [← hD] at h1
  have hb1 : D * b[i].toNat ≤ 1048576 * 255 := Nat.mul_le_mul (by omega) (by omega)
  have hb2 : D * v.toNat ≤ 1048576 * 255 := Nat.mul_le_mul (by omega) (by omega)
  have he : D * b[i].toNat = D * v.toNat := by omega
  have := Nat.eq_of_mul_eq_mul_left (by omega : 0 < D) he
  exact hv (UInt8.toNat_inj.1 this.symm)
theorem be_inj {k a b : Nat} (ha : a < 256 ^ k) (hb : b < 256 ^ k) (h : be k a = be k b) : a = b := by
  have := congrArg nb h
  rwa [nb_be, nb_be, Nat.mod_eq_of_lt ha, Nat.mod_eq_of_lt hb] at this
theorem sumS_lt (b : List UInt8) : sumS b < 2147483647 := sumTo_lt b _
theorem be4_sum {x y : List UInt8} (h : be 4 (sumS x) = be 4 (sumS y)) : sumS x = sumS y :=
  be_inj (by have := sumS_lt x; omega) (by have := sumS_lt y; omega) h
/-- A list that is set where it is as it was. -/
theorem set_same {l : List UInt8} {i : Nat} {v : UInt8} (hi : i < l.length) (h : l.set i v = l) : v = l[i] := by
  have : (l.set i v)[i]'(by simpa using hi) = v := by simp
  rw [← this]
  simp only [h]
/-- A header's first 24 bytes: 20, and their S. -/
theorem head_parts {b : List UInt8} {h : Nat} (h0 : (headT b h).1 = 0) : b.take 4 = head4 ∧ (b.drop 20).take 4 = be 4 (sumS (b.take 20)) := by
  unfold headT at h0
  split at h0
  · cases h0
  · split at h0
    · rename_i hc
      have h24 := hc.1
      unfold hdr1 at h24
      have e20 : hdr0 (nb ((b.drop 4).take 8)) (nb ((b.drop 12).take 4)) (nb ((b.drop 16).take 4)) = b.take 20 := by
        have := congrArg (List.take 20) h24
        rwa [List.take_left' (hdr0_length _ _ _), List.take_take] at this
      refine ⟨?_, ?_⟩
      · have := congrArg (List.take 4) e20
        rw [List.take_take] at this
        rw [show min 4 20 = 4 from rfl] at this
        rw [← this, hdr0, List.append_assoc, List.append_assoc]
        rfl
      · have := congrArg (List.drop 20) h24
        rw [List.drop_left' (hdr0_length _ _ _), e20, List.drop_take] at this
        exact this.symm
    · cases h0
theorem headT_bad {b : List UInt8} {h i : Nat} {v : UInt8} (hl : b.length = 64) (h0 : (headT b h).1 = 0) (hi : i < 24) (hv : v ≠ b[i]'(by omega)) : (headT (b.set i v) h).1 = 160 := by
  obtain ⟨p1, p2⟩ := head_parts h0
  have hl' : (b.set i v).length = 64 := by rw [List.length_set, hl]
  have h160 : (headT (b.set i v) h).1 ≠ 0 := fun h1 => by
    obtain ⟨q1, q2⟩ := head_parts h1
    rw [List.take_set, List.drop_set] at q2
    by_cases h20 : i < 20
    · rw [if_pos h20, p2] at q2
      have hx : (b.take 20)[i]'(by rw [List.length_take, hl]; omega) = b[i]'(by omega) := List.getElem_take
      exact sumS_set (b := b.take 20) (i := i) (v := v) (by rw [List.length_take, hl]; omega) (by rw [List.length_take]; omega) (by rw [hx]; exact hv) (be4_sum q2).symm
    · rw [if_neg h20, List.take_set, List.set_eq_of_length_le (l := b.take 20) (by rw [List.length_take]; omega), ← p2] at q2
      have hlen : i - 20 < ((b.drop 20).take 4).length := by rw [List.length_take, List.length_drop, hl]; omega
      have := set_same hlen q2
      rw [List.getElem_take, List.getElem_drop] at this
      apply hv
      rw [this]
      congr 1
      omega
  have h2 : (headT (b.set i v) h).1 ≠ 2 := fun h1 => by
    unfold headT at h1
    split at h1
    · rename_i hz
      have hb0 : ∀ j (hj : j < 4), b[j]'(by omega) = head4[j]'(by simpa [head4] using hj) := fun j hj => by
        have := congrArg (fun l => l[j]?) p1
        simp only [List.getElem?_take, if_pos hj] at this
        rw [List.getElem?_eq_getElem (by omega), List.getElem?_eq_getElem (by simpa [head4] using hj)] at this
        exact Option.some.inj this
      have hz' : ∀ j (hj : j < 64), (b.set i v)[j]'(by omega) = 0 := fun j hj => by
        have := congrArg (fun l => l[j]?) hz
        simp only [zb, List.getElem?_replicate, if_pos hj] at this
        rw [List.getElem?_eq_getElem (by omega)] at this
        exact Option.some.inj this
      by_cases hi0 : i = 0
      · have h3 := hz' 1 (by omega)
        rw [List.getElem_set_ne (by omega), hb0 1 (by omega)] at h3
        exact absurd h3 (by simp [head4])
      · have h3 := hz' 0 (by omega)
        rw [List.getElem_set_ne (by omega), hb0 0 (by omega)] at h3
        exact absurd h3 (by simp [head4])
    · split at h1 <;> cases h1
  have := headT_err (b.set i v) h
  omega
/-- Blocks of bytes one of which is another one. -/
theorem blk_set (K : List UInt8) (P i : Nat) (v : UInt8) : blk (K.set P v) i = if P < 64 * i then blk K i else (blk K i).set (P - 64 * i) v := by
  unfold blk
  rw [List.drop_set]
  split
  · rfl
  · rw [List.take_set]
theorem blk_set_ne {K : List UInt8} {P i n : Nat} {v : UInt8} (hK : K.length = 64 * n) (hi : i < n) (h : P / 64 ≠ i) : blk (K.set P v) i = blk K i := by
  rw [blk_set]
  split
  · rfl
  · rw [List.set_eq_of_length_le (by rw [blk_length hK hi]; omega)]
theorem secs_set (K : List UInt8) (P i k : Nat) (v : UInt8) : secs (K.set P v) i k = if P < 64 * i then secs K i k else (secs K i k).set (P - 64 * i) v := by
  unfold secs
  rw [List.drop_set]
  split
  · rfl
  · rw [List.take_set]
/-- A store's disk on which nothing is opened. -/
def Bad (n : Nat) (K : List UInt8) : Prop :=
  findL K (n / 2) 2 0 (false, 0, 0, 0, 0) = none ∨ ∃ hf e c m, findL K (n / 2) 2 0 (false, 0, 0, 0, 0) = some (true, hf, e, c, m) ∧ loadT K (hf * (n / 2)) e m c 1 0 [] = none
theorem open_bad {s : St} (h4 : 4 ≤ s.n) (hd : s.dead = false) (h : Bad s.n s.img) : s.openT = (160, s, none) := by
  rw [St.openT, if_neg (by omega), if_neg (by rw [hd]; decide)]
  rcases h with h | ⟨hf, e, c, m, h1, h2⟩
  · rw [h]
  · rw [h1]
    dsimp only
    rw [h2]
theorem head_bad {n hf i : Nat} {K : List UInt8} {v : UInt8} (hK : K.length = 64 * n) (h4 : 4 ≤ n) (hhf : hf ≤ 1) (hi : i < 24) (h0 : (headT (blk K (hf * (n / 2))) (n / 2)).1 = 0) (hv : v ≠ (K[64 * (hf * (n / 2)) + i]'(by
    have := Nat.mul_le_mul hhf (Nat.le_refl (n / 2)); omega))) : Bad n (K.set (64 * (hf * (n / 2)) + i) v) := by
  have hm := Nat.mul_le_mul hhf (Nat.le_refl (n / 2))
  have hlt : hf * (n / 2) < n := by omega
  have hbl := blk_length hK hlt
  have hb : (headT (blk (K.set (64 * (hf * (n / 2)) + i) v) (hf * (n / 2))) (n / 2)).1 = 160 := by
    rw [blk_set, if_neg (by omega), Nat.add_sub_cancel_left]
    refine headT_bad hbl h0 hi ?_
    have : (blk K (hf * (n / 2)))[i]'(by omega) = K[64 * (hf * (n / 2)) + i]'(by omega) := by
      unfold blk
      rw [List.getElem_take, List.getElem_drop]
    rw [this]
    exact hv
  obtain ⟨K', hK'⟩ : ∃ K', K' = K.set (64 * (hf * (n / 2)) + i) v := ⟨_, rfl⟩
  rw [← hK'] at hb ⊢
  obtain ⟨⟨t0, a0, c0, n0⟩, e0⟩ : ∃ H, headT (blk K' 0) (n / 2) = H := ⟨_, rfl⟩
  obtain ⟨⟨t1, a1, c1, n1⟩, e1⟩ : ∃ H, headT (blk K' (n / 2)) (n / 2) = H := ⟨_, rfl⟩
  refine .inl ?_
  rw [findL_two _ _ e0 e1]
  rcases (show hf = 0 ∨ hf = 1 by omega) with rfl | rfl
  · rw [Nat.zero_mul, e0] at hb
    obtain rfl : t0 = 160 := hb
    rw [if_pos (.inl (by simp [headK]))]
  · rw [Nat.one_mul, e1] at hb
    obtain rfl : t1 = 160 := hb
    rw [if_pos (.inr (by simp [headK]))]
/-- A record one of whose bytes, S or payload, is another one is none. -/
theorem rec_bad {n base e m a k q : Nat} {K : List UInt8} {v : UInt8} {x : List Chg × Nat} (hK : K.length = 64 * n) (hn : n ≤ 4096) (hb : base + m ≤ n) (hr : readT K base e m a k = some x) (h4 : 4 ≤ q) (hq : q < 8 + nb ((blk K (base + a)).take 4)) (hlt : 64 * (base + a) + q < K.length) (hv : v ≠ K[64 * (base + a) + q]) : readT (K.set (64 * (base + a) + q) v) base e m a k = none := by
  unfold readT at hr
  by_cases h1 : m ≤ a
  · rw [if_pos h1] at hr; cases hr
  rw [if_neg h1] at hr
  obtain ⟨sz, hsz⟩ : ∃ sz, sz = nb ((blk K (base + a)).take 4) := ⟨_, rfl⟩
  rw [← hsz] at hr hq
  by_cases h2 : m < a + nblk (8 + sz)
  · rw [if_pos h2] at hr; cases hr
  rw [if_neg h2] at hr
  obtain ⟨M, hM⟩ : ∃ M, M = nblk (8 + sz) := ⟨_, rfl⟩
  rw [← hM] at hr h2
  have hM8 : 8 + sz ≤ 64 * M := by rw [hM]; unfold nblk; omega
  have hM1 : 1 ≤ M := by omega
  have hsl : (secs K (base + a) M).length = 64 * M := secs_length hK (by omega)
  obtain ⟨p, hp⟩ : ∃ p, p = ((secs K (base + a) M).drop 8).take sz := ⟨_, rfl⟩
  rw [← hp] at hr
  have hpl : p.length = sz := by rw [hp, List.length_take, List.length_drop, hsl]; omega
  by_cases h3 : (blk K (base + a)).take 8 = frontB e k p
  case neg => rw [if_neg h3] at hr; cases hr
  obtain ⟨K', hK'⟩ : ∃ K', K' = K.set (64 * (base + a) + q) v := ⟨_, rfl⟩
  have hs' : secs K' (base + a) M = (secs K (base + a) M).set q v := by
    rw [hK', secs_set, if_neg (by omega), Nat.add_sub_cancel_left]
  have ht4 : (blk K' (base + a)).take 4 = (blk K (base + a)).take 4 := by
    rw [← secs_head K' (base + a) M 4 hM1 (by decide), hs', ← secs_head K (base + a) M 4 hM1 (by decide), List.take_set, List.set_eq_of_length_le (by rw [List.length_take]; omega)]
  have ht8 : (blk K' (base + a)).take 8 = ((blk K (base + a)).take 8).set q v := by
    rw [← secs_head K' (base + a) M 8 hM1 (by decide), hs', ← secs_head K (base + a) M 8 hM1 (by decide), List.take_set]
  have hp' : ((secs K' (base + a) M).drop 8).take sz = if q < 8 then p else p.set (q - 8) v := by
    rw [hs', List.drop_set, hp]
    split
    · rfl
    · rw [List.take_set]
  have hget : (secs K (base + a) M)[q]'(by omega) = K[64 * (base + a) + q] := by
    unfold secs
    rw [List.getElem_take, List.getElem_drop]
  rw [← hK']
  unfold readT
  rw [if_neg h1, ht4, ← hsz, ← hM, if_neg h2, if_neg ?_]
  rw [ht8, hp', h3]
  by_cases hq8 : q < 8
  · rw [if_pos hq8]
    intro hc
    have hfl := frontB_length e k p
    have := set_same (by omega) hc
    apply hv
    rw [this, ← hget]
    have h5 : frontB e k p = (secs K (base + a) M).take 8 := by rw [← h3, secs_head K (base + a) M 8 hM1 (by decide)]
    simp only [h5, List.getElem_take]
  · rw [if_neg hq8, List.set_eq_of_length_le (by rw [frontB_length]; omega)]
    intro hc
    unfold frontB at hc
    rw [List.length_set] at hc
    have h6 := be4_sum (List.append_cancel_left hc)
    have hpre : (be 8 e ++ be 4 k ++ be 4 p.length).length = 16 := by simp [be_length]
    obtain ⟨pre, hpe⟩ : ∃ pre, pre = be 8 e ++ be 4 k ++ be 4 p.length := ⟨_, rfl⟩
    rw [← hpe] at h6 hpre
    have hset : pre ++ p.set (q - 8) v = (pre ++ p).set (16 + (q - 8)) v := by
      rw [List.set_append_right _ _ (by omega), hpre, Nat.add_sub_cancel_left]
    rw [hset] at h6
    refine sumS_set (b := pre ++ p) (i := 16 + (q - 8)) (v := v) (by rw [List.length_append]; omega) (by rw [List.length_append]; omega) ?_ h6.symm
    rw [List.getElem_append_right (by omega)]
    have : p[16 + (q - 8) - pre.length]'(by omega) = K[64 * (base + a) + q] := by
      simp only [hp, List.getElem_take, List.getElem_drop]
      rw [← hget]
      congr 1
      omega
    rw [this]
    exact hv
end Go.Proofs.YtonpcenjipigpaaGreat
/- The places of a store's disk that count. Conditions: none. -/
namespace Go.Proofs.YtonpcenjipigpaaGreat
open Go.RowKit
theorem put_set {n p : Nat} {K : List UInt8} (v : UInt8) (hK : K.length = 64 * n) (hp : p < 64 * n) : put (p / 64) ((blk K (p / 64)).set (p % 64) v) K = K.set p v := by
  have hi : p / 64 < n := by omega
  have hbl : ((blk K (p / 64)).set (p % 64) v).length = 64 := by rw [List.length_set, blk_length hK hi]
  refine List.ext_getElem? fun k => ?_
  rw [put_get hK hi hbl]
  by_cases h : 64 * (p / 64) ≤ k ∧ k < 64 * (p / 64) + 64
  · rw [if_pos h, List.getElem?_set, List.getElem?_set]
    by_cases h2 : p = k
    · subst h2
      rw [if_pos (by omega), if_pos rfl, if_pos (by rw [blk_length hK hi]; omega), if_pos (by omega)]
    · rw [if_neg (by omega), if_neg h2, blk_get _ _ _ (by omega)]
      congr 1
      omega
  · rw [if_neg h, List.getElem?_set, if_neg (by omega)]
theorem head_first {b : List UInt8} {h : Nat} (h0 : (headT b h).1 = 0) : b[0]? = some 104 := by
  have := congrArg (fun l => l[0]?) (head_parts h0).1
  simpa [List.getElem?_take, head4] using this
theorem head_zero {b : List UInt8} {h : Nat} (h2 : (headT b h).1 = 2) : b[0]? = some 0 := by
  unfold headT at h2
  split at h2
  · rename_i hz
    rw [hz]
    rfl
  · split at h2 <;> cases h2
/-- A place that counts: whatever else stands there, nothing is opened. -/
def Plc (n : Nat) (K : List UInt8) (p : Nat) : Prop := p < 64 * n ∧ ∀ v, K[p]? ≠ some v → Bad n (K.set p v)
theorem Hld.head0 {n : Nat} {K : List UInt8} {t : Ste} (h : Hld n K t) {half : Nat} (hh : half ≤ 1) (hx : K[64 * (half * (n / 2))]? ≠ some 0) : (headT (blk K (half * (n / 2))) (n / 2)).1 = 0 := by
  have hhf := h.ok.hf
  by_cases he : half = t.hf
  · rw [he, h.head]
  · have he2 : half = 1 - t.hf := by omega
    rcases h.other with h1 | ⟨h1, -⟩
    · rw [← he2] at h1
      have := head_zero h1
      rw [blk_get _ _ _ (by omega), Nat.add_zero] at this
      exact absurd this hx
    · rw [he2]
      exact h1
theorem Hld.first {n : Nat} {K : List UInt8} {t : Ste} (h : Hld n K t) : K[64 * (t.hf * (n / 2))]? = some 104 := by
  have := head_first (b := blk K (t.hf * (n / 2))) (h := n / 2) (by rw [h.head])
  rwa [blk_get _ _ _ (by omega), Nat.add_zero] at this
theorem Hld.plc_head {n : Nat} {K : List UInt8} {t : Ste} (h : Hld n K t) {half i : Nat} (hh : half ≤ 1) (hx : K[64 * (half * (n / 2))]? ≠ some 0) (hi : i < 24) : Plc n K (64 * (half * (n / 2)) + i) := by
  have hm := Nat.mul_le_mul hh (Nat.le_refl (n / 2))
  have h4 := h.n4
  have hl := h.len
  refine ⟨by omega, fun v hv => head_bad hl h4 hh hi (h.head0 hh hx) fun e => hv ?_⟩
  rw [List.getElem?_eq_getElem (by omega), e]
/-- A store's records are read as far as block a, k of them. -/
structure Rdg (n : Nat) (K : List UInt8) (t : Ste) (k a : Nat) (L : List (List UInt8 × List UInt8)) : Prop where
  kc : k ≤ t.c
  a1 : 1 ≤ a
  load : loadT K (t.hf * (n / 2)) t.e t.n (t.c - k) a k L = some t.L
  pre : ∀ K', (∀ i, 1 ≤ i → i < a → blk K' (t.hf * (n / 2) + i) = blk K (t.hf * (n / 2) + i)) → loadT K' (t.hf * (n / 2)) t.e t.n t.c 1 0 [] = loadT K' (t.hf * (n / 2)) t.e t.n (t.c - k) a k L
theorem Rdg.start {n : Nat} {K : List UInt8} {t : Ste} (h : Hld n K t) : Rdg n K t 0 1 [] := ⟨Nat.zero_le _, Nat.le_refl _, h.load, fun _ _ => rfl⟩
theorem readT_en {B : List UInt8} {base e n a k : Nat} {l : List Chg} {en : Nat} (h : readT B base e n a k = some (l, en)) : en = a + nblk (8 + nb ((blk B (base + a)).take 4)) := by
  unfold readT at h
  split at h
  · cases h
  · split at h
    · cases h
    · split at h
      · obtain ⟨x, hx, he⟩ := Option.map_eq_some_iff.1 h
        simp only [Prod.mk.injEq] at he
        exact he.2.symm
      · cases h
theorem readT_congr2 {B B' : List UInt8} {base e n a k : Nat} {l : List Chg} {en : Nat} (hr : readT B base e n a k = some (l, en)) (h : ∀ i, a ≤ i → i < en → blk B' (base + i) = blk B (base + i)) : readT B' base e n a k = some (l, en) := by
  have hen := readT_en hr
  have hup := readT_up hr
  rw [← hr]
  unfold readT
  by_cases h1 : n ≤ a
  · rw [if_pos h1, if_pos h1]
  · rw [if_neg h1, if_neg h1, h a (Nat.le_refl _) (by omega)]
    by_cases h2 : n < a + nblk (8 + nb ((blk B (base + a)).take 4))
    · rw [if_pos h2, if_pos h2]
    · rw [if_neg h2, if_neg h2, secs_congr (B := B) (B' := B') (base + a) _ fun j hj => by
        have := h (a + j) (by omega) (by omega)
        rwa [← Nat.add_assoc] at this]
theorem Rdg.next {n k a : Nat} {K : List UInt8} {t : Ste} {L : List (List UInt8 × List UInt8)} (h : Rdg n K t k a L) (hk : k < t.c) :
    ∃ l, readT K (t.hf * (n / 2)) t.e t.n a (k + 1) = some (l, a + nblk (8 + nb ((blk K (t.hf * (n / 2) + a)).take 4))) ∧ Rdg n K t (k + 1) (a + nblk (8 + nb ((blk K (t.hf * (n / 2) + a)).take 4))) (doAll L l) := by
  have hl := h.load
  rw [show t.c - k = (t.c - (k + 1)) + 1 by omega] at hl
  obtain ⟨l, en, hr, h64, hl2⟩ := loadT_inv hl
  have hen := readT_en hr
  have hup := readT_up hr
  have ha1 := h.a1
  rw [← hen]
  refine ⟨l, hr, by omega, by omega, hl2, fun K' hK' => ?_⟩
  rw [h.pre K' fun i h1 h2 => hK' i h1 (by omega), show t.c - k = (t.c - (k + 1)) + 1 by omega, loadT_succ _ _ _ _ _ _ _ _ (readT_congr2 hr fun i h1 h2 => hK' i (by omega) h2), if_neg h64]
theorem Rdg.plc {n k a q : Nat} {K : List UInt8} {t : Ste} {L : List (List UInt8 × List UInt8)} (hh : Hld n K t) (hn : n ≤ 4096) (h : Rdg n K t k a L) (hk : k < t.c) (h4 : 4 ≤ q) (hq : q < 8 + nb ((blk K (t.hf * (n / 2) + a)).take 4)) : Plc n K (64 * (t.hf * (n / 2) + a) + q) := by
  obtain ⟨l, hr, hnx⟩ := h.next hk
  have hm := Nat.mul_le_mul hh.ok.hf (Nat.le_refl (n / 2))
  have hnn := hh.ok.n
  have hen := readT_end hr
  have hl := hh.len
  have hn4 := hh.n4
  have ha1 := h.a1
  obtain ⟨sz, hsz⟩ : ∃ sz, sz = nb ((blk K (t.hf * (n / 2) + a)).take 4) := ⟨_, rfl⟩
  rw [← hsz] at hen hq
  have hb : 8 + sz ≤ 64 * nblk (8 + sz) := (nblk_le _).1
  obtain ⟨base, hbase⟩ : ∃ base, base = t.hf * (n / 2) := ⟨_, rfl⟩
  have hbn : base + n / 2 ≤ n := by rw [hbase]; omega
  have hP : 64 * (base + a) + q < 64 * n := by omega
  rw [← hbase]
  refine ⟨hP, fun v hv => .inr ⟨t.hf, t.e, t.c, t.n, ?_, ?_⟩⟩
  · have hf := hh.finds
    rw [← hf]
    have hhf := hh.ok.hf
    have key : ∀ half, half ≤ 1 → blk (K.set (64 * (base + a) + q) v) (half * (n / 2)) = blk K (half * (n / 2)) := fun half hhalf => by
      have := Nat.mul_le_mul hhalf (Nat.le_refl (n / 2))
      refine blk_set_ne hl (by omega) ?_
      rcases (show half = 0 ∨ half = 1 by omega) with rfl | rfl <;> rcases (show t.hf = 0 ∨ t.hf = 1 by omega) with h0 | h0 <;> rw [h0] at hbase <;> omega
    obtain ⟨⟨t0, a0, c0, n0⟩, e0⟩ : ∃ H, headT (blk K 0) (n / 2) = H := ⟨_, rfl⟩
    obtain ⟨⟨t1, a1, c1, n1⟩, e1⟩ : ∃ H, headT (blk K (n / 2)) (n / 2) = H := ⟨_, rfl⟩
    have k0 := key 0 (by omega)
    have k1 := key 1 (by omega)
    rw [Nat.zero_mul] at k0
    rw [Nat.one_mul] at k1
    have E0 := e0
    have E1 := e1
    rw [← k0] at E0
    rw [← k1] at E1
    rw [findL_two _ _ E0 E1, findL_two _ _ e0 e1]
  · rw [← hbase]
    have hpre := h.pre (K.set (64 * (base + a) + q) v)
    rw [← hbase] at hpre
    rw [hpre fun i h1 h2 => blk_set_ne hl (by omega) (by omega)]
    rw [show t.c - k = (t.c - (k + 1)) + 1 by omega, loadT]
    rw [hbase] at hP hv ⊢
    rw [rec_bad hl hn (by rw [← hbase]; omega) hr h4 (by rw [← hsz]; exact hq) (by rw [hl]; exact hP) fun e => hv (by rw [List.getElem?_eq_getElem (by rw [hl]; exact hP), e])]
/-- A store that lives, all of it synced, no fuse. -/
structure Gsn (n : Nat) (s : St) (t : Ste) : Prop where
  h : Hld n s.K t
  L : s.L = []
  d : s.dead = false
  f : s.f = -1
  nn : s.n = n
theorem Gsn.commit {n : Nat} {s : St} {t : Ste} (g : Gsn n s t) (l : List Chg) {e : Nat} {s2 : St} {t2 : Ste} (hr : s.commitT t l = (e, s2, t2)) : Gsn n s2 t2 := by
  have hnn := g.nn
  rcases commit_out (s := s) (by rw [hnn]; exact g.h) g.L g.d l with ⟨s', t', h1, h2, -⟩ | ⟨e', h1, -⟩ | ⟨s', h1, h2⟩
  · rw [hr] at h1
    obtain ⟨-, rfl, rfl⟩ : e = 0 ∧ s2 = s' ∧ t2 = t' := by simpa using h1
    have hh := h2.held
    rw [hnn] at hh
    exact ⟨hh, h2.wait, h2.live, h2.f g.f, by rw [h2.n, hnn]⟩
  · rw [hr] at h1
    obtain ⟨-, rfl, rfl⟩ : e = e' ∧ s2 = s ∧ t2 = t := by simpa using h1
    exact g
  · exact absurd g.f h2.f
/-- A turned block is written: nothing is opened. -/
theorem Gsn.turned {n p : Nat} {s : St} {t : Ste} {v : UInt8} (g : Gsn n s t) (h4 : 4 ≤ n) (hp : Plc n s.K p) (hv : s.K[p]? ≠ some v) : (s.wrote (p / 64) ((blk s.K (p / 64)).set (p % 64) v)).openT = (160, s.wrote (p / 64) ((blk s.K (p / 64)).set (p % 64) v), none) := by
  have hgo : s.goes = true := by unfold St.goes; rw [g.d, g.f]; rfl
  have hnn := g.nn
  refine open_bad (by rw [St.wrote_n, hnn]; exact h4) ?_ ?_
  · unfold St.wrote
    rw [if_pos hgo]
    show (s.dead || s.f == 0) = false
    rw [g.d, g.f]
    rfl
  · have hi : (s.wrote (p / 64) ((blk s.K (p / 64)).set (p % 64) v)).img = s.K.set p v := by
      unfold St.wrote St.img
      rw [if_pos hgo]
      show redo s.K (s.L ++ [_]) = _
      rw [redo_snoc, g.L]
      exact put_set v g.h.len hp.1
    rw [St.wrote_n, hnn, hi]
    exact hp.2 v hv
end Go.Proofs.YtonpcenjipigpaaGreat
