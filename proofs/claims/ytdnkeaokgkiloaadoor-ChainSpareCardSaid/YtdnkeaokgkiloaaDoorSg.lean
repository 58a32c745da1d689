/- Eight words are laid as a new slice. Conditions: none. The reference's SHA-256. Conditions: none. -/
import Derived.Test.YtdnkeaokgkiloaaDoorSd
import Derived.Deep.CutRange
namespace Go.Proofs.YtdnkeaokgkiloaaDoor.S
open Go.RowKit
theorem run_build8 (w : World) (v0 v1 v2 v3 v4 v5 v6 v7 : Int) : (Instr.buildSlice 114 8 #[(0, .int .u64 v0), (1, .int .u64 v1), (2, .int .u64 v2), (3, .int .u64 v3), (4, .int .u64 v4), (5, .int .u64 v5), (6, .int .u64 v6), (7, .int .u64 v7)]).run Tryd.prog w = .ok (.slice (some ⟨w.heap.size, 0, none⟩) 8 8) (w.alloc (.cells #[.int .u64 v0, .int .u64 v1, .int .u64 v2, .int .u64 v3, .int .u64 v4, .int .u64 v5, .int .u64 v6, .int .u64 v7] 111)) := by kernel_rfl
theorem wpList_build8 {w : World} {ops : Array Oper} {rest : List Oper} {o : Oper} {a : Act} {Q : Exit → Act → World → Prop} (hgd : o.guard = none) (x0 x1 x2 x3 x4 x5 x6 x7 : Operand)
    (ho : o.op = .buildSlice 114 8 #[(0, x0), (1, x1), (2, x2), (3, x3), (4, x4), (5, x5), (6, x6), (7, x7)]) (v0 v1 v2 v3 v4 v5 v6 v7 : Int)
    (h0 : a.eval x0 = .int .u64 v0) (h1 : a.eval x1 = .int .u64 v1) (h2 : a.eval x2 = .int .u64 v2) (h3 : a.eval x3 = .int .u64 v3) (h4 : a.eval x4 = .int .u64 v4) (h5 : a.eval x5 = .int .u64 v5) (h6 : a.eval x6 = .int .u64 v6) (h7 : a.eval x7 = .int .u64 v7)
    (h : ∀ w', w' = w.alloc (.cells #[.int .u64 v0, .int .u64 v1, .int .u64 v2, .int .u64 v3, .int .u64 v4, .int .u64 v5, .int .u64 v6, .int .u64 v7] 111) → wpList Tryd.prog ops Q rest (a.put o.dst (.slice (some ⟨w.heap.size, 0, none⟩) 8 8)) w') :
    wpList Tryd.prog ops Q (o :: rest) a w := by
  refine wpList_plain hgd fun K hK => ?_
  have hrun := run_build8 w v0 v1 v2 v3 v4 v5 v6 v7
  unfold Oper.wp
  simp only [execOp, ho, List.map_toArray, List.map_cons, List.map_nil, h0, h1, h2, h3, h4, h5, h6, h7, Sem.run_bind, hrun, Result.andThen_ok, Sem.run_pure]
  exact hK _ _ (h _ rfl)
theorem alloc_rnd (w : World) (g : Nat) (hg : g = w.heap.size) (r : St) (k v : UInt32) : (w.alloc (.cells #[.int .u64 ((t1 r k v + t2 r).toNat : Int), .int .u64 (r.a.toNat : Int), .int .u64 (r.b.toNat : Int), .int .u64 (r.c.toNat : Int), .int .u64 ((r.d + t1 r k v).toNat : Int), .int .u64 (r.e.toNat : Int), .int .u64 (r.f.toNat : Int), .int .u64 (r.g.toNat : Int)] 111)).rangeAt g 0 (d64 (rnd r k v).list) := by
  subst hg
  exact Blk.range (pre := []) (post := []) ((Blk.of_alloc _ _ 111).to rfl) rfl
theorem lt_alloc_drew (w : World) (o : Obj) : w.heap.size < (w.drew.alloc o).heap.size := Nat.lt_of_lt_of_eq (show w.heap.size < w.drew.heap.size + 1 from Nat.lt_succ_self _) (World.size_alloc w.drew o).symm
theorem size_drew (w : World) : w.heap.size = w.drew.heap.size := rfl
open Go.RowKit
theorem first512_g (w : World) : Calls Tryd.prog 57 #[] w fun e w' => ∃ g, e = .returned (.slice (some ⟨g, 0, none⟩) 8 8) ∧ w.grownBy w' none :=
  (first512_any w).mono fun _ _ ⟨h1, h2, _⟩ => ⟨_, h1, h2⟩
theorem rounds512_g (w : World) : Calls Tryd.prog 58 #[] w fun e w' => ∃ g, e = .returned (.slice (some ⟨g, 0, none⟩) 80 80) ∧ w.grownBy w' none :=
  (rounds512_any w).mono fun _ _ ⟨h1, h2, _⟩ => ⟨_, h1, h2⟩
theorem first256_g (w : World) : Calls Tryd.prog 59 #[] w fun e w' => ∃ g, e = .returned (.slice (some ⟨g, 0, none⟩) 8 8) ∧ w.grownBy w' none ∧ w.heap.size ≤ g ∧ Blk w' g 111 (d64 H0.list) :=
  (first256_any w).mono fun _ _ ⟨h1, h2, h3, _⟩ => ⟨_, h1, h3, Nat.le_refl _, h2⟩
theorem rounds256_g (w : World) : Calls Tryd.prog 60 #[] w fun e w' => ∃ g, e = .returned (.slice (some ⟨g, 0, none⟩) 64 64) ∧ w.grownBy w' none ∧ w.heap.size ≤ g ∧ Blk w' g 111 (d64 k256) :=
  (rounds256_any w).mono fun _ _ ⟨h1, h2, h3, _⟩ => ⟨_, h1, h3, Nat.le_refl _, h2⟩
/-- While bytes 0 are put behind. -/
def PadAt (B : World) (xs : List UInt8) (v : Value) (wr : World) : Prop :=
  ∃ z, z ≤ zpad xs.length ∧ wr.ownsRow B.heap.size 5 1 v (xs.length + 1 + z) (u8s (xs ++ 128 :: List.replicate z 0)) ∧ B.grownBy wr none
/-- While the number of bits is put behind. -/
def NumAt (B : World) (xs : List UInt8) (i v : Value) (wr : World) : Prop :=
  ∃ k : Nat, k ≤ 8 ∧ i = .int .i64 (7 - (k : Int)) ∧ wr.ownsRow B.heap.size 5 1 v (xs.length + 1 + zpad xs.length + k) (u8s (xs ++ 128 :: List.replicate (zpad xs.length) 0 ++ (be 8 (8 * xs.length)).take k)) ∧ B.grownBy wr none
/-- The numbers by which words are turned. -/
def sV : List Value := [.int .u64 2, .int .u64 13, .int .u64 22, .int .u64 6, .int .u64 11, .int .u64 25, .int .u64 7, .int .u64 18, .int .u64 3, .int .u64 17, .int .u64 19, .int .u64 10]
theorem Tryd.info111 : (Tryd.prog.info? 111).map (fun i => (i.zero, i.size, i.bytes)) = some (some (.int .u64 0), 1, 8) := by kernel_rfl
theorem Blk.of_owns_e {w : World} {base g n : Nat} {e : TypeId} {xs : List Value} (h : w.ownsRow base e 1 (.slice (some ⟨g, 0, none⟩) n n) n xs) : Blk w g e xs := by
  rcases h.2 with ⟨e1, _⟩ | ⟨g', cap, cur, e1, _, hg, _, _, hs, ht⟩
  · cases e1
  · cases e1
    unfold Blk
    rw [hg]
    have : cur.toList = xs := by
      rw [← ht, List.take_of_length_le]
      simp [hs]
    rw [← this]
/-- The words of a block that the rounds take, the i first. -/
def wsch (X : List UInt8) (i : Nat) : List UInt32 := if i ≤ 16 then wds X i else sch (wds X 16) (i - 16)
theorem wsch_length (X : List UInt8) (i : Nat) : (wsch X i).length = i := by
  unfold wsch
  split
  · exact wds_length X i
  · rw [sch_length, wds_length]; omega
theorem wsch_low (X : List UInt8) (i : Nat) (h : i < 16) : wsch X (i + 1) = wsch X i ++ [wd X i] := by
  rw [wsch, if_pos (by omega), wsch, if_pos (by omega), wds_succ]
theorem wsch_high (X : List UInt8) (i : Nat) (h : 16 ≤ i) : wsch X (i + 1) = wsch X i ++ [nxt (wsch X i) (i - 16)] := by
  have e : wsch X i = sch (wds X 16) (i - 16) := by
    unfold wsch
    split
    · have : i = 16 := by omega
      subst this
      rfl
    · rfl
  rw [e, wsch, if_neg (by omega), show i + 1 - 16 = (i - 16) + 1 by omega, sch]
/-- A word, while its bytes are taken. -/
def wpart (X : List UInt8) (i q : Nat) : List Value := (d64 (upto 64 (wsch X i))).set i (.int .u64 (nb (((X.drop (4 * i)).take 4).take q) : Nat))
def WAt (B : World) (gw : Nat) (X : List UInt8) (i : Value) (wr : World) : Prop :=
  ∃ k : Nat, k ≤ 64 ∧ i = .int .i64 (k : Int) ∧ Blk wr gw 111 (d64 (upto 64 (wsch X k))) ∧ B.grownBy wr none
def WBt (B : World) (gw : Nat) (X : List UInt8) (k : Nat) (i : Value) (wr : World) : Prop :=
  ∃ q : Nat, q ≤ 4 ∧ i = .int .i64 (q : Int) ∧ Blk wr gw 111 (wpart X k q) ∧ B.grownBy wr none
theorem wpart_zero (X : List UInt8) (i : Nat) (h : i < 64) : wpart X i 0 = d64 (upto 64 (wsch X i)) := by
  have hl := wsch_length X i
  have hu := upto_length 64 (wsch X i) (by omega)
  rw [wpart, List.take_zero, nb_nil]
  apply List.ext_getElem (by simp)
  intro j h1 h2
  rw [List.getElem_set]
  split
  · rename_i e
    subst e
    have := d64_get (upto 64 (wsch X i)) i (by omega)
    rw [List.getElem?_eq_getElem h2] at this
    have h3 := Option.some.inj this
    rw [h3]
    have h0 : (upto 64 (wsch X i)).getD i 0 = 0 := by
      unfold upto
      rw [List.getD_eq_getElem?_getD, List.getElem?_append_right (by omega), hl, Nat.sub_self, List.getElem?_replicate]
      split <;> rfl
    rw [h0]
    rfl
  · rfl
theorem wpart_all (X : List UInt8) (i : Nat) (h : i < 16) (hX : X.length = 64) : wpart X i 4 = d64 (upto 64 (wsch X (i + 1))) := by
  have hl := wsch_length X i
  have hb : nb ((X.drop (4 * i)).take 4) < 4294967296 := by
    have := nb_lt 4 ((X.drop (4 * i)).take 4) (sub_length hX (by omega))
    simpa using this
  rw [wpart, List.take_take, Nat.min_self, wsch_low X i h, ← upto_set 64 i (wsch X i) (wd X i) (by omega) hl, ← d64_set]
  congr 2
  rw [wd, w_ofNat, Nat.mod_eq_of_lt hb]
theorem wpart_step (X : List UInt8) (i q : Nat) : (wpart X i q).set i (.int .u64 (nb (((X.drop (4 * i)).take 4).take (q + 1)) : Nat)) = wpart X i (q + 1) := by
  rw [wpart, List.set_set, wpart]
theorem wpart_get (X : List UInt8) (i q : Nat) (h : i < 64) : (wpart X i q)[i]? = some (.int .u64 (nb (((X.drop (4 * i)).take 4).take q) : Nat)) := by
  rw [wpart, List.getElem?_set_self (by rw [d64_length, upto_length 64 _ (by rw [wsch_length]; omega)]; exact h)]
theorem ref_nxt (v0 v1 v9 v14 : UInt32) : bits .and .u64 (IntKind.u64.wrap (IntKind.u64.wrap (IntKind.u64.wrap ((v0.toNat : Int) + (three v1 7 18 3 true).toNat) + v9.toNat) + (three v14 17 19 10 true).toNat)) 4294967295 = ((v0 + s0 v1 + v9 + s1 v14).toNat : Int) := by
  have h0 := lt32 v0; have h9 := lt32 v9; have h1 := lt32 (s0 v1); have h2 := lt32 (s1 v14)
  have e1 : three v1 7 18 3 true = s0 v1 := rfl
  have e2 : three v14 17 19 10 true = s1 v14 := rfl
  rw [e1, e2, IntKind.wrap_u64, IntKind.wrap_u64, IntKind.wrap_u64]
  have e3 : (((v0.toNat : Int) + (s0 v1).toNat) % 18446744073709551616 + v9.toNat) % 18446744073709551616 = ((v0.toNat + (s0 v1).toNat + v9.toNat : Nat) : Int) := by omega
  rw [e3]
  have e4 : (((v0.toNat + (s0 v1).toNat + v9.toNat : Nat) : Int) + (s1 v14).toNat) % 18446744073709551616 = ((v0.toNat + (s0 v1).toNat + v9.toNat + (s1 v14).toNat : Nat) : Int) := by omega
  rw [e4, d_mask _ (by omega), w_ofNat, w_add, w_add, w_add]
  omega
theorem word_step (Y : List UInt8) (q : Nat) (b : UInt8) (hq : q < 4) (hY : Y.length = 4) (hb : Y[q]? = some b) :
    IntKind.u64.wrap (IntKind.u64.wrap ((nb (Y.take q) : Int) * 256) + IntKind.u64.wrap (b.toNat : Int)) = (nb (Y.take (q + 1)) : Int) := by
  have hlt : nb (Y.take q) < 256 ^ q := nb_lt q _ (by rw [List.length_take]; omega)
  have h3 : 256 ^ q ≤ 256 ^ 3 := Nat.pow_le_pow_right (by omega) (by omega)
  have hb8 := b.toNat_lt
  have hq2 : q < Y.length := by omega
  rw [List.getElem?_eq_getElem hq2] at hb
  rw [nb_take Y q hq2, Option.some.inj hb, IntKind.wrap_u64, IntKind.wrap_u64, IntKind.wrap_u64]
  omega
theorem byte_at {M X : List UInt8} {j k q : Nat} (hX : X = (M.drop (64 * j)).take 64) (hk : k < 16) (hq : q < 4) (h : 64 * j + 4 * k + q < M.length) : ((X.drop (4 * k)).take 4)[q]? = some M[64 * j + 4 * k + q] := by
  subst hX
  rw [List.getElem?_take, if_pos hq, List.getElem?_drop, List.getElem?_take, if_pos (by omega), List.getElem?_drop, show 64 * j + (4 * k + q) = 64 * j + 4 * k + q by omega, List.getElem?_eq_getElem h]
/-- While the rounds are gone. -/
def VAt (B : World) (L : List UInt32) (S : St) (v i : Value) (wr : World) : Prop :=
  ∃ k gv cap : Nat, k ≤ 64 ∧ i = .int .i64 (k : Int) ∧ v = .slice (some ⟨gv, 0, none⟩) 8 cap ∧ 8 ≤ cap ∧ wr.rangeAt gv 0 (d64 (rnds L S k).list) ∧ B.grownBy wr none ∧ gv < wr.heap.size ∧ B.heap.size ≤ gv
/-- While the words are added. -/
def HAt (B : World) (gh : Nat) (S R : St) (i : Value) (wr : World) : Prop :=
  ∃ k : Nat, k ≤ 8 ∧ i = .int .i64 (k : Int) ∧ Blk wr gh 111 (d64 (mix S R k)) ∧ B.grownBy wr (some gh)
theorem ref_one (h t c k v : UInt32) : IntKind.u64.wrap (IntKind.u64.wrap (IntKind.u64.wrap (IntKind.u64.wrap ((h.toNat : Int) + t.toNat) + c.toNat) + k.toNat) + v.toNat) = ((h.toNat + t.toNat + c.toNat + k.toNat + v.toNat : Nat) : Int) := by
  have h1 := lt32 h; have h2 := lt32 t; have h3 := lt32 c; have h4 := lt32 k; have h5 := lt32 v
  simp only [IntKind.wrap_u64]
  omega
theorem ref_two (t c : UInt32) : IntKind.u64.wrap ((t.toNat : Int) + c.toNat) = ((t.toNat + c.toNat : Nat) : Int) := by
  have h2 := lt32 t; have h3 := lt32 c
  rw [IntKind.wrap_u64]
  omega
theorem ref_mask (a b : Nat) (ha : a < 1099511627776) (hb : b < 1099511627776) : bits .and .u64 (IntKind.u64.wrap ((a : Int) + b)) 4294967295 = ((UInt32.ofNat a + UInt32.ofNat b).toNat : Int) := by
  have e : IntKind.u64.wrap ((a : Int) + b) = ((a + b : Nat) : Int) := by rw [IntKind.wrap_u64]; omega
  rw [e, d_mask _ (by omega), ← UInt32.ofNat_add]
theorem ref_t1 (r : St) (k v : UInt32) : UInt32.ofNat (r.h.toNat + (three r.e 6 11 25 false).toNat + ((r.e &&& r.f) ^^^ (~~~r.e &&& r.g)).toNat + k.toNat + v.toNat) = t1 r k v := by
  simp only [UInt32.ofNat_add, w_back]
  rfl
theorem ref_t2 (r : St) : UInt32.ofNat ((three r.a 2 13 22 false).toNat + ((r.a &&& r.b) ^^^ (r.a &&& r.c) ^^^ (r.b &&& r.c)).toNat) = t2 r := by
  simp only [UInt32.ofNat_add, w_back]
  rfl
/-- While the words are told. -/
def OutAt (E : World) (F : St) (v i : Value) (wr : World) : Prop :=
  ∃ k : Nat, k ≤ 8 ∧ i = .int .i64 (k : Int) ∧ wr.ownsRow E.heap.size 5 1 v (4 * k) (u8s (outs (F.list.take k))) ∧ E.grownBy wr none
def InAt (E : World) (F : St) (k : Nat) (x : UInt32) (v i : Value) (wr : World) : Prop :=
  ∃ q : Nat, q ≤ 4 ∧ i = .int .i64 (3 - (q : Int)) ∧ wr.ownsRow E.heap.size 5 1 v (4 * k + q) (u8s (outs (F.list.take k) ++ (be 4 x.toNat).take q)) ∧ E.grownBy wr none
/-- While blocks are taken. -/
def RefAt (w : World) (gh gk gs ga : Nat) (M : List UInt8) (m : Nat) (i : Value) (wr : World) : Prop :=
  ∃ j : Nat, i = .int .i64 (64 * (j : Int)) ∧ 64 * j ≤ m ∧ Blk wr gh 111 (d64 (runs j H0 M).list) ∧ Blk wr gk 111 (d64 k256) ∧ Blk wr gs 103 sV ∧ Byt wr (fun b => b = ga) (some ⟨ga, 0, none⟩) M ∧ w.grownBy wr none ∧ ga < wr.heap.size
set_option maxRecDepth 100000 in
set_option maxHeartbeats 64000000 in
theorem hash_any : HashSays := by
  intro w c n ok A xs hx hok hn hm
  have HX := Lib.hid hx
  have HN := Lib.hid hn
  clear hx hn
  go_enter Tryd.func53, Tryd.ntmps53
  go_upto_region 11 with (first
    | (go_at_call 57; refine (first512_g _).mono ?_; rintro _ w1 ⟨g1, rfl, hg1⟩)
    | (go_at_call 58; refine (rounds512_g _).mono ?_; rintro _ w2 ⟨g2, rfl, hg2⟩)
    | (go_at_call 59; refine (first256_g _).mono ?_; rintro _ w3 ⟨gh, rfl, hg3, hgh, hbh⟩)
    | (go_at_call 60; refine (rounds256_g _).mono ?_; rintro _ w4 ⟨gk, rfl, hg4, hgk, hbk⟩))
  obtain ⟨w5, hw5⟩ : ∃ w5, w5 = w4.alloc (.cells sV.toArray 103) := ⟨_, rfl⟩
  rw [show w4.alloc (.cells #[.int .u64 2, .int .u64 13, .int .u64 22, .int .u64 6, .int .u64 11, .int .u64 25, .int .u64 7, .int .u64 18, .int .u64 3, .int .u64 17, .int .u64 19, .int .u64 10] 103) = w5 from hw5.symm]
  have hz5 : w5.heap.size = w4.heap.size + 1 := by rw [hw5]; exact World.size_alloc w4 _
  have hg5 : w4.grownBy w5 none := by rw [hw5]; exact World.grownBy_alloc w4 _ none
  obtain ⟨gs, hgs⟩ : ∃ gs, gs = w4.heap.size := ⟨_, rfl⟩
  have hbs : Blk w5 gs 103 sV := by rw [hw5, hgs]; exact Blk.of_alloc w4 sV.toArray 103
  rw [← hgs]
  have hg45 : w.grownBy w5 none := World.grownBy.trans (World.grownBy.trans (World.grownBy.trans (World.grownBy.trans (World.grownBy.trans hg1 hg2) (World.grownBy_alloc w2 _ none)) hg3) hg4) hg5
  have hbh5 : Blk w5 gh 111 (d64 H0.list) := (hbh.grown hg4 (by simp)).grown hg5 (by simp)
  have hbk5 : Blk w5 gk 111 (d64 k256) := hbk.grown hg5 (by simp)
  have hlh := hbh.lt
  have hlk := hbk.lt
  have hd1 : gh < gk := by omega
  have hd2 : gk < gs := by omega
  have hd3 : gs < w5.heap.size := by omega
  have hd4 : w.heap.size ≤ gh := by
    have h1 := hg1.size
    have h2 := hg2.size
    have h3 := (World.grownBy_alloc w2 (.cells #[.int .u64 28, .int .u64 34, .int .u64 39, .int .u64 14, .int .u64 18, .int .u64 41, .int .u64 1, .int .u64 8, .int .u64 7, .int .u64 19, .int .u64 61, .int .u64 6] 103) none).size
    omega
  have HG := Lib.hid hg45
  have HBH := Lib.hid hbh5
  have HBK := Lib.hid hbk5
  have HBS := Lib.hid hbs
  clear hg1 hg2 hg3 hg4 hg5 hgh hgk hbh hbk hbs hbh5 hbk5 hg45 hw5 hz5 hgs hlh hlk
  obtain ⟨i0, hi, hz0, hz1, hz2⟩ := info_parts Tryd.info5
  have hx5 := HX.out.grown HG.out (fun b hb => ⟨hok b hb, by simp⟩)
  go_wp2_with (at_builtin; refine wpList_append_byt_n _ rfl _ _ 66 rfl w5.heap.size i0 (.int .u8 0) Tryd.underlying66 hi hz0 hz1 hz2 rfl (.slice none 0 0) 0 [] rfl (World.ownsRow_nil _ _ _ _) ok A _ n xs HN.out rfl hx5 ?c1 (Nat.le_refl _) ?_)
  case c1 => omega
  intro v1 w6 ho6 hg6 _
  have hg56 : w5.grownBy w6 none := hg6
  go_wp2_with (at_builtin; refine wpList_push rfl _ _ rfl v1 n xs rfl ho6 hg56 128 128 rfl rfl (by omega) ?_)
  intro v2 w7 ho7 hg7
  clear hg6 hg56 ho6 hx5
  go_wp2_with (fail)
  go_loopw [11] (fun v wr => PadAt w5 xs v wr) (fun v _ => xs.length + 1 + zpad xs.length - lenV v)
  case atStart => exact ⟨0, Nat.zero_le _, by rw [HN.out]; exact ho7, hg7⟩
  case round =>
    clear ho7 hg7
    obtain ⟨z, hz, ho, hg⟩ := hrel
    have hzp : zpad n < 64 ∧ (n + 1 + zpad n) % 64 = 56 := by unfold zpad; omega
    rw [HN.out] at hz ho
    obtain ⟨A2, c2, hv, hl2, hc2, -, -⟩ := own_form ho
    have hl3 : (xs ++ 128 :: List.replicate z 0).length = n + 1 + z := by simp only [List.length_append, List.length_cons, List.length_replicate, HN.out]; omega
    rw [hl3] at hv
    subst hv
    by_cases hlt : z = zpad n
    · have hmod : (n + 1 + z) % 64 = 56 := by rw [hlt]; exact hzp.2
      have HO := Lib.hid ho
      have HZP := Lib.hid hzp
      have HZ := Lib.hid hlt
      have HLL := Lib.hid hl3
      clear ho hzp hlt hl3 hl2 hz
      generalize hmm : n + 1 + z = m at hmod
      have HM := Lib.hid hmm
      clear hmm
      have h53 : ((m : Int) % 64 != 56) = false := by simp; omega
      go_wp2_with (fail)
      clear h53
      have ho8 := HO.out
      rw [HM.out] at ho8
      have hz8 := HZ.out
      have HO8 := Lib.hid ho8
      clear ho8 hmod
      go_loopw [11, 12] (fun v i wr => NumAt w5 xs i v wr) (fun _ i _ => (intOf i + 1).toNat)
      case atStart =>
        refine ⟨0, Nat.zero_le _, by simp, ?_, hg⟩
        rw [HN.out, ← hz8, HM.out, List.take_zero, List.append_nil]
        exact HO8.out
      case round =>
        clear HO8 HO HM HLL HZP HZ hz8 hg hc2
        obtain ⟨k, hk, rfl, ho, hg⟩ := hrel
        rw [HN.out] at ho
        obtain ⟨A3, c3, hv, -, hc3, -, -⟩ := own_form ho
        have hl4 : (xs ++ 128 :: List.replicate (zpad n) 0 ++ (be 8 (8 * n)).take k).length = n + 1 + zpad n + k := by
          simp only [List.length_append, List.length_cons, List.length_replicate, HN.out, List.length_take, be_length]; omega
        rw [hl4] at hv
        subst hv
        have hzp : zpad n < 64 := by unfold zpad; omega
        by_cases hlt8 : k < 8
        · have hm9 : n + 1 + zpad n + k < 1000000 := by omega
          generalize hmm : n + 1 + zpad n + k = m at ho
          have HO := Lib.hid ho
          have HM := Lib.hid hmm
          clear ho hl4 hzp hmm
          --A
          have hbyte : (n : Int) * 8 / 2 ^ (8 * (7 - k)) % 256 = ((UInt8.ofNat (8 * n / 256 ^ (7 - k))).toNat : Int) := by
            rw [← shr_byte (8 * n) (7 - k), show ((8 * n : Nat) : Int) = (n : Int) * 8 by omega]
          have HBY := Lib.hid hbyte
          clear hbyte
          go_wp2_with (at_builtin; (refine wpList_push rfl _ _ rfl _ m (xs ++ 128 :: List.replicate (zpad n) 0 ++ (be 8 (8 * n)).take k) rfl HO.out hg (UInt8.ofNat (8 * n / 256 ^ (7 - k))) _ HBY.out rfl (by have := HM.out; omega) ?_))
          intro v3 w8 ho8 hg8
          go_wp2
          go_roundw
          case rel =>
            refine ⟨k + 1, by omega, by go_num, ?_, hg8⟩
            rw [HN.out, show n + 1 + zpad n + (k + 1) = m + 1 by have := HM.out; omega, List.take_succ_eq_append_getElem (by rw [be_length]; exact hlt8), be_get 8 (8 * n) k hlt8]
            refine cast (congrArg (fun l => w8.ownsRow w5.heap.size 5 1 v3 (m + 1) (u8s l)) ?_) ho8
            simp only [List.append_assoc]
            rfl
          case measure => simp [intOf]; omega
          --Z
        · have ek : k = 8 := by omega
          have hwl : xs ++ 128 :: List.replicate (zpad n) 0 ++ (be 8 (8 * n)).take k = whole xs := by
            rw [ek, List.take_of_length_le (by rw [be_length]; exact Nat.le_refl _), whole, HN.out, List.append_assoc, List.cons_append]
          rw [hwl] at ho hl4
          obtain ⟨M, hM⟩ : ∃ M, M = whole xs := ⟨_, rfl⟩
          rw [← hM] at ho hl4
          have hml : (n + 1 + zpad n + k) % 64 = 0 := by rw [ek]; unfold zpad; omega
          generalize hmm : n + 1 + zpad n + k = m at ho hl4 hml
          have hm9 : m < 1000000 := by omega
          have hmp : 0 < m := by omega
          obtain ⟨ga, rfl, hga1, hga2⟩ : ∃ ga, A3 = some ⟨ga, 0, none⟩ ∧ w5.heap.size ≤ ga ∧ ga < wr.heap.size := by
            rcases ho.2 with ⟨-, e0⟩ | ⟨ga, cap, cur, e, hba, hgc, -⟩
            · omega
            · cases e
              exact ⟨ga, rfl, hba, (Array.getElem?_eq_some_iff.1 hgc).1⟩
          have hx9 : Byt wr (fun b => b = ga) (some ⟨ga, 0, none⟩) M := by
            obtain ⟨A4, c4, hv4, -, -, -, hb4⟩ := own_form ho
            rw [hl4] at hv4
            cases hv4
            exact hb4.imp fun b hb => (Option.some.inj hb.1).symm
          have hi0 : RefAt w gh gk gs ga M m (.int .i64 0) wr := ⟨0, rfl, by omega, HBH.out.grown hg (by simp), HBK.out.grown hg (by simp), HBS.out.grown hg (by simp), hx9, World.grownBy.trans HG.out hg, hga2⟩
          have hd5 : gs < ga := by omega
          have HI := Lib.hid hi0
          have HWH := Lib.hid hM
          have HML := Lib.hid hl4
          clear ho hl4 hwl hx9 hM hmm ek hzp hk hi0 hga1 hga2 hg hc3 HBH HBK HBS hd3
          go_wp2_with (fail)
          clear hlt8
          go_loopw [14] (fun i wr => RefAt w gh gk gs ga M m i wr) (fun i _ => m - (intOf i).toNat)
          case atStart => exact HI.out
          case round =>
            clear HI
            obtain ⟨j, rfl, hj, hbh, hbk, hbs, hx, hgw, hga⟩ := hrel
            have HBH := Lib.hid hbh
            have HBK := Lib.hid hbk
            have HBS := Lib.hid hbs
            have HX9 := Lib.hid hx
            have HGW := Lib.hid hgw
            clear hbh hbk hbs hx hgw
            obtain ⟨B, hB⟩ : ∃ B, B = wr := ⟨_, rfl⟩
            subst hB
            by_cases hjm : 64 * j < m
            · obtain ⟨j0, hj0, hy0, hy1, hy2⟩ := info_parts Tryd.info111
              go_wp2_with (with_reducible refine wpList_make_full _ rfl _ _ 114 rfl B.heap.size 111 j0 (.int .u64 0) 1 Tryd.underlying114 hj0 hy0 hy1 .i64 .i64 _ _ 64 rfl rfl rfl rfl ?c1 ?c2 ?c3 ?_)
              case c1 => rw [hy2]; omega
              case c2 => unfold maxLen; omega
              case c3 => exact Nat.le_refl _
              intro w8 hown8 hg8
              have hbw := Blk.of_owns_e hown8
              obtain ⟨X, hX⟩ : ∃ X, X = (M.drop (64 * j)).take 64 := ⟨_, rfl⟩
              have hXl : X.length = 64 := by rw [hX, List.length_take, List.length_drop, HML.out]; omega
              have hbw2 : Blk w8 B.heap.size 111 (d64 (upto 64 (wsch X 0))) := hbw.to (by rw [toList_madeCells_one, show wsch X 0 = [] from rfl]; rfl)
              obtain ⟨gw, hgw⟩ : ∃ gw, gw = B.heap.size := ⟨_, rfl⟩
              rw [← hgw] at hbw2 ⊢
              have HXD := Lib.hid hX
              have HBW := Lib.hid hbw2
              have HG8 := Lib.hid hg8
              have hd6 : ga < gw := by omega
              have HGWB := Lib.hid hgw
              clear hown8 hg8 hbw hbw2 hX hgw
              go_wp2_with (fail)
              go_loopw [16] (fun i wr => WAt B gw X i wr) (fun i _ => 64 - (intOf i).toNat)
              case atStart => exact ⟨0, by omega, rfl, HBW.out, HG8.out⟩
              case round =>
                clear HBW HG8
                obtain ⟨k, hk, rfl, hbw, hgw9⟩ := hrel
                by_cases hlt : k < 64
                · have hwl := wsch_length X k
                  by_cases hlow : k < 16
                  · as_aux_lemma =>
                    have hp0 : Blk wr gw 111 (wpart X k 0) := hbw.to (wpart_zero X k hlt).symm
                    have HP0 := Lib.hid hp0
                    have HG9 := Lib.hid hgw9
                    clear hbw hgw9 hp0 hwl
                    go_wp2_with (fail)
                    go_loopw [17] (fun i wr => WBt B gw X k i wr) (fun i _ => 4 - (intOf i).toNat)
                    case atStart => exact ⟨0, by omega, rfl, HP0.out, HG9.out⟩
                    case round =>
                      clear HP0 HG9
                      obtain ⟨q, hq, rfl, hp, hgw9⟩ := hrel
                      by_cases hq4 : q < 4
                      · have hcw := hp.get k _ (wpart_get X k q hlt)
                        have hfw := hp.frozen k
                        have hx9 := HX9.out.grown hgw9 (fun b hb => ⟨by rw [hb]; exact hga, by simp⟩)
                        obtain ⟨_, e9, -, hca⟩ := hx9 (64 * j + 4 * k + q) (by rw [HML.out]; omega)
                        cases e9
                        rw [Addr.add_lit, Nat.zero_add] at hca
                        have hHP := Lib.hid hp
                        have hHG := Lib.hid hgw9
                        clear hp hx9 hgw9
                        go_wp2_with (fail)
                        go_region
                        go_wp2
                        go_roundw
                        case rel =>
                          rw [word_step _ q _ hq4 (sub_length hXl (by omega)) (byte_at HXD.out hlow hq4 _)]
                          refine ⟨q + 1, by omega, by go_num, ?_, grown_drew (n := 0) (grown_new hHG.out (by have := HGWB.out; omega) k (.int .u64 (nb (((X.drop (4 * k)).take 4).take (q + 1)) : Nat))) rfl⟩
                          have hs := hHP.out.set k (.int .u64 (nb (((X.drop (4 * k)).take 4).take (q + 1)) : Nat))
                          rw [wpart_step] at hs
                          exact hs.keep rfl
                        case measure => simp [intOf]; omega
                      · have eq4 : q = 4 := by omega
                        rw [eq4, wpart_all X k hlow hXl] at hp
                        have hHP := Lib.hid hp
                        have hHG := Lib.hid hgw9
                        clear hp hgw9 eq4
                        go_wp2
                        go_roundw
                        case rel => exact ⟨k + 1, by omega, by go_num, hHP.out, hHG.out⟩
                        case measure => simp [intOf]; omega
                  · as_aux_lemma =>
                    have hhi : 16 ≤ k := by omega
                    clear hlow
                    obtain ⟨l, hl⟩ : ∃ l, l = wsch X k := ⟨_, rfl⟩
                    rw [← hl] at hbw hwl
                    have hul := upto_length 64 l (by omega)
                    have hf := hbw.frozen k
                    have ck := hbw.get k _ (d64_get _ _ (by omega))
                    have c0 := hbw.get (k - 16) _ (d64_get _ _ (by omega))
                    have c1 := hbw.get (k - 15) _ (d64_get _ _ (by omega))
                    have c9 := hbw.get (k - 7) _ (d64_get _ _ (by omega))
                    have c14 := hbw.get (k - 2) _ (d64_get _ _ (by omega))
                    rw [upto_get _ _ _ (by omega)] at c0 c1 c9 c14
                    obtain ⟨x, hx⟩ : ∃ x, x = nxt l (k - 16) := ⟨_, rfl⟩
                    have HXN := Lib.hid hx
                    unfold nxt at hx
                    rw [show k - 16 + 1 = k - 15 by omega, show k - 16 + 9 = k - 7 by omega, show k - 16 + 14 = k - 2 by omega] at hx
                    generalize l.getD (k - 16) 0 = v0 at c0 hx
                    generalize l.getD (k - 15) 0 = v1 at c1 hx
                    generalize l.getD (k - 7) 0 = v9 at c9 hx
                    generalize l.getD (k - 2) 0 = v14 at c14 hx
                    have q6 := (HBS.out.grown hgw9 (by simp)).get 6 _ rfl
                    have q7 := (HBS.out.grown hgw9 (by simp)).get 7 _ rfl
                    have q8 := (HBS.out.grown hgw9 (by simp)).get 8 _ rfl
                    have q9 := (HBS.out.grown hgw9 (by simp)).get 9 _ rfl
                    have q10 := (HBS.out.grown hgw9 (by simp)).get 10 _ rfl
                    have q11 := (HBS.out.grown hgw9 (by simp)).get 11 _ rfl
                    have l16 : (k : Int) - 16 < 64 := by omega
                    have l15 : (k : Int) - 15 < 64 := by omega
                    have l7 : (k : Int) - 7 < 64 := by omega
                    have l2 : (k : Int) - 2 < 64 := by omega
                    have l0 : (k : Int) < 64 := by omega
                    have p16 : (0 : Int) ≤ (k : Int) - 16 := by omega
                    have p15 : (0 : Int) ≤ (k : Int) - 15 := by omega
                    have p7 : (0 : Int) ≤ (k : Int) - 7 := by omega
                    have p2 : (0 : Int) ≤ (k : Int) - 2 := by omega
                    have z16 : (16 : Int) ≤ (k : Int) := by omega
                    have z15 : (15 : Int) ≤ (k : Int) := by omega
                    have z7 : (7 : Int) ≤ (k : Int) := by omega
                    have z2 : (2 : Int) ≤ (k : Int) := by omega
                    have w16 : IntKind.i64.wrap ((k : Int) - 16) = (k : Int) - 16 := by rw [IntKind.wrap_i64]; omega
                    have w15 : IntKind.i64.wrap ((k : Int) - 15) = (k : Int) - 15 := by rw [IntKind.wrap_i64]; omega
                    have w7' : IntKind.i64.wrap ((k : Int) - 7) = (k : Int) - 7 := by rw [IntKind.wrap_i64]; omega
                    have w2' : IntKind.i64.wrap ((k : Int) - 2) = (k : Int) - 2 := by rw [IntKind.wrap_i64]; omega
                    have t16 : ((k : Int) - 16).toNat = k - 16 := by omega
                    have t15 : ((k : Int) - 15).toNat = k - 15 := by omega
                    have t7 : ((k : Int) - 7).toNat = k - 7 := by omega
                    have t2' : ((k : Int) - 2).toNat = k - 2 := by omega
                    have T1 : ∀ W, Calls Tryd.prog 61 #[.int .u64 v1.toNat, .int .u64 7, .int .u64 18, .int .u64 3, .int .u64 32, .bool true] W fun e w' => e = .returned (.int .u64 (three v1 7 18 3 true).toNat) ∧ w' = W := fun W => three_any v1 7 18 3 true W (by omega) (by omega) (by omega) (by omega) (by omega) (by omega)
                    have T2 : ∀ W, Calls Tryd.prog 61 #[.int .u64 v14.toNat, .int .u64 17, .int .u64 19, .int .u64 10, .int .u64 32, .bool true] W fun e w' => e = .returned (.int .u64 (three v14 17 19 10 true).toNat) ∧ w' = W := fun W => three_any v14 17 19 10 true W (by omega) (by omega) (by omega) (by omega) (by omega) (by omega)
                    have HXX := Lib.hid hx
                    have HLL := Lib.hid hl
                    have HBB := Lib.hid hbw
                    have HG9 := Lib.hid hgw9
                    have HWL := Lib.hid hwl
                    clear hx hl hbw hgw9 hwl
                    go_wp2_with (fail)
                    refine wp_region_still_tail 50 (by as_aux_lemma => kernel_rfl) (by as_aux_lemma => kernel_rfl) ?_
                    change wpStill _ _ wr.drew (fun a' => wpList _ _ _ _ a' wr.drew) _ _
                    simp only [List.take_succ_cons, List.take_zero, List.drop_succ_cons, List.drop_zero]
                    repeat still_step
                    still_call (T1 _)
                    repeat still_step
                    still_call (T2 _)
                    repeat still_step
                    refine wpStill_nil ?_
                    clear T1 T2
                    go_wp2
                    go_roundw
                    case rel =>
                      rw [ref_nxt, ← HXX.out]
                      refine ⟨k + 1, by omega, by go_num, ?_, grown_drew (n := 0) (grown_new HG9.out (by have := HGWB.out; omega) k (.int .u64 (x.toNat : Int))) rfl⟩
                      have hs := HBB.out.set k (.int .u64 (x.toNat : Int))
                      rw [d64_set, upto_set 64 k l x (by rw [HWL.out]; omega) HWL.out, show l ++ [x] = wsch X (k + 1) by rw [wsch_high X k hhi, ← HLL.out, ← HXN.out]] at hs
                      exact hs.keep rfl
                    case measure => simp [intOf]; omega
                · as_aux_lemma =>
                  have ek : k = 64 := by omega
                  have e64 : (k : Int) = 64 := by omega
                  rw [ek, upto_full 64 _ (wsch_length X 64)] at hbw
                  rw [e64]
                  clear hlt hk ek e64
                  obtain ⟨L, hL⟩ : ∃ L, L = wsch X 64 := ⟨_, rfl⟩
                  have hLl : L.length = 64 := by rw [hL, wsch_length]
                  rw [← hL] at hbw
                  obtain ⟨S, hS⟩ : ∃ S, S = runs j H0 M := ⟨_, rfl⟩
                  have hbh := HBH.out.grown hgw9 (by simp)
                  rw [← hS] at hbh
                  have hga9 : ga < wr.heap.size := Nat.lt_of_lt_of_le hga hgw9.size
                  have HBH9 := Lib.hid hbh
                  have HBK9 := Lib.hid (HBK.out.grown hgw9 (by simp))
                  have HBS9 := Lib.hid (HBS.out.grown hgw9 (by simp))
                  have HX99 := Lib.hid (HX9.out.grown hgw9 (fun b hb => ⟨by rw [hb]; exact hga, by simp⟩))
                  have HGW9 := Lib.hid (World.grownBy.trans HGW.out hgw9)
                  have HBW9 := Lib.hid hbw
                  have HSS := Lib.hid hS
                  have HLW := Lib.hid hL
                  have hlw9 := hbw.lt
                  clear hbw hgw9 hS hL hbh
                  go_wp2_with (at_builtin; refine wpList_append_own_at _ rfl _ _ 114 rfl wr.heap.size 111 j0 (.int .u64 0) 1 8 Tryd.underlying114 hj0 hy0 hy1 hy2 rfl Nat.one_pos (.slice none 0 0) 0 [] rfl (World.ownsRow_nil _ _ _ _) ⟨gh, 0, none⟩ 8 8 (d64 S.list) rfl rfl ?c1 ?c2 ?c3 ?c4 (Nat.le_refl _) ?_)
                  case c1 => intro q u hu; rw [Addr.add_lit, Nat.zero_add]; exact HBH9.out.get q u hu
                  case c2 => intro u hu; obtain ⟨y, _, rfl⟩ := List.mem_map.1 hu; rfl
                  case c3 => unfold maxLen; omega
                  case c4 => omega
                  intro v5 w10 ho10 hg10 _ _
                  have hg10' : wr.grownBy w10 none := hg10
                  obtain ⟨gv, cap, rfl, hgv1, hgv2, hcap, hrow⟩ : ∃ gv cap, v5 = .slice (some ⟨gv, 0, none⟩) 8 cap ∧ wr.heap.size ≤ gv ∧ gv < w10.heap.size ∧ 8 ≤ cap ∧ w10.rangeAt gv 0 (d64 S.list) := by
                    rcases ho10.2 with ⟨-, e0⟩ | ⟨gv, cap, cur, e, hba, hgc, hn8, _⟩
                    · omega
                    · subst e
                      refine ⟨gv, cap, rfl, hba, (Array.getElem?_eq_some_iff.1 hgc).1, hn8, fun q u hu => ?_⟩
                      rw [Nat.zero_add, ho10.cellAt q (by have := (List.getElem?_eq_some_iff.1 hu).1; rw [d64_length, list_length] at this; omega)]
                      exact hu
                  have hv0 : VAt wr L S (.slice (some ⟨gv, 0, none⟩) 8 cap) (.int .i64 0) w10 := ⟨0, gv, cap, by omega, rfl, rfl, hcap, hrow, hg10', hgv2, hgv1⟩
                  have HV0 := Lib.hid hv0
                  clear ho10 hg10 hg10' hgv1 hgv2 hcap hrow hv0
                  go_wp2_with (fail)
                  obtain ⟨C, hC⟩ : ∃ C, C = wr := ⟨_, rfl⟩
                  subst hC
                  go_loopw [18, 19] (fun v i wr => VAt C L S v i wr) (fun _ i _ => 64 - (intOf i).toNat)
                  case atStart => exact HV0.out
                  case round =>
                    clear HV0
                    obtain ⟨k, gv, cap, hk, rfl, rfl, hcap, hrow, hgC, hgv1, hgv2⟩ := hrel
                    obtain ⟨r, hr⟩ : ∃ r, r = rnds L S k := ⟨_, rfl⟩
                    rw [← hr] at hrow
                    by_cases hlt : k < 64
                    · as_aux_lemma =>
                      have c0 : wr.cell? ⟨gv, 0, none⟩ = some (.int .u64 r.a.toNat) := hrow 0 _ rfl
                      have c1 : wr.cell? ⟨gv, 1, none⟩ = some (.int .u64 r.b.toNat) := hrow 1 _ rfl
                      have c2 : wr.cell? ⟨gv, 2, none⟩ = some (.int .u64 r.c.toNat) := hrow 2 _ rfl
                      have c3 : wr.cell? ⟨gv, 3, none⟩ = some (.int .u64 r.d.toNat) := hrow 3 _ rfl
                      have c4 : wr.cell? ⟨gv, 4, none⟩ = some (.int .u64 r.e.toNat) := hrow 4 _ rfl
                      have c5 : wr.cell? ⟨gv, 5, none⟩ = some (.int .u64 r.f.toNat) := hrow 5 _ rfl
                      have c6 : wr.cell? ⟨gv, 6, none⟩ = some (.int .u64 r.g.toNat) := hrow 6 _ rfl
                      have c7 : wr.cell? ⟨gv, 7, none⟩ = some (.int .u64 r.h.toNat) := hrow 7 _ rfl
                      have ck := (HBK9.out.grown hgC (by simp)).get k _ (d64_get k256 k hlt)
                      have cw := (HBW9.out.grown hgC (by simp)).get k _ (d64_get L k (by omega))
                      rw [k256_get k hlt] at ck
                      have q0 := (HBS9.out.grown hgC (by simp)).get 0 _ rfl
                      have q1 := (HBS9.out.grown hgC (by simp)).get 1 _ rfl
                      have q2 := (HBS9.out.grown hgC (by simp)).get 2 _ rfl
                      have q3 := (HBS9.out.grown hgC (by simp)).get 3 _ rfl
                      have q4 := (HBS9.out.grown hgC (by simp)).get 4 _ rfl
                      have q5 := (HBS9.out.grown hgC (by simp)).get 5 _ rfl
                      obtain ⟨kk, hkk⟩ : ∃ kk, kk = kw k := ⟨_, rfl⟩
                      obtain ⟨ww, hww⟩ : ∃ ww, ww = L.getD k 0 := ⟨_, rfl⟩
                      rw [← hkk] at ck
                      rw [← hww] at cw
                      have T1 : ∀ W, Calls Tryd.prog 61 #[.int .u64 r.e.toNat, .int .u64 6, .int .u64 11, .int .u64 25, .int .u64 32, .bool false] W fun e w' => e = .returned (.int .u64 (three r.e 6 11 25 false).toNat) ∧ w' = W := fun W => three_any r.e 6 11 25 false W (by omega) (by omega) (by omega) (by omega) (by omega) (by omega)
                      have T2 : ∀ W, Calls Tryd.prog 61 #[.int .u64 r.a.toNat, .int .u64 2, .int .u64 13, .int .u64 22, .int .u64 32, .bool false] W fun e w' => e = .returned (.int .u64 (three r.a 2 13 22 false).toNat) ∧ w' = W := fun W => three_any r.a 2 13 22 false W (by omega) (by omega) (by omega) (by omega) (by omega) (by omega)
                      have HRR := Lib.hid hr
                      have HKK := Lib.hid hkk
                      have HWW := Lib.hid hww
                      have HGC := Lib.hid hgC
                      have HC1 := Lib.hid hgv1
                      clear hrow hr hkk hww hgC hgv1 hgv2
                      obtain ⟨N1, hN1⟩ : ∃ N1, N1 = r.h.toNat + (three r.e 6 11 25 false).toNat + ((r.e &&& r.f) ^^^ (~~~r.e &&& r.g)).toNat + kk.toNat + ww.toNat := ⟨_, rfl⟩
                      obtain ⟨N2, hN2⟩ : ∃ N2, N2 = (three r.a 2 13 22 false).toNat + ((r.a &&& r.b) ^^^ (r.a &&& r.c) ^^^ (r.b &&& r.c)).toNat := ⟨_, rfl⟩
                      have HN1 := Lib.hid hN1.symm
                      have HN2 := Lib.hid hN2.symm
                      clear hN1 hN2
                      go_wp2_with (fail)
                      go_cut [20] from 181 to 226 (fun o wx => o = .int .u64 (N1 : Int) ∧ ∃ n, wx = wr.drewN n)
                      case first =>
                        as_aux_lemma =>
                          go_quiet (with_reducible exact Calls.quiet_of_same (T1 _))
                          simp only [d_not, d_and, d_xor]
                          rw [ref_one]
                          go_wp2
                          go_meet
                          case rel => exact ⟨by rw [HN1.out], nq, rfl⟩
                      case rest =>
                      obtain ⟨rfl, n1, hwc⟩ := hcut
                      obtain ⟨wa, hwa⟩ : ∃ wa, wa = wc := ⟨_, rfl⟩
                      rw [← hwa]
                      have ec : ∀ A, wr.cell? A = wa.cell? A := by intro A; rw [hwa, hwc]; rfl
                      rw [ec] at c0 c1 c2 c3 c4 c5 c6 q0 q1 q2
                      have HWA := Lib.hid (hwa.trans hwc)
                      clear hwa hwc ec T1 ck cw c7 q3 q4 q5
                      go_wp2_with (fail)
                      go_cut [21] from 227 to 264 (fun t wx => t = .int .u64 (N2 : Int) ∧ ∃ n, wx = wa.drewN n)
                      case first =>
                        as_aux_lemma =>
                          go_quiet (with_reducible exact Calls.quiet_of_same (T2 _))
                          simp only [d_and, d_xor]
                          rw [ref_two]
                          go_wp2
                          go_meet
                          case rel => exact ⟨by rw [HN2.out], nq, rfl⟩
                      case rest =>
                      obtain ⟨rfl, n2, hwc⟩ := hcut
                      obtain ⟨wb, hwb⟩ : ∃ wb, wb = wc := ⟨_, rfl⟩
                      rw [← hwb]
                      have ec : ∀ A, wa.cell? A = wb.cell? A := by intro A; rw [hwb, hwc]; rfl
                      rw [ec] at c0 c1 c2 c3 c4 c5 c6
                      have HWB := Lib.hid (hwb.trans hwc)
                      clear hwb hwc ec q0 q1 q2 T2
                      as_aux_lemma =>
                        go_wp2_with (fail)
                        refine wp_region_still_tail 30 (by as_aux_lemma => kernel_rfl) (by as_aux_lemma => kernel_rfl) ?_
                        change wpStill _ _ wb.drew (fun a' => wpList _ _ _ _ a' wb.drew) _ _
                        simp only [List.take_succ_cons, List.take_zero, List.drop_succ_cons, List.drop_zero]
                        repeat still_step
                        refine wpStill_nil ?_
                        refine wpList_build8 rfl (.tmp 269) (.tmp 272) (.tmp 275) (.tmp 278) (.tmp 285) (.tmp 288) (.tmp 291) (.tmp 294) rfl _ _ _ _ _ _ _ _ rfl rfl rfl rfl rfl rfl rfl rfl ?_
                        intro w12 hw12
                        have HW12 := Lib.hid hw12
                        clear hw12
                        go_wp2
                        go_roundw
                        case rel =>
                          have hb1 : N1 < 1099511627776 := by
                            have h0 := HN1.out
                            have h1 := lt32 r.h; have h2 := lt32 (three r.e 6 11 25 false); have h3 := lt32 ((r.e &&& r.f) ^^^ (~~~r.e &&& r.g)); have h4 := lt32 kk; have h5 := lt32 ww
                            omega
                          have hb2 : N2 < 1099511627776 := by
                            have h0 := HN2.out
                            have h1 := lt32 (three r.a 2 13 22 false); have h2 := lt32 ((r.a &&& r.b) ^^^ (r.a &&& r.c) ^^^ (r.b &&& r.c))
                            omega
                          have hmd := ref_mask r.d.toNat N1 (by have := lt32 r.d; omega) hb1
                          have e1 : UInt32.ofNat N1 = t1 r kk ww := by rw [← HN1.out]; exact ref_t1 r kk ww
                          have e2 : UInt32.ofNat N2 = t2 r := by rw [← HN2.out]; exact ref_t2 r
                          have hw12 := HW12.out
                          rw [ref_mask N1 N2 hb1 hb2, hmd, w_back, e1, e2] at hw12
                          rw [hw12]
                          have hgb : C.grownBy wb.drew none := by
                            have h1 := grown_drewN n1 HGC.out
                            exact ⟨by rw [HWB.out, HWA.out]; exact h1.os, by rw [HWB.out, HWA.out]; exact h1.tape, by rw [HWB.out, HWA.out]; exact h1.output, by rw [HWB.out, HWA.out]; exact h1.size, fun g hg hne => by rw [HWB.out, HWA.out]; exact h1.block g hg hne⟩
                          have er : rnds L S (k + 1) = rnd r kk ww := by rw [rnds, ← HRR.out, ← HKK.out, ← HWW.out]
                          refine ⟨k + 1, _, 8, by omega, by go_num, rfl, Nat.le_refl _, ?_, World.grownBy.trans hgb (World.grownBy_alloc _ _ none), ?_, ?_⟩
                          · rw [er]
                            exact alloc_rnd wb.drew wb.heap.size (size_drew wb) r kk ww
                          · exact lt_alloc_drew wb _
                          · exact hgb.size
                        case measure => simp [intOf]; omega
                    · have ek : k = 64 := by omega
                      have e64 : (k : Int) = 64 := by omega
                      rw [ek] at hr
                      rw [e64]
                      clear hlt hk ek e64
                      have hbh := HBH9.out.grown hgC (by simp)
                      have hh0 : Blk wr gh 111 (d64 (mix S r 0)) := by rw [mix_zero]; exact hbh
                      have hlh := hbh.lt
                      have hvh : gv ≠ gh := by have h1 := HBH9.out.lt; omega
                      have HRR := Lib.hid hr
                      have HH0 := Lib.hid hh0
                      have HRW := Lib.hid hrow
                      have HBKD := Lib.hid (HBK9.out.grown hgC (by simp))
                      have HBSD := Lib.hid (HBS9.out.grown hgC (by simp))
                      have HXD9 := Lib.hid (HX99.out.grown hgC (fun b hb => ⟨by rw [hb]; exact hga9, by simp⟩))
                      have HGWD := Lib.hid (World.grownBy.trans HGW9.out hgC)
                      have hgaD : ga < wr.heap.size := Nat.lt_of_lt_of_le hga9 hgC.size
                      clear hbh hh0 hrow hr hgC
                      go_wp2_with (fail)
                      obtain ⟨D, hD⟩ : ∃ D, D = wr := ⟨_, rfl⟩
                      subst hD
                      go_loopw [22] (fun i wr => HAt D gh S r i wr) (fun i _ => 8 - (intOf i).toNat)
                      case atStart => exact ⟨0, by omega, rfl, HH0.out, World.grownBy.refl _ _⟩
                      case round =>
                        clear HH0
                        obtain ⟨k, hk, rfl, hbh, hgD⟩ := hrel
                        by_cases hlt : k < 8
                        · as_aux_lemma =>
                          have hml := mix_length S r k
                          have ch := hbh.get k _ (d64_get _ _ (by omega))
                          rw [mix_get S r k hlt] at ch
                          have hf := hbh.frozen k
                          have cv : wr.cell? ⟨gv, k, none⟩ = some (.int .u64 (r.list.getD k 0).toNat) := hgD.cell (by have h1 := HRW.out k _ (d64_get r.list k (by rw [list_length]; exact hlt)); rw [Nat.zero_add] at h1; exact h1) (fun e => hvh (Option.some.inj e))
                          obtain ⟨x, hx⟩ : ∃ x, x = S.list.getD k 0 := ⟨_, rfl⟩
                          obtain ⟨y, hy⟩ : ∃ y, y = r.list.getD k 0 := ⟨_, rfl⟩
                          rw [← hx] at ch
                          rw [← hy] at cv
                          have HXX := Lib.hid hx
                          have HYY := Lib.hid hy
                          have HBB := Lib.hid hbh
                          have HGD := Lib.hid hgD
                          have HMLL := Lib.hid hml
                          clear hx hy hbh hgD hml
                          go_wp2_with (fail)
                          go_region
                          go_wp2
                          go_roundw
                          case rel =>
                            have hm2 := ref_mask x.toNat y.toNat (by have := lt32 x; omega) (by have := lt32 y; omega)
                            rw [hm2, w_back, w_back]
                            refine ⟨k + 1, by omega, by go_num, ?_, grown_drew (n := 0) (World.grownBy.trans HGD.out (grown_set wr gh k (.int .u64 ((x + y).toNat : Int)))) rfl⟩
                            have hs := HBB.out.set k (.int .u64 ((x + y).toNat : Int))
                            rw [d64_set, HXX.out, HYY.out, mix_step] at hs
                            rw [HXX.out, HYY.out]
                            exact hs.keep rfl
                          case measure => simp [intOf]; omega
                        · have ek : k = 8 := by omega
                          rw [ek, mix_all] at hbh
                          have hne : ∀ g, g ≠ gh → some g ≠ some gh := fun g h e => h (Option.some.inj e)
                          have hgwD : w.grownBy wr none := World.grownBy.andThen HGWD.out hgD (by rintro _ ⟨⟩; exact .inl hd4)
                          have hfin : RefAt w gh gk gs ga M m (.int .i64 (64 * ((j + 1 : Nat) : Int))) wr := by
                            refine ⟨j + 1, rfl, by omega, ?_, HBKD.out.grown hgD (hne _ (by omega)), HBSD.out.grown hgD (hne _ (by omega)), HXD9.out.grown hgD (fun b hb => ⟨by rw [hb]; exact hgaD, hne _ (by omega)⟩), hgwD, Nat.lt_of_lt_of_le hgaD hgD.size⟩
                            rw [runs_add j 1, runs, runs, ← HXD.out, comp]
                            refine hbh.to ?_
                            rw [HRR.out, HSS.out, HLW.out]
                            rfl
                          have HFIN := Lib.hid hfin
                          clear hbh hgD hgwD hfin
                          go_wp2
                          go_roundw
                          case rel =>
                            have h1 := HFIN.out
                            rw [show 64 * ((j + 1 : Nat) : Int) = 64 * (j : Int) + 64 by omega] at h1
                            exact h1
                          case measure => simp [intOf]; omega
            · as_aux_lemma =>
              have hjm2 : m = 64 * j := by omega
              obtain ⟨F, hF⟩ : ∃ F, F = runs j H0 M := ⟨_, rfl⟩
              have hFin : F = fin xs := by
                rw [hF, fin_whole, ← HWH.out, HML.out, hjm2, Nat.mul_div_cancel_left j (by omega)]
              have hbh := HBH.out
              rw [← hF] at hbh
              have HF := Lib.hid hFin
              have HH := Lib.hid hbh
              clear hF hFin hbh hjm2
              obtain ⟨E, hE⟩ : ∃ E, E = B := ⟨_, rfl⟩
              subst hE
              have hmjm : decide ((64 * (j : Int)) < (m : Int)) = false := by simp; omega
              go_wp2_with (fail)
              clear hmjm
              go_loopw [23, 24] (fun v i wr => OutAt E F v i wr) (fun _ i _ => 8 - (intOf i).toNat)
              case atStart => exact ⟨0, by omega, rfl, World.ownsRow_nil _ _ _ _, World.grownBy.refl _ _⟩
              case round =>
                obtain ⟨k, hk, rfl, ho, hgE⟩ := hrel
                by_cases hlt : k < 8
                · as_aux_lemma =>
                  obtain ⟨x, hx⟩ : ∃ x, x = F.list.getD k 0 := ⟨_, rfl⟩
                  have hi0 : InAt E F k x u23 (.int .i64 3) wr := ⟨0, by omega, rfl, by rw [List.take_zero, List.append_nil]; exact ho, hgE⟩
                  have HI0 := Lib.hid hi0
                  have HXX := Lib.hid hx
                  clear ho hgE hi0 hx
                  have d8 : decide ((k : Int) < 8) = true := by simp; omega
                  go_wp2_with (fail)
                  clear d8
                  go_loopw [23, 25] (fun v i wr => InAt E F k x v i wr) (fun _ i _ => (intOf i + 1).toNat)
                  case atStart => exact HI0.out
                  case round =>
                    clear HI0
                    obtain ⟨q, hq, rfl, ho, hgE⟩ := hrel
                    by_cases hq4 : q < 4
                    · have ch := (HH.out.grown hgE (by simp)).get k _ (d64_get F.list k (by rw [list_length]; exact hlt))
                      rw [← HXX.out] at ch
                      have hbyte : (x.toNat : Int) / 2 ^ (8 * (3 - q)) % 256 = ((UInt8.ofNat (x.toNat / 256 ^ (3 - q))).toNat : Int) := shr_byte x.toNat (3 - q)
                      have HBY := Lib.hid hbyte
                      have HO := Lib.hid ho
                      clear hbyte ho
                      go_wp2_with (at_builtin; refine wpList_push rfl _ _ rfl _ (4 * k + q) (outs (F.list.take k) ++ (be 4 x.toNat).take q) rfl HO.out hgE (UInt8.ofNat (x.toNat / 256 ^ (3 - q))) _ HBY.out rfl (by omega) ?_)
                      intro v3 w8 ho8 hg8
                      go_wp2
                      go_roundw
                      case rel =>
                        refine ⟨q + 1, by omega, by go_num, ?_, hg8⟩
                        rw [List.take_succ_eq_append_getElem (by rw [be_length]; exact hq4), be_get 4 x.toNat q hq4, ← List.append_assoc, show 4 * k + (q + 1) = 4 * k + q + 1 by omega]
                        refine cast (congrArg (fun l => w8.ownsRow E.heap.size 5 1 v3 (4 * k + q + 1) (u8s l)) ?_) ho8
                        simp only [List.append_assoc]
                      case measure => simp [intOf]; omega
                    · have eq4 : q = 4 := by omega
                      rw [eq4, List.take_of_length_le (l := be 4 x.toNat) (by rw [be_length]; exact Nat.le_refl _)] at ho
                      have hout : outs (F.list.take (k + 1)) = outs (F.list.take k) ++ be 4 x.toNat := by rw [outs_step _ _ (by rw [list_length]; exact hlt), ← HXX.out]
                      rw [← hout] at ho
                      have HO := Lib.hid ho
                      have HGE := Lib.hid hgE
                      clear ho hgE eq4 hout
                      go_wp2
                      go_roundw
                      case rel => exact ⟨k + 1, by omega, by go_num, HO.out, HGE.out⟩
                      case measure => simp [intOf]; omega
                · have ek : k = 8 := by omega
                  rw [ek, List.take_of_length_le (by rw [list_length]; exact Nat.le_refl _), HF.out] at ho
                  have HO := Lib.hid ho
                  have HGE := Lib.hid hgE
                  clear ho hgE
                  go_wp2
                  go_ret
                  exact ⟨_, rfl, World.ownsRow.mono HO.out HGW.out.size, World.grownBy.trans HGW.out HGE.out⟩
    · have hmod : (n + 1 + z) % 64 ≠ 56 := by omega
      have HO := Lib.hid ho
      have HLL := Lib.hid hl3
      clear ho hl3 hl2
      generalize hmm : n + 1 + z = m at hmod
      have HM := Lib.hid hmm
      have hm9 : m < 1000000 := by omega
      clear hmm
      --A
      go_wp2_with (at_builtin; refine wpList_push rfl _ _ rfl _ m (xs ++ 128 :: List.replicate z 0) rfl (by have := HO.out; rw [HM.out] at this; exact this) hg 0 0 rfl rfl hm9 ?_)
      intro v2 w7 ho7 hg7
      go_wp2
      go_roundw
      case rel =>
        refine ⟨z + 1, by rw [HN.out]; omega, ?_, hg7⟩
        rw [HN.out, show n + 1 + (z + 1) = m + 1 by rw [← HM.out]; omega, List.replicate_succ']
        exact ho7
      case measure =>
        obtain ⟨A3, c3, rfl, he, -, -, -⟩ := own_form ho7
        have h1 := HM.out
        rw [HN.out]
        simp only [lenV]
        omega
      --Z
end Go.Proofs.YtdnkeaokgkiloaaDoor.S
