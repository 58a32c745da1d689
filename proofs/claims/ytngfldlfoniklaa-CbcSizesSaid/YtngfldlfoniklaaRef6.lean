/- The reference's CBC. Conditions: the text has no more than a million bytes. -/
import Derived.Test.YtngfldlfoniklaaCip
import Derived.Test.YtngfldlfoniklaaApp
import Derived.Test.YtngfldlfoniklaaCbcMath
namespace Go.Proofs.Ytngfldlfoniklaa
open Go.RowKit
theorem fn_u8s (f : Fin 16 → UInt8) : (List.finRange 16).map (fun i => Value.int .u8 ((f i).toNat : Int)) = u8s ((List.finRange 16).map f) := by
  unfold u8s
  rw [List.map_map]
  rfl
theorem bytesOf_bl (s : State) : bytesOf s = u8s (bl s) := fn_u8s s
theorem run_byte (w : World) (z : Int) : (Instr.buildSlice 24 1 #[(0, .int .u8 z)]).run Try.prog w = .ok (.slice (some ⟨w.heap.size, 0, none⟩) 1 1) (w.alloc (.cells #[.int .u8 z] 5)) := by kernel_rfl
theorem wpList_byte {w : World} {ops : Array Oper} {rest : List Oper} {o : Oper} {a : Act} {Q : Exit → Act → World → Prop} (hgd : o.guard = none) (x : Operand) (ho : o.op = .buildSlice 24 1 #[(0, x)]) (b : UInt8) (z : Int) (hz : (b.toNat : Int) = z) (hx : a.eval x = .int .u8 z)
    (h : ∀ w', Blk w' w.heap.size 5 (u8s [b]) → w.grownBy w' none → w'.heap.size = w.heap.size + 1 → wpList Try.prog ops Q rest (a.put o.dst (.slice (some ⟨w.heap.size, 0, none⟩) 1 1)) w') : wpList Try.prog ops Q (o :: rest) a w := by
  refine wpList_plain hgd fun K hK => ?_
  subst hz
  have hrun := run_byte w (b.toNat : Int)
  unfold Oper.wp
  simp only [execOp, ho, List.map_toArray, List.map_cons, List.map_nil, hx, Sem.run_bind, hrun, Result.andThen_ok, Sem.run_pure]
  exact hK _ _ (h _ (Blk.of_alloc w _ 5) (World.grownBy_alloc w _ none) (World.size_alloc w _))
theorem byt_blk {w : World} {g : Nat} {ty : TypeId} {xs : List UInt8} (h : Blk w g ty (u8s xs)) : Byt w (fun b => b = g) (some ⟨g, 0, none⟩) xs := Blk.byt (pre := []) (post := []) (h.to (by simp)) rfl
theorem rep_next (t : List UInt8) (x : UInt8) (i : Nat) : t ++ List.replicate i x ++ [x] = t ++ List.replicate (i + 1) x := by
  rw [List.append_assoc, List.replicate_succ']
theorem byt_st {w : World} {ok : Nat → Prop} {ad : Addr} {l : List UInt8} (h : Byt w ok (some ad) l) (m i : Nat) (hi : i < 16) (hl : 16 * m + i < l.length) : w.cell? (ad.add (16 * m + i)) = some (.int .u8 ((st l m ⟨i, hi⟩).toNat : Int)) := by
  obtain ⟨ad', e, _, hc⟩ := h (16 * m + i) hl
  cases e
  rw [hc]
  unfold st
  rw [List.getD_eq_getElem?_getD, List.getElem?_eq_getElem hl]
  rfl
/-- While blocks are locked. -/
def R6 (w8 : World) (ga B : Nat) (E : State → State) (v : State) (f : Nat → State) (vo : Value) (m : Nat) (V : World) : Prop :=
  V.ownsRow B 5 1 vo (16 * m) (u8s (toB ((List.range m).map fun j => cv E v f (j + 1)))) ∧ Blk V ga 23 (bytesOf (cv E v f m)) ∧ w8.grownBy V (some ga)
set_option maxRecDepth 100000 in
set_option maxHeartbeats 3200000 in
theorem ref6_any {w : World} {ok : Nat → Prop} {A : Option Addr} {text : List UInt8} {n c : Nat} (hx : Byt w ok A text) (hok : ∀ b, ok b → b < w.heap.size) (hn : text.length = n) (hsz : n ≤ 1000000) (k : Fin 32 → UInt8) (v : State) :
    Calls Try.prog 12 #[.agg (u8s (k32 k)).toArray, .agg (bytesOf v).toArray, .slice A n c] w fun e w' => ∃ A' c', e = .returned (.slice A' (lockB (kn (k32 k)) v text).length c') ∧ Byt w' (fun b => w.heap.size ≤ b ∧ b < w'.heap.size) A' (lockB (kn (k32 k)) v text) ∧ w.grownBy w' none := by
  obtain ⟨i0, hi, hz0, hz1, hz2⟩ := info_parts Try.info5
  have HX := Lib.hid hx
  have HN := Lib.hid hn
  have HOK := Lib.hid hok
  clear hx hn hok
  obtain ⟨p, hp⟩ : ∃ p, p = padN text := ⟨_, rfl⟩
  obtain ⟨r, hr⟩ : ∃ r, r = n % 16 := ⟨_, rfl⟩
  have hpr : p = 16 - r := by rw [hp, hr]; unfold padN; rw [HN.out]
  have d1 : (n : Int).tmod 16 = (r : Int) := by rw [Int.tmod_eq_emod_of_nonneg (by omega)]; omega
  have d2 : (n : Int) % 16 = (r : Int) := by omega
  have d3 : 16 - (r : Int) = (p : Int) := by omega
  have d4 := i64_keep p (by omega)
  have d5 := i64_keep r (by omega)
  have d6 : IntKind.u8.wrap (p : Int) = (p : Int) := by rw [IntKind.wrap_u8]; omega
  obtain ⟨pb, hpb⟩ : ∃ b, b = UInt8.ofNat p := ⟨_, rfl⟩
  have HPB : Hid ((pb.toNat : Int) = (p : Int)) := Lib.hid (by rw [hpb, UInt8.toNat_ofNat', Nat.mod_eq_of_lt (by omega)])
  have hfill : text ++ List.replicate p pb = fillB text := by unfold fillB; rw [hpb, hp]
  have HF := Lib.hid hfill
  have HPL := Lib.hid (show p ≤ 16 by omega)
  have HP := Lib.hid hp
  clear hp hr hpr hpb hfill
  go_enter Try.func12, Try.ntmps12
  go_wp2_with (first
    | (refine wpList_box22 rfl _ k rfl rfl ?_
       intro w1 hb1 hg1 hz1'
       obtain ⟨gk, hgk⟩ : ∃ g, g = w.heap.size := ⟨_, rfl⟩
       rw [← hgk] at hb1 ⊢
       have HB1 := Lib.hid hb1
       have HG1 := Lib.hid hg1
       clear hb1 hg1 hz1' hgk)
    | (refine wpList_box23 rfl _ v rfl rfl ?_
       intro w2 hb2 hg2 hz2'
       obtain ⟨gv, hgv⟩ : ∃ g, g = w1.heap.size := ⟨_, rfl⟩
       rw [← hgv] at hb2 ⊢
       have HB2 := Lib.hid hb2
       have HK2 := Lib.hid (HB1.out.grown hg2 (by simp))
       have HG2 := Lib.hid (World.grownBy.trans HG1.out hg2)
       clear hb2 hg2 hz2' hgv)
    | (at_builtin
       refine wpList_append_byt_n _ rfl _ _ 24 rfl w2.heap.size i0 (.int .u8 0) Try.underlying24 hi hz0 hz1 hz2 rfl (.slice none 0 0) 0 [] rfl (World.ownsRow_nil _ _ 5 1) ok A c n text HN.out rfl (HX.out.grown HG2.out (fun b hb => ⟨HOK.out b hb, by simp⟩)) (by omega) (Nat.le_refl _) ?_
       intro v3 w3 hown3 hg3 hat3
       have HO3 : Hid (w3.ownsRow w2.heap.size 5 1 v3 n (u8s text)) := Lib.hid (by rw [Nat.zero_add, List.nil_append] at hown3; exact hown3)
       have HG3 : Hid (w2.grownBy w3 none) := Lib.hid hg3
       clear hown3 hg3 hat3))
  clear d1 d2 d3 d4 d5
  go_loopw [7, 10] (fun u x wr => ∃ i : Nat, i ≤ p ∧ x = .int .i64 (i : Int) ∧ wr.ownsRow w2.heap.size 5 1 u (n + i) (u8s (text ++ List.replicate i pb)) ∧ w2.grownBy wr none) (fun _ x _ => p - (intOf x).toNat)
  case atStart => exact ⟨0, Nat.zero_le _, rfl, by simpa using HO3.out, HG3.out⟩
  case round =>
    obtain ⟨i, hi', rfl, ho, hg⟩ := hrel
    by_cases hlt : i < p
    · have HO := Lib.hid ho
      have HG := Lib.hid hg
      have HLT := Lib.hid hlt
      have e1 : (i : Int) < (p : Int) := by omega
      have hpl := HPL.out
      clear ho hg
      go_wp2_with (first
        | (refine wpList_byte rfl _ rfl pb (p : Int) HPB.out rfl ?_
           intro w4 hb4 hg4 hz4
           obtain ⟨gn, hgn⟩ : ∃ g, g = wr.heap.size := ⟨_, rfl⟩
           rw [← hgn] at hb4 ⊢
           have HB4 := Lib.hid hb4
           have HG4 := Lib.hid hg4
           clear hb4 hg4 hz4 hgn)
        | (at_builtin
           refine wpList_append_byt_n _ rfl _ _ 24 rfl w2.heap.size i0 (.int .u8 0) Try.underlying24 hi hz0 hz1 hz2 rfl u7 (n + i) (text ++ List.replicate i pb) rfl (own_keep HO.out HG4.out) (fun b => b = gn) (some ⟨gn, 0, none⟩) 1 1 [pb] rfl rfl (byt_blk HB4.out) (by omega) (Nat.le_trans HG.out.size HG4.out.size) ?_
           intro v5 w5 hown5 hg5 hat5
           rw [rep_next] at hown5
           have HO5 := Lib.hid hown5
           have HG5 : Hid (w2.grownBy w5 none) := Lib.hid (World.grownBy.andThen (World.grownBy.trans HG.out HG4.out) hg5 (fun j hj => .inl (HO.out.lt j hj).1))
           clear hown5 hg5 hat5))
      go_roundw
      case rel => exact ⟨i + 1, by have := HLT.out; omega, by go_num, HO5.out, HG5.out⟩
      case measure => have := HLT.out; simp [intOf]; omega
    · have ei : i = p := by omega
      subst ei
      rw [HF.out] at ho
      obtain ⟨A7, c7, hv7, hN, hc7, hm7, hb7⟩ := own_form ho
      subst hv7
      have hb7' := hb7.imp (ok' := fun b => b < wr.heap.size) (fun b hb => hb.2.2)
      obtain ⟨M, hM⟩ : ∃ M, M = n / 16 + 1 := ⟨_, rfl⟩
      obtain ⟨N, hN16⟩ : ∃ N, N = M * 16 := ⟨_, rfl⟩
      have hfl : (fillB text).length = N := by rw [fillB_length, HN.out, hN16, hM]
      have HNM := Lib.hid hN16
      obtain ⟨ad, hA7, -, -⟩ := hb7'.some_ (by omega)
      subst hA7
      have HALL := Lib.hid hb7'
      have HFL := Lib.hid hfl
      have HM := Lib.hid hM
      have HML := Lib.hid (show M ≤ 62501 by omega)
      have HG := Lib.hid hg
      rw [hfl]
      have hrs : Hid (w.heap.size ≤ wr.heap.size) := Lib.hid (World.grownBy.trans HG2.out hg).size
      clear ho hN hc7 hm7 hb7 hb7' hg hlt hi' hfl hM hN16
      go_wp2_with (first
        | (refine wpList_load_mid rfl 22 _ rfl gk 0 rfl (u8s (k32 k)) _ (range_blk (HK2.out.grown HG.out (by simp))) Try.underlying22 rfl (by rw [size22, u8s_length, k32_length]) ?_)
        | (go_at_call 19
           refine (refnew_any wr k).mono ?_
           rintro _ w4 ⟨gs, gw, cw, rfl, hs4, hw4, hg4⟩
           have HS4 := Lib.hid hs4
           have HW4 := Lib.hid hw4
           have HG4 := Lib.hid hg4
           clear hs4 hw4 hg4)
        | (refine wpList_alloc31 rfl rfl ?_
           intro w5 hb5 hg5 hz5
           obtain ⟨gc, hgc⟩ : ∃ g, g = w4.heap.size := ⟨_, rfl⟩
           rw [← hgc] at hb5 ⊢
           have HB5 := Lib.hid hb5
           have HG5 := Lib.hid hg5
           have HGC : Hid (w4.heap.size ≤ gc) := Lib.hid (Nat.le_of_eq hgc.symm)
           clear hb5 hg5 hz5 hgc)
        | (refine wpList_store_row rfl 43 _ _ rfl gc #[.slice (some ⟨gs, 0, none⟩) 256 256, .slice (some ⟨gw, 0, none⟩) 60 cw] rfl rfl 43 _ HB5.out size31 rfl (all_oneCell_toArray (two_one _ _ _ _ _ _)) ?_
           obtain ⟨w6, hw6⟩ : ∃ w6, w6 = w5.setRow gc #[.slice (some ⟨gs, 0, none⟩) 256 256, .slice (some ⟨gw, 0, none⟩) 60 cw] := ⟨_, rfl⟩
           have hb6 : Blk w6 gc 43 [.slice (some ⟨gs, 0, none⟩) 256 256, .slice (some ⟨gw, 0, none⟩) 60 cw] := by rw [hw6]; exact Blk.setRow HB5.out
           have hg6 : w4.grownBy w6 none := by rw [hw6]; exact World.grownBy.andThen HG5.out (grown_setRow _ _ _) (by rintro _ ⟨⟩; exact .inl HGC.out)
           rw [← hw6]
           have HB6 := Lib.hid hb6
           have HG6 := Lib.hid hg6
           clear hw6 hb6 hg6)
        | (refine wpList_load_mid rfl 23 _ rfl gv 0 rfl (bytesOf v) _ (range_blk (HB2.out.grown (World.grownBy.trans HG.out (World.grownBy.trans HG4.out HG6.out)) (by simp))) Try.underlying23 rfl (bytes_size' v) ?_)
        | (refine wpList_alloc23 rfl rfl ?_
           intro w7 hb7 hg7 hz7
           obtain ⟨ga, hga⟩ : ∃ g, g = w6.heap.size := ⟨_, rfl⟩
           rw [← hga] at hb7 ⊢
           have HB7 := Lib.hid hb7
           have HG7 := Lib.hid hg7
           have HGA : Hid (w6.heap.size ≤ ga) := Lib.hid (Nat.le_of_eq hga.symm)
           have HB67 := Lib.hid (HB6.out.grown hg7 (by simp))
           have HNC : Hid (gc ≠ ga) := Lib.hid (fun e => by have := HB6.out.lt; omega)
           clear hb7 hg7 hz7 hga)
        | (refine wpList_store_row rfl 23 _ _ rfl ga (bytesOf v).toArray rfl rfl 23 _ HB7.out (bytes_size _) (bytes_same _ _) (all_oneCell_toArray (bytesOf_one _)) ?_
           obtain ⟨w8, hw8⟩ : ∃ w8, w8 = w7.setRow ga (bytesOf v).toArray := ⟨_, rfl⟩
           have hb8 : Blk w8 ga 23 (bytesOf v) := by rw [hw8]; exact Blk.setRow HB7.out
           have hg68 : w6.grownBy w8 none := by rw [hw8]; exact World.grownBy.andThen HG7.out (grown_setRow _ _ _) (by rintro _ ⟨⟩; exact .inl HGA.out)
           have hc8 : Blk w8 gc 43 [.slice (some ⟨gs, 0, none⟩) 256 256, .slice (some ⟨gw, 0, none⟩) 60 cw] := by rw [hw8]; exact HB67.out.grown (grown_setRow _ _ _) (fun e => HNC.out (Option.some.inj e))
           rw [← hw8]
           have HB8 := Lib.hid hb8
           have HG68 := Lib.hid hg68
           have HC8 := Lib.hid hc8
           clear hw8 hb8 hg68 hc8))
      have h48 := World.grownBy.trans HG6.out HG68.out
      have HG48 := Lib.hid h48
      have HALL4 : Hid (Byt w4 (fun b => b < w4.heap.size) (some ad) (fillB text)) := Lib.hid ((HALL.out.grown HG4.out (fun b hb => ⟨hb, by simp⟩)).imp fun b hb => Nat.lt_of_lt_of_le hb HG4.out.size)
      have HWW : Hid (w.grownBy w8 none) := Lib.hid (World.grownBy.trans HG2.out (World.grownBy.trans HG.out (World.grownBy.trans HG4.out h48)))
      have HGA4 : Hid (w4.heap.size ≤ ga) := Lib.hid (Nat.le_trans HG6.out.size HGA.out)
      have HGL : Hid (ga < w8.heap.size) := Lib.hid HB8.out.lt
      have HWB : Hid (w.heap.size ≤ ga) := Lib.hid (Nat.le_trans hrs.out (Nat.le_trans HG4.out.size (Nat.le_trans HG6.out.size HGA.out)))
      clear HG68 HG6 HG4 HB7 HB67 HB6 HB5 HG5 HG7 h48 HALL
      obtain ⟨E, hE⟩ : ∃ E, E = aesLock (kn (k32 k)) := ⟨_, rfl⟩
      obtain ⟨f, hf⟩ : ∃ f, f = st (fillB text) := ⟨_, rfl⟩
      have HE := Lib.hid hE
      have HFF := Lib.hid hf
      clear hE hf
      go_loopw [8, 13] (fun u x wr => ∃ m : Nat, m ≤ M ∧ x = .int .i64 ((16 * m : Nat) : Int) ∧ R6 w8 ga w8.heap.size E v f u m wr) (fun _ x _ => 16 * M - (intOf x).toNat)
      case atStart => exact ⟨0, Nat.zero_le _, rfl, World.ownsRow_nil _ _ 5 1, HB8.out, World.grownBy.refl _ _⟩
      case round =>
        obtain ⟨m, hm, rfl, hR⟩ := hrel
        by_cases hlt : m < M
        · have HR := Lib.hid hR
          have hnm := HNM.out
          have e1 : ((16 * m : Nat) : Int) < (N : Int) := by omega
          have HLT := Lib.hid hlt
          obtain ⟨at_, hat⟩ : ∃ q, q = 16 * m := ⟨_, rfl⟩
          have HAT := Lib.hid hat
          rw [← hat] at e1 ⊢
          obtain ⟨at2, hat2⟩ : ∃ q, q = at_ + 16 := ⟨_, rfl⟩
          have hmlx := HML.out
          have g1 : (at_ : Int) + 16 = (at2 : Int) := by omega
          have g2 := i64_keep at2 (by omega)
          have HA2 : Hid (at2 = 16 * (m + 1)) := Lib.hid (by omega)
          clear hR hlt hat hm hat2 hmlx hnm
          have hR := HR.out
          have h4r : w4.grownBy wr none := World.grownBy.andThen HG48.out hR.2.2 (by rintro _ ⟨⟩; exact .inl HGA4.out)
          have H4R := Lib.hid h4r
          have HCR := Lib.hid (HC8.out.grown hR.2.2 (fun e => HNC.out (Option.some.inj e)))
          obtain ⟨P, hP⟩ : ∃ P, P = cv E v f m := ⟨_, rfl⟩
          obtain ⟨T, hT⟩ : ∃ T, T = keyS P (f m) := ⟨_, rfl⟩
          have hPr : Blk wr ga 23 (bytesOf P) := by rw [hP]; exact hR.2.1
          have HPR := Lib.hid hPr
          have HT := Lib.hid hT
          have HPP := Lib.hid hP
          clear hR h4r hT hP hPr
          go_wp2_with (refine wpList_alloc23 rfl rfl ?_)
          intro w9 hb9 hg9 hz9
          obtain ⟨gx, hgx⟩ : ∃ g, g = wr.heap.size := ⟨_, rfl⟩
          rw [← hgx] at hb9 ⊢
          have hb9z : Blk w9 gx 23 (bytesOf (part 0 T zeroS)) := by rw [part_zero]; exact hb9
          have hax : ga ≠ gx := by have h1 := HPR.out.lt; omega
          have HAX := Lib.hid hax
          have HCX : Hid (gc ≠ gx) := Lib.hid (by have h1 := HCR.out.lt; omega)
          have HXL : Hid (wr.heap.size ≤ gx) := Lib.hid (Nat.le_of_eq hgx.symm)
          have HP9 := Lib.hid (HPR.out.grown hg9 (by simp))
          have HC9 := Lib.hid (HCR.out.grown hg9 (by simp))
          have H49 := Lib.hid (World.grownBy.trans H4R.out hg9)
          have HG9 := Lib.hid hg9
          have HX9 := Lib.hid hb9z
          have HX4 : Hid (w4.heap.size ≤ gx) := Lib.hid (Nat.le_trans H4R.out.size HXL.out)
          clear hb9 hg9 hz9 hgx hb9z hax
          go_wp2_with (fail)
          go_loopw [15] (fun x wx => ∃ i : Nat, i ≤ 16 ∧ x = .int .i64 (i : Int) ∧ Blk wx gx 23 (bytesOf (part i T zeroS)) ∧ w9.grownBy wx (some gx)) (fun x _ => 16 - (intOf x).toNat)
          case atStart => exact ⟨0, Nat.zero_le _, rfl, HX9.out, World.grownBy.refl _ _⟩
          case round =>
            clear HX9
            obtain ⟨i, hi', rfl, hb, hg⟩ := hrel
            by_cases hlt : i < 16
            · obtain ⟨q, hq⟩ : ∃ q, q = 16 * m + i := ⟨_, rfl⟩
              have hat' := HAT.out
              have hmm := HLT.out
              have hml := HML.out
              have h4x : w4.grownBy wr none := World.grownBy.andThen H49.out hg (by rintro _ ⟨⟩; exact .inl HX4.out)
              have c1 := byt_st (HALL4.out.grown h4x (fun b hb => ⟨hb, by simp⟩)) m i hlt (by have := HNM.out; rw [HFL.out]; omega)
              rw [← hq, ← HFF.out] at c1
              have c2 := (HP9.out.grown hg (fun e => HAX.out (Option.some.inj e))).get i _ (bytesOf_get P i hlt)
              have c3 := hb.get i _ (bytesOf_get _ i hlt)
              have hfz := hb.frozen i
              have hx : bits .xor .u8 ((f m ⟨i, hlt⟩).toNat : Int) ((P ⟨i, hlt⟩).toNat : Int) = ((T ⟨i, hlt⟩).toNat : Int) := by
                rw [b_xor, HT.out]; rfl
              have hset := bytesOf_set (part i T zeroS) i (T ⟨i, hlt⟩)
              rw [part_set] at hset
              have hb2 := (hb.set i (.int .u8 ((T ⟨i, hlt⟩).toNat : Int))).to hset
              have HB2' := Lib.hid hb2
              have HGI := Lib.hid hg
              have f1 : (at_ : Int) + (i : Int) = (q : Int) := by omega
              have f2 := i64_keep q (by omega)
              have hnm := HNM.out
              have f3 : (q : Int) < (N : Int) := by omega
              have f4 : (i : Int) < 16 := by omega
              obtain ⟨x, hx'⟩ : ∃ x, x = f m ⟨i, hlt⟩ := ⟨_, rfl⟩
              obtain ⟨y, hy'⟩ : ∃ x, x = P ⟨i, hlt⟩ := ⟨_, rfl⟩
              obtain ⟨z, hz'⟩ : ∃ x, x = T ⟨i, hlt⟩ := ⟨_, rfl⟩
              rw [← hx'] at c1 hx
              rw [← hy'] at c2 hx
              rw [← hz'] at hx HB2'
              clear hset hb2 hb hg hq hat' hmm hml h4x hx' hy' hz' hnm
              go_wp2_with (fail)
              refine wp_region_still_tail 12 (by kernel_rfl) (by kernel_rfl) ?_
              change wpStill _ _ wr.drew (fun a' => wpList _ _ _ _ a' wr.drew) _ _
              simp only [List.take_succ_cons, List.take_zero, List.drop_succ_cons, List.drop_zero]
              repeat still_step
              refine wpStill_nil ?_
              go_wp2
              go_roundw
              case rel => exact ⟨i + 1, by omega, by go_num, HB2'.out.keep rfl, World.grownBy.trans (grown_drew HGI.out) (grown_set wr.drew gx i _)⟩
              case measure => simp [intOf]; omega
            · have ei : i = 16 := by omega
              subst ei
              rw [part_all] at hb
              have h4x : w4.grownBy wr none := World.grownBy.andThen H49.out hg (by rintro _ ⟨⟩; exact .inl HX4.out)
              have HTB := Lib.hid hb
              have HS := Lib.hid (HS4.out.grown h4x (by simp))
              have HW := Lib.hid (HW4.out.grown h4x)
              have HC := Lib.hid (HC9.out.grown hg (fun e => HCX.out (Option.some.inj e)))
              have HPX := Lib.hid (HP9.out.grown hg (fun e => HAX.out (Option.some.inj e)))
              obtain ⟨X, hX⟩ : ∃ X, X = aesLock (kn (k32 k)) T := ⟨_, rfl⟩
              have hXc : cv E v f (m + 1) = X := by rw [hX, HT.out, HPP.out, ← HE.out]; rfl
              have HXE := Lib.hid hX
              have HXC := Lib.hid hXc
              have hgr9 := World.grownBy.andThen (World.grownBy.trans HR.out.2.2 (HG9.out.but _)) hg (row := some ga) (by rintro _ ⟨⟩; exact .inl (Nat.le_trans HR.out.2.2.size HXL.out))
              have HG89 := Lib.hid hgr9
              have hor := (own_keep HR.out.1 HG9.out).kept hg (by
                cases hv : u8.ownBlock with
                | none => exact .inl rfl
                | some kk => exact .inr (fun e => by have h1 := (HR.out.1.lt kk hv).2; cases e; have := HXL.out; omega))
              have HOR := Lib.hid hor
              clear hb hg h4x hlt hi' hX hXc hgr9 hor
              go_wp2_with (first
                | (refine wpList_load_mid rfl 43 _ rfl gc 0 rfl [.slice (some ⟨gs, 0, none⟩) 256 256, .slice (some ⟨gw, 0, none⟩) 60 cw] _ (range_blk HC.out) Try.underlying43 rfl size31 ?_)
                | (refine wpList_load_mid rfl 23 _ rfl gx 0 rfl (bytesOf T) _ (range_blk HTB.out) Try.underlying23 rfl (bytes_size' T) ?_)
                | (go_at_call 20
                   refine (rlock_any HS.out HW.out T).mono ?_
                   rintro _ w10 ⟨rfl, hg10⟩
                   rw [← HXE.out]
                   have HP10 := Lib.hid (HPX.out.grown hg10 (by simp))
                   have HG10 := Lib.hid hg10
                   clear hg10)
                | (refine wpList_store_row rfl 23 _ _ rfl ga (bytesOf X).toArray rfl rfl 23 _ HP10.out (bytes_size _) (bytes_same _ _) (all_oneCell_toArray (bytesOf_one _)) ?_
                   obtain ⟨w11, hw11⟩ : ∃ w11, w11 = w10.setRow ga (bytesOf X).toArray := ⟨_, rfl⟩
                   have hb11 : Blk w11 ga 23 (bytesOf X) := by rw [hw11]; exact Blk.setRow HP10.out
                   have hg11 : w10.grownBy w11 (some ga) := by rw [hw11]; exact grown_setRow _ _ _
                   rw [← hw11]
                   have HB11 := Lib.hid hb11
                   have HG11 := Lib.hid hg11
                   have HO11 := Lib.hid ((own_keep HOR.out HG10.out).kept hg11 (by
                     cases hv : u8.ownBlock with
                     | none => exact .inl rfl
                     | some kk => exact .inr (fun e => by have h1 := (HOR.out.lt kk hv).1; have h2 := HGL.out; cases e; omega)))
                   have HG811 : Hid (w8.grownBy w11 (some ga)) := Lib.hid (World.grownBy.trans (World.grownBy.trans HG89.out (HG10.out.but _)) hg11)
                   clear hw11 hb11 hg11)
                | (at_builtin
                   refine wpList_append_byt_n _ rfl _ _ 24 rfl w8.heap.size i0 (.int .u8 0) Try.underlying24 hi hz0 hz1 hz2 rfl u8 (16 * m) (toB ((List.range m).map fun j => cv E v f (j + 1))) rfl HO11.out (fun b => b = ga) (some ⟨ga, 0, none⟩) 16 16 (bl X) (bl_length X) rfl (byt_blk (HB11.out.to (bytesOf_bl X))) (by have := HLT.out; have := HML.out; omega) HG811.out.size ?_
                   intro v12 w12 hown12 hg12 hat12
                   rw [← HXC.out, ← toB_range] at hown12
                   have hb12 : Blk w12 ga 23 (bytesOf (cv E v f (m + 1))) := by
                     rw [HXC.out]
                     exact HB11.out.grown hg12 (fun e => by have h1 := (HO11.out.lt ga e.symm).1; have h2 := HGL.out; omega)
                   have HR12 : Hid (R6 w8 ga w8.heap.size E v f v12 (m + 1) w12) := Lib.hid ⟨hown12, hb12, World.grownBy.andThen HG811.out hg12 (fun j hj => .inl (HO11.out.lt j hj).1)⟩
                   clear hown12 hb12 hg12 hat12))
              go_roundw
              case rel => exact ⟨m + 1, HLT.out, by rw [HA2.out], HR12.out⟩
              case measure => have h1 := HLT.out; have h2 := HAT.out; have h3 := HA2.out; simp [intOf]; omega
        · have em : m = M := by omega
          subst em
          have hnm := HNM.out
          have e1 : ¬ (((16 * m : Nat) : Int) < (N : Int)) := by omega
          clear hnm
          obtain ⟨ho, _, hg⟩ := hR
          have hlk : lockB (kn (k32 k)) v text = toB ((List.range m).map fun j => cv E v f (j + 1)) := by
            rw [lockB_range, HN.out, ← HM.out, ← HE.out, ← HFF.out]
          obtain ⟨A9, c9, hv9, hN9, _, _, hb9⟩ := own_form ho
          subst hv9
          rw [← hlk] at hb9 ⊢
          have HB9 := Lib.hid (hb9.imp (ok' := fun b => w.heap.size ≤ b ∧ b < wr.heap.size) (fun b hb => ⟨Nat.le_trans HWW.out.size hb.2.1, hb.2.2⟩))
          have HGE : Hid (w.grownBy wr none) := Lib.hid (World.grownBy.andThen HWW.out hg (by rintro _ ⟨⟩; exact .inl HWB.out))
          clear ho hg hlk hN9 hb9 hlt hm
          go_wp2
          go_ret
          exact ⟨A9, ⟨c9, rfl⟩, HB9.out, HGE.out⟩
end Go.Proofs.Ytngfldlfoniklaa
