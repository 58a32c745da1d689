/- Two blocks of 16 bytes are compared; the reference's Lock, named. Conditions: none. How arguments that are arrays of bytes lie in memory. Conditions: none. The reference's CBC. Conditions: the text has no more than a million bytes. What is asked of the code's Lock, Unlock and Size; texts of bytes compared. Conditions: none. The code's Size; bytes.Repeat of one byte, from 1 to 16 times; a text filled up. Conditions: none but these; the text has no more than a million bytes. The code's xor of two blocks. Conditions: none. What the code makes ahead of its loops; a block of 16 bytes in the middle of a slice. Conditions: none. -/
import Derived.Test.YtkbffponemihoaaGreatDoorCh
import Derived.Deep.RegionHeld3
import Derived.Stop.BytesEq
import Derived.Carry
import Derived.ProofKit
import Derived.LaidMore
import Derived.OpenShut
import Derived.Deep.Slices
import Derived.Test.YtkbffponemihoaaGreatDoorCc
import Derived.Test.YtkbffponemihoaaGreatDoorCb
import Derived.Lib.MakeNoZero
import Derived.Deep.RegionLaw
import Derived.Deep.RegionWith
import Derived.ArgAppend
namespace Go.Proofs.YtkbffponemihoaaGreatDoor.C
open Go.RowKit
open Go.RowKit Go.ChangeShapes Go.WideShapes Go.ChangeAt
open Go.RowKit
theorem fn_u8s (f : Fin 16 → UInt8) : (List.finRange 16).map (fun i => Value.int .u8 ((f i).toNat : Int)) = u8s ((List.finRange 16).map f) := by
  unfold u8s
  rw [List.map_map]
  rfl
theorem bytesOf_bl (s : State) : bytesOf s = u8s (bl s) := fn_u8s s
theorem run_byte (w : World) (z : Int) : (Instr.buildSlice 23 1 #[(0, .int .u8 z)]).run Tryz.prog w = .ok (.slice (some ⟨w.heap.size, 0, none⟩) 1 1) (w.alloc (.cells #[.int .u8 z] 5)) := by kernel_rfl
theorem wpList_byte {w : World} {ops : Array Oper} {rest : List Oper} {o : Oper} {a : Act} {Q : Exit → Act → World → Prop} (hgd : o.guard = none) (x : Operand) (ho : o.op = .buildSlice 23 1 #[(0, x)]) (b : UInt8) (z : Int) (hz : (b.toNat : Int) = z) (hx : a.eval x = .int .u8 z)
    (h : ∀ w', Blk w' w.heap.size 5 (u8s [b]) → w.grownBy w' none → w'.heap.size = w.heap.size + 1 → wpList Tryz.prog ops Q rest (a.put o.dst (.slice (some ⟨w.heap.size, 0, none⟩) 1 1)) w') : wpList Tryz.prog ops Q (o :: rest) a w := by
  refine wpList_plain hgd fun K hK => ?_
  subst hz
  have hrun := run_byte w (b.toNat : Int)
  unfold Oper.wp
  simp only [execOp, ho, List.map_toArray, List.map_cons, List.map_nil, hx, Sem.run_bind, hrun, Result.andThen_ok, Sem.run_pure]
  exact hK _ _ (h _ (Blk.of_alloc w _ 5) (World.grownBy_alloc w _ none) (World.size_alloc w _))
theorem byt_blk {w : World} {g : Nat} {ty : TypeId} {xs : List UInt8} (h : Blk w g ty (u8s xs)) : Byt w (fun b => b = g) (some ⟨g, 0, none⟩) xs := Blk.byt (pre := []) (post := []) (h.to (by simp)) rfl
theorem rep_next (t : List UInt8) (x : UInt8) (i : Nat) : t ++ List.replicate i x ++ [x] = t ++ List.replicate (i + 1) x := by
  rw [List.append_assoc, List.replicate_succ']
theorem byt_st {w : World} {ok : Nat → Prop} {ad : Addr} {l : List UInt8} (h : Byt w ok (some ad) l) (m i : Nat) (hi : i < 16) (hl : 16 * m + i < l.length) : w.cell? (ad.add (16 * m + i)) = some (.int .u8 ((st l m ⟨i, hi⟩).toNat : Int)) := by
  obtain ⟨ad', e, _, hc⟩ := h (16 * m + i) hl
  cases e
  rw [hc]
  unfold st
  rw [List.getD_eq_getElem?_getD, List.getElem?_eq_getElem hl]
  rfl
/-- While blocks are locked. -/
def R6 (w8 : World) (ga B : Nat) (E : State → State) (v : State) (f : Nat → State) (vo : Value) (m : Nat) (V : World) : Prop :=
  V.ownsRow B 5 1 vo (16 * m) (u8s (toB ((List.range m).map fun j => cv E v f (j + 1)))) ∧ Blk V ga 48 (bytesOf (cv E v f m)) ∧ w8.grownBy V (some ga)
theorem ownsRow_base {w : World} {b b' n size : Nat} {e : TypeId} {v : Value} {xs : List Value} (h : w.ownsRow b e size v n xs) (hb : b' ≤ b) : w.ownsRow b' e size v n xs := by
  refine ⟨h.1, ?_⟩
  rcases h.2 with h0 | ⟨g, cap, cur, h1, h2, h3⟩
  · exact .inl h0
  · exact .inr ⟨g, cap, cur, h1, Nat.le_trans hb h2, h3⟩
set_option maxRecDepth 100000 in
set_option maxHeartbeats 3200000 in
theorem ref6_any {w : World} {ok : Nat → Prop} {A : Option Addr} {text : List UInt8} {n c : Nat} (hx : Byt w ok A text) (hok : ∀ b, ok b → b < w.heap.size) (hn : text.length = n) (hsz : n ≤ 1000000) (k : Fin 32 → UInt8) (v : State) :
    Calls Tryz.prog 22 #[.agg (u8s (k32 k)).toArray, .agg (bytesOf v).toArray, .slice A n c] w fun e w' => ∃ v', e = .returned v' ∧ w'.ownsRow w.heap.size 5 1 v' (lockB (kn (k32 k)) v text).length (u8s (lockB (kn (k32 k)) v text)) ∧ w.grownBy w' none := by
  obtain ⟨i0, hi, hz0, hz1, hz2⟩ := info_parts Tryz.info5
  have HX := Lib.hid hx
  have HN := Lib.hid hn
  have HOK := Lib.hid hok
  clear hx hn hok
  obtain ⟨p, hp⟩ : ∃ p, p = padN text := ⟨_, rfl⟩
  obtain ⟨r, hr⟩ : ∃ r, r = n % 16 := ⟨_, rfl⟩
  have hpr : p = 16 - r := by rw [hp, hr]; unfold padN; rw [HN.out]
  have d1 : (n : Int).tmod 16 = (r : Int) := by rw [Int.tmod_eq_emod_of_nonneg (by omega)]; omega
  have d2 : (n : Int) % 16 = (r : Int) := by omega
  have d3 : 16 - (r : Int) = (p : Int) := by omega
  have d4 := i64_keep p (by omega)
  have d5 := i64_keep r (by omega)
  have d6 : IntKind.u8.wrap (p : Int) = (p : Int) := by rw [IntKind.wrap_u8]; omega
  obtain ⟨pb, hpb⟩ : ∃ b, b = UInt8.ofNat p := ⟨_, rfl⟩
  have HPB : Hid ((pb.toNat : Int) = (p : Int)) := Lib.hid (by rw [hpb, UInt8.toNat_ofNat', Nat.mod_eq_of_lt (by omega)])
  have hfill : text ++ List.replicate p pb = fillB text := by unfold fillB; rw [hpb, hp]
  have HF := Lib.hid hfill
  have HPL := Lib.hid (show p ≤ 16 by omega)
  have HP := Lib.hid hp
  clear hp hr hpr hpb hfill
  go_enter Tryz.func22, Tryz.ntmps22
  go_wp2_with (first
    | (refine wpList_box22 rfl _ k rfl rfl ?_
       intro w1 hb1 hg1 hz1'
       obtain ⟨gk, hgk⟩ : ∃ g, g = w.heap.size := ⟨_, rfl⟩
       rw [← hgk] at hb1 ⊢
       have HB1 := Lib.hid hb1
       have HG1 := Lib.hid hg1
       clear hb1 hg1 hz1' hgk)
    | (refine wpList_box23 rfl _ v rfl rfl ?_
       intro w2 hb2 hg2 hz2'
       obtain ⟨gv, hgv⟩ : ∃ g, g = w1.heap.size := ⟨_, rfl⟩
       rw [← hgv] at hb2 ⊢
       have HB2 := Lib.hid hb2
       have HK2 := Lib.hid (HB1.out.grown hg2 (by simp))
       have HG2 := Lib.hid (World.grownBy.trans HG1.out hg2)
       clear hb2 hg2 hz2' hgv)
    | (at_builtin
       refine wpList_append_byt_n _ rfl _ _ 23 rfl w2.heap.size i0 (.int .u8 0) Tryz.underlying23 hi hz0 hz1 hz2 rfl (.slice none 0 0) 0 [] rfl (World.ownsRow_nil _ _ 5 1) ok A c n text HN.out rfl (HX.out.grown HG2.out (fun b hb => ⟨HOK.out b hb, by simp⟩)) (by omega) (Nat.le_refl _) ?_
       intro v3 w3 hown3 hg3 hat3
       have HO3 : Hid (w3.ownsRow w2.heap.size 5 1 v3 n (u8s text)) := Lib.hid (by rw [Nat.zero_add, List.nil_append] at hown3; exact hown3)
       have HG3 : Hid (w2.grownBy w3 none) := Lib.hid hg3
       clear hown3 hg3 hat3))
  clear d1 d2 d3 d4 d5
  go_loopw [7, 10] (fun u x wr => ∃ i : Nat, i ≤ p ∧ x = .int .i64 (i : Int) ∧ wr.ownsRow w2.heap.size 5 1 u (n + i) (u8s (text ++ List.replicate i pb)) ∧ w2.grownBy wr none) (fun _ x _ => p - (intOf x).toNat)
  case atStart => exact ⟨0, Nat.zero_le _, rfl, by simpa using HO3.out, HG3.out⟩
  case round =>
    obtain ⟨i, hi', rfl, ho, hg⟩ := hrel
    by_cases hlt : i < p
    · have HO := Lib.hid ho
      have HG := Lib.hid hg
      have HLT := Lib.hid hlt
      have e1 : (i : Int) < (p : Int) := by omega
      have hpl := HPL.out
      clear ho hg
      go_wp2_with (first
        | (refine wpList_byte rfl _ rfl pb (p : Int) HPB.out rfl ?_
           intro w4 hb4 hg4 hz4
           obtain ⟨gn, hgn⟩ : ∃ g, g = wr.heap.size := ⟨_, rfl⟩
           rw [← hgn] at hb4 ⊢
           have HB4 := Lib.hid hb4
           have HG4 := Lib.hid hg4
           clear hb4 hg4 hz4 hgn)
        | (at_builtin
           refine wpList_append_byt_n _ rfl _ _ 23 rfl w2.heap.size i0 (.int .u8 0) Tryz.underlying23 hi hz0 hz1 hz2 rfl u7 (n + i) (text ++ List.replicate i pb) rfl (own_keep HO.out HG4.out) (fun b => b = gn) (some ⟨gn, 0, none⟩) 1 1 [pb] rfl rfl (byt_blk HB4.out) (by omega) (Nat.le_trans HG.out.size HG4.out.size) ?_
           intro v5 w5 hown5 hg5 hat5
           rw [rep_next] at hown5
           have HO5 := Lib.hid hown5
           have HG5 : Hid (w2.grownBy w5 none) := Lib.hid (World.grownBy.andThen (World.grownBy.trans HG.out HG4.out) hg5 (fun j hj => .inl (HO.out.lt j hj).1))
           clear hown5 hg5 hat5))
      go_roundw
      case rel => exact ⟨i + 1, by have := HLT.out; omega, by go_num, HO5.out, HG5.out⟩
      case measure => have := HLT.out; simp [intOf]; omega
    · have ei : i = p := by omega
      subst ei
      rw [HF.out] at ho
      obtain ⟨A7, c7, hv7, hN, hc7, hm7, hb7⟩ := own_form ho
      subst hv7
      have hb7' := hb7.imp (ok' := fun b => b < wr.heap.size) (fun b hb => hb.2.2)
      obtain ⟨M, hM⟩ : ∃ M, M = n / 16 + 1 := ⟨_, rfl⟩
      obtain ⟨N, hN16⟩ : ∃ N, N = M * 16 := ⟨_, rfl⟩
      have hfl : (fillB text).length = N := by rw [fillB_length, HN.out, hN16, hM]
      have HNM := Lib.hid hN16
      obtain ⟨ad, hA7, -, -⟩ := hb7'.some_ (by omega)
      subst hA7
      have HALL := Lib.hid hb7'
      have HFL := Lib.hid hfl
      have HM := Lib.hid hM
      have HML := Lib.hid (show M ≤ 62501 by omega)
      have HG := Lib.hid hg
      rw [hfl]
      have hrs : Hid (w.heap.size ≤ wr.heap.size) := Lib.hid (World.grownBy.trans HG2.out hg).size
      clear ho hN hc7 hm7 hb7 hb7' hg hlt hi' hfl hM hN16
      go_wp2_with (first
        | (refine wpList_load_mid rfl 22 _ rfl gk 0 rfl (u8s (k32 k)) _ (range_blk (HK2.out.grown HG.out (by simp))) Tryz.underlying22 rfl (by rw [size22, u8s_length, k32_length]) ?_)
        | (go_at_call 36
           refine (refnew_any wr k).mono ?_
           rintro _ w4 ⟨gs, gw, cw, rfl, hs4, hw4, hg4⟩
           have HS4 := Lib.hid hs4
           have HW4 := Lib.hid hw4
           have HG4 := Lib.hid hg4
           clear hs4 hw4 hg4)
        | (refine wpList_alloc31 rfl rfl ?_
           intro w5 hb5 hg5 hz5
           obtain ⟨gc, hgc⟩ : ∃ g, g = w4.heap.size := ⟨_, rfl⟩
           rw [← hgc] at hb5 ⊢
           have HB5 := Lib.hid hb5
           have HG5 := Lib.hid hg5
           have HGC : Hid (w4.heap.size ≤ gc) := Lib.hid (Nat.le_of_eq hgc.symm)
           clear hb5 hg5 hz5 hgc)
        | (refine wpList_store_row rfl 68 _ _ rfl gc #[.slice (some ⟨gs, 0, none⟩) 256 256, .slice (some ⟨gw, 0, none⟩) 60 cw] rfl rfl 68 _ HB5.out size31 rfl (all_oneCell_toArray (two_one _ _ _ _ _ _)) ?_
           obtain ⟨w6, hw6⟩ : ∃ w6, w6 = w5.setRow gc #[.slice (some ⟨gs, 0, none⟩) 256 256, .slice (some ⟨gw, 0, none⟩) 60 cw] := ⟨_, rfl⟩
           have hb6 : Blk w6 gc 68 [.slice (some ⟨gs, 0, none⟩) 256 256, .slice (some ⟨gw, 0, none⟩) 60 cw] := by rw [hw6]; exact Blk.setRow HB5.out
           have hg6 : w4.grownBy w6 none := by rw [hw6]; exact World.grownBy.andThen HG5.out (grown_setRow _ _ _) (by rintro _ ⟨⟩; exact .inl HGC.out)
           rw [← hw6]
           have HB6 := Lib.hid hb6
           have HG6 := Lib.hid hg6
           clear hw6 hb6 hg6)
        | (refine wpList_load_mid rfl 48 _ rfl gv 0 rfl (bytesOf v) _ (range_blk (HB2.out.grown (World.grownBy.trans HG.out (World.grownBy.trans HG4.out HG6.out)) (by simp))) Tryz.underlying48 rfl (bytes_size' v) ?_)
        | (refine wpList_alloc23 rfl rfl ?_
           intro w7 hb7 hg7 hz7
           obtain ⟨ga, hga⟩ : ∃ g, g = w6.heap.size := ⟨_, rfl⟩
           rw [← hga] at hb7 ⊢
           have HB7 := Lib.hid hb7
           have HG7 := Lib.hid hg7
           have HGA : Hid (w6.heap.size ≤ ga) := Lib.hid (Nat.le_of_eq hga.symm)
           have HB67 := Lib.hid (HB6.out.grown hg7 (by simp))
           have HNC : Hid (gc ≠ ga) := Lib.hid (fun e => by have := HB6.out.lt; omega)
           clear hb7 hg7 hz7 hga)
        | (refine wpList_store_row rfl 48 _ _ rfl ga (bytesOf v).toArray rfl rfl 48 _ HB7.out (bytes_size _) (bytes_same _ _) (all_oneCell_toArray (bytesOf_one _)) ?_
           obtain ⟨w8, hw8⟩ : ∃ w8, w8 = w7.setRow ga (bytesOf v).toArray := ⟨_, rfl⟩
           have hb8 : Blk w8 ga 48 (bytesOf v) := by rw [hw8]; exact Blk.setRow HB7.out
           have hg68 : w6.grownBy w8 none := by rw [hw8]; exact World.grownBy.andThen HG7.out (grown_setRow _ _ _) (by rintro _ ⟨⟩; exact .inl HGA.out)
           have hc8 : Blk w8 gc 68 [.slice (some ⟨gs, 0, none⟩) 256 256, .slice (some ⟨gw, 0, none⟩) 60 cw] := by rw [hw8]; exact HB67.out.grown (grown_setRow _ _ _) (fun e => HNC.out (Option.some.inj e))
           rw [← hw8]
           have HB8 := Lib.hid hb8
           have HG68 := Lib.hid hg68
           have HC8 := Lib.hid hc8
           clear hw8 hb8 hg68 hc8))
      have h48 := World.grownBy.trans HG6.out HG68.out
      have HG48 := Lib.hid h48
      have HALL4 : Hid (Byt w4 (fun b => b < w4.heap.size) (some ad) (fillB text)) := Lib.hid ((HALL.out.grown HG4.out (fun b hb => ⟨hb, by simp⟩)).imp fun b hb => Nat.lt_of_lt_of_le hb HG4.out.size)
      have HWW : Hid (w.grownBy w8 none) := Lib.hid (World.grownBy.trans HG2.out (World.grownBy.trans HG.out (World.grownBy.trans HG4.out h48)))
      have HGA4 : Hid (w4.heap.size ≤ ga) := Lib.hid (Nat.le_trans HG6.out.size HGA.out)
      have HGL : Hid (ga < w8.heap.size) := Lib.hid HB8.out.lt
      have HWB : Hid (w.heap.size ≤ ga) := Lib.hid (Nat.le_trans hrs.out (Nat.le_trans HG4.out.size (Nat.le_trans HG6.out.size HGA.out)))
      clear HG68 HG6 HG4 HB7 HB67 HB6 HB5 HG5 HG7 h48 HALL
      obtain ⟨E, hE⟩ : ∃ E, E = aesLock (kn (k32 k)) := ⟨_, rfl⟩
      obtain ⟨f, hf⟩ : ∃ f, f = st (fillB text) := ⟨_, rfl⟩
      have HE := Lib.hid hE
      have HFF := Lib.hid hf
      clear hE hf
      go_loopw [8, 13] (fun u x wr => ∃ m : Nat, m ≤ M ∧ x = .int .i64 ((16 * m : Nat) : Int) ∧ R6 w8 ga w8.heap.size E v f u m wr) (fun _ x _ => 16 * M - (intOf x).toNat)
      case atStart => exact ⟨0, Nat.zero_le _, rfl, World.ownsRow_nil _ _ 5 1, HB8.out, World.grownBy.refl _ _⟩
      case round =>
        obtain ⟨m, hm, rfl, hR⟩ := hrel
        by_cases hlt : m < M
        · have HR := Lib.hid hR
          have hnm := HNM.out
          have e1 : ((16 * m : Nat) : Int) < (N : Int) := by omega
          have HLT := Lib.hid hlt
          obtain ⟨at_, hat⟩ : ∃ q, q = 16 * m := ⟨_, rfl⟩
          have HAT := Lib.hid hat
          rw [← hat] at e1 ⊢
          obtain ⟨at2, hat2⟩ : ∃ q, q = at_ + 16 := ⟨_, rfl⟩
          have hmlx := HML.out
          have g1 : (at_ : Int) + 16 = (at2 : Int) := by omega
          have g2 := i64_keep at2 (by omega)
          have HA2 : Hid (at2 = 16 * (m + 1)) := Lib.hid (by omega)
          clear hR hlt hat hm hat2 hmlx hnm
          have hR := HR.out
          have h4r : w4.grownBy wr none := World.grownBy.andThen HG48.out hR.2.2 (by rintro _ ⟨⟩; exact .inl HGA4.out)
          have H4R := Lib.hid h4r
          have HCR := Lib.hid (HC8.out.grown hR.2.2 (fun e => HNC.out (Option.some.inj e)))
          obtain ⟨P, hP⟩ : ∃ P, P = cv E v f m := ⟨_, rfl⟩
          obtain ⟨T, hT⟩ : ∃ T, T = keyS P (f m) := ⟨_, rfl⟩
          have hPr : Blk wr ga 48 (bytesOf P) := by rw [hP]; exact hR.2.1
          have HPR := Lib.hid hPr
          have HT := Lib.hid hT
          have HPP := Lib.hid hP
          clear hR h4r hT hP hPr
          go_wp2_with (refine wpList_alloc23 rfl rfl ?_)
          intro w9 hb9 hg9 hz9
          obtain ⟨gx, hgx⟩ : ∃ g, g = wr.heap.size := ⟨_, rfl⟩
          rw [← hgx] at hb9 ⊢
          have hb9z : Blk w9 gx 48 (bytesOf (part 0 T zeroS)) := by rw [part_zero]; exact hb9
          have hax : ga ≠ gx := by have h1 := HPR.out.lt; omega
          have HAX := Lib.hid hax
          have HCX : Hid (gc ≠ gx) := Lib.hid (by have h1 := HCR.out.lt; omega)
          have HXL : Hid (wr.heap.size ≤ gx) := Lib.hid (Nat.le_of_eq hgx.symm)
          have HP9 := Lib.hid (HPR.out.grown hg9 (by simp))
          have HC9 := Lib.hid (HCR.out.grown hg9 (by simp))
          have H49 := Lib.hid (World.grownBy.trans H4R.out hg9)
          have HG9 := Lib.hid hg9
          have HX9 := Lib.hid hb9z
          have HX4 : Hid (w4.heap.size ≤ gx) := Lib.hid (Nat.le_trans H4R.out.size HXL.out)
          clear hb9 hg9 hz9 hgx hb9z hax
          go_wp2_with (fail)
          go_loopw [15] (fun x wx => ∃ i : Nat, i ≤ 16 ∧ x = .int .i64 (i : Int) ∧ Blk wx gx 48 (bytesOf (part i T zeroS)) ∧ w9.grownBy wx (some gx)) (fun x _ => 16 - (intOf x).toNat)
          case atStart => exact ⟨0, Nat.zero_le _, rfl, HX9.out, World.grownBy.refl _ _⟩
          case round =>
            clear HX9
            obtain ⟨i, hi', rfl, hb, hg⟩ := hrel
            by_cases hlt : i < 16
            · obtain ⟨q, hq⟩ : ∃ q, q = 16 * m + i := ⟨_, rfl⟩
              have hat' := HAT.out
              have hmm := HLT.out
              have hml := HML.out
              have h4x : w4.grownBy wr none := World.grownBy.andThen H49.out hg (by rintro _ ⟨⟩; exact .inl HX4.out)
              have c1 := byt_st (HALL4.out.grown h4x (fun b hb => ⟨hb, by simp⟩)) m i hlt (by have := HNM.out; rw [HFL.out]; omega)
              rw [← hq, ← HFF.out] at c1
              have c2 := (HP9.out.grown hg (fun e => HAX.out (Option.some.inj e))).get i _ (bytesOf_get P i hlt)
              have c3 := hb.get i _ (bytesOf_get _ i hlt)
              have hfz := hb.frozen i
              have hx : bits .xor .u8 ((f m ⟨i, hlt⟩).toNat : Int) ((P ⟨i, hlt⟩).toNat : Int) = ((T ⟨i, hlt⟩).toNat : Int) := by
                rw [b_xor, HT.out]; rfl
              have hset := bytesOf_set (part i T zeroS) i (T ⟨i, hlt⟩)
              rw [part_set] at hset
              have hb2 := (hb.set i (.int .u8 ((T ⟨i, hlt⟩).toNat : Int))).to hset
              have HB2' := Lib.hid hb2
              have HGI := Lib.hid hg
              have f1 : (at_ : Int) + (i : Int) = (q : Int) := by omega
              have f2 := i64_keep q (by omega)
              have hnm := HNM.out
              have f3 : (q : Int) < (N : Int) := by omega
              have f4 : (i : Int) < 16 := by omega
              obtain ⟨x, hx'⟩ : ∃ x, x = f m ⟨i, hlt⟩ := ⟨_, rfl⟩
              obtain ⟨y, hy'⟩ : ∃ x, x = P ⟨i, hlt⟩ := ⟨_, rfl⟩
              obtain ⟨z, hz'⟩ : ∃ x, x = T ⟨i, hlt⟩ := ⟨_, rfl⟩
              rw [← hx'] at c1 hx
              rw [← hy'] at c2 hx
              rw [← hz'] at hx HB2'
              clear hset hb2 hb hg hq hat' hmm hml h4x hx' hy' hz' hnm
              go_wp2_with (fail)
              refine wp_region_still_tail 12 (by kernel_rfl) (by kernel_rfl) ?_
              change wpStill _ _ wr.drew (fun a' => wpList _ _ _ _ a' wr.drew) _ _
              simp only [List.take_succ_cons, List.take_zero, List.drop_succ_cons, List.drop_zero]
              repeat still_step
              refine wpStill_nil ?_
              go_wp2
              go_roundw
              case rel => exact ⟨i + 1, by omega, by go_num, HB2'.out.keep rfl, World.grownBy.trans (grown_drew HGI.out) (grown_set wr.drew gx i _)⟩
              case measure => simp [intOf]; omega
            · have ei : i = 16 := by omega
              subst ei
              rw [part_all] at hb
              have h4x : w4.grownBy wr none := World.grownBy.andThen H49.out hg (by rintro _ ⟨⟩; exact .inl HX4.out)
              have HTB := Lib.hid hb
              have HS := Lib.hid (HS4.out.grown h4x (by simp))
              have HW := Lib.hid (HW4.out.grown h4x)
              have HC := Lib.hid (HC9.out.grown hg (fun e => HCX.out (Option.some.inj e)))
              have HPX := Lib.hid (HP9.out.grown hg (fun e => HAX.out (Option.some.inj e)))
              obtain ⟨X, hX⟩ : ∃ X, X = aesLock (kn (k32 k)) T := ⟨_, rfl⟩
              have hXc : cv E v f (m + 1) = X := by rw [hX, HT.out, HPP.out, ← HE.out]; rfl
              have HXE := Lib.hid hX
              have HXC := Lib.hid hXc
              have hgr9 := World.grownBy.andThen (World.grownBy.trans HR.out.2.2 (HG9.out.but _)) hg (row := some ga) (by rintro _ ⟨⟩; exact .inl (Nat.le_trans HR.out.2.2.size HXL.out))
              have HG89 := Lib.hid hgr9
              have hor := (own_keep HR.out.1 HG9.out).kept hg (by
                cases hv : u8.ownBlock with
                | none => exact .inl rfl
                | some kk => exact .inr (fun e => by have h1 := (HR.out.1.lt kk hv).2; cases e; have := HXL.out; omega))
              have HOR := Lib.hid hor
              clear hb hg h4x hlt hi' hX hXc hgr9 hor
              go_wp2_with (first
                | (refine wpList_load_mid rfl 68 _ rfl gc 0 rfl [.slice (some ⟨gs, 0, none⟩) 256 256, .slice (some ⟨gw, 0, none⟩) 60 cw] _ (range_blk HC.out) Tryz.underlying68 rfl size31 ?_)
                | (refine wpList_load_mid rfl 48 _ rfl gx 0 rfl (bytesOf T) _ (range_blk HTB.out) Tryz.underlying48 rfl (bytes_size' T) ?_)
                | (go_at_call 37
                   refine (rlock_any HS.out HW.out T).mono ?_
                   rintro _ w10 ⟨rfl, hg10⟩
                   rw [← HXE.out]
                   have HP10 := Lib.hid (HPX.out.grown hg10 (by simp))
                   have HG10 := Lib.hid hg10
                   clear hg10)
                | (refine wpList_store_row rfl 48 _ _ rfl ga (bytesOf X).toArray rfl rfl 48 _ HP10.out (bytes_size _) (bytes_same _ _) (all_oneCell_toArray (bytesOf_one _)) ?_
                   obtain ⟨w11, hw11⟩ : ∃ w11, w11 = w10.setRow ga (bytesOf X).toArray := ⟨_, rfl⟩
                   have hb11 : Blk w11 ga 48 (bytesOf X) := by rw [hw11]; exact Blk.setRow HP10.out
                   have hg11 : w10.grownBy w11 (some ga) := by rw [hw11]; exact grown_setRow _ _ _
                   rw [← hw11]
                   have HB11 := Lib.hid hb11
                   have HG11 := Lib.hid hg11
                   have HO11 := Lib.hid ((own_keep HOR.out HG10.out).kept hg11 (by
                     cases hv : u8.ownBlock with
                     | none => exact .inl rfl
                     | some kk => exact .inr (fun e => by have h1 := (HOR.out.lt kk hv).1; have h2 := HGL.out; cases e; omega)))
                   have HG811 : Hid (w8.grownBy w11 (some ga)) := Lib.hid (World.grownBy.trans (World.grownBy.trans HG89.out (HG10.out.but _)) hg11)
                   clear hw11 hb11 hg11)
                | (at_builtin
                   refine wpList_append_byt_n _ rfl _ _ 23 rfl w8.heap.size i0 (.int .u8 0) Tryz.underlying23 hi hz0 hz1 hz2 rfl u8 (16 * m) (toB ((List.range m).map fun j => cv E v f (j + 1))) rfl HO11.out (fun b => b = ga) (some ⟨ga, 0, none⟩) 16 16 (bl X) (bl_length X) rfl (byt_blk (HB11.out.to (bytesOf_bl X))) (by have := HLT.out; have := HML.out; omega) HG811.out.size ?_
                   intro v12 w12 hown12 hg12 hat12
                   rw [← HXC.out, ← toB_range] at hown12
                   have hb12 : Blk w12 ga 48 (bytesOf (cv E v f (m + 1))) := by
                     rw [HXC.out]
                     exact HB11.out.grown hg12 (fun e => by have h1 := (HO11.out.lt ga e.symm).1; have h2 := HGL.out; omega)
                   have HR12 : Hid (R6 w8 ga w8.heap.size E v f v12 (m + 1) w12) := Lib.hid ⟨hown12, hb12, World.grownBy.andThen HG811.out hg12 (fun j hj => .inl (HO11.out.lt j hj).1)⟩
                   clear hown12 hb12 hg12 hat12))
              go_roundw
              case rel => exact ⟨m + 1, HLT.out, by rw [HA2.out], HR12.out⟩
              case measure => have h1 := HLT.out; have h2 := HAT.out; have h3 := HA2.out; simp [intOf]; omega
        · have em : m = M := by omega
          subst em
          have hnm := HNM.out
          have e1 : ¬ (((16 * m : Nat) : Int) < (N : Int)) := by omega
          clear hnm
          obtain ⟨ho, _, hg⟩ := hR
          have hlk : lockB (kn (k32 k)) v text = toB ((List.range m).map fun j => cv E v f (j + 1)) := by
            rw [lockB_range, HN.out, ← HM.out, ← HE.out, ← HFF.out]
          have hN9 : 16 * m = (toB ((List.range m).map fun j => cv E v f (j + 1))).length := by
            obtain ⟨_, _, _, h, _⟩ := own_form ho
            exact h
          have ho2 : wr.ownsRow w.heap.size 5 1 u8 (lockB (kn (k32 k)) v text).length (u8s (lockB (kn (k32 k)) v text)) := by
            rw [hlk, ← hN9]
            exact ownsRow_base ho HWW.out.size
          have HB9 := Lib.hid ho2
          have HGE : Hid (w.grownBy wr none) := Lib.hid (World.grownBy.andThen HWW.out hg (by rintro _ ⟨⟩; exact .inl HWB.out))
          clear ho ho2 hg hlk hN9 hlt hm
          go_wp2
          go_ret
          exact ⟨u8, rfl, HB9.out, HGE.out⟩
open Go.RowKit
/-- The code's Lock: a text of no more than a million bytes. -/
def LockSays : Prop := ∀ (w : World) (ok : Nat → Prop) (A : Option Addr) (text : List UInt8) (n c : Nat), Byt w ok A text → (∀ b, ok b → b < w.heap.size) → text.length = n → n ≤ c → c ≤ maxLen → n ≤ 1000000 → ∀ (k : Fin 32 → UInt8) (v : State),
  Calls Tryz.prog 29 #[.agg (u8s (k32 k)).toArray, .agg (bytesOf v).toArray, .slice A n c] w fun e w' => ∃ A' c', e = .returned (.slice A' (lockB (kn (k32 k)) v text).length c') ∧ (lockB (kn (k32 k)) v text).length ≤ c' ∧ c' ≤ maxLen ∧ Byt w' (fun b => w.heap.size ≤ b ∧ b < w'.heap.size) A' (lockB (kn (k32 k)) v text) ∧ w.grownBy w' none
/-- The code's Unlock: bytes, no more than a million and 16 of them. -/
def UnlockSays : Prop := ∀ (w : World) (ok : Nat → Prop) (A : Option Addr) (b : List UInt8) (n c : Nat), Byt w ok A b → (∀ g, ok g → g < w.heap.size) → b.length = n → n ≤ c → c ≤ maxLen → n ≤ 1000016 → ∀ (k : Fin 32 → UInt8) (v : State),
  Calls Tryz.prog 41 #[.agg (u8s (k32 k)).toArray, .agg (bytesOf v).toArray, .slice A n c] w fun e w' => w.grownBy w' none ∧
    ((∃ s A' c', unlockB (kn (k32 k)) v b = some s ∧ e = .returned (.tuple #[.slice A' s.length c', .bool true]) ∧ s.length ≤ c' ∧ c' ≤ maxLen ∧ Byt w' (fun g => g < w'.heap.size) A' s) ∨
     (∃ A' c', unlockB (kn (k32 k)) v b = none ∧ e = .returned (.tuple #[.slice A' 0 c', .bool false])))
theorem UnlockSays.yes (h : UnlockSays) {w : World} {ok : Nat → Prop} {A : Option Addr} {b s : List UInt8} {n c : Nat} (hx : Byt w ok A b) (hok : ∀ g, ok g → g < w.heap.size) (hn : b.length = n) (hc : n ≤ c) (hm : c ≤ maxLen) (hs : n ≤ 1000016) (k : Fin 32 → UInt8) (v : State) (hu : unlockB (kn (k32 k)) v b = some s) :
    Calls Tryz.prog 41 #[.agg (u8s (k32 k)).toArray, .agg (bytesOf v).toArray, .slice A n c] w fun e w' => ∃ A' c', e = .returned (.tuple #[.slice A' s.length c', .bool true]) ∧ s.length ≤ c' ∧ c' ≤ maxLen ∧ Byt w' (fun g => g < w'.heap.size) A' s ∧ w.grownBy w' none :=
  (h w ok A b n c hx hok hn hc hm hs k v).mono fun e w' ⟨hg, h1⟩ => by
    rcases h1 with ⟨s', A', c', e1, e2, e3, e4, e5⟩ | ⟨A', c', e1, _⟩
    · rw [hu] at e1
      obtain rfl := Option.some.inj e1
      exact ⟨A', c', e2, e3, e4, e5, hg⟩
    · rw [hu] at e1
      cases e1
theorem UnlockSays.no (h : UnlockSays) {w : World} {ok : Nat → Prop} {A : Option Addr} {b : List UInt8} {n c : Nat} (hx : Byt w ok A b) (hok : ∀ g, ok g → g < w.heap.size) (hn : b.length = n) (hc : n ≤ c) (hm : c ≤ maxLen) (hs : n ≤ 1000016) (k : Fin 32 → UInt8) (v : State) (hu : unlockB (kn (k32 k)) v b = none) :
    Calls Tryz.prog 41 #[.agg (u8s (k32 k)).toArray, .agg (bytesOf v).toArray, .slice A n c] w fun e w' => ∃ A' c', e = .returned (.tuple #[.slice A' 0 c', .bool false]) ∧ w.grownBy w' none :=
  (h w ok A b n c hx hok hn hc hm hs k v).mono fun e w' ⟨hg, h1⟩ => by
    rcases h1 with ⟨s', A', c', e1, _⟩ | ⟨A', c', _, e2⟩
    · rw [hu] at e1
      cases e1
    · exact ⟨A', c', e2, hg⟩
theorem bool_end {a b : Bool} (h : a = b) : Ending.returned (.bool a) = .returned (.bool b) := by rw [h]
theorem bytes_any {w : World} {ok ok' : Nat → Prop} {A B : Option Addr} {xs ys : List UInt8} {c d : Nat} (ha : Byt w ok A xs) (hb : Byt w ok' B ys) :
    Calls Tryz.prog 9 #[.slice A xs.length c, .slice B ys.length d] w fun e w' => e = .returned (.bool (decide (xs = ys))) ∧ w = w' := by
  have r1 := ha.str c
  have r2 := hb.str d
  go_enter Tryz.func9, Tryz.ntmps9
  go_wp2
  go_ret
  exact ⟨bool_end (by rw [Bool.eq_iff_iff]; simp), rfl⟩
theorem bytes_n {w : World} {ok ok' : Nat → Prop} {A B : Option Addr} {xs ys : List UInt8} {c d n m : Nat} (ha : Byt w ok A xs) (hb : Byt w ok' B ys) (hn : xs.length = n) (hm : ys.length = m) :
    Calls Tryz.prog 9 #[.slice A n c, .slice B m d] w fun e w' => e = .returned (.bool (decide (xs = ys))) ∧ w = w' := by
  subst hn hm; exact bytes_any ha hb
open Go.RowKit
theorem filling_any (z : Int) (h0 : 0 ≤ z) (w : World) : Calls Tryz.prog 39 #[.int .i64 z] w fun e w' => e = .returned (.int .i64 (16 - z % 16)) ∧ w' = w := by
  have d1 : z.tmod 16 = z % 16 := Int.tmod_eq_emod_of_nonneg h0
  have d2 : IntKind.i64.wrap (16 - z % 16) = 16 - z % 16 := by rw [IntKind.wrap_i64]; omega
  have d3 : IntKind.i64.wrap (z % 16) = z % 16 := by rw [IntKind.wrap_i64]; omega
  go_enter Tryz.func39, Tryz.ntmps39
  go_wp2
  go_ret
  exact ⟨rfl, rfl⟩
theorem size_any (w : World) (n : Int) : Calls Tryz.prog 24 #[.int .i64 n] w fun e w' => e = .returned (.int .i64 (if n < 0 ∨ 1099511627776 < n then 0 else n - n % 16 + 16)) ∧ w.grownBy w' none := by
  by_cases h0 : n < 0
  · rw [if_pos (.inl h0)]
    go_enter Tryz.func24, Tryz.ntmps24
    go_wp2
    go_ret
    exact ⟨rfl, World.grownBy.refl _ _⟩
  · by_cases h1 : 1099511627776 < n
    · rw [if_pos (.inr h1)]
      go_enter Tryz.func24, Tryz.ntmps24
      go_wp2
      go_ret
      exact ⟨rfl, World.grownBy.refl _ _⟩
    · rw [if_neg (by omega)]
      have d2 : IntKind.i64.wrap (n + (16 - n % 16)) = n - n % 16 + 16 := by rw [IntKind.wrap_i64]; omega
      go_enter Tryz.func24, Tryz.ntmps24
      go_wp2_with (go_at_call 39; refine (filling_any n (by omega) w).mono ?_; rintro _ w' ⟨rfl, rfl⟩)
      go_ret
      exact ⟨rfl, World.grownBy.refl _ _⟩
theorem digits_u8s : ∀ (n t : Nat) (acc : Array Value), ∃ ys : List UInt8, ys.length = n ∧ Extern.BytealgMakeNoZero.digits n t acc = (acc.toList ++ u8s ys).toArray
  | 0, _, acc => ⟨[], rfl, by simp [Extern.BytealgMakeNoZero.digits, u8s]⟩
  | n + 1, t, acc => by
    obtain ⟨ys, hl, h⟩ := digits_u8s n (t / 256) (acc.push (.int .u8 (Int.ofNat (t % 256))))
    refine ⟨UInt8.ofNat (t % 256) :: ys, by rw [List.length_cons, hl], ?_⟩
    rw [Extern.BytealgMakeNoZero.digits, h]
    simp [u8s]
theorem run_made (w : World) (n : Nat) (hn : n ≤ 1000000) : ∃ ys : List UInt8, n ≤ ys.length ∧ (callFunc 88 #[.int .i64 (n : Int)]).run Tryz.prog w = .ok (.value (.slice (some ⟨w.heap.size, 0, none⟩) n ys.length)) ((w.alloc (.cells (u8s ys).toArray 5)).drewN 2) := by
  obtain ⟨ys, hl, h⟩ := digits_u8s (grownCap w n 0 5) ((Question.extern "internal/bytealg.MakeNoZero.bytes" 0).cut (w.tape (w.drawn + 1) (.extern "internal/bytealg.MakeNoZero.bytes" 0))) #[]
  refine ⟨ys, by rw [hl]; simpa using grownCap_ge w n 0 5, ?_⟩
  rw [run_callFunc_extern (P := Tryz.prog) Tryz.func88 (by kernel_rfl) (by kernel_rfl) (by kernel_rfl) (e := Extern.BytealgMakeNoZero.makeNoZero #[3] #[23]) (by kernel_rfl)]
  have hdef : Extern.BytealgMakeNoZero.makeNoZero #[3] #[23] #[.int .i64 n] =
      (do
        let .slice elem ← underlying 23 | stuck "bytealg.MakeNoZero: slice type expected"
        if (n : Int) < 0 || (n : Int) > 2 ^ 48 then runtimePanic (.error "makeslice: len out of range")
        let cap ← choose (.appendCap (n : Int).toNat 0 elem)
        askRoom cap
        let bytes ← choose (.extern "internal/bytealg.MakeNoZero.bytes" 0)
        let a ← newRow elem (Extern.BytealgMakeNoZero.digits cap bytes #[])
        pure (.slice (some a) (n : Int).toNat cap)) := rfl
  have h1 : ¬ (n : Int) < 0 := by omega
  have h2 : ¬ (281474976710656 : Int) < (n : Int) := by omega
  rw [hdef]
  simp [run_underlying Tryz.underlying23, h1, h2, Question.forced, newRow]
  rw [show grownCap w n 0 5 = (Question.appendCap n 0 5).cut (w.tape w.drawn (Question.appendCap n 0 5)) from rfl] at h hl
  exact ⟨hl.symm, by rw [h]; rfl⟩
theorem mul_any (n : Nat) (hn : n ≤ 1000000) (w : World) : Calls Tryz.prog 87 #[.int .u64 1, .int .u64 (n : Int)] w fun e w' => e = .returned (.tuple #[.int .u64 0, .int .u64 (n : Int)]) ∧ w' = w := by
  have d1 : bits .and .u64 (n : Int) 4294967295 = (n : Int) := by
    have h := bits_and_u64_nat n 4294967295 (by omega) (by omega)
    rw [show n &&& 4294967295 = n % 4294967296 from Nat.and_two_pow_sub_one_eq_mod n 32, Nat.mod_eq_of_lt (by omega)] at h
    exact h
  have d2 : bits .and .u64 1 4294967295 = 1 := by decide +kernel
  have d3 : (n : Int) / 4294967296 = 0 := by omega
  have d4 : IntKind.u64.wrap (n : Int) = (n : Int) := by rw [IntKind.wrap_u64]; omega
  have d5 : bits .and .u64 0 4294967295 = 0 := by decide +kernel
  have h41 : Calls Tryz.prog 97 #[.int .u64 1, .int .u64 (n : Int)] w fun e w' => e = .returned (.tuple #[.int .u64 0, .int .u64 (n : Int)]) ∧ w' = w := by
    go_enter Tryz.func97, Tryz.ntmps97
    go_wp2
    go_ret2
    exact ⟨rfl, rfl⟩
  go_enter Tryz.func87, Tryz.ntmps87
  go_wp2_with (go_at_call 97; refine h41.mono ?_; rintro _ w' ⟨rfl, rfl⟩)
  go_ret2
  exact ⟨rfl, rfl⟩
set_option maxRecDepth 100000 in
/-- Copying as one step of a region that draws its order. -/
theorem step_copy_blk {w : World} {ops : Array Oper} {o : Oper} {a : Act} {K : Act → World → Prop} {Q : Exit → Act → World → Prop} {E : Prop} (hgd : o.guard = none) (d s : Operand) (ho : o.op = .call { callee := .builtin .copy, args := #[d, s], argTypes := #[23, 23] })
    (g off dLen dCap sLen sCap : Nat) (A : Option Addr) (xs ys : List UInt8) (hd : a.eval d = .slice (some ⟨g, off, none⟩) dLen dCap) (hs : a.eval s = .slice A sLen sCap) (hxl : xs.length = sLen) (hyl : ys.length = dLen) (h0 : 0 < Nat.min xs.length ys.length)
    (ty : TypeId) (pre post : List Value) (hb : Blk w g ty (pre ++ u8s ys ++ post)) (hp : pre.length = off) (ok : Nat → Prop) (hx : Byt w ok A xs) (m : Nat) (hm : Nat.min xs.length ys.length = m)
    (h : ∀ w', Blk w' g ty (pre ++ u8s (lay xs ys) ++ post) → w.grownBy w' (some g) → w'.heap.size = w.heap.size → K (a.put o.dst (goInt (m : Int))) w') :
    if Region.wanted o (yielded ops a.tmps) = true then Oper.wp Tryz.prog o a w K Q else E := by
  subst hm hxl hyl hp
  have hw : Region.wanted o (yielded ops a.tmps) = true := by simp [Region.wanted, hgd]
  rw [if_pos hw]
  have hcs : (u8s (xs.take ys.length)).length = Nat.min xs.length ys.length := by rw [u8s_length, List.length_take, Nat.min_comm]
  obtain ⟨ad, rfl, _, hcell⟩ := hx.some_ (by have : Nat.min xs.length ys.length ≤ xs.length := Nat.min_le_left _ _; omega)
  have hrun := run_copy_row (P := Tryz.prog) w 23 23 o.type 5 g pre.length ys.length dCap ad xs.length sCap _ ty (u8s (xs.take ys.length)) Tryz.underlying23 (by kernel_rfl) hb hcs ?_ ?_ (u8s_one _)
  · unfold Oper.wp
    have e : ((pre ++ u8s ys ++ post).take pre.length ++ u8s (xs.take ys.length) ++ (pre ++ u8s ys ++ post).drop (pre.length + Nat.min xs.length ys.length)) = pre ++ u8s (lay xs ys) ++ post := by
      rw [List.append_assoc pre, List.take_left', List.drop_append, List.drop_eq_nil_of_le (by omega), Nat.add_sub_cancel_left, List.nil_append, List.drop_append_of_le_length (by rw [u8s_length]; exact Nat.min_le_right _ _)]
      · rw [lay, u8s_append]
        have e2 : List.drop (Nat.min xs.length ys.length) (u8s ys) = u8s (ys.drop xs.length) := by
          unfold u8s
          rw [← List.map_drop]
          congr 1
          rcases Nat.le_total xs.length ys.length with hle | hle
          · rw [show Nat.min xs.length ys.length = xs.length from Nat.min_eq_left hle]
          · rw [show Nat.min xs.length ys.length = ys.length from Nat.min_eq_right hle, List.drop_eq_nil_of_le (Nat.le_refl _), List.drop_eq_nil_of_le hle]
        rw [e2]
        simp only [List.append_assoc]
      · rfl
    rw [hcs] at hrun
    simp only [] at hrun
    rw [e] at hrun
    simp only [execOp, ho, resolve, invoke, builtin, Sem.run_bind, Sem.run_pure, Result.andThen_ok, List.map_toArray, List.map_cons, List.map_nil, hd, hs, hrun]
    exact h _ (Blk.setRow hb) (grown_setRow _ _ _) (by simp [World.setRow])
  · intro j v hv
    obtain ⟨hj, rfl⟩ := u8s_get _ j v hv
    rw [List.length_take] at hj
    rw [hcell j (by omega)]
    simp
  · rw [hcs]
    have : Nat.min xs.length ys.length ≤ ys.length := Nat.min_le_right _ _
    simp only [List.size_toArray, List.length_append, u8s_length]
    omega
theorem grown_drewN' {w wr : World} {row : Option Nat} (n : Nat) (h : w.grownBy wr row) : w.grownBy (wr.drewN n) row := ⟨h.os, h.tape, h.output, h.size, h.block⟩
theorem lay_rep (x : UInt8) (i : Nat) (l : List UInt8) : List.replicate i x ++ lay (List.replicate i x) l = List.replicate (i + Nat.min i l.length) x ++ l.drop i := by
  unfold lay
  rw [List.take_replicate, List.length_replicate, ← List.append_assoc, List.replicate_append_replicate, Nat.min_comm]
theorem grown_drew1 {w wr : World} {row : Option Nat} (h : w.grownBy wr row) : w.grownBy wr.drew row := ⟨h.os, h.tape, h.output, h.size, h.block⟩
theorem rep_cells {x : UInt8} {l : List UInt8} {n i m : Nat} {vs : List Value} (h : l.length = n - i) (hm : m = Nat.min i (n - i)) : u8s (List.replicate i x) ++ u8s (lay (List.replicate i x) l) ++ vs = u8s (List.replicate (i + m) x ++ l.drop i) ++ vs := by
  rw [← u8s_append (List.replicate i x) (lay (List.replicate i x) l), lay_rep, h, ← hm]
theorem drop_left_len {l : List UInt8} {n i m : Nat} (h : l.length = n - i) (hm : m = Nat.min i (n - i)) : (l.drop i).length = n - (i + m) := by
  rw [List.length_drop, h]
  rcases (show i ≤ n - i ∨ n - i ≤ i by omega) with h3 | h3
  · have e : Nat.min i (n - i) = i := Nat.min_eq_left h3
    omega
  · have e : Nat.min i (n - i) = n - i := Nat.min_eq_right h3
    omega
set_option maxRecDepth 100000 in
set_option maxHeartbeats 1600000 in
theorem repeat_any {w : World} {ok : Nat → Prop} {ad : Addr} {x : UInt8} (hx : Byt w ok (some ad) [x]) (hok : ∀ b, ok b → b < w.heap.size) (c n : Nat) (h1 : 1 ≤ n) (h16 : n ≤ 16) :
    Calls Tryz.prog 67 #[.slice (some ad) 1 c, .int .i64 (n : Int)] w fun e w' => ∃ g, e = .returned (.slice (some ⟨g, 0, none⟩) n n) ∧ Byt w' (fun b => b = g) (some ⟨g, 0, none⟩) (List.replicate n x) ∧ w.heap.size ≤ g ∧ g < w'.heap.size ∧ w.grownBy w' none := by
  obtain ⟨ys, hys, hmade⟩ := run_made w n (by omega)
  have HX := Lib.hid hx
  have hle : (n : Int) ≤ (ys.length : Int) := by omega
  obtain ⟨w1, hw1⟩ : ∃ w1, w1 = (w.alloc (.cells (u8s ys).toArray 5)).drewN 2 := ⟨_, rfl⟩
  rw [← hw1] at hmade
  obtain ⟨g, hg⟩ : ∃ g, g = w.heap.size := ⟨_, rfl⟩
  have hb1 : Blk w1 g 5 (u8s ys) := by rw [hw1, hg]; exact (Blk.of_alloc w _ 5).keep rfl
  have hg1 : w.grownBy w1 none := by rw [hw1]; exact grown_drewN' 2 (World.grownBy_alloc w _ none)
  rw [← hg] at hmade
  have hgw : w.heap.size ≤ g := by omega
  have HB1 := Lib.hid hb1
  have HG1 := Lib.hid hg1
  have HX1 : Hid (Byt w1 ok (some ad) [x]) := Lib.hid (hx.grown hg1 (fun b hb => ⟨hok b hb, by simp⟩))
  have HGW := Lib.hid hgw
  have HYS := Lib.hid hys
  clear hx hw1 hb1 hg1 hgw hg hys
  have d1 : IntKind.u64.wrap (n : Int) = (n : Int) := by rw [IntKind.wrap_u64]; omega
  have d2 : ¬ (9223372036854775807 < (n : Int)) := by omega
  have d3 := i64_keep n (by omega)
  have d4 : ¬ (8192 < (n : Int)) := by omega
  go_enter Tryz.func67, Tryz.ntmps67
  go_wp2_with (first
    | (go_at_call 87; refine (mul_any n (by omega) w).mono ?_; rintro _ w' ⟨rfl, rfl⟩)
    | (refine wpList_copy_blk rfl _ _ rfl g 0 n n 1 c (some ad) [x] (ys.take n) rfl rfl rfl (by rw [List.length_take]; exact Nat.min_eq_left HYS.out) 5 [] (u8s (ys.drop n)) (HB1.out.to (by rw [List.nil_append, ← u8s_append, List.take_append_drop])) rfl ok HX1.out 1 (by rw [List.length_take, Nat.min_eq_left HYS.out]; exact Nat.min_eq_left h1) ?_
       intro w2 hb2 hg2 hz2
       have HB2 : Hid (∃ l : List UInt8, l.length = n - 1 ∧ Blk w2 g 5 (u8s (List.replicate 1 x ++ l) ++ u8s (ys.drop n))) := Lib.hid ⟨(ys.take n).drop 1, by rw [List.length_drop, List.length_take, Nat.min_eq_left HYS.out], hb2.to (by
         unfold lay
         rw [List.length_take, Nat.min_eq_left HYS.out, List.take_of_length_le (by simpa using h1)]
         simp)⟩
       have HG2 : Hid (w1.grownBy w2 (some g)) := Lib.hid hg2
       clear hb2 hg2 hz2))
  clear d1 d2 d4
  go_loopw [10, 11] (fun bp _ wr => ∃ (i : Nat) (l : List UInt8), 1 ≤ i ∧ i ≤ n ∧ l.length = n - i ∧ bp = .int .i64 (i : Int) ∧ Blk wr g 5 (u8s (List.replicate i x ++ l) ++ u8s (ys.drop n)) ∧ w1.grownBy wr (some g)) (fun bp _ _ => n - (intOf bp).toNat)
  case atStart =>
    obtain ⟨l, hl, hb⟩ := HB2.out
    exact ⟨1, l, Nat.le_refl _, h1, hl, rfl, hb, HG2.out⟩
  case round =>
    clear HB2 HG2
    obtain ⟨i, l, hi1, hin, hl, rfl, hb, hg⟩ := hrel
    by_cases hlt : i < n
    · have HL := Lib.hid hl
      have HB := Lib.hid hb
      have HG := Lib.hid hg
      have e1 : (i : Int) < (n : Int) := by omega
      have e2 : ¬ n = i := by omega
      have e3 : (i : Int) ≤ (n : Int) := by omega
      have e4 : ¬ ((n : Int) < (i : Int)) := by omega
      have hbd : Blk wr.drew g 5 (u8s (List.replicate i x) ++ u8s l ++ u8s (ys.drop n)) := (hb.keep (w' := wr.drew) rfl).to (by rw [u8s_append])
      have hxd : Byt wr.drew (fun b => b = g) (some ⟨g, 0, none⟩) (List.replicate i x) := Blk.byt (pre := []) (post := u8s l ++ u8s (ys.drop n)) (hbd.to (by rw [List.nil_append, List.append_assoc])) rfl
      obtain ⟨m, hm⟩ : ∃ m, m = Nat.min i (n - i) := ⟨_, rfl⟩
      have hm1 : Nat.min (List.replicate i x).length l.length = m := by rw [List.length_replicate, hl, hm]
      have hm0 : 0 < Nat.min (List.replicate i x).length l.length := by rw [List.length_replicate, hl]; exact Nat.lt_min.2 ⟨by omega, by omega⟩
      have hp : (u8s (List.replicate i x)).length = i := by rw [u8s_length, List.length_replicate]
      have hr : (List.replicate i x).length = i := List.length_replicate
      have hmn : i + m ≤ n := by have h2 : Nat.min i (n - i) ≤ n - i := Nat.min_le_right _ _; omega
      have hmp : 1 ≤ m := by have h2 : 1 ≤ Nat.min i (n - i) := Nat.le_min.2 ⟨by omega, by omega⟩; omega
      have d5 : IntKind.i64.wrap ((i : Int) + (m : Int)) = ((i + m : Nat) : Int) := by rw [IntKind.wrap_i64]; omega
      have HBD := Lib.hid hbd
      have HXD := Lib.hid hxd
      have HM1 := Lib.hid hm1
      have HM0 := Lib.hid hm0
      have HP := Lib.hid hp
      have HR := Lib.hid hr
      have HMN := Lib.hid hmn
      have HMP := Lib.hid hmp
      have HM := Lib.hid hm
      clear hl hb hg hbd hxd hm hm1 hm0 hp hr hmn hmp
      go_wp2_with (fail)
      go_region_law (first
        | (refine step_copy_blk rfl (.tmp 70) (.tmp 73) rfl g i (n - i) (n - i) i n (some ⟨g, 0, none⟩) (List.replicate i x) l (by simp [Act.eval, Act.put]) (by simp [Act.eval, Act.put]) HR.out HL.out HM0.out 5 (u8s (List.replicate i x)) (u8s (ys.drop n)) HBD.out HP.out (fun b => b = g) HXD.out m HM1.out ?_; intro w3 hb3 hg3 hz3)
        | fail)
      have hb4 : Blk w3 g 5 (u8s (List.replicate (i + m) x ++ l.drop i) ++ u8s (ys.drop n)) := hb3.to (rep_cells HL.out HM.out)
      have HB4 := Lib.hid hb4
      have HG4 : Hid (w1.grownBy w3 (some g)) := Lib.hid (World.grownBy.trans (grown_drew1 HG.out) hg3)
      clear hb3 hg3 hz3 hb4 HBD HXD HB HG
      simp only [List.getElem_toArray, List.getElem_cons_succ, List.getElem_cons_zero, Act.put, List.setIfInBounds_toArray, List.set_cons_zero, List.set_cons_succ]
      go_roundw
      case rel => refine ⟨_, _, _, _, _, _, _, _, _, _, _, _, _, _, _, _, _, ⟨i + m, l.drop i, by have := HMP.out; omega, HMN.out, drop_left_len HL.out HM.out, by go_num, HB4.out, HG4.out⟩, rfl⟩
      case measure => have := HMP.out; have := HMN.out; simp [intOf]; omega
    · have en : i = n := by omega
      subst en
      have hb0 : Blk wr g 5 (u8s (List.replicate i x) ++ (u8s l ++ u8s (ys.drop i))) := hb.to (by rw [u8s_append, List.append_assoc])
      have HB := Lib.hid hb0
      have HG := Lib.hid hg
      clear hb hg hb0 hl
      go_wp2_with (fail)
      go_ret
      exact ⟨g, rfl, Blk.byt (pre := []) (post := u8s l ++ u8s (ys.drop i)) HB.out rfl, HGW.out, HB.out.lt, World.grownBy.andThen HG1.out HG.out (by rintro _ ⟨⟩; exact .inl HGW.out)⟩
section
variable {w : World} {ops : Array Oper} {o : Oper} {a : Act} {K : Act → World → Prop} {Q : Exit → Act → World → Prop} {E : Prop}
theorem own_blk {w : World} {base n g cap : Nat} {xs : List UInt8} (h : w.ownsRow base 5 1 (.slice (some ⟨g, 0, none⟩) n cap) n (u8s xs)) : ∃ post, Blk w g 5 (u8s xs ++ post) ∧ n ≤ cap ∧ cap ≤ maxLen := by
  rcases h.2 with ⟨e1, _⟩ | ⟨g', cap', cur, e1, _, hg, h1, h2, hs, ht⟩
  · cases e1
  · cases e1
    refine ⟨cur.toList.drop n, ?_, h1, h2⟩
    unfold Blk
    rw [hg]
    have : u8s xs ++ cur.toList.drop n = cur.toList := by rw [← ht, Nat.mul_one, List.take_append_drop]
    rw [this]
theorem step_append_grows24 (hgd : o.guard = none) (s x : Operand) (ho : o.op = .call { callee := .builtin .append, args := #[s, x], argTypes := #[23, 23] })
    (A : Option Addr) (n : Nat) (ys : List UInt8) (hn : ys.length = n) (hs : a.eval s = .slice A n n) (ok ok' : Nat → Prop) (hy : Byt w ok A ys)
    (B : Addr) (m c : Nat) (xs : List UInt8) (hm : xs.length = m) (h1 : 0 < m) (hx : a.eval x = .slice (some B) m c) (hxs : Byt w ok' (some B) xs) (hle : n + m ≤ 2000000)
    (h : ∀ g cap post w', Blk w' g 5 (u8s (ys ++ xs) ++ post) → w.heap.size ≤ g → n + m ≤ cap → cap ≤ maxLen → w.grownBy w' none → K (a.put o.dst (.slice (some ⟨g, 0, none⟩) (n + m) cap)) w') :
    if Region.wanted o (yielded ops a.tmps) = true then Oper.wp Tryz.prog o a w K Q else E := by
  have hw : Region.wanted o (yielded ops a.tmps) = true := by simp [Region.wanted, hgd]
  rw [if_pos hw]
  subst hn hm
  obtain ⟨i0, hi, hz0, hz1, hz2⟩ := info_parts Tryz.info5
  have hnews : ∀ j u, (u8s xs)[j]? = some u → w.cell? (B.add j) = some u := by
    intro j u hu
    obtain ⟨hj, rfl⟩ := u8s_get xs j u hu
    obtain ⟨ad', e, _, hc⟩ := hxs j hj
    cases e
    exact hc
  have hmx : ys.length + xs.length ≤ maxLen := by unfold maxLen; omega
  have key : ∃ v' w', (Builtin.append_ #[23, 23] o.type #[.slice A ys.length ys.length, .slice (some B) xs.length c]).run Tryz.prog w = .ok v' w' ∧ w'.ownsRow w.heap.size 5 1 v' (ys.length + xs.length) (u8s (ys ++ xs)) ∧ w.grownBy w' none := by
    rw [u8s_append]
    rcases A with _ | ad
    · have : ys = [] := by
        rcases ys with _ | ⟨y, ys⟩
        · rfl
        · obtain ⟨_, e, _⟩ := hy 0 (by simp)
          cases e
      subst this
      obtain ⟨v', w', hr, r1, r2, _⟩ := run_append_own (P := Tryz.prog) w w.heap.size 23 o.type 5 i0 (.int .u8 0) 1 1 Tryz.underlying23 hi hz0 hz1 hz2 rfl (by omega) (.slice none 0 0) 0 [] (World.ownsRow_nil w _ 5 1) B xs.length c (u8s xs) (by rw [u8s_length]; omega) hnews (u8s_one xs) (by simpa using hmx) (by simpa using (show xs.length ≤ 140737488355328 by simp at hle; omega)) (Nat.le_refl _)
      exact ⟨v', w', hr, r1, r2⟩
    · exact run_append_arg_grows (P := Tryz.prog) w 23 o.type 5 i0 (.int .u8 0) 1 1 Tryz.underlying23 hi hz0 hz1 hz2 rfl (by omega) ad ys.length ys.length (u8s ys) (by rw [u8s_length]; omega)
        (fun j u hu => by
          obtain ⟨hj, rfl⟩ := u8s_get ys j u hu
          obtain ⟨ad', e, _, hc⟩ := hy j hj
          cases e
          exact hc) B xs.length c (u8s xs) (by rw [u8s_length]; omega) hnews (by omega) hmx (by omega)
  obtain ⟨v', w', hr, hown, hg⟩ := key
  obtain ⟨g, cap, rfl, hb, _⟩ := World.ownsRow.form hown (by omega)
  obtain ⟨post, hb', hc1, hc2⟩ := own_blk hown
  unfold Oper.wp execOp
  simp only [ho, resolve, invoke, builtin, Sem.run_bind, Sem.run_pure, Result.andThen_ok, List.map_toArray, List.map_cons, List.map_nil, hs, hx, hr]
  exact h g cap post w' hb' hb hc1 hc2 hg
end
set_option maxRecDepth 100000 in
set_option maxHeartbeats 1600000 in
theorem filled_any {w : World} {ok : Nat → Prop} {A : Option Addr} {text : List UInt8} {n c : Nat} (hx : Byt w ok A text) (hok : ∀ b, ok b → b < w.heap.size) (hn : text.length = n) (hc : n ≤ c) (hsz : n ≤ 1000000) :
    Calls Tryz.prog 47 #[.slice A n c] w fun e w' => ∃ g post, e = .returned (.slice (some ⟨g, 0, none⟩) (fillB text).length (fillB text).length) ∧ Blk w' g 5 (u8s (fillB text) ++ post) ∧ w.heap.size ≤ g ∧ w.grownBy w' none := by
  obtain ⟨p, hp⟩ : ∃ p, p = padN text := ⟨_, rfl⟩
  have hp1 : 1 ≤ p := by have := padN_le text; omega
  have hp2 : p ≤ 16 := by have := padN_le text; omega
  have hpn : 16 - (n : Int) % 16 = (p : Int) := by rw [hp]; unfold padN; rw [hn]; omega
  have hfl : (fillB text).length = n + p := by unfold fillB; rw [List.length_append, List.length_replicate, hn, hp]
  obtain ⟨pb, hpb⟩ : ∃ b, b = UInt8.ofNat p := ⟨_, rfl⟩
  have hpv : (pb.toNat : Int) = (p : Int) := by rw [hpb, UInt8.toNat_ofNat', Nat.mod_eq_of_lt (by omega)]
  have hfill : text ++ List.replicate p pb = fillB text := by unfold fillB; rw [hpb, hp]
  have d6 : IntKind.u8.wrap (p : Int) = (p : Int) := by rw [IntKind.wrap_u8]; omega
  have d7 : (n : Int) ≤ (c : Int) := by omega
  rw [hfl]
  have HPV := Lib.hid hpv
  have HF := Lib.hid hfill
  have HXD : Hid (Byt w.drew ok A text) := Lib.hid (hx.keep fun _ _ => rfl)
  have HN := Lib.hid hn
  have HOK := Lib.hid hok
  have HPN := Lib.hid hpn
  have HP2 := Lib.hid hp2
  clear hp hpn hpb hpv hfill hx hn hfl hok hp2
  go_enter Tryz.func47, Tryz.ntmps47
  go_wp2_with (go_at_call 39; refine (filling_any (n : Int) (by omega) w).mono ?_; rintro _ w' ⟨rfl, rfl⟩; rw [HPN.out])
  have hb1 : Blk (w'.alloc (.cells #[.int .u8 (p : Int)] 5)).drew w'.heap.size 5 (u8s [pb]) := by
    have h1 := (Blk.of_alloc w' #[.int .u8 (p : Int)] 5).keep (w' := (w'.alloc (.cells #[.int .u8 (p : Int)] 5)).drew) rfl
    exact h1.to (by rw [← HPV.out]; rfl)
  have hg1 : w'.grownBy (w'.alloc (.cells #[.int .u8 (p : Int)] 5)).drew none := grown_drew (World.grownBy_alloc w' _ none)
  obtain ⟨w1, hw1⟩ : ∃ w1, w1 = (w'.alloc (.cells #[.int .u8 (p : Int)] 5)).drew := ⟨_, rfl⟩
  rw [← hw1] at hb1 hg1
  have hx1 : Byt w1 ok A text := HXD.out.grown (w' := w1) (row := none) ⟨hg1.os, hg1.tape, hg1.output, hg1.size, hg1.block⟩ (fun b hb => ⟨HOK.out b hb, by simp⟩)
  have HB1 := Lib.hid hb1
  have HX1 := Lib.hid hx1
  clear hb1 hx1
  go_region_law (first
    | (go_simp; go_at_call 67; rw [← hw1]; refine (repeat_any (byt_blk HB1.out) (by rintro b rfl; exact HB1.out.lt) 1 p hp1 HP2.out).mono ?_; rintro _ w2 ⟨g2, rfl, hb2, hgs2, hlt2, hg2⟩)
    | (refine step_append_grows24 rfl (.tmp 13) (.tmp 18) rfl A n text HN.out (by simp [Act.eval]) ok _ (HX1.out.grown hg2 (fun b hb => ⟨Nat.lt_of_lt_of_le (HOK.out b hb) hg1.size, by simp⟩)) ⟨g2, 0, none⟩ p p (List.replicate p pb) List.length_replicate hp1 (by simp [Act.eval]) hb2 (by have := HP2.out; omega) ?_; intro g3 c3 post w3 hb3 hgs3 hcap3 hm3 hg3)
    | fail)
  have hb4 : Blk w3 g3 5 (u8s (fillB text) ++ post) := hb3.to (by rw [HF.out])
  have hg4 : w'.grownBy w3 none := World.grownBy.trans (World.grownBy.trans hg1 hg2) hg3
  have hgs4 : w'.heap.size ≤ g3 := Nat.le_trans (Nat.le_trans hg1.size hg2.size) hgs3
  have HB4 := Lib.hid hb4
  have HG4 := Lib.hid hg4
  have HGS := Lib.hid hgs4
  have e1 : ((n + p : Nat) : Int) ≤ (c3 : Int) := by omega
  clear hb4 hg4 hgs4 hb3 hg1 hg2 hg3 hgs3 hm3 hb2 hgs2 hlt2 hw1
  go_wp2_with (fail)
  go_ret
  exact ⟨g3, post, rfl, HB4.out, HGS.out, HG4.out⟩
open Go.RowKit
set_option maxRecDepth 100000 in
set_option maxHeartbeats 1600000 in
theorem xor_any (w : World) (s t : State) : Calls Tryz.prog 49 #[.agg (bytesOf s).toArray, .agg (bytesOf t).toArray] w fun e w' => e = .returned (.agg (bytesOf (keyS t s)).toArray) ∧ w.grownBy w' none := by
  obtain ⟨T, hT⟩ : ∃ T, T = keyS t s := ⟨_, rfl⟩
  rw [← hT]
  have HT := Lib.hid hT
  clear hT
  go_enter Tryz.func49, Tryz.ntmps49
  go_wp2_with (refine wpList_box23 rfl _ s rfl rfl ?_)
  intro w1 hb1 hg1 hz1
  go_wp2_with (refine wpList_box23 rfl _ t rfl rfl ?_)
  intro w2 hb2 hg2 hz2
  go_wp2_with (refine wpList_alloc23 rfl rfl ?_)
  intro w3 hb3 hg3 hz3
  obtain ⟨ga, hga⟩ : ∃ g, g = w.heap.size := ⟨_, rfl⟩
  obtain ⟨gb, hgb⟩ : ∃ g, g = w.heap.size + 1 := ⟨_, rfl⟩
  obtain ⟨go, hgo⟩ : ∃ g, g = w.heap.size + 1 + 1 := ⟨_, rfl⟩
  rw [← hgo, ← hgb, ← hga]
  rw [← hga] at hb1
  rw [← hgb] at hb2
  rw [← hgo] at hb3
  have HA : Hid (Blk w3 ga 48 (bytesOf s)) := Lib.hid ((hb1.grown hg2 (by simp)).grown hg3 (by simp))
  have HB : Hid (Blk w3 gb 48 (bytesOf t)) := Lib.hid (hb2.grown hg3 (by simp))
  have HO : Hid (Blk w3 go 48 (bytesOf fun _ => 0)) := Lib.hid hb3
  have HG : Hid (w.grownBy w3 none) := Lib.hid (World.grownBy.trans (World.grownBy.trans hg1 hg2) hg3)
  have HAO : Hid (go ≠ ga) := Lib.hid (by omega)
  have HWA : Hid (w.heap.size ≤ ga) := Lib.hid (by omega)
  have HWO : Hid (w.heap.size ≤ go) := Lib.hid (by omega)
  clear hb1 hg1 hz1 hb2 hg2 hz2 hb3 hg3 hz3 hga hgb hgo
  go_wp2_with (refine wpList_load_mid rfl 48 _ rfl gb 0 rfl (bytesOf t) _ (range_blk HB.out) Tryz.underlying48 rfl (bytes_size' t) ?_)
  clear HB
  go_loopw [5, 6, 8] (fun _ _ v wr => ∃ i : Nat, i ≤ 16 ∧ v = .int .i64 (i : Int) ∧ Blk wr ga 48 (bytesOf (part i T s)) ∧ w3.grownBy wr (some ga)) (fun _ _ v _ => 16 - (intOf v).toNat)
  case atStart => exact ⟨0, Nat.zero_le _, rfl, by rw [part_zero]; exact HA.out, World.grownBy.refl _ _⟩
  case round =>
    clear HA
    obtain ⟨i, hi, rfl, hb, hg⟩ := hrel
    by_cases hlt : i < 16
    · have e1 : (i : Int) < 16 := by omega
      have c0 := idx23 t i hlt
      have c2 := hb.get i _ (bytesOf_get _ i hlt)
      rw [part_at] at c2
      have hf := hb.frozen i
      have hx : bits .xor .u8 ((s ⟨i, hlt⟩).toNat : Int) ((t ⟨i, hlt⟩).toNat : Int) = ((T ⟨i, hlt⟩).toNat : Int) := by
        rw [b_xor, HT.out]; rfl
      have hset := bytesOf_set (part i T s) i (T ⟨i, hlt⟩)
      rw [part_set] at hset
      have hb2 := (hb.set i (.int .u8 ((T ⟨i, hlt⟩).toNat : Int))).to hset
      have HB2 := Lib.hid hb2
      have HG2 := Lib.hid hg
      clear hb hg hset hb2
      obtain ⟨y, hy⟩ : ∃ y, y = t ⟨i, hlt⟩ := ⟨_, rfl⟩
      obtain ⟨x, hx'⟩ : ∃ x, x = s ⟨i, hlt⟩ := ⟨_, rfl⟩
      obtain ⟨z, hz⟩ : ∃ z, z = T ⟨i, hlt⟩ := ⟨_, rfl⟩
      rw [← hy] at c0 hx
      rw [← hx'] at c2 hx
      rw [← hz] at hx HB2
      clear hy hx' hz
      go_wp2_with (fail)
      exact ⟨⟨i + 1, by omega, by go_num, HB2.out, World.grownBy.trans HG2.out (grown_set wr ga i _)⟩, by simp [intOf]; omega⟩
    · have ei : i = 16 := by omega
      subst ei
      rw [part_all] at hb
      have HB2 := Lib.hid hb
      have HO2 := Lib.hid (HO.out.grown hg (fun e => HAO.out (Option.some.inj e)))
      have HG2 : Hid (w.grownBy wr none) := Lib.hid (World.grownBy.andThen HG.out hg (by rintro _ ⟨⟩; exact .inl HWA.out))
      clear hb hg hlt hi HO
      go_wp2_with (first
        | (refine wpList_load_mid rfl 48 _ rfl ga 0 rfl (bytesOf T) _ (range_blk HB2.out) Tryz.underlying48 rfl (bytes_size' T) ?_)
        | (refine wpList_store_row rfl 48 _ _ rfl go (bytesOf T).toArray rfl rfl 48 _ HO2.out (bytes_size _) (bytes_same _ _) (all_oneCell_toArray (bytesOf_one _)) ?_))
      exact bodyPost_ret (results_cell_row rfl _ _ go 48 (bytesOf T).toArray (0, 0) _ rfl (setRow_heap wr go _ _ 48 (0, 0) HO2.out) Tryz.underlying48 rfl (bytes_size _)) rfl ⟨rfl, World.grownBy.andThen HG2.out (grown_setRow _ _ _) (by rintro _ ⟨⟩; exact .inl HWO.out)⟩
open Go.RowKit
theorem cnew_at (W : World) (k : Fin 32 → UInt8) : Calls Tryz.prog 46 #[.agg (u8s (k32 k)).toArray] W fun e w' => ∃ g, e = .returned (.pointer (some ⟨g, 0, none⟩)) ∧ Cip w' g (k32 k) ∧ W.grownBy w' none ∧ W.heap.size ≤ g := (new_any W k).mono fun _ _ ⟨g, h1, h2, h3, h4⟩ => ⟨g, h1, h2, h3, h4⟩
theorem wp_alloc23 {w : World} {o : Oper} {a : Act} {K : Act → World → Prop} {Q : Exit → Act → World → Prop} (ho : o.op = .alloc 48)
    (h : ∀ w', Blk w' w.heap.size 48 (bytesOf (fun _ => 0)) → w.grownBy w' none → w'.heap.size = w.heap.size + 1 → K (a.put o.dst (.pointer (some ⟨w.heap.size, 0, none⟩))) w') : o.wp Tryz.prog a w K Q := by
  have hrun := run_alloc23 w
  generalize bytesOf (fun _ => 0) = z at hrun h
  unfold Oper.wp
  simp only [execOp, ho, Sem.run_bind, hrun, Result.andThen_ok, Sem.run_pure]
  exact h _ (Blk.of_alloc w _ 48) (World.grownBy_alloc w _ none) (World.size_alloc w _)
/-- What is made ahead: a cipher, and the block that stands ahead of the first one. -/
def Two (w : World) (ks : List UInt8) (v : State) (s t : Value) (wx : World) : Prop := ∃ gc ga, s = .pointer (some ⟨gc, 0, none⟩) ∧ t = .pointer (some ⟨ga, 0, none⟩) ∧ Cip wx gc ks ∧ Blk wx ga 48 (bytesOf v) ∧ gc ≠ ga ∧ w.heap.size ≤ ga ∧ w.grownBy wx none
theorem run_from (w : World) (A : Option Addr) (n c k : Nat) (hk : k < n) (hc : n ≤ c) : (Instr.sliceAt 23 (.slice A n c) (some (.int .i64 (k : Int))) none none).run Tryz.prog w = .ok (.slice (A.map (·.add k)) (n - k) (c - k)) w := by
  have h1 : (k : Int) ≤ (n : Int) := by omega
  have h2 : ¬ c = k := by omega
  simp [Instr.sliceAt, Instr.slice, Instr.sliceBounds, run_underlying Tryz.underlying23, run_sliceBound, h1, h2]
theorem run_load_at (w : World) (ad : Addr) (s : State) (hc : ∀ j v, (bytesOf s)[j]? = some v → w.cell? (ad.add j) = some v) : (Instr.loadAt 48 (.pointer (some ad))).run Tryz.prog w = .ok (.agg (bytesOf s).toArray) w := by
  have hl : (loadCells ad (bytesOf s).length).run Tryz.prog w = .ok (bytesOf s).toArray w := run_loadCells_list (P := Tryz.prog) w ad (bytesOf s) hc
  have hq : (Tryz.prog.info? 48).map (·.size) = some (bytesOf s).length := bytes_size' s
  generalize bytesOf s = z at hl hq
  simp only [Instr.loadAt, Instr.sureAddr, Sem.run_bind, Sem.run_pure, Result.andThen_ok]
  cases hi : Tryz.prog.info? 48 with
  | none => simp [hi] at hq
  | some i =>
    have hs : i.size = z.length := by simpa [hi] using hq
    have hagg : (isAgg 48).run Tryz.prog w = .ok true w := by
      unfold isAgg
      rw [Sem.run_bind, run_underlying Tryz.underlying48 w]
      rfl
    simp [loadVar, Sem.run_bind, hagg, sizeOf, typeInfo, hi, hs, hl]
section
variable {ops : Array Oper} {S : World → Prop} {o : Oper} {a : Act}
theorem yieldsIf_from (hw : Region.wanted o (yielded ops a.tmps) = true) (x y : Operand) (ho : o.op = .slice 23 x (some y) none none) (ad : Addr) (n c k : Nat) (hx : a.eval x = .slice (some ad) n c) (hy : a.eval y = .int .i64 (k : Int)) (hk : k < n) (hc : n ≤ c) {B : Addr} (hB : B = ad.add k) :
    YieldsIf Tryz.prog ops S o (.slice (some B) (n - k) (c - k)) a :=
  .inl ⟨hw, fun w _ => by
    subst hB
    have hrun := run_from w (some ad) n c k hk hc
    unfold execOp
    simp only [ho, hx, hy, Option.map_some, Option.map_none, hrun, Sem.run_bind, Sem.run_pure, Result.andThen_ok]⟩
theorem yieldsIf_array (hw : Region.wanted o (yielded ops a.tmps) = true) (x : Operand) (ho : o.op = .sliceToArrayPointer 48 x) (B : Addr) (n c : Nat) (hx : a.eval x = .slice (some B) n c) (hn : 16 ≤ n) :
    YieldsIf Tryz.prog ops S o (.pointer (some B)) a :=
  .inl ⟨hw, fun w _ => by
    have hrun := run_arrayAt (P := Tryz.prog) (w := w) 48 5 16 (some B) n c Tryz.underlying48 hn
    unfold execOp
    simp only [ho, hx, hrun, Sem.run_bind, Sem.run_pure, Result.andThen_ok]⟩
end
theorem yieldsIf_load_at {ops : Array Oper} {S : World → Prop} {o : Oper} {a : Act} (hw : Region.wanted o (yielded ops a.tmps) = true) (x : Operand) (ho : o.op = .load 48 x) (ad : Addr) (hx : a.eval x = .pointer (some ad)) (s : State)
    (hS : ∀ w, S w → ∀ j v, (bytesOf s)[j]? = some v → w.cell? (ad.add j) = some v) : YieldsIf Tryz.prog ops S o (.agg (bytesOf s).toArray) a :=
  .inl ⟨hw, fun w hs => by
    have hrun := run_load_at w ad s (hS w hs)
    unfold execOp
    simp only [ho, hx, hrun, Sem.run_bind, Sem.run_pure, Result.andThen_ok]⟩
end Go.Proofs.YtkbffponemihoaaGreatDoor.C
