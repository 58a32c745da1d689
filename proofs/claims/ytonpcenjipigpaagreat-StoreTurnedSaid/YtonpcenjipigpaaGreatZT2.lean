/- StoreTurned's walk. Conditions: none. -/
import Derived.Test.YtonpcenjipigpaaGreatZT1
namespace Go.Proofs.YtonpcenjipigpaaGreat
open Go.RowKit
theorem size5r : (Tryz.prog.info? 5).map (·.size) = some 1 := by kernel_rfl
/-- Places as a row of numbers. -/
def pls (ps : List Nat) : List Value := ps.map fun p : Nat => Value.int .i64 (p : Int)
theorem pls_snoc (ps : List Nat) (p : Nat) : pls (ps ++ [p]) = pls ps ++ [.int .i64 (p : Int)] := by simp [pls]
theorem pls_length (ps : List Nat) : (pls ps).length = ps.length := by simp [pls]
/-- A row of places that count, grown since B. -/
structure Pls (B : Nat) (w : World) (K : List UInt8) (v : Value) (ps : List Nat) : Prop where
  row : w.ownsRow B 3 1 v ps.length (pls ps)
  ok : ∀ p ∈ ps, Plc 32 K p
theorem Pls.nil (B : Nat) (w : World) (K : List UInt8) : Pls B w K (.slice none 0 0) [] := ⟨World.ownsRow_nil _ _ _ _, fun _ h => by simp at h⟩
theorem Pls.grown {B : Nat} {w w' : World} {K : List UInt8} {v : Value} {ps : List Nat} (h : Pls B w K v ps) (hg : w.grownBy w' none) : Pls B w' K v ps := ⟨own_kept h.row fun k hv => hg.block k (h.row.lt k hv).2 (by simp), h.ok⟩
theorem Pls.snoc {B : Nat} {w : World} {K : List UInt8} {v : Value} {ps : List Nat} {p : Nat} {z : Int} (hz : z = (p : Int)) (hr : w.ownsRow B 3 1 v (ps.length + 1) (pls ps ++ [.int .i64 z])) (hok : ∀ p ∈ ps, Plc 32 K p) (hp : Plc 32 K p) : Pls B w K v (ps ++ [p]) := by
  subst hz
  refine ⟨?_, fun q hq => ?_⟩
  · rw [pls_snoc, List.length_append]
    exact hr
  · rcases List.mem_append.1 hq with h | h
    · exact hok q h
    · simp at h
      subst h
      exact hp
set_option maxRecDepth 100000 in
set_option maxHeartbeats 16000000 in
theorem turned_walk (w : World) {A : Option Addr} {l : List StpR} {cl : Nat} (at_ : Int) (yv : UInt8) (hat : In64 at_) (hst : Stps w (fun b => b < w.heap.size) A l) :
    Calls Tryz.prog 5 #[.slice A l.length cl, .int .i64 at_, .int .u8 (yv.toNat : Int)] w fun e w' => e = .returned (.bool true) ∧ w.grownBy w' none := by
  have HA := Lib.hid (alive_any w)
  have HST := Lib.hid hst
  have HAT := Lib.hid hat
  have kN : Hid (∀ W, Calls Tryz.prog 7 #[.int .i64 32] W (NewD W 32)) := Lib.hid fun W => new_any W 32
  have kR : Hid (∀ W, Calls Tryz.prog 8 #[.int .i64 32] W (NewR W 32)) := Lib.hid fun W => rnew_any W 32
  obtain ⟨s1, hT, hh1, hL1, hd1, hf1, hn1⟩ := start_out (n := 32) (by decide) (by decide)
  have HG1 : Hid (Gsn 32 s1 ⟨0, 1, 0, 1, []⟩) := Lib.hid ⟨hh1, hL1, hd1, hf1, hn1⟩
  obtain ⟨t1, ht1⟩ : ∃ t1 : Ste, t1 = ⟨0, 1, 0, 1, []⟩ := ⟨_, rfl⟩
  rw [← ht1] at HG1 hT
  have HT := Lib.hid hT
  clear hst hat hT hh1 hL1 hd1 hf1 hn1 ht1
  go_enter Tryz.func5, Tryz.ntmps5
  go_wp2_with (first
    | (go_at_call 6
       refine HA.out.mono ?_
       rintro _ w1 ⟨rfl, hg1⟩
       clear HA)
    | (go_at_call 7
       refine (kN.out w1).mono ?_
       rintro _ w2 ⟨dp, f2, rfl, hd2, hf2, hg2⟩)
    | (go_at_call 8
       refine (kR.out w2).mono ?_
       rintro _ w3 ⟨rdp, rf3, rfl, hr3, hf3, hg3⟩
       have hbd := Bd.of hd2 (fun k hk => Nat.le_trans hg1.size (hf2 k hk)) (hg1.trans hg2) hr3 hf3 hg3
       have kO := open_beside hbd.d hbd.fn hbd.g hbd.rd hbd.ap (by show (0 : Nat) ≤ 1000000; decide) HT.out
       have HRF := Lib.hid hbd.rfn
       clear hd2 hf2 hr3 hf3 hg1 hg2 hg3 hbd)
    | (go_at_call 9
       refine kO.mono ?_
       rintro _ wa ⟨sp, fa, fsa, rfl, hva, hoka, hra, hapa⟩
       have kR3 := ropen_beside hva hra HRF.out hapa (by decide) (by show (0 : Nat) ≤ 1000000; decide) HT.out
       clear kO hva hra hapa hoka HRF)
    | (go_at_call 10
       refine kR3.mono ?_
       rintro _ wb ⟨rsp, rfb, rfsb, rfl, htw⟩
       have HTW := Lib.hid htw
       clear kR3 htw)
    | fail)
  go_loopw [13] (fun x13 wr => ∃ (k : Nat) (s : St) (t : Ste) (f fs rf rfs : Nat → Prop), k ≤ l.length ∧ k ≤ 20 ∧ x13 = .int .i64 (k : Int) ∧ Hid (Tw w wr f fs sp dp s t rf rfs rsp rdp s t s.dead) ∧ Hid (Gsn 32 s t)) (fun x13 _ => l.length - (intOf x13).toNat)
  case atStart => exact ⟨0, s1, t1, fa, fsa, rfb, rfsb, Nat.zero_le _, Nat.zero_le _, rfl, HTW.out, HG1.out⟩
  case round =>
    clear HTW HG1
    obtain ⟨k, s, t, f, fs, rf, rfs, hk, hk20, rfl, HTW, HG⟩ := hrel
    by_cases hlt : k < l.length ∧ k < 20
    · have d1 : decide ((k : Int) < (l.length : Int)) = true := decide_eq_true (by omega)
      have d2 : decide ((k : Int) < 20) = true := decide_eq_true (by omega)
      obtain ⟨bb, o, A', c', rfl, hokb, z0, -, -, -, hcl, -, -, hch⟩ := HST.out.at hlt.1
      obtain ⟨ch, hx⟩ : ∃ x, x = (l[k]'hlt.1).ch := ⟨_, rfl⟩
      rw [← hx] at z0 hcl hch
      have kQ : Hid (∀ W, w.grownBy W none → W.cell? ⟨bb, o + k * 4, none⟩ = some (.slice A' ch.length c')) := Lib.hid fun W hW => hW.cell z0 (by simp)
      have kch : Hid (∀ W, w.grownBy W none → Chs W (fun b => b < w.heap.size) A' ch) := Lib.hid fun W hW => hch.keep fun b hb => hW.block b hb (by simp)
      have q0 := kQ.out wr HTW.out.cv.g
      have hsm := small_any (cl := c') (kch.out wr HTW.out.cv.g) (fun b hb => Nat.lt_of_lt_of_le hb HTW.out.cv.g.size) hcl
      obtain ⟨⟨e, s7, t7⟩, hcm⟩ : ∃ r, s.commitT t ch = r := ⟨_, rfl⟩
      have hg7 := HG.out.commit ch hcm
      have HG7 := Lib.hid hg7
      have HCM := Lib.hid hcm
      clear hx z0 hch hg7 hcm
      go_wp2_with fail
      go_at_call 11
      refine hsm.mono ?_
      rintro _ w5 ⟨sb, rfl, hg5, hsb⟩
      have htw5 := HTW.out.grown hg5
      have q0 := kQ.out w5 htw5.cv.g
      have HT5 := Lib.hid htw5
      clear hsm hg5 htw5 HTW
      cases sb with
      | false =>
        go_wp2
        go_ret
        exact ⟨rfl, HT5.out.cv.g⟩
      | true =>
        have h30 : ch.length ≤ 30000 := hsb rfl
        have hc13 := commit_tw (cl := c') HT5.out (by rw [HG.out.nn]; exact HG.out.h.ok) HG.out.h.gd (kch.out w5 HT5.out.cv.g) rfl h30 (by rw [HG.out.L]; show (0 : Nat) ≤ 900000; decide) HCM.out
        clear hsb
        go_wp2_with (first
          | (go_at_call 13
             refine hc13.mono ?_
             rintro _ w7 ⟨rfl, f7, fs7, htw7⟩
             have q0 := kQ.out w7 htw7.cv.g
             have hc14 := rcommit_tw (cl := c') htw7 (by rw [HG.out.nn]; exact HG.out.h.ok) HG.out.h.gd (kch.out w7 htw7.cv.g) rfl h30 (by rw [HG.out.nn]; decide) (by rw [HG.out.L]; show (0 : Nat) ≤ 900000; decide) HCM.out
             clear hc13)
          | (go_at_call 14
             refine hc14.mono ?_
             rintro _ w8 ⟨rfl, rf8, rfs8, htw8⟩
             clear hc14)
          | fail)
        go_roundw
        case rel => exact ⟨k + 1, s7, t7, f7, fs7, rf8, rfs8, by omega, by omega, by go_num, htw8, HG7.out⟩
        case measure => simp [intOf]; omega
    · have hor : (k < l.length ∧ ¬ k < 20) ∨ ¬ k < l.length := by omega
      have hn2 : 64 * s.n = 2048 := by rw [HG.out.nn]
      obtain ⟨K, hK⟩ : ∃ K, K = s.K := ⟨_, rfl⟩
      have hKl : K.length = 2048 := by rw [hK, HG.out.h.len]
      have hkp := kept_any HTW.out.cv.d (by rw [HG.out.L]; show (0 : Nat) ≤ 1048576; decide)
      rw [hn2, ← hK] at hkp
      have HH : Hid (Hld 32 K t) := Lib.hid (by rw [hK]; exact HG.out.h)
      have hrd := HTW.out.rd
      obtain ⟨gk, Av, Bv, vs, b1, b2, -, -, -, -, -⟩ := hrd
      rw [← hK] at b2
      have c1 : wr.cell? ⟨rdp, 1, none⟩ = some (.slice (some ⟨gk, 0, none⟩) (64 * s.n) (64 * s.n)) := b1.get 1 _ rfl
      rw [hn2] at c1
      have hrs := HTW.out.rs
      obtain ⟨Ar, crr, r1, -, -, -⟩ := hrs
      have c2 : wr.cell? ⟨rsp, 1, none⟩ = some (.int .i64 (t.hf : Int)) := r1.get 1 _ rfl
      have c3 : wr.cell? ⟨rsp, 3, none⟩ = some (.int .i64 (t.c : Int)) := r1.get 3 _ rfl
      have kC : Hid (∀ W, wr.grownBy W none → W.cell? ⟨rdp, 1, none⟩ = some (.slice (some ⟨gk, 0, none⟩) 2048 2048) ∧ W.cell? ⟨rsp, 1, none⟩ = some (.int .i64 (t.hf : Int)) ∧ W.cell? ⟨rsp, 3, none⟩ = some (.int .i64 (t.c : Int)) ∧ Blk W gk 5 (u8s K)) := Lib.hid fun W hW => ⟨hW.cell c1 (by simp), hW.cell c2 (by simp), hW.cell c3 (by simp), b2.grown hW (by simp)⟩
      have HK := Lib.hid hK
      clear hlt b1 b2 c1 c2 c3 r1 hK
      rcases hor with ⟨h1_, h2_⟩ | h1_
      · go_wp2_with fail
        go_at_call 22
        refine hkp.mono ?_
        rintro _ wb2 ⟨gi, rfl, hbi, hgi, hgrb⟩
        have HGB := Lib.hid hgrb
        have HTB := Lib.hid (HTW.out.grown hgrb)
        obtain ⟨c1, c2, c3, b2⟩ := kC.out wb2 hgrb
        have hby := bytes_any (c := 2048) (d := 2048) (Blk.byt (pre := []) (post := []) (xs := K) (o := 0) (by simpa using hbi) rfl) (Blk.byt (pre := []) (post := []) (xs := K) (o := 0) (by simpa using b2) rfl)
        rw [show decide (K = K) = true from decide_eq_true rfl, hKl] at hby
        have HBI := Lib.hid hbi
        have kI : Hid (∀ W (i : Nat) (u : UInt8), wb2.grownBy W none → K[i]? = some u → W.cell? ⟨gi, i, none⟩ = some (.int .u8 (u.toNat : Int))) := Lib.hid fun W i u hW hu => by
          have := (HBI.out.grown hW (by simp)).get i (.int .u8 (u.toNat : Int)) (by simp [u8s, hu])
          exact this
        clear hbi b2 hkp hgrb
        by_cases hneg : at_ < 0
        · have dn : decide (at_ < 0) = true := decide_eq_true hneg
          go_wp2_with (first | (go_at_call 21; (with_reducible refine hby.mono ?_); rintro _ _ ⟨rfl, rfl⟩) | fail)
          go_ret
          exact ⟨rfl, HTB.out.cv.g⟩
        have dn : decide (at_ < 0) = false := decide_eq_false hneg
        by_cases hy0 : yv = 0
        · have dy : ((yv.toNat : Int) == 0) = true := by rw [hy0]; rfl
          have dy2 : (yv.toNat : Int) = 0 := by rw [hy0]; rfl
          go_wp2_with (first | (go_at_call 21; (with_reducible refine hby.mono ?_); rintro _ _ ⟨rfl, rfl⟩) | fail)
          go_ret
          exact ⟨rfl, HTB.out.cv.g⟩
        have dy2 : ¬ (yv.toNat : Int) = 0 := fun h => hy0 (UInt8.toNat_inj.1 (by show yv.toNat = 0; omega))
        have dy : ((yv.toNat : Int) == 0) = false := by simpa using dy2
        go_wp2_with (first | (go_at_call 21; (with_reducible refine hby.mono ?_); rintro _ _ ⟨rfl, rfl⟩) | fail)
        obtain ⟨i3, hi3, hz30, hz31, hz32⟩ := info_parts Tryz.info3
        have HNIL := Lib.hid (Pls.nil wb2.heap.size wb2 K)
        go_loopw [15, 16, 17] (fun v x _ wr => ∃ (half : Nat) (ps : List Nat), half ≤ 2 ∧ x = .int .i64 (half : Int) ∧ Hid (Pls wb2.heap.size wr K v ps) ∧ ps.length ≤ 24 * half ∧ Hid (t.hf < half → ps ≠ []) ∧ Hid (wb2.grownBy wr none)) (fun _ x _ _ => 2 - (intOf x).toNat)
        case atStart => exact ⟨0, [], by decide, rfl, HNIL.out, by simp, Lib.hid (fun h => absurd h (by omega)), Lib.hid (World.grownBy.refl _ _)⟩
        case round =>
          clear HNIL
          obtain ⟨half, ps, hhalf, rfl, HP, hpl, HNE, HG2⟩ := hrel
          obtain ⟨v0_, rfl⟩ : ∃ v : Value, v = u15 := ⟨_, rfl⟩
          by_cases hh2 : half < 2
          · have hm1 : half * 16 ≤ 16 := by omega
            have dh : decide ((half : Int) < 2) = true := decide_eq_true (by omega)
            obtain ⟨xh, hxh⟩ : ∃ xh, K[1024 * half]? = some xh := ⟨_, List.getElem?_eq_getElem (by omega)⟩
            have e64 : 64 * (half * (32 / 2)) = 1024 * half := by omega
            have HX := Lib.hid hxh
            have w1_ : IntKind.i64.wrap (1024 * (half : Int)) = 1024 * (half : Int) := IntWalk.i64_in _ (by omega)
            have n1_ : (0 : Int) ≤ 1024 * (half : Int) := by omega
            have n2_ : 1024 * (half : Int) < 2048 := by omega
            have n3_ : (1024 * (half : Int)).toNat = 1024 * half := by omega
            clear hxh
            go_wp2
            go_loopw [15, 17] (fun v x wr => ∃ (i : Nat) (ps : List Nat), i ≤ 24 ∧ x = .int .i64 (i : Int) ∧ Hid (Pls wb2.heap.size wr K v ps) ∧ ps.length ≤ 24 * half + i ∧ Hid ((t.hf < half ∨ (t.hf = half ∧ 0 < i)) → ps ≠ []) ∧ Hid (wb2.grownBy wr none)) (fun _ x _ => 24 - (intOf x).toNat)
            case atStart => exact ⟨0, ps, by decide, rfl, HP.out, by omega, Lib.hid (fun h => HNE.out (by omega)), HG2.out⟩
            case round =>
              clear HP HNE HG2 hpl
              obtain ⟨i, ps, hi24, rfl, HP, hpl, HNE, HG2⟩ := hrel
              obtain ⟨v, rfl⟩ : ∃ v : Value, v = u15 := ⟨_, rfl⟩
              have x0 : wr.cell? ⟨gi, 1024 * half, none⟩ = some (.int .u8 (xh.toNat : Int)) := kI.out wr _ xh HG2.out HX.out
              have hgs := HG2.out.size
              by_cases hc : i < 24 ∧ xh ≠ 0
              · obtain ⟨hc1, hc2⟩ := hc
                have di : decide ((i : Int) < 24) = true := decide_eq_true (by omega)
                have xN : ¬ (xh.toNat : Int) = 0 := fun h => hc2 (UInt8.toNat_inj.1 (by show xh.toNat = 0; omega))
                have xB : ((xh.toNat : Int) != 0) = true := by simpa using xN
                have w2_ : IntKind.i64.wrap (1024 * (half : Int) + (i : Int)) = 1024 * (half : Int) + (i : Int) := IntWalk.i64_in _ (by omega)
                go_wp2_with (first
                  | (at_builtin
                     refine wpList_append_lies _ rfl _ _ 41 rfl wb2.heap.size 3 i3 _ 1 8 Tryz.underlying41 hi3 hz30 hz31 hz32 rfl (by omega) v ps.length (pls ps) rfl (HP.out.row.alloc _) ⟨wr.heap.size, 0, none⟩ 1 1 [.int .i64 (1024 * (half : Int) + (i : Int))] rfl rfl (cell_one_new _ _ _) (by simp [Value.oneCell']) (by omega) (by unfold maxLen; omega) (by omega) (by rw [World.size_alloc]; omega) (wr.heap.size + 1) (by simp) ?_
                     intro g9 cap9 w9 hown9 hgr9 hat9 hlt9)
                  | fail)
                have hgo : Hid (wb2.grownBy w9 none) := Lib.hid (World.grownBy.andThen (HG2.out.trans (World.grownBy_alloc wr _ none)) hgr9 (fun j hj => .inl (HP.out.row.lt j hj).1))
                have hpo : Hid (Pls wb2.heap.size w9 K (.slice (some ⟨g9, 0, none⟩) (ps.length + 1) cap9) (ps ++ [1024 * half + i])) := Lib.hid (Pls.snoc (by omega) hown9 HP.out.ok (by
                  have := HH.out.plc_head (half := half) (by omega) (by rw [e64, HX.out]; intro h; exact hc2 (Option.some.inj h)) hc1
                  rwa [e64] at this))
                clear hown9 hgr9 hat9 hlt9
                go_roundw
                case rel => exact ⟨i + 1, _, by omega, by go_num, hpo, by simp; omega, Lib.hid (fun _ => by simp), hgo⟩
                case measure => simp [intOf]; omega
              · by_cases hi0 : i < 24
                · have hx0 : xh = 0 := Classical.byContradiction fun h => hc ⟨hi0, h⟩
                  have hne : t.hf ≠ half := fun e => by
                    have h1 := HH.out.first
                    rw [e, e64, HX.out, hx0] at h1
                    exact absurd (Option.some.inj h1) (by decide)
                  have HNE2 : Hid (t.hf < half + 1 → ps ≠ []) := Lib.hid fun h => HNE.out (.inl (by omega))
                  rw [hx0] at x0
                  clear hc hx0 hne HX
                  go_wp2
                  go_roundw
                  case rel => exact ⟨half + 1, ps, by omega, by go_num, HP.out, by omega, HNE2.out, HG2.out⟩
                  case measure => simp [intOf]; omega
                · have HNE2 : Hid (t.hf < half + 1 → ps ≠ []) := Lib.hid fun h => HNE.out (by omega)
                  clear hc
                  go_wp2
                  go_roundw
                  case rel => exact ⟨half + 1, ps, by omega, by go_num, HP.out, by omega, HNE2.out, HG2.out⟩
                  case measure => simp [intOf]; omega
          · obtain rfl : half = 2 := by omega
            have hhf := HH.out.ok.hf
            have hne := HNE.out (by omega)
            have HN2 := Lib.hid hne
            obtain ⟨-, c2, c3, -⟩ := kC.out wr (HGB.out.trans HG2.out)
            have w3_ : IntKind.i64.wrap (1024 * (t.hf : Int)) = 1024 * (t.hf : Int) := IntWalk.i64_in _ (by omega)
            have w4_ : IntKind.i64.wrap (1024 * (t.hf : Int) + 64) = 1024 * (t.hf : Int) + 64 := IntWalk.i64_in _ (by omega)
            obtain ⟨b16, hb16⟩ : ∃ b, b = t.hf * 16 := ⟨_, rfl⟩
            have hb16' : b16 ≤ 16 := by omega
            have HB16 := Lib.hid hb16
            have hcT := HH.out.ok.c
            have hnT := HH.out.ok.n
            clear hne
            have hsz2 := HG2.out.size
            go_wp2
            go_loopw [15, 18, 19, 20, 21] (fun v x18 x19 _ _ wr => ∃ (k a : Nat) (L : List (List UInt8 × List UInt8)) (ps : List Nat), Hid (Rdg 32 K t k a L) ∧ x19 = .int .i64 (k : Int) ∧ x18 = .int .i64 ((64 * (b16 + a) : Nat) : Int) ∧ Hid (Pls wb2.heap.size wr K v ps) ∧ Hid (ps ≠ []) ∧ ps.length ≤ 48 + 64 * a ∧ Hid (wb2.grownBy wr none)) (fun _ _ x19 _ _ _ => t.c - (intOf x19).toNat)
            case atStart => exact ⟨0, 1, [], ps, Rdg.start HH.out, rfl, congrArg (Value.int .i64) (by have := HB16.out; omega), HP.out, HN2.out, by omega, HG2.out⟩
            case round =>
              clear HP hpl HNE HG2 HN2 hsz2
              obtain ⟨k, a, L, ps, HR, rfl, rfl, HP, HNE, hpl, HG2⟩ := hrel
              obtain ⟨v, rfl⟩ : ∃ v : Value, v = u15 := ⟨_, rfl⟩
              obtain ⟨-, c2, c3, -⟩ := kC.out wr (HGB.out.trans HG2.out)
              have hkc := HR.out.kc
              have ha1 := HR.out.a1
              have hle := loadT_end _ _ _ _ _ HR.out.load
              have hgs := HG2.out.size
              have e16 : t.hf * (32 / 2) = b16 := by have := HB16.out; omega
              by_cases hk : k < t.c
              · obtain ⟨l', hr, hnx⟩ := HR.out.next hk
                have hen := readT_end hr
                rw [e16] at hen hnx
                obtain ⟨sz, hsz⟩ : ∃ sz, sz = nb ((blk K (b16 + a)).take 4) := ⟨_, rfl⟩
                rw [← hsz] at hen hnx
                obtain ⟨M, hM⟩ : ∃ M, M = nblk (8 + sz) := ⟨_, rfl⟩
                rw [← hM] at hen hnx
                have hM8 : 8 + sz ≤ 64 * M := by rw [hM]; exact (nblk_le _).1
                have hMI : (8 + (sz : Int) + 63) / 64 = (M : Int) := by rw [hM]; unfold nblk; omega
                have hMI2 : (8 + (sz : Int) + 63).tdiv 64 = (M : Int) := by rw [Int.tdiv_eq_ediv_of_nonneg (by omega)]; exact hMI
                obtain ⟨FR, hFR⟩ : ∃ FR, FR = 64 * (b16 + a) := ⟨_, rfl⟩
                have hb16b : b16 + 16 ≤ 32 := by omega
                have hbl : (blk K (b16 + a)).length = 64 := blk_length (n := 32) hKl (by omega)
                obtain ⟨b0, b1, b2, b3, hb4⟩ : ∃ b0 b1 b2 b3, (blk K (b16 + a)).take 4 = [b0, b1, b2, b3] := by
                  match blk K (b16 + a), hbl with
                  | b0 :: b1 :: b2 :: b3 :: r, _ => exact ⟨b0, b1, b2, b3, rfl⟩
                  | [], h => simp at h
                  | [_], h => simp at h
                  | [_, _], h => simp at h
                  | [_, _, _], h => simp at h
                have hsz4 : sz = ((b0.toNat * 256 + b1.toNat) * 256 + b2.toNat) * 256 + b3.toNat := by rw [hsz, hb4]; simp [nb]
                have hxi : ∀ (i : Nat) (u : UInt8), i < 4 → ((blk K (b16 + a)).take 4)[i]? = some u → wr.cell? ⟨gi, FR + i, none⟩ = some (.int .u8 (u.toNat : Int)) := fun i u hi hu => by
                  rw [List.getElem?_take, if_pos hi, blk_get _ _ _ (by omega), ← hFR] at hu
                  exact kI.out wr _ u HG2.out hu
                have x0 : wr.cell? ⟨gi, FR, none⟩ = some (.int .u8 (b0.toNat : Int)) := hxi 0 b0 (by decide) (by rw [hb4]; rfl)
                have x1 := hxi 1 b1 (by decide) (by rw [hb4]; rfl)
                have x2 := hxi 2 b2 (by decide) (by rw [hb4]; rfl)
                have x3 := hxi 3 b3 (by decide) (by rw [hb4]; rfl)
                have t0 := b0.toNat_lt
                have t1 := b1.toNat_lt
                have t2 := b2.toNat_lt
                have t3 := b3.toNat_lt
                have f0 : FR + 64 ≤ 2048 := by omega
                have g1_ : IntKind.i64.wrap ((FR : Int) + 1) = (FR : Int) + 1 := IntWalk.i64_in _ (by omega)
                have g2_ : IntKind.i64.wrap ((FR : Int) + 2) = (FR : Int) + 2 := IntWalk.i64_in _ (by omega)
                have g3_ : IntKind.i64.wrap ((FR : Int) + 3) = (FR : Int) + 3 := IntWalk.i64_in _ (by omega)
                have j1_ : ((FR : Int) + 1).toNat = FR + 1 := by omega
                have j2_ : ((FR : Int) + 2).toNat = FR + 2 := by omega
                have j3_ : ((FR : Int) + 3).toNat = FR + 3 := by omega
                have HFR := Lib.hid hFR
                have HSZ := Lib.hid hsz
                have HS4 := Lib.hid hsz4
                have HNX := Lib.hid hnx
                have HMM := Lib.hid hM
                rw [← hFR]
                have dk : decide ((k : Int) < (t.c : Int)) = true := decide_eq_true (by omega)
                have E16 := Lib.hid e16
                clear hr hnx hsz hM hFR hbl hb4 hsz4 hxi e16
                go_wp2_with fail
                go_quiet (fail)
                rw [show (b0.toNat : Int) * 16777216 + (b1.toNat : Int) * 65536 + (b2.toNat : Int) * 256 + (b3.toNat : Int) = (sz : Int) by have := HS4.out; omega]
                obtain ⟨wD, hwD⟩ : ∃ X : World, X = wr.drewN nq := ⟨_, rfl⟩
                have hgD : wr.grownBy wD none := by rw [hwD]; exact grown_drewN nq
                rw [← hwD]
                have HPD : Hid (Pls wb2.heap.size wD K v ps) := Lib.hid (HP.out.grown hgD)
                have HGD := Lib.hid (HG2.out.trans hgD)
                have ws_ : IntKind.i64.wrap (8 + (sz : Int)) = 8 + (sz : Int) := IntWalk.i64_in _ (by omega)
                clear hwD x0 x1 x2 x3 t0 t1 t2 t3 c2 c3 hgD HP HG2 hgs g1_ g2_ g3_ j1_ j2_ j3_
                go_wp2
                go_loopw [15, 21] (fun v x wr => ∃ (i : Nat) (ps : List Nat), 4 ≤ i ∧ i ≤ 8 + sz ∧ x = .int .i64 (i : Int) ∧ Hid (Pls wb2.heap.size wr K v ps) ∧ Hid (ps ≠ []) ∧ ps.length + 4 ≤ 48 + 64 * a + i ∧ Hid (wb2.grownBy wr none)) (fun _ x _ => 8 + sz - (intOf x).toNat)
                case atStart => exact ⟨4, ps, by decide, by omega, rfl, HPD.out, HNE.out, by omega, HGD.out⟩
                case round =>
                  clear HPD HGD hpl HNE
                  obtain ⟨i, ps, hi4, hi8, rfl, HP, HNE, hpl, HG2⟩ := hrel
                  obtain ⟨v, rfl⟩ : ∃ v : Value, v = u15 := ⟨_, rfl⟩
                  have hgs := HG2.out.size
                  by_cases hc : i < 8 + sz
                  · have wi_ : IntKind.i64.wrap ((FR : Int) + (i : Int)) = (FR : Int) + (i : Int) := IntWalk.i64_in _ (by omega)
                    have di : decide ((i : Int) < 8 + (sz : Int)) = true := decide_eq_true (by omega)
                    go_wp2_with (first
                      | (at_builtin
                         refine wpList_append_lies _ rfl _ _ 41 rfl wb2.heap.size 3 i3 _ 1 8 Tryz.underlying41 hi3 hz30 hz31 hz32 rfl (by omega) v ps.length (pls ps) rfl (HP.out.row.alloc _) ⟨wr.heap.size, 0, none⟩ 1 1 [.int .i64 ((FR : Int) + (i : Int))] rfl rfl (cell_one_new _ _ _) (by simp [Value.oneCell']) (by omega) (by unfold maxLen; omega) (by omega) (by rw [World.size_alloc]; omega) (wr.heap.size + 1) (by simp) ?_
                         intro g9 cap9 w9 hown9 hgr9 hat9 hlt9)
                      | fail)
                    have hgo : Hid (wb2.grownBy w9 none) := Lib.hid (World.grownBy.andThen (HG2.out.trans (World.grownBy_alloc wr _ none)) hgr9 (fun j hj => .inl (HP.out.row.lt j hj).1))
                    have hpo : Hid (Pls wb2.heap.size w9 K (.slice (some ⟨g9, 0, none⟩) (ps.length + 1) cap9) (ps ++ [FR + i])) := Lib.hid (Pls.snoc (by omega) hown9 HP.out.ok (by
                      have := HR.out.plc HH.out (by decide) hk hi4 (by rw [E16.out, ← HSZ.out]; exact hc)
                      rwa [E16.out, ← HFR.out] at this))
                    clear hown9 hgr9 hat9 hlt9
                    go_roundw
                    case rel =>
                      (repeat apply Exists.intro)
                      refine ⟨⟨i + 1, _, by omega, by omega, ?_, hpo, Lib.hid (by simp), ?_, hgo⟩, rfl⟩
                      · exact congrArg (Value.int .i64) (by omega)
                      · simp; omega
                    case measure => simp [intOf]; omega
                  · have wj_ : IntKind.i64.wrap (8 + (sz : Int) + 63) = 8 + (sz : Int) + 63 := IntWalk.i64_in _ (by omega)
                    have wk_ : IntKind.i64.wrap ((M : Int) * 64) = (M : Int) * 64 := IntWalk.i64_in _ (by omega)
                    have wl_ : IntKind.i64.wrap ((FR : Int) + (M : Int) * 64) = (FR : Int) + (M : Int) * 64 := IntWalk.i64_in _ (by omega)
                    have di : decide ((i : Int) < 8 + (sz : Int)) = false := decide_eq_false (by omega)
                    have di2 : ¬ (i : Int) < 8 + (sz : Int) := by omega
                    go_wp2
                    go_roundw
                    case rel => exact ⟨k + 1, a + M, _, ps, HNX.out, by go_num, congrArg (Value.int .i64) (by have := HFR.out; omega), HP.out, HNE.out, by omega, HG2.out⟩
                    case measure => simp [intOf]; omega
              · have dk : decide ((k : Int) < (t.c : Int)) = false := decide_eq_false (by omega)
                have hne := HNE.out
                have hps : 0 < ps.length := List.length_pos_iff.2 hne
                have hn16 := HH.out.ok.n
                have hps2 : ps.length ≤ 48 + 64 * 17 := by omega
                obtain ⟨gp, cp, hvf, hgp, hgp2⟩ := HP.out.row.form hps
                obtain ⟨n, hn⟩ : ∃ n, n = ps.length := ⟨_, rfl⟩
                obtain ⟨r, hr⟩ : ∃ r : Nat, r = (at_ % (n : Int)).toNat := ⟨_, rfl⟩
                have hrI : at_ % (n : Int) = (r : Int) := by rw [hr]; exact (Int.toNat_of_nonneg (Int.emod_nonneg _ (by omega))).symm
                have hrI2 : at_.tmod (n : Int) = (r : Int) := by rw [Int.tmod_eq_emod_of_nonneg (by omega)]; exact hrI
                have hrn : r < n := by
                  have := Int.emod_lt_of_pos at_ (show (0 : Int) < (n : Int) by omega)
                  omega
                obtain ⟨p, hp⟩ : ∃ p, p = ps[r]'(by omega) := ⟨_, rfl⟩
                have hpp : Plc 32 K p := by rw [hp]; exact HP.out.ok _ (List.getElem_mem _)
                have x9 : wr.cell? ⟨gp, r, none⟩ = some (.int .i64 (p : Int)) := by
                  have := HP.out.row.cells (g := gp) (by rw [hvf]; rfl) r (.int .i64 (p : Int)) (by rw [pls, List.getElem?_map, List.getElem?_eq_getElem (by omega), hp]; rfl)
                  rwa [Addr.add_mid, Nat.zero_add] at this
                have hp2 := hpp.1
                obtain ⟨I6, hI6⟩ : ∃ I6, I6 = p / 64 := ⟨_, rfl⟩
                obtain ⟨J, hJ⟩ : ∃ J, J = p % 64 := ⟨_, rfl⟩
                have hi32 : I6 < 32 := by omega
                have hj64 : J < 64 := by omega
                have a1_ : (p : Int).tdiv 64 = (I6 : Int) := by rw [Int.tdiv_eq_ediv_of_nonneg (by omega)]; omega
                have a2_ : (p : Int) / 64 = (I6 : Int) := by omega
                have a3_ : (p : Int).tmod 64 = (J : Int) := by rw [Int.tmod_eq_emod_of_nonneg (by omega)]; omega
                have a4_ : (p : Int) % 64 = (J : Int) := by omega
                have a5_ : IntKind.i64.wrap ((I6 : Int) * 64) = (I6 : Int) * 64 := IntWalk.i64_in _ (by omega)
                have a6_ : IntKind.i64.wrap ((I6 : Int) * 64 + 64) = (I6 : Int) * 64 + 64 := IntWalk.i64_in _ (by omega)
                have a7_ : ((I6 : Int) * 64).toNat = I6 * 64 := by omega
                have a8_ : ((I6 : Int) * 64 + 64).toNat = I6 * 64 + 64 := by omega
                have a9_ : I6 * 64 + 64 - I6 * 64 = 64 := by omega
                have aa_ : ¬ 2048 = I6 * 64 := by omega
                have ab_ : (0 : Int) ≤ (I6 : Int) * 64 := by omega
                have ac_ : (I6 : Int) * 64 ≤ (I6 : Int) * 64 + 64 := by omega
                have ad_ : (I6 : Int) * 64 + 64 ≤ 2048 := by omega
                have ae_ : I6 * 64 ≤ 2048 := by omega
                obtain ⟨bb, hbb⟩ : ∃ bb, bb = blk K I6 := ⟨_, rfl⟩
                have hbl : bb.length = 64 := by rw [hbb]; exact blk_length (n := 32) hKl hi32
                obtain ⟨x, hx⟩ : ∃ x, x = bb[J]'(by omega) := ⟨_, rfl⟩
                have hKp : K[p]? = some x := by
                  have := blk_get K I6 J hj64
                  rw [← hbb, List.getElem?_eq_getElem (by omega), ← hx, show 64 * I6 + J = p by omega] at this
                  exact this.symm
                have hxv : K[p]? ≠ some (x ^^^ yv) := by
                  rw [hKp]
                  intro h
                  have h := Option.some.inj h
                  apply hy0
                  have h2 : x ^^^ (x ^^^ yv) = x ^^^ x := by rw [← h]
                  rwa [← UInt8.xor_assoc, UInt8.xor_self, UInt8.zero_xor] at h2
                have hyb : Byt wb2 (fun b => b = gi) (some ⟨gi, I6 * 64, none⟩) bb := fun j hj => by
                  refine ⟨_, rfl, rfl, ?_⟩
                  rw [Addr.add_mid]
                  refine kI.out wb2 _ _ (World.grownBy.refl _ _) ?_
                  have := blk_get K I6 j (by omega)
                  rw [← hbb, List.getElem?_eq_getElem hj] at this
                  rw [show I6 * 64 + j = 64 * I6 + j by omega]
                  exact this.symm
                have hturn := HG.out.turned (p := p) (v := x ^^^ yv) (by decide) (by rw [← HK.out]; exact hpp) (by rw [← HK.out]; exact hxv)
                rw [← HK.out, ← hI6, ← hJ, ← hbb] at hturn
                have HTU := Lib.hid hturn
                have hgil : gi < wb2.heap.size := HBI.out.lt
                have hyR : Byt (wr.alloc (.cells #[] 5)) (fun b => b = gi) (some ⟨gi, I6 * 64, none⟩) bb := hyb.keep fun b hb => (HG2.out.trans (World.grownBy_alloc wr (.cells #[] 5) none)).block b (by rw [hb]; exact hgil) (by simp)
                have HXO : Hid (bits .xor .u8 (x.toNat : Int) (yv.toNat : Int) = ((x ^^^ yv).toNat : Int)) := Lib.hid (by rw [u8_xor_nat _ _ x.toNat_lt yv.toNat_lt, UInt8.toNat_xor])
                obtain ⟨i0, hi, hz0, hz1, hz2⟩ := info_parts Tryz.info5
                have hxo : bb[J]? = some x := by rw [List.getElem?_eq_getElem (by omega), hx]
                have HXJ := Lib.hid hxo
                have HBL := Lib.hid hbl
                have HTR := Lib.hid (HTB.out.grown HG2.out)
                subst hvf
                rw [← hn]
                have hn0 : 0 < n := by omega
                have HNN := Lib.hid hn
                clear hp hbb hturn hyb hpp hxv hKp hI6 hJ hr hxo hx hbl hne hgp hgp2 c2 hle
                clear hn hps hps2
                go_wp2_with (at_builtin; refine wpList_append_byt _ rfl _ _ 40 rfl wr.heap.size i0 (.int .u8 0) Tryz.underlying40 hi hz0 hz1 hz2 rfl _ 0 [] rfl (World.ownsRow_lit wr #[] 0 (Nat.le_refl _) (Nat.zero_le _) rfl) _ (some ⟨gi, I6 * 64, none⟩) _ bb (by rw [HBL.out]; rfl) hyR (by rw [HBL.out]; decide) (by simp) ?_)
                intro v' w4 hown hgrow hat4
                have hown' : w4.ownsRow wr.heap.size 5 1 v' 64 (u8s bb) := by simpa [HBL.out] using hown
                have hg4 : wr.grownBy w4 none := by
                  refine World.grownBy.andThen (row' := some wr.heap.size) (World.grownBy_alloc wr (.cells #[] 5) none) hgrow (by rintro j ⟨⟩; exact .inl (Nat.le_refl _))
                obtain ⟨gb, cb, tl, rfl, hgb, hbk, hnc, hcm⟩ := own_tail hown' (by omega)
                have xJ : w4.cell? ⟨gb, J, none⟩ = some (.int .u8 (x.toNat : Int)) := hbk.get J _ (by rw [List.getElem?_append_left (by rw [u8s_length, HBL.out]; omega)]; simp [u8s, HXJ.out])
                clear hown hown' hat4 hgrow
                simp only [Act.put, List.setIfInBounds_toArray, List.set_cons_zero, List.set_cons_succ]
                go_wp2_with (first
                  | (refine wpList_store_cell rfl 5 _ _ rfl size5r gb J (.int .u8 (bits .xor .u8 (x.toNat : Int) (yv.toNat : Int))) rfl rfl rfl _ _ hbk (by rw [List.length_append, u8s_length, HBL.out]; omega) ?_
                     intro w5 k5 r5
                     have hbk5 : Blk w5 gb 5 (u8s (bb.set J (x ^^^ yv)) ++ tl) := by
                       have := k5.out
                       rw [List.set_append_left _ _ (by rw [u8s_length, HBL.out]; omega), HXO.out, u8s_set] at this
                       exact this
                     have hg5 : wr.grownBy w5 none := World.grownBy.andThen (row' := some gb) hg4 r5.out.grown (by rintro j ⟨⟩; exact .inl hgb)
                     have HT5 := Lib.hid (HTR.out.grown hg5)
                     have hgbl : gb < w5.heap.size := hbk5.lt
                     have hwr := write_any (c := cb) HT5.out.cv.d (i := I6) (by rw [HG.out.nn]; exact hi32) (Blk.byt (pre := []) hbk5 rfl) (by rw [List.length_set, HBL.out]) rfl (fun j hj => by rw [hj]; exact ⟨hgbl, fun h => by have := HTR.out.cv.d.lt _ h; omega⟩) (by rw [HG.out.L]; show (0 : Nat) ≤ 1048576; decide)
                     rw [show s.wroteE = 0 by unfold St.wroteE St.goes; rw [HG.out.d, HG.out.f]; rfl] at hwr
                     clear hbk5 k5 xJ)
                  | fail)
                dsimp only [Act.put]
                go_wp2_with fail
                go_at_call 24
                rw [show ((0 : Nat) : Int) = 0 from rfl] at hwr
                refine hwr.mono ?_
                rintro _ w6 ⟨rfl, f6, hd6, hf6, hm6⟩
                have hop := open_any hd6 (by
                  unfold St.wrote
                  split <;> simp [St.write, St.burn, HG.out.L])
                rw [HTU.out] at hop
                have hg6 : w.grownBy w6 none := hm6.grown HT5.out.cv.g HT5.out.cv.fn
                have hfn6 : ∀ k, f6 k → w.heap.size ≤ k := fun k hk => by
                  rcases hf6 k hk with h | h
                  · exact HT5.out.cv.fn k h
                  · exact Nat.le_trans HT5.out.cv.g.size h.1
                clear hwr
                have hop2 : Calls Tryz.prog 9 #[.pointer (some ⟨dp, 0, none⟩)] w6 fun r w' => r = .returned (.tuple #[.pointer none, .int .i64 160]) ∧ Md f6 w6 w' := hop.mono fun _ _ ⟨_, _, _, hm, hr⟩ => ⟨hr, hm⟩
                dsimp only
                go_wp2_with fail
                go_at_call 9
                refine hop2.mono ?_
                rintro _ w7 ⟨rfl, hm7⟩
                dsimp only
                go_wp2
                go_ret
                exact ⟨rfl, hm7.grown hg6 hfn6⟩
      · go_wp2_with fail
        go_at_call 22
        refine hkp.mono ?_
        rintro _ wb2 ⟨gi, rfl, hbi, hgi, hgrb⟩
        have HGB := Lib.hid hgrb
        have HTB := Lib.hid (HTW.out.grown hgrb)
        obtain ⟨c1, c2, c3, b2⟩ := kC.out wb2 hgrb
        have hby := bytes_any (c := 2048) (d := 2048) (Blk.byt (pre := []) (post := []) (xs := K) (o := 0) (by simpa using hbi) rfl) (Blk.byt (pre := []) (post := []) (xs := K) (o := 0) (by simpa using b2) rfl)
        rw [show decide (K = K) = true from decide_eq_true rfl, hKl] at hby
        have HBI := Lib.hid hbi
        have kI : Hid (∀ W (i : Nat) (u : UInt8), wb2.grownBy W none → K[i]? = some u → W.cell? ⟨gi, i, none⟩ = some (.int .u8 (u.toNat : Int))) := Lib.hid fun W i u hW hu => by
          have := (HBI.out.grown hW (by simp)).get i (.int .u8 (u.toNat : Int)) (by simp [u8s, hu])
          exact this
        clear hbi b2 hkp hgrb
        by_cases hneg : at_ < 0
        · have dn : decide (at_ < 0) = true := decide_eq_true hneg
          go_wp2_with (first | (go_at_call 21; (with_reducible refine hby.mono ?_); rintro _ _ ⟨rfl, rfl⟩) | fail)
          go_ret
          exact ⟨rfl, HTB.out.cv.g⟩
        have dn : decide (at_ < 0) = false := decide_eq_false hneg
        by_cases hy0 : yv = 0
        · have dy : ((yv.toNat : Int) == 0) = true := by rw [hy0]; rfl
          have dy2 : (yv.toNat : Int) = 0 := by rw [hy0]; rfl
          go_wp2_with (first | (go_at_call 21; (with_reducible refine hby.mono ?_); rintro _ _ ⟨rfl, rfl⟩) | fail)
          go_ret
          exact ⟨rfl, HTB.out.cv.g⟩
        have dy2 : ¬ (yv.toNat : Int) = 0 := fun h => hy0 (UInt8.toNat_inj.1 (by show yv.toNat = 0; omega))
        have dy : ((yv.toNat : Int) == 0) = false := by simpa using dy2
        go_wp2_with (first | (go_at_call 21; (with_reducible refine hby.mono ?_); rintro _ _ ⟨rfl, rfl⟩) | fail)
        obtain ⟨i3, hi3, hz30, hz31, hz32⟩ := info_parts Tryz.info3
        have HNIL := Lib.hid (Pls.nil wb2.heap.size wb2 K)
        go_loopw [15, 16, 17] (fun v x _ wr => ∃ (half : Nat) (ps : List Nat), half ≤ 2 ∧ x = .int .i64 (half : Int) ∧ Hid (Pls wb2.heap.size wr K v ps) ∧ ps.length ≤ 24 * half ∧ Hid (t.hf < half → ps ≠ []) ∧ Hid (wb2.grownBy wr none)) (fun _ x _ _ => 2 - (intOf x).toNat)
        case atStart => exact ⟨0, [], by decide, rfl, HNIL.out, by simp, Lib.hid (fun h => absurd h (by omega)), Lib.hid (World.grownBy.refl _ _)⟩
        case round =>
          clear HNIL
          obtain ⟨half, ps, hhalf, rfl, HP, hpl, HNE, HG2⟩ := hrel
          obtain ⟨v0_, rfl⟩ : ∃ v : Value, v = u15 := ⟨_, rfl⟩
          by_cases hh2 : half < 2
          · have hm1 : half * 16 ≤ 16 := by omega
            have dh : decide ((half : Int) < 2) = true := decide_eq_true (by omega)
            obtain ⟨xh, hxh⟩ : ∃ xh, K[1024 * half]? = some xh := ⟨_, List.getElem?_eq_getElem (by omega)⟩
            have e64 : 64 * (half * (32 / 2)) = 1024 * half := by omega
            have HX := Lib.hid hxh
            have w1_ : IntKind.i64.wrap (1024 * (half : Int)) = 1024 * (half : Int) := IntWalk.i64_in _ (by omega)
            have n1_ : (0 : Int) ≤ 1024 * (half : Int) := by omega
            have n2_ : 1024 * (half : Int) < 2048 := by omega
            have n3_ : (1024 * (half : Int)).toNat = 1024 * half := by omega
            clear hxh
            go_wp2
            go_loopw [15, 17] (fun v x wr => ∃ (i : Nat) (ps : List Nat), i ≤ 24 ∧ x = .int .i64 (i : Int) ∧ Hid (Pls wb2.heap.size wr K v ps) ∧ ps.length ≤ 24 * half + i ∧ Hid ((t.hf < half ∨ (t.hf = half ∧ 0 < i)) → ps ≠ []) ∧ Hid (wb2.grownBy wr none)) (fun _ x _ => 24 - (intOf x).toNat)
            case atStart => exact ⟨0, ps, by decide, rfl, HP.out, by omega, Lib.hid (fun h => HNE.out (by omega)), HG2.out⟩
            case round =>
              clear HP HNE HG2 hpl
              obtain ⟨i, ps, hi24, rfl, HP, hpl, HNE, HG2⟩ := hrel
              obtain ⟨v, rfl⟩ : ∃ v : Value, v = u15 := ⟨_, rfl⟩
              have x0 : wr.cell? ⟨gi, 1024 * half, none⟩ = some (.int .u8 (xh.toNat : Int)) := kI.out wr _ xh HG2.out HX.out
              have hgs := HG2.out.size
              by_cases hc : i < 24 ∧ xh ≠ 0
              · obtain ⟨hc1, hc2⟩ := hc
                have di : decide ((i : Int) < 24) = true := decide_eq_true (by omega)
                have xN : ¬ (xh.toNat : Int) = 0 := fun h => hc2 (UInt8.toNat_inj.1 (by show xh.toNat = 0; omega))
                have xB : ((xh.toNat : Int) != 0) = true := by simpa using xN
                have w2_ : IntKind.i64.wrap (1024 * (half : Int) + (i : Int)) = 1024 * (half : Int) + (i : Int) := IntWalk.i64_in _ (by omega)
                go_wp2_with (first
                  | (at_builtin
                     refine wpList_append_lies _ rfl _ _ 41 rfl wb2.heap.size 3 i3 _ 1 8 Tryz.underlying41 hi3 hz30 hz31 hz32 rfl (by omega) v ps.length (pls ps) rfl (HP.out.row.alloc _) ⟨wr.heap.size, 0, none⟩ 1 1 [.int .i64 (1024 * (half : Int) + (i : Int))] rfl rfl (cell_one_new _ _ _) (by simp [Value.oneCell']) (by omega) (by unfold maxLen; omega) (by omega) (by rw [World.size_alloc]; omega) (wr.heap.size + 1) (by simp) ?_
                     intro g9 cap9 w9 hown9 hgr9 hat9 hlt9)
                  | fail)
                have hgo : Hid (wb2.grownBy w9 none) := Lib.hid (World.grownBy.andThen (HG2.out.trans (World.grownBy_alloc wr _ none)) hgr9 (fun j hj => .inl (HP.out.row.lt j hj).1))
                have hpo : Hid (Pls wb2.heap.size w9 K (.slice (some ⟨g9, 0, none⟩) (ps.length + 1) cap9) (ps ++ [1024 * half + i])) := Lib.hid (Pls.snoc (by omega) hown9 HP.out.ok (by
                  have := HH.out.plc_head (half := half) (by omega) (by rw [e64, HX.out]; intro h; exact hc2 (Option.some.inj h)) hc1
                  rwa [e64] at this))
                clear hown9 hgr9 hat9 hlt9
                go_roundw
                case rel => exact ⟨i + 1, _, by omega, by go_num, hpo, by simp; omega, Lib.hid (fun _ => by simp), hgo⟩
                case measure => simp [intOf]; omega
              · by_cases hi0 : i < 24
                · have hx0 : xh = 0 := Classical.byContradiction fun h => hc ⟨hi0, h⟩
                  have hne : t.hf ≠ half := fun e => by
                    have h1 := HH.out.first
                    rw [e, e64, HX.out, hx0] at h1
                    exact absurd (Option.some.inj h1) (by decide)
                  have HNE2 : Hid (t.hf < half + 1 → ps ≠ []) := Lib.hid fun h => HNE.out (.inl (by omega))
                  rw [hx0] at x0
                  clear hc hx0 hne HX
                  go_wp2
                  go_roundw
                  case rel => exact ⟨half + 1, ps, by omega, by go_num, HP.out, by omega, HNE2.out, HG2.out⟩
                  case measure => simp [intOf]; omega
                · have HNE2 : Hid (t.hf < half + 1 → ps ≠ []) := Lib.hid fun h => HNE.out (by omega)
                  clear hc
                  go_wp2
                  go_roundw
                  case rel => exact ⟨half + 1, ps, by omega, by go_num, HP.out, by omega, HNE2.out, HG2.out⟩
                  case measure => simp [intOf]; omega
          · obtain rfl : half = 2 := by omega
            have hhf := HH.out.ok.hf
            have hne := HNE.out (by omega)
            have HN2 := Lib.hid hne
            obtain ⟨-, c2, c3, -⟩ := kC.out wr (HGB.out.trans HG2.out)
            have w3_ : IntKind.i64.wrap (1024 * (t.hf : Int)) = 1024 * (t.hf : Int) := IntWalk.i64_in _ (by omega)
            have w4_ : IntKind.i64.wrap (1024 * (t.hf : Int) + 64) = 1024 * (t.hf : Int) + 64 := IntWalk.i64_in _ (by omega)
            obtain ⟨b16, hb16⟩ : ∃ b, b = t.hf * 16 := ⟨_, rfl⟩
            have hb16' : b16 ≤ 16 := by omega
            have HB16 := Lib.hid hb16
            have hcT := HH.out.ok.c
            have hnT := HH.out.ok.n
            clear hne
            have hsz2 := HG2.out.size
            go_wp2
            go_loopw [15, 18, 19, 20, 21] (fun v x18 x19 _ _ wr => ∃ (k a : Nat) (L : List (List UInt8 × List UInt8)) (ps : List Nat), Hid (Rdg 32 K t k a L) ∧ x19 = .int .i64 (k : Int) ∧ x18 = .int .i64 ((64 * (b16 + a) : Nat) : Int) ∧ Hid (Pls wb2.heap.size wr K v ps) ∧ Hid (ps ≠ []) ∧ ps.length ≤ 48 + 64 * a ∧ Hid (wb2.grownBy wr none)) (fun _ _ x19 _ _ _ => t.c - (intOf x19).toNat)
            case atStart => exact ⟨0, 1, [], ps, Rdg.start HH.out, rfl, congrArg (Value.int .i64) (by have := HB16.out; omega), HP.out, HN2.out, by omega, HG2.out⟩
            case round =>
              clear HP hpl HNE HG2 HN2 hsz2
              obtain ⟨k, a, L, ps, HR, rfl, rfl, HP, HNE, hpl, HG2⟩ := hrel
              obtain ⟨v, rfl⟩ : ∃ v : Value, v = u15 := ⟨_, rfl⟩
              obtain ⟨-, c2, c3, -⟩ := kC.out wr (HGB.out.trans HG2.out)
              have hkc := HR.out.kc
              have ha1 := HR.out.a1
              have hle := loadT_end _ _ _ _ _ HR.out.load
              have hgs := HG2.out.size
              have e16 : t.hf * (32 / 2) = b16 := by have := HB16.out; omega
              by_cases hk : k < t.c
              · obtain ⟨l', hr, hnx⟩ := HR.out.next hk
                have hen := readT_end hr
                rw [e16] at hen hnx
                obtain ⟨sz, hsz⟩ : ∃ sz, sz = nb ((blk K (b16 + a)).take 4) := ⟨_, rfl⟩
                rw [← hsz] at hen hnx
                obtain ⟨M, hM⟩ : ∃ M, M = nblk (8 + sz) := ⟨_, rfl⟩
                rw [← hM] at hen hnx
                have hM8 : 8 + sz ≤ 64 * M := by rw [hM]; exact (nblk_le _).1
                have hMI : (8 + (sz : Int) + 63) / 64 = (M : Int) := by rw [hM]; unfold nblk; omega
                have hMI2 : (8 + (sz : Int) + 63).tdiv 64 = (M : Int) := by rw [Int.tdiv_eq_ediv_of_nonneg (by omega)]; exact hMI
                obtain ⟨FR, hFR⟩ : ∃ FR, FR = 64 * (b16 + a) := ⟨_, rfl⟩
                have hb16b : b16 + 16 ≤ 32 := by omega
                have hbl : (blk K (b16 + a)).length = 64 := blk_length (n := 32) hKl (by omega)
                obtain ⟨b0, b1, b2, b3, hb4⟩ : ∃ b0 b1 b2 b3, (blk K (b16 + a)).take 4 = [b0, b1, b2, b3] := by
                  match blk K (b16 + a), hbl with
                  | b0 :: b1 :: b2 :: b3 :: r, _ => exact ⟨b0, b1, b2, b3, rfl⟩
                  | [], h => simp at h
                  | [_], h => simp at h
                  | [_, _], h => simp at h
                  | [_, _, _], h => simp at h
                have hsz4 : sz = ((b0.toNat * 256 + b1.toNat) * 256 + b2.toNat) * 256 + b3.toNat := by rw [hsz, hb4]; simp [nb]
                have hxi : ∀ (i : Nat) (u : UInt8), i < 4 → ((blk K (b16 + a)).take 4)[i]? = some u → wr.cell? ⟨gi, FR + i, none⟩ = some (.int .u8 (u.toNat : Int)) := fun i u hi hu => by
                  rw [List.getElem?_take, if_pos hi, blk_get _ _ _ (by omega), ← hFR] at hu
                  exact kI.out wr _ u HG2.out hu
                have x0 : wr.cell? ⟨gi, FR, none⟩ = some (.int .u8 (b0.toNat : Int)) := hxi 0 b0 (by decide) (by rw [hb4]; rfl)
                have x1 := hxi 1 b1 (by decide) (by rw [hb4]; rfl)
                have x2 := hxi 2 b2 (by decide) (by rw [hb4]; rfl)
                have x3 := hxi 3 b3 (by decide) (by rw [hb4]; rfl)
                have t0 := b0.toNat_lt
                have t1 := b1.toNat_lt
                have t2 := b2.toNat_lt
                have t3 := b3.toNat_lt
                have f0 : FR + 64 ≤ 2048 := by omega
                have g1_ : IntKind.i64.wrap ((FR : Int) + 1) = (FR : Int) + 1 := IntWalk.i64_in _ (by omega)
                have g2_ : IntKind.i64.wrap ((FR : Int) + 2) = (FR : Int) + 2 := IntWalk.i64_in _ (by omega)
                have g3_ : IntKind.i64.wrap ((FR : Int) + 3) = (FR : Int) + 3 := IntWalk.i64_in _ (by omega)
                have j1_ : ((FR : Int) + 1).toNat = FR + 1 := by omega
                have j2_ : ((FR : Int) + 2).toNat = FR + 2 := by omega
                have j3_ : ((FR : Int) + 3).toNat = FR + 3 := by omega
                have HFR := Lib.hid hFR
                have HSZ := Lib.hid hsz
                have HS4 := Lib.hid hsz4
                have HNX := Lib.hid hnx
                have HMM := Lib.hid hM
                rw [← hFR]
                have dk : decide ((k : Int) < (t.c : Int)) = true := decide_eq_true (by omega)
                have E16 := Lib.hid e16
                clear hr hnx hsz hM hFR hbl hb4 hsz4 hxi e16
                go_wp2_with fail
                go_quiet (fail)
                rw [show (b0.toNat : Int) * 16777216 + (b1.toNat : Int) * 65536 + (b2.toNat : Int) * 256 + (b3.toNat : Int) = (sz : Int) by have := HS4.out; omega]
                obtain ⟨wD, hwD⟩ : ∃ X : World, X = wr.drewN nq := ⟨_, rfl⟩
                have hgD : wr.grownBy wD none := by rw [hwD]; exact grown_drewN nq
                rw [← hwD]
                have HPD : Hid (Pls wb2.heap.size wD K v ps) := Lib.hid (HP.out.grown hgD)
                have HGD := Lib.hid (HG2.out.trans hgD)
                have ws_ : IntKind.i64.wrap (8 + (sz : Int)) = 8 + (sz : Int) := IntWalk.i64_in _ (by omega)
                clear hwD x0 x1 x2 x3 t0 t1 t2 t3 c2 c3 hgD HP HG2 hgs g1_ g2_ g3_ j1_ j2_ j3_
                go_wp2
                go_loopw [15, 21] (fun v x wr => ∃ (i : Nat) (ps : List Nat), 4 ≤ i ∧ i ≤ 8 + sz ∧ x = .int .i64 (i : Int) ∧ Hid (Pls wb2.heap.size wr K v ps) ∧ Hid (ps ≠ []) ∧ ps.length + 4 ≤ 48 + 64 * a + i ∧ Hid (wb2.grownBy wr none)) (fun _ x _ => 8 + sz - (intOf x).toNat)
                case atStart => exact ⟨4, ps, by decide, by omega, rfl, HPD.out, HNE.out, by omega, HGD.out⟩
                case round =>
                  clear HPD HGD hpl HNE
                  obtain ⟨i, ps, hi4, hi8, rfl, HP, HNE, hpl, HG2⟩ := hrel
                  obtain ⟨v, rfl⟩ : ∃ v : Value, v = u15 := ⟨_, rfl⟩
                  have hgs := HG2.out.size
                  by_cases hc : i < 8 + sz
                  · have wi_ : IntKind.i64.wrap ((FR : Int) + (i : Int)) = (FR : Int) + (i : Int) := IntWalk.i64_in _ (by omega)
                    have di : decide ((i : Int) < 8 + (sz : Int)) = true := decide_eq_true (by omega)
                    go_wp2_with (first
                      | (at_builtin
                         refine wpList_append_lies _ rfl _ _ 41 rfl wb2.heap.size 3 i3 _ 1 8 Tryz.underlying41 hi3 hz30 hz31 hz32 rfl (by omega) v ps.length (pls ps) rfl (HP.out.row.alloc _) ⟨wr.heap.size, 0, none⟩ 1 1 [.int .i64 ((FR : Int) + (i : Int))] rfl rfl (cell_one_new _ _ _) (by simp [Value.oneCell']) (by omega) (by unfold maxLen; omega) (by omega) (by rw [World.size_alloc]; omega) (wr.heap.size + 1) (by simp) ?_
                         intro g9 cap9 w9 hown9 hgr9 hat9 hlt9)
                      | fail)
                    have hgo : Hid (wb2.grownBy w9 none) := Lib.hid (World.grownBy.andThen (HG2.out.trans (World.grownBy_alloc wr _ none)) hgr9 (fun j hj => .inl (HP.out.row.lt j hj).1))
                    have hpo : Hid (Pls wb2.heap.size w9 K (.slice (some ⟨g9, 0, none⟩) (ps.length + 1) cap9) (ps ++ [FR + i])) := Lib.hid (Pls.snoc (by omega) hown9 HP.out.ok (by
                      have := HR.out.plc HH.out (by decide) hk hi4 (by rw [E16.out, ← HSZ.out]; exact hc)
                      rwa [E16.out, ← HFR.out] at this))
                    clear hown9 hgr9 hat9 hlt9
                    go_roundw
                    case rel =>
                      (repeat apply Exists.intro)
                      refine ⟨⟨i + 1, _, by omega, by omega, ?_, hpo, Lib.hid (by simp), ?_, hgo⟩, rfl⟩
                      · exact congrArg (Value.int .i64) (by omega)
                      · simp; omega
                    case measure => simp [intOf]; omega
                  · have wj_ : IntKind.i64.wrap (8 + (sz : Int) + 63) = 8 + (sz : Int) + 63 := IntWalk.i64_in _ (by omega)
                    have wk_ : IntKind.i64.wrap ((M : Int) * 64) = (M : Int) * 64 := IntWalk.i64_in _ (by omega)
                    have wl_ : IntKind.i64.wrap ((FR : Int) + (M : Int) * 64) = (FR : Int) + (M : Int) * 64 := IntWalk.i64_in _ (by omega)
                    have di : decide ((i : Int) < 8 + (sz : Int)) = false := decide_eq_false (by omega)
                    have di2 : ¬ (i : Int) < 8 + (sz : Int) := by omega
                    go_wp2
                    go_roundw
                    case rel => exact ⟨k + 1, a + M, _, ps, HNX.out, by go_num, congrArg (Value.int .i64) (by have := HFR.out; omega), HP.out, HNE.out, by omega, HG2.out⟩
                    case measure => simp [intOf]; omega
              · have dk : decide ((k : Int) < (t.c : Int)) = false := decide_eq_false (by omega)
                have hne := HNE.out
                have hps : 0 < ps.length := List.length_pos_iff.2 hne
                have hn16 := HH.out.ok.n
                have hps2 : ps.length ≤ 48 + 64 * 17 := by omega
                obtain ⟨gp, cp, hvf, hgp, hgp2⟩ := HP.out.row.form hps
                obtain ⟨n, hn⟩ : ∃ n, n = ps.length := ⟨_, rfl⟩
                obtain ⟨r, hr⟩ : ∃ r : Nat, r = (at_ % (n : Int)).toNat := ⟨_, rfl⟩
                have hrI : at_ % (n : Int) = (r : Int) := by rw [hr]; exact (Int.toNat_of_nonneg (Int.emod_nonneg _ (by omega))).symm
                have hrI2 : at_.tmod (n : Int) = (r : Int) := by rw [Int.tmod_eq_emod_of_nonneg (by omega)]; exact hrI
                have hrn : r < n := by
                  have := Int.emod_lt_of_pos at_ (show (0 : Int) < (n : Int) by omega)
                  omega
                obtain ⟨p, hp⟩ : ∃ p, p = ps[r]'(by omega) := ⟨_, rfl⟩
                have hpp : Plc 32 K p := by rw [hp]; exact HP.out.ok _ (List.getElem_mem _)
                have x9 : wr.cell? ⟨gp, r, none⟩ = some (.int .i64 (p : Int)) := by
                  have := HP.out.row.cells (g := gp) (by rw [hvf]; rfl) r (.int .i64 (p : Int)) (by rw [pls, List.getElem?_map, List.getElem?_eq_getElem (by omega), hp]; rfl)
                  rwa [Addr.add_mid, Nat.zero_add] at this
                have hp2 := hpp.1
                obtain ⟨I6, hI6⟩ : ∃ I6, I6 = p / 64 := ⟨_, rfl⟩
                obtain ⟨J, hJ⟩ : ∃ J, J = p % 64 := ⟨_, rfl⟩
                have hi32 : I6 < 32 := by omega
                have hj64 : J < 64 := by omega
                have a1_ : (p : Int).tdiv 64 = (I6 : Int) := by rw [Int.tdiv_eq_ediv_of_nonneg (by omega)]; omega
                have a2_ : (p : Int) / 64 = (I6 : Int) := by omega
                have a3_ : (p : Int).tmod 64 = (J : Int) := by rw [Int.tmod_eq_emod_of_nonneg (by omega)]; omega
                have a4_ : (p : Int) % 64 = (J : Int) := by omega
                have a5_ : IntKind.i64.wrap ((I6 : Int) * 64) = (I6 : Int) * 64 := IntWalk.i64_in _ (by omega)
                have a6_ : IntKind.i64.wrap ((I6 : Int) * 64 + 64) = (I6 : Int) * 64 + 64 := IntWalk.i64_in _ (by omega)
                have a7_ : ((I6 : Int) * 64).toNat = I6 * 64 := by omega
                have a8_ : ((I6 : Int) * 64 + 64).toNat = I6 * 64 + 64 := by omega
                have a9_ : I6 * 64 + 64 - I6 * 64 = 64 := by omega
                have aa_ : ¬ 2048 = I6 * 64 := by omega
                have ab_ : (0 : Int) ≤ (I6 : Int) * 64 := by omega
                have ac_ : (I6 : Int) * 64 ≤ (I6 : Int) * 64 + 64 := by omega
                have ad_ : (I6 : Int) * 64 + 64 ≤ 2048 := by omega
                have ae_ : I6 * 64 ≤ 2048 := by omega
                obtain ⟨bb, hbb⟩ : ∃ bb, bb = blk K I6 := ⟨_, rfl⟩
                have hbl : bb.length = 64 := by rw [hbb]; exact blk_length (n := 32) hKl hi32
                obtain ⟨x, hx⟩ : ∃ x, x = bb[J]'(by omega) := ⟨_, rfl⟩
                have hKp : K[p]? = some x := by
                  have := blk_get K I6 J hj64
                  rw [← hbb, List.getElem?_eq_getElem (by omega), ← hx, show 64 * I6 + J = p by omega] at this
                  exact this.symm
                have hxv : K[p]? ≠ some (x ^^^ yv) := by
                  rw [hKp]
                  intro h
                  have h := Option.some.inj h
                  apply hy0
                  have h2 : x ^^^ (x ^^^ yv) = x ^^^ x := by rw [← h]
                  rwa [← UInt8.xor_assoc, UInt8.xor_self, UInt8.zero_xor] at h2
                have hyb : Byt wb2 (fun b => b = gi) (some ⟨gi, I6 * 64, none⟩) bb := fun j hj => by
                  refine ⟨_, rfl, rfl, ?_⟩
                  rw [Addr.add_mid]
                  refine kI.out wb2 _ _ (World.grownBy.refl _ _) ?_
                  have := blk_get K I6 j (by omega)
                  rw [← hbb, List.getElem?_eq_getElem hj] at this
                  rw [show I6 * 64 + j = 64 * I6 + j by omega]
                  exact this.symm
                have hturn := HG.out.turned (p := p) (v := x ^^^ yv) (by decide) (by rw [← HK.out]; exact hpp) (by rw [← HK.out]; exact hxv)
                rw [← HK.out, ← hI6, ← hJ, ← hbb] at hturn
                have HTU := Lib.hid hturn
                have hgil : gi < wb2.heap.size := HBI.out.lt
                have hyR : Byt (wr.alloc (.cells #[] 5)) (fun b => b = gi) (some ⟨gi, I6 * 64, none⟩) bb := hyb.keep fun b hb => (HG2.out.trans (World.grownBy_alloc wr (.cells #[] 5) none)).block b (by rw [hb]; exact hgil) (by simp)
                have HXO : Hid (bits .xor .u8 (x.toNat : Int) (yv.toNat : Int) = ((x ^^^ yv).toNat : Int)) := Lib.hid (by rw [u8_xor_nat _ _ x.toNat_lt yv.toNat_lt, UInt8.toNat_xor])
                obtain ⟨i0, hi, hz0, hz1, hz2⟩ := info_parts Tryz.info5
                have hxo : bb[J]? = some x := by rw [List.getElem?_eq_getElem (by omega), hx]
                have HXJ := Lib.hid hxo
                have HBL := Lib.hid hbl
                have HTR := Lib.hid (HTB.out.grown HG2.out)
                subst hvf
                rw [← hn]
                have hn0 : 0 < n := by omega
                have HNN := Lib.hid hn
                clear hp hbb hturn hyb hpp hxv hKp hI6 hJ hr hxo hx hbl hne hgp hgp2 c2 hle
                clear hn hps hps2
                go_wp2_with (at_builtin; refine wpList_append_byt _ rfl _ _ 40 rfl wr.heap.size i0 (.int .u8 0) Tryz.underlying40 hi hz0 hz1 hz2 rfl _ 0 [] rfl (World.ownsRow_lit wr #[] 0 (Nat.le_refl _) (Nat.zero_le _) rfl) _ (some ⟨gi, I6 * 64, none⟩) _ bb (by rw [HBL.out]; rfl) hyR (by rw [HBL.out]; decide) (by simp) ?_)
                intro v' w4 hown hgrow hat4
                have hown' : w4.ownsRow wr.heap.size 5 1 v' 64 (u8s bb) := by simpa [HBL.out] using hown
                have hg4 : wr.grownBy w4 none := by
                  refine World.grownBy.andThen (row' := some wr.heap.size) (World.grownBy_alloc wr (.cells #[] 5) none) hgrow (by rintro j ⟨⟩; exact .inl (Nat.le_refl _))
                obtain ⟨gb, cb, tl, rfl, hgb, hbk, hnc, hcm⟩ := own_tail hown' (by omega)
                have xJ : w4.cell? ⟨gb, J, none⟩ = some (.int .u8 (x.toNat : Int)) := hbk.get J _ (by rw [List.getElem?_append_left (by rw [u8s_length, HBL.out]; omega)]; simp [u8s, HXJ.out])
                clear hown hown' hat4 hgrow
                simp only [Act.put, List.setIfInBounds_toArray, List.set_cons_zero, List.set_cons_succ]
                go_wp2_with (first
                  | (refine wpList_store_cell rfl 5 _ _ rfl size5r gb J (.int .u8 (bits .xor .u8 (x.toNat : Int) (yv.toNat : Int))) rfl rfl rfl _ _ hbk (by rw [List.length_append, u8s_length, HBL.out]; omega) ?_
                     intro w5 k5 r5
                     have hbk5 : Blk w5 gb 5 (u8s (bb.set J (x ^^^ yv)) ++ tl) := by
                       have := k5.out
                       rw [List.set_append_left _ _ (by rw [u8s_length, HBL.out]; omega), HXO.out, u8s_set] at this
                       exact this
                     have hg5 : wr.grownBy w5 none := World.grownBy.andThen (row' := some gb) hg4 r5.out.grown (by rintro j ⟨⟩; exact .inl hgb)
                     have HT5 := Lib.hid (HTR.out.grown hg5)
                     have hgbl : gb < w5.heap.size := hbk5.lt
                     have hwr := write_any (c := cb) HT5.out.cv.d (i := I6) (by rw [HG.out.nn]; exact hi32) (Blk.byt (pre := []) hbk5 rfl) (by rw [List.length_set, HBL.out]) rfl (fun j hj => by rw [hj]; exact ⟨hgbl, fun h => by have := HTR.out.cv.d.lt _ h; omega⟩) (by rw [HG.out.L]; show (0 : Nat) ≤ 1048576; decide)
                     rw [show s.wroteE = 0 by unfold St.wroteE St.goes; rw [HG.out.d, HG.out.f]; rfl] at hwr
                     clear hbk5 k5 xJ)
                  | fail)
                dsimp only [Act.put]
                go_wp2_with fail
                go_at_call 24
                rw [show ((0 : Nat) : Int) = 0 from rfl] at hwr
                refine hwr.mono ?_
                rintro _ w6 ⟨rfl, f6, hd6, hf6, hm6⟩
                have hop := open_any hd6 (by
                  unfold St.wrote
                  split <;> simp [St.write, St.burn, HG.out.L])
                rw [HTU.out] at hop
                have hg6 : w.grownBy w6 none := hm6.grown HT5.out.cv.g HT5.out.cv.fn
                have hfn6 : ∀ k, f6 k → w.heap.size ≤ k := fun k hk => by
                  rcases hf6 k hk with h | h
                  · exact HT5.out.cv.fn k h
                  · exact Nat.le_trans HT5.out.cv.g.size h.1
                clear hwr
                have hop2 : Calls Tryz.prog 9 #[.pointer (some ⟨dp, 0, none⟩)] w6 fun r w' => r = .returned (.tuple #[.pointer none, .int .i64 160]) ∧ Md f6 w6 w' := hop.mono fun _ _ ⟨_, _, _, hm, hr⟩ => ⟨hr, hm⟩
                dsimp only
                go_wp2_with fail
                go_at_call 9
                refine hop2.mono ?_
                rintro _ w7 ⟨rfl, hm7⟩
                dsimp only
                go_wp2
                go_ret
                exact ⟨rfl, hm7.grown hg6 hfn6⟩
end Go.Proofs.YtonpcenjipigpaaGreat
