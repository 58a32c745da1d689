/- StoreOwn's walk: values that are handed in, and told, are the store's own. Conditions: none. -/
import Derived.Test.YtonpcenjipigpaaG3
namespace Go.Proofs.Ytonpcenjipigpaa
open Go.RowKit
/-- In block g lie n bytes at least, which may be written. -/
def Rw (w : World) (g n : Nat) : Prop := ∃ cs, Blk w g 5 cs ∧ n ≤ cs.length ∧ ∀ j, j < n → ∃ x : Nat, x < 256 ∧ cs[j]? = some (.int .u8 (x : Int))
theorem Rw.of_byw {w : World} {ok : Nat → Prop} {A : Option Addr} {xs : List UInt8} (h : Byw w ok A xs) : xs.length = 0 ∨ ∃ g, A = some ⟨g, 0, none⟩ ∧ ok g ∧ Rw w g xs.length := by
  rcases h.2 with h0 | ⟨g, cs, rfl, hg, hb, hn⟩
  · exact .inl h0
  · refine .inr ⟨g, rfl, hg, cs, hb, hn, fun j hj => ?_⟩
    obtain ⟨ad, e, -, hc⟩ := h.1 j hj
    cases e
    rw [Addr.add_lit, Nat.zero_add, hb.cell j (by omega)] at hc
    exact ⟨xs[j].toNat, xs[j].toNat_lt, by rw [List.getElem?_eq_getElem (by omega)]; exact hc⟩
theorem Rw.set {w' : World} {g n k : Nat} {cs : List Value} {v : Nat} (hn : n ≤ cs.length) (h : ∀ j, j < n → ∃ x : Nat, x < 256 ∧ cs[j]? = some (.int .u8 (x : Int))) (hv : v < 256) (hb : Blk w' g 5 (cs.set k (.int .u8 (v : Int)))) (hk : k < n) : Rw w' g n := by
  refine ⟨_, hb, by rw [List.length_set]; exact hn, fun j hj => ?_⟩
  by_cases e : k = j
  · subst e
    exact ⟨v, hv, by rw [List.getElem?_set_self (by omega)]⟩
  · rw [List.getElem?_set_ne e]
    exact h j hj
theorem Rw.keep {w w' : World} {g n : Nat} (h : Rw w g n) (hk : w'.heap[g]? = w.heap[g]?) : Rw w' g n := by
  obtain ⟨cs, h1, h2, h3⟩ := h
  exact ⟨cs, h1.keep hk, h2, h3⟩
theorem Rw.lt {w : World} {g n : Nat} (h : Rw w g n) : g < w.heap.size := by
  obtain ⟨cs, h1, h2, h3⟩ := h
  exact h1.lt
theorem Lv.wr {w0 w w' : World} {f fs : Nat → Prop} {sp dp g : Nat} {s : St} {t : Ste} (h : Lv w0 w f fs sp dp s t) (hw : Wr g w w') (h1 : ¬ f g) (h2 : ¬ fs g) (h3 : w0.heap.size ≤ g) : Lv w0 w' f fs sp dp s t := by
  have hs := Nat.le_of_eq hw.size.symm
  exact ⟨h.d.keep hs fun k hk => hw.block k fun e => h1 (e ▸ hk), h.st.keep hs fun k hk => hw.block k fun e => h2 (e ▸ hk), h.dis, h.fn, h.fsn, World.grownBy.andThen h.g hw.grown (by rintro j ⟨⟩; exact .inl h3)⟩
theorem Lv.vr {w0 w : World} {f fs ok : Nat → Prop} {A : Option Addr} {xs : List UInt8} (h : Byw w ok A xs) (ho : Oth w f fs ok) (hn : ∀ b, ok b → w0.heap.size ≤ b) : xs.length = 0 ∨ ∃ g, A = some ⟨g, 0, none⟩ ∧ Rw w g xs.length ∧ ¬ f g ∧ ¬ fs g ∧ w0.heap.size ≤ g := by
  rcases Rw.of_byw h with h0 | ⟨g, rfl, hg, hr⟩
  · exact .inl h0
  · exact .inr ⟨g, rfl, hr, (ho g hg).2.1, (ho g hg).2.2, hn g hg⟩
/-- Bytes of the law's own that are under way. -/
def Vr (w0 w : World) (f fs : Nat → Prop) (A : Option Addr) (n : Nat) : Prop := n = 0 ∨ ∃ g, A = some ⟨g, 0, none⟩ ∧ Rw w g n ∧ ¬ f g ∧ ¬ fs g ∧ w0.heap.size ≤ g
theorem pay_one (nm vl : List UInt8) : (payB [⟨nm, vl, false⟩]).length = nm.length + vl.length + 8 := by
  simp [payB, jn, chgB, enc]
  omega
/-- A list of one change of the law's own, whose value may be written. -/
def Al (w0 w : World) (f fs : Nat → Prop) (g9 n : Nat) : Prop := ∃ A c, w.cell? ⟨g9, 1, none⟩ = some (.slice A n c) ∧ (n = 0 ∨ ∃ g, A = some ⟨g, 0, none⟩ ∧ g ≠ g9 ∧ Rw w g n ∧ ¬ f g ∧ ¬ fs g ∧ w0.heap.size ≤ g)
theorem Al.of {w0 w w' : World} {f fs : Nat → Prop} {sp dp g9 : Nat} {s : St} {t : Ste} {nm vl : List UInt8} (hv : Lv w0 w f fs sp dp s t) (hx : Chs w' (fun b => w.heap.size ≤ b ∧ b < w'.heap.size) (some ⟨g9, 0, none⟩) [⟨nm, vl, false⟩])
    (hc : ∀ j (h : j < [Chg.mk nm vl false].length), ∃ A c, w'.cell? ⟨g9, j * 3 + 1, none⟩ = some (.slice A [Chg.mk nm vl false][j].val.length c) ∧ ([Chg.mk nm vl false][j].val.length = 0 ∨ ∃ g2 cs, A = some ⟨g2, 0, none⟩ ∧ w.heap.size ≤ g2 ∧ g2 ≠ g9 ∧ Blk w' g2 5 cs ∧ [Chg.mk nm vl false][j].val.length ≤ cs.length)) : Al w0 w' f fs g9 vl.length := by
  obtain ⟨b, o, A', c', e, -, hr, -, -, -, hy⟩ := hx 0 (by simp)
  obtain ⟨A, c, h1, h2⟩ := hc 0 (by simp)
  injection e with e
  injection e with e1 e2 e3
  subst e1 e2
  have h3 : w'.cell? ⟨g9, 1, none⟩ = some (.slice A' vl.length c') := hr 1 _ rfl
  have h4 : w'.cell? ⟨g9, 1, none⟩ = some (.slice A vl.length c) := h1
  have e4 : A = A' := by
    rw [h3] at h4
    injection h4 with h4
    injection h4 with h4
    exact h4.symm
  refine ⟨A, c, h4, ?_⟩
  rcases h2 with h0 | ⟨g2, cs, k1, k2, k3, k4, k5⟩
  · exact .inl h0
  · right
    have hb : Byw w' (fun b => w.heap.size ≤ b ∧ b < w'.heap.size) A vl := ⟨by rw [e4]; exact hy, .inr ⟨g2, cs, k1, ⟨k2, k4.lt⟩, k4, k5⟩⟩
    rcases Rw.of_byw hb with h0 | ⟨g, h5, h6, h7⟩
    · by_cases hz : vl.length = 0
      · exact ⟨g2, k1, k3, ⟨cs, k4, by omega, fun j hj => by omega⟩, fun h => by have := hv.d.lt g2 h; omega, fun h => by have := hv.st.lt g2 h; omega, Nat.le_trans hv.g.size k2⟩
      · exact absurd h0 hz
    · obtain rfl : g = g2 := by
        rw [k1] at h5
        injection h5 with h5
        injection h5 with h5
        exact h5.symm
      exact ⟨g, k1, k3, h7, fun h => by have := hv.d.lt g h; omega, fun h => by have := hv.st.lt g h; omega, Nat.le_trans hv.g.size k2⟩
theorem size5c : (Try.prog.info? 5).map (·.size) = some 1 := by kernel_rfl
theorem ex_name (w : World) (nm vl : List UInt8) (A : Option Addr) (c : Nat) {W : World} (hW : W = w.alloc (.cells #[.string ⟨nm.toArray⟩, .slice A vl.length c, .bool false] 42)) (hy : Byt w (fun b => b < w.heap.size) A vl) (hc : vl.length ≤ c) (hm : c ≤ maxLen) (hn : nm.length ≤ maxLen) :
    Chs W (fun b => b < W.heap.size) (some ⟨w.heap.size, 0, none⟩) [⟨nm, vl, false⟩] ∧ w.grownBy W none := by
  have hg : w.grownBy W none := by rw [hW]; exact World.grownBy_alloc _ _ _
  have hz : W.heap.size = w.heap.size + 1 := by rw [hW]; simp
  have hb : Blk W w.heap.size 42 (ccells ⟨nm, vl, false⟩ (.slice A vl.length c)) := by rw [hW]; exact Blk.of_alloc _ _ _
  exact ⟨chs_one hb (by omega) hc hm hn ((hy.keep fun b hb => hg.block b hb (by simp)).imp fun b hb => by omega), hg⟩
set_option maxRecDepth 100000 in
set_option maxHeartbeats 8000000 in
theorem own_walk (w : World) (nm vl : List UInt8) (A : Option Addr) (cv : Nat) (hy : Byt w (fun b => b < w.heap.size) A vl) (hnm : nm.length ≤ 140737488351232) (hvl : vl.length ≤ 140737488351232) : Calls Try.prog 4 #[.string ⟨nm.toArray⟩, .slice A vl.length cv] w fun e w' => e = .returned (.bool true) ∧ w.grownBy w' none := by
  have HA := Lib.hid (alive_any w)
  have HY := Lib.hid hy
  obtain ⟨s1, ho1, hh1, hL1, hd1, hf1, hn1⟩ := start_out (n := 512) (by decide) (by decide)
  rw [← hn1] at hh1
  have HO := Lib.hid ho1
  have HH1 := Lib.hid hh1
  have HL1 := Lib.hid hL1
  have HOK1 : Hid (Ste.ok ⟨0, 1, 0, 1, []⟩ (s1.n / 2)) := Lib.hid hh1.ok
  have HD1 := Lib.hid hd1
  have HF1 := Lib.hid hf1
  have HN1 := Lib.hid hn1
  obtain ⟨i0, hi, hz0, hz1, hz2⟩ := info_parts Try.info5
  have HM : Hid (nm.length ≤ maxLen ∧ vl.length ≤ maxLen) := Lib.hid (by unfold maxLen; omega)
  clear hy ho1 hh1 hL1 hd1 hf1 hn1
  by_cases hgood : (Chg.mk nm vl false).err = 0
  rotate_left
  · have hbad : ∀ (t : Ste) (s : St), s.commitT t [⟨nm, vl, false⟩] = ((Chg.mk nm vl false).err, s, t) := fun t s => by
      have : [Chg.mk nm vl false].find? (fun c => c.err ≠ 0) = some ⟨nm, vl, false⟩ := by simp [hgood]
      rw [St.commitT, this]
    have hres : (nm.length < 1) ∨ (32 < nm.length) ∨ (4000 < vl.length) := by
      by_cases h1 : nm.length < 1
      · exact .inl h1
      · by_cases h2 : 32 < nm.length
        · exact .inr (.inl h2)
        · by_cases h3 : 4000 < vl.length
          · exact .inr (.inr h3)
          · exfalso
            apply hgood
            unfold Chg.err
            rw [if_neg (by
              rintro (h | h | h)
              · simp only at h; rw [h] at h1; simp at h1
              · exact h2 h
              · simp at h), if_neg h3]
    obtain ⟨E, hE⟩ : ∃ E, E = (Chg.mk nm vl false).err := ⟨_, rfl⟩
    rw [← hE] at hbad hgood
    have HBAD := Lib.hid hbad
    have hEI : ¬ (E : Int) = 0 := by omega
    clear hbad hE hgood
    have hd : ∃ b1 b2 b3 : Bool, decide ((nm.length : Int) < 1) = b1 ∧ decide (32 < (nm.length : Int)) = b2 ∧ decide (4000 < (vl.length : Int)) = b3 ∧ (b1 = true ∨ (b1 = false ∧ b2 = true) ∨ (b1 = false ∧ b2 = false ∧ b3 = true)) := by
      refine ⟨_, _, _, rfl, rfl, rfl, ?_⟩
      simp only [decide_eq_true_eq, decide_eq_false_iff_not]
      omega
    obtain ⟨b1, b2, b3, d1, d2, d3, hb⟩ := hd
    clear hres
    go_enter Try.func4, Try.ntmps4
    go_wp2_with (first
      | (go_at_call 5
         refine HA.out.mono ?_
         rintro _ w1 ⟨rfl, hg1⟩
         have hN := new_any w1 512
         rw [show nOf 512 = 512 from rfl] at hN
         clear HA)
      | (go_at_call 6
         refine hN.mono ?_
         rintro _ w2 ⟨p, f2, rfl, hd2, hf2, hg2⟩
         have hop := open_new (w0 := w) hd2 (fun k hk => Nat.le_trans hg1.size (hf2 k hk)) (hg1.trans hg2) (by show 0 ≤ 1000000; decide) HO.out
         clear hN hd2 hf2 hg2 hg1)
      | (go_at_call 7
         refine hop.mono ?_
         rintro _ w3 ⟨sp, f, fs, rfl, hv3⟩
         have hy3 : Byt (w3.alloc (.cells #[] 5)) (fun b => b < w.heap.size) A vl := HY.out.keep fun b hb => (hv3.g.trans (World.grownBy_alloc w3 (.cells #[] 5) none)).block b hb (by simp)
         clear hop)
      | (at_builtin
         refine wpList_append_byt _ rfl _ _ 40 rfl w3.heap.size i0 (.int .u8 0) Try.underlying40 hi hz0 hz1 hz2 rfl _ 0 [] rfl (World.ownsRow_lit w3 #[] 0 (Nat.le_refl _) (Nat.zero_le _) rfl) _ A _ vl rfl hy3 ?d1 ?d2 ?_
         case d1 => omega
         case d2 => simp
         intro v' w4 hown hgrow hat
         have hown' : w4.ownsRow w3.heap.size 5 1 v' vl.length (u8s vl) := by simpa using hown
         have hw1 := hown'.2
         obtain ⟨A4, c4, rfl, -, l4, m4, y4⟩ := own_form hown'
         have hbw : Byw w4 (fun b => w3.heap.size ≤ b ∧ b < w4.heap.size) A4 vl := (byw_of_own rfl hw1 y4).imp fun b hb => hb.2
         have hg4 : w3.grownBy w4 none := by
           refine World.grownBy.andThen (row' := some w3.heap.size) (World.grownBy_alloc w3 (.cells #[] 5) none) hgrow (by rintro j ⟨⟩; exact .inl (Nat.le_refl _))
         have hv4 := hv3.grown hg4
         have hot := hv3.new (w' := w4)
         clear hown hown' hat hw1 y4 hgrow hy3 hv3 hg4)
      | (go_at_call 9
         obtain ⟨hx, hgx⟩ := ex_name w4 nm vl A4 c4 rfl (Byt.imp hbw.1 fun b hb => hb.2) l4 m4 HM.out.1
         refine (commit_lv (cl := 1) (hv4.grown hgx) HOK1.out Gd.nil hx (fun b hb => hb) rfl (by simp) (by rw [HL1.out]; simp) (HBAD.out _ _)).mono ?_
         rintro _ w5 ⟨rfl, f5, fs5, hv5, -⟩
         have HG5 := Lib.hid hv5.g
         clear hx hgx hv5 hbw hv4 hot l4 m4)
      | fail)
    all_goals
      (try go_wp2)
      go_ret
      refine ⟨?_, HG5.out⟩
      first
        | rfl
        | (have hb3 : b3 = true := by rcases hb with h1 | ⟨h1, h2⟩ | ⟨h1, h2, h3⟩ <;> simp_all
           subst hb3
           rfl)
  have hgl : Good [⟨nm, vl, false⟩] := by intro c hc; simp at hc; subst hc; exact hgood
  obtain ⟨-, hn32, -, hv4000⟩ := err_zero hgood
  simp only at hn32 hv4000
  obtain ⟨s2, t2, hc2, hD2⟩ := commit_ok HH1.out HL1.out HD1.out HF1.out hgl (by simp) (by simp) (by simp [doAll, doC, putA, delA, insA]) (by rw [pay_one, HN1.out]; show 1 + nblk _ ≤ _; unfold nblk; omega)
  have htL : t2.L = [(nm, vl)] := hD2.L
  have hlen2 : t2.L.length ≤ 64 := by rw [htL]; simp
  have hget : getA nm t2.L = some vl := by rw [htL]; simp [getA]
  have hch : chgs t2.L = [⟨nm, vl, false⟩] := by rw [htL]; rfl
  have HC2 := Lib.hid hc2
  have HGET := Lib.hid hget
  have HCH := Lib.hid hch
  have HL2 := Lib.hid hlen2
  clear hgood hgl hc2 hD2 htL hlen2 hget hch HH1 HD1 HF1 HN1
  go_enter Try.func4, Try.ntmps4
  go_wp2_with (first
    | (go_at_call 5
       refine HA.out.mono ?_
       rintro _ w1 ⟨rfl, hg1⟩
       have hN := new_any w1 512
       rw [show nOf 512 = 512 from rfl] at hN
       clear HA)
    | (go_at_call 6
       refine hN.mono ?_
       rintro _ w2 ⟨p, f2, rfl, hd2, hf2, hg2⟩
       have hop := open_new (w0 := w) hd2 (fun k hk => Nat.le_trans hg1.size (hf2 k hk)) (hg1.trans hg2) (by show 0 ≤ 1000000; decide) HO.out
       clear hN hd2 hf2 hg2 hg1)
    | (go_at_call 7
       refine hop.mono ?_
       rintro _ w3 ⟨sp, f, fs, rfl, hv3⟩
       have hy3 : Byt (w3.alloc (.cells #[] 5)) (fun b => b < w.heap.size) A vl := HY.out.keep fun b hb => (hv3.g.trans (World.grownBy_alloc w3 (.cells #[] 5) none)).block b hb (by simp)
       clear hop)
    | (at_builtin
       refine wpList_append_byt _ rfl _ _ 40 rfl w3.heap.size i0 (.int .u8 0) Try.underlying40 hi hz0 hz1 hz2 rfl _ 0 [] rfl (World.ownsRow_lit w3 #[] 0 (Nat.le_refl _) (Nat.zero_le _) rfl) _ A _ vl rfl hy3 ?c1 ?c2 ?_
       case c1 => omega
       case c2 => simp
       intro v' w4 hown hgrow hat
       have hown' : w4.ownsRow w3.heap.size 5 1 v' vl.length (u8s vl) := by simpa using hown
       have hw1 := hown'.2
       obtain ⟨A4, c4, rfl, -, l4, m4, y4⟩ := own_form hown'
       have hbw : Byw w4 (fun b => w3.heap.size ≤ b ∧ b < w4.heap.size) A4 vl := (byw_of_own rfl hw1 y4).imp fun b hb => hb.2
       have hg4 : w3.grownBy w4 none := by
         refine World.grownBy.andThen (row' := some w3.heap.size) (World.grownBy_alloc w3 (.cells #[] 5) none) hgrow (by rintro j ⟨⟩; exact .inl (Nat.le_refl _))
       have hv4 := hv3.grown hg4
       have HW3 := Lib.hid hv3.g.size
       have hot := hv3.new (w' := w4)
       clear hown hown' hat hw1 y4 hgrow hy3 hv3 hg4)
    | (go_at_call 9
       obtain ⟨hx, hgx⟩ := ex_name w4 nm vl A4 c4 rfl (Byt.imp hbw.1 fun b hb => hb.2) l4 m4 HM.out.1
       refine (commit_lv (cl := 1) (hv4.grown hgx) HOK1.out Gd.nil hx (fun b hb => hb) rfl (by simp) (by rw [HL1.out]; simp) HC2.out).mono ?_
       rintro _ w5 ⟨rfl, f5, fs5, hv5, ht5⟩
       have ho4 := hot.grown hgx
       have hbx := hbw.keep fun b hb => hgx.block b hb.2 (by simp)
       have hvr := Lv.vr (w0 := w) (hbx.keep (ht5.at ho4)) (ht5.oth ho4) (fun b hb => Nat.le_trans HW3.out hb.1)
       clear hx hgx hbw hv4 hot ho4 hbx ht5 l4 m4)
    | fail)
  go_loopw [8] (fun i wr => ∃ k : Nat, k ≤ vl.length ∧ i = .int .i64 (k : Int) ∧ Vr w wr f5 fs5 A4 vl.length ∧ Lv w wr f5 fs5 sp p s2 t2) (fun i _ => vl.length - (intOf i).toNat)
  case atStart => exact ⟨0, Nat.zero_le _, rfl, hvr, hv5⟩
  case round =>
    clear hvr hv5
    obtain ⟨k, hk, rfl, hvr, hv⟩ := hrel
    by_cases hlt : k < vl.length
    · rcases hvr with h0 | ⟨g, rfl, ⟨cs, hb, hn, hx⟩, n1, n2, n3⟩
      · omega
      obtain ⟨x, hx2, hxc⟩ := hx k hlt
      have c0 : wr.cell? ⟨g, k, none⟩ = some (.int .u8 (x : Int)) := hb.get k _ hxc
      have HV := Lib.hid hv
      have HX := Lib.hid hx
      have HN := Lib.hid (And.intro n1 (And.intro n2 n3))
      clear hv hx n1 n2 n3
      go_wp2_with (first
        | (refine wpList_store_cell rfl 5 _ _ rfl size5c g k (.int .u8 (((x : Nat) + 1 : Int) % 256)) rfl rfl rfl _ _ hb (by omega) ?_; intro w6 k6 r6)
        | fail)
      go_roundw
      case rel =>
        obtain ⟨n1, n2, n3⟩ := HN.out
        have e1 : ((x : Int) + 1) % 256 = (((x + 1) % 256 : Nat) : Int) := by omega
        have hb6 : Blk w6 g 5 (cs.set k (.int .u8 (((x + 1) % 256 : Nat) : Int))) := by rw [← e1]; exact k6.out
        exact ⟨k + 1, by omega, by go_num, .inr ⟨g, rfl, Rw.set hn HX.out (by omega) hb6 hlt, n1, n2, n3⟩, HV.out.wr r6.out n1 n2 n3⟩
      case measure => simp [intOf]; omega
    · obtain rfl : k = vl.length := by omega
      clear hvr
      have hge : Calls Try.prog 15 #[.pointer (some ⟨sp, 0, none⟩), .string ⟨nm.toArray⟩] wr (GetW wr (some vl)) := by
        have := get_w hv.st nm HM.out.1
        rw [HGET.out] at this
        exact this
      have HV := Lib.hid hv
      clear hv
      go_wp2_with (first
        | (go_at_call 15
           refine hge.mono ?_
           rintro _ w7 ⟨A7, c7, rfl, -, -, hb7, hw7⟩
           simp only [Option.getD_some] at hb7
           have hv7 := HV.out.grown (grown_of_below hw7)
           have hvr7 := Lv.vr (w0 := w) hb7 (HV.out.new (w' := w7)) (fun b hb => Nat.le_trans HV.out.g.size hb.1)
           clear hge hb7 hw7)
        | fail)
      clear HV
      go_loopw [11] (fun i wr => ∃ k : Nat, k ≤ vl.length ∧ i = .int .i64 (k : Int) ∧ Vr w wr f5 fs5 A7 vl.length ∧ Lv w wr f5 fs5 sp p s2 t2) (fun i _ => vl.length - (intOf i).toNat)
      case atStart => exact ⟨0, Nat.zero_le _, rfl, hvr7, hv7⟩
      case round =>
        clear hvr7 hv7
        obtain ⟨k, hk, rfl, hvr, hv⟩ := hrel
        by_cases hlt : k < vl.length
        · rcases hvr with h0 | ⟨g, rfl, ⟨cs, hb, hn, hx⟩, n1, n2, n3⟩
          · omega
          obtain ⟨x, hx2, hxc⟩ := hx k hlt
          have c0 : wr.cell? ⟨g, k, none⟩ = some (.int .u8 (x : Int)) := hb.get k _ hxc
          have HV := Lib.hid hv
          have HX := Lib.hid hx
          have HN := Lib.hid (And.intro n1 (And.intro n2 n3))
          clear hv hx n1 n2 n3
          go_wp2_with (first
            | (refine wpList_store_cell rfl 5 _ _ rfl size5c g k (.int .u8 (((x : Nat) - 1 : Int) % 256)) rfl rfl rfl _ _ hb (by omega) ?_; intro w8 k8 r8)
            | fail)
          go_roundw
          case rel =>
            obtain ⟨n1, n2, n3⟩ := HN.out
            have e1 : ((x : Int) - 1) % 256 = (((x + 255) % 256 : Nat) : Int) := by omega
            have hb8 : Blk w8 g 5 (cs.set k (.int .u8 (((x + 255) % 256 : Nat) : Int))) := by rw [← e1]; exact k8.out
            exact ⟨k + 1, by omega, by go_num, .inr ⟨g, rfl, Rw.set hn HX.out (by omega) hb8 hlt, n1, n2, n3⟩, HV.out.wr r8.out n1 n2 n3⟩
          case measure => simp [intOf]; omega
        · obtain rfl : k = vl.length := by omega
          clear hvr
          have hal := all_stw hv.st HL2.out
          rw [HCH.out] at hal
          have HV := Lib.hid hv
          clear hv
          go_wp2_with (first
            | (go_at_call 10
               refine hal.mono ?_
               rintro _ w9 ⟨g9, c9, rfl, -, -, hx9, hcw9, hg9⟩
               have hv9 := HV.out.grown hg9
               have hal9 : Al w w9 f5 fs5 g9 vl.length := Al.of HV.out hx9 hcw9
               clear hal hcw9 hx9 hg9)
            | fail)
          clear HV
          go_loopw [13, 14] (fun i j wr => ∃ k : Nat, k ≤ 1 ∧ i = .int .i64 (k : Int) ∧ j = j ∧ Al w wr f5 fs5 g9 vl.length ∧ Lv w wr f5 fs5 sp p s2 t2) (fun i _ _ => 1 - (intOf i).toNat)
          case atStart => exact ⟨0, Nat.zero_le _, rfl, rfl, hal9, hv9⟩
          case round =>
            clear hal9 hv9
            obtain ⟨k, hk, rfl, -, hal, hv⟩ := hrel
            by_cases hlt : k < 1
            · obtain rfl : k = 0 := by omega
              rw [show ((0 : Nat) : Int) = 0 from rfl]
              go_wp2
              go_loopw [14] (fun i wr => ∃ j : Nat, j ≤ vl.length ∧ i = .int .i64 (j : Int) ∧ Al w wr f5 fs5 g9 vl.length ∧ Lv w wr f5 fs5 sp p s2 t2) (fun i _ => vl.length - (intOf i).toNat)
              case atStart => exact ⟨0, Nat.zero_le _, rfl, hal, hv⟩
              case round =>
                clear hal hv
                obtain ⟨j, hj, rfl, ⟨A9, c, hc1, hal⟩, hv⟩ := hrel
                by_cases hlt2 : j < vl.length
                · rcases hal with h0 | ⟨g, rfl, hne, ⟨cs, hb, hn, hx⟩, n1, n2, n3⟩
                  · omega
                  obtain ⟨x, hx2, hxc⟩ := hx j hlt2
                  have c0 : wr.cell? ⟨g, j, none⟩ = some (.int .u8 (x : Int)) := hb.get j _ hxc
                  have HV := Lib.hid hv
                  have HX := Lib.hid hx
                  have HN := Lib.hid (And.intro n1 (And.intro n2 n3))
                  have HNE := Lib.hid hne
                  have HC1 := Lib.hid hc1
                  clear hv hx n1 n2 n3 hne
                  go_wp2
                  refine wp_region_held_drew (S := fun W => W.cell? ⟨g9, 1, none⟩ = some (.slice (some ⟨g, 0, none⟩) vl.length c)) (by kernel_rfl) hc1 (fun hHeld => ?_)
                  refine' wpAnyH_take (i := 0) (oi := { dst := some 95, op := Op.move (Operand.tmp 12), type := 23, pos := "law.go:222", after := #[], guard := none }) (v := .slice (some ⟨g9, 0, none⟩) 1 c9) rfl (by kernel_rfl) (by kernel_rfl) (by kernel_rfl) (fun _ _ _ h => h) (Or.inl ⟨by rfl, fun w' hSw => by go_simp⟩) (by assumption) ?qz1
                  try simp only [Act.put, List.setIfInBounds_toArray, List.set_cons_zero, List.set_cons_succ]
                  refine' wpAnyH_take (i := 1) (oi := { dst := some 96, op := Op.move (Operand.tmp 13), type := 3, pos := "law.go:222", after := #[], guard := none }) (v := .int .i64 0) rfl (by kernel_rfl) (by kernel_rfl) (by kernel_rfl) (fun _ _ _ h => h) (Or.inl ⟨by rfl, fun w' hSw => by go_simp⟩) (by assumption) ?qz2
                  try simp only [Act.put, List.setIfInBounds_toArray, List.set_cons_zero, List.set_cons_succ]
                  refine' wpAnyH_take (i := 2) (oi := { dst := some 97, op := Op.indexAddr 23 (Operand.tmp 95) (Operand.tmp 96), type := 0, pos := "law.go:222", after := #[{ on := 0, ground := Ground.data }, { on := 1, ground := Ground.data }], guard := none }) (v := .pointer (some ⟨g9, 0, none⟩)) rfl (by kernel_rfl) (by kernel_rfl) (by kernel_rfl) (fun _ _ _ h => h) (Or.inl ⟨by rfl, fun w' hSw => by go_simp⟩) (by assumption) ?qz3
                  try simp only [Act.put, List.setIfInBounds_toArray, List.set_cons_zero, List.set_cons_succ]
                  refine' wpAnyH_take (i := 3) (oi := { dst := some 98, op := Op.fieldAddr 42 (Operand.tmp 97) 1, type := 0, pos := "law.go:222", after := #[{ on := 2, ground := Ground.data }], guard := none }) (v := .pointer (some ⟨g9, 1, none⟩)) rfl (by kernel_rfl) (by kernel_rfl) (by kernel_rfl) (fun _ _ _ h => h) (Or.inl ⟨by rfl, fun w' hSw => by go_simp⟩) (by assumption) ?qz4
                  try simp only [Act.put, List.setIfInBounds_toArray, List.set_cons_zero, List.set_cons_succ]
                  refine' wpAnyH_take (i := 4) (oi := { dst := some 99, op := Op.load 40 (Operand.tmp 98), type := 40, pos := "law.go:222", after := #[{ on := 3, ground := Ground.data }], guard := none }) (v := .slice (some ⟨g, 0, none⟩) vl.length c) rfl (by kernel_rfl) (by kernel_rfl) (by kernel_rfl) (fun _ _ _ h => h) (Or.inl ⟨by rfl, fun w' hSw => by (have hSw : w'.cell? ⟨g9, 1, none⟩ = some (.slice (some ⟨g, 0, none⟩) vl.length c) := hSw; go_simp)⟩) (by assumption) ?qz5
                  try simp only [Act.put, List.setIfInBounds_toArray, List.set_cons_zero, List.set_cons_succ]
                  refine' wpAnyH_take (i := 5) (oi := { dst := some 100, op := Op.move (Operand.tmp 14), type := 3, pos := "law.go:222", after := #[], guard := none }) (v := .int .i64 (j : Int)) rfl (by kernel_rfl) (by kernel_rfl) (by kernel_rfl) (fun _ _ _ h => h) (Or.inl ⟨by rfl, fun w' hSw => by go_simp⟩) (by assumption) ?qz6
                  try simp only [Act.put, List.setIfInBounds_toArray, List.set_cons_zero, List.set_cons_succ]
                  refine' wpAnyH_take (i := 6) (oi := { dst := some 101, op := Op.move (Operand.tmp 12), type := 23, pos := "law.go:222", after := #[], guard := none }) (v := .slice (some ⟨g9, 0, none⟩) 1 c9) rfl (by kernel_rfl) (by kernel_rfl) (by kernel_rfl) (fun _ _ _ h => h) (Or.inl ⟨by rfl, fun w' hSw => by go_simp⟩) (by assumption) ?qz7
                  try simp only [Act.put, List.setIfInBounds_toArray, List.set_cons_zero, List.set_cons_succ]
                  refine' wpAnyH_take (i := 7) (oi := { dst := some 102, op := Op.move (Operand.tmp 13), type := 3, pos := "law.go:222", after := #[], guard := none }) (v := .int .i64 0) rfl (by kernel_rfl) (by kernel_rfl) (by kernel_rfl) (fun _ _ _ h => h) (Or.inl ⟨by rfl, fun w' hSw => by go_simp⟩) (by assumption) ?qz8
                  try simp only [Act.put, List.setIfInBounds_toArray, List.set_cons_zero, List.set_cons_succ]
                  refine' wpAnyH_take (i := 8) (oi := { dst := some 103, op := Op.indexAddr 23 (Operand.tmp 101) (Operand.tmp 102), type := 0, pos := "law.go:222", after := #[{ on := 6, ground := Ground.data }, { on := 7, ground := Ground.data }], guard := none }) (v := .pointer (some ⟨g9, 0, none⟩)) rfl (by kernel_rfl) (by kernel_rfl) (by kernel_rfl) (fun _ _ _ h => h) (Or.inl ⟨by rfl, fun w' hSw => by go_simp⟩) (by assumption) ?qz9
                  try simp only [Act.put, List.setIfInBounds_toArray, List.set_cons_zero, List.set_cons_succ]
                  refine' wpAnyH_take (i := 9) (oi := { dst := some 104, op := Op.fieldAddr 42 (Operand.tmp 103) 1, type := 0, pos := "law.go:222", after := #[{ on := 8, ground := Ground.data }], guard := none }) (v := .pointer (some ⟨g9, 1, none⟩)) rfl (by kernel_rfl) (by kernel_rfl) (by kernel_rfl) (fun _ _ _ h => h) (Or.inl ⟨by rfl, fun w' hSw => by go_simp⟩) (by assumption) ?qz10
                  try simp only [Act.put, List.setIfInBounds_toArray, List.set_cons_zero, List.set_cons_succ]
                  refine' wpAnyH_take (i := 10) (oi := { dst := some 105, op := Op.load 40 (Operand.tmp 104), type := 40, pos := "law.go:222", after := #[{ on := 9, ground := Ground.data }], guard := none }) (v := .slice (some ⟨g, 0, none⟩) vl.length c) rfl (by kernel_rfl) (by kernel_rfl) (by kernel_rfl) (fun _ _ _ h => h) (Or.inl ⟨by rfl, fun w' hSw => by (have hSw : w'.cell? ⟨g9, 1, none⟩ = some (.slice (some ⟨g, 0, none⟩) vl.length c) := hSw; go_simp)⟩) (by assumption) ?qz11
                  try simp only [Act.put, List.setIfInBounds_toArray, List.set_cons_zero, List.set_cons_succ]
                  refine' wpAnyH_take (i := 11) (oi := { dst := some 106, op := Op.move (Operand.tmp 14), type := 3, pos := "law.go:222", after := #[], guard := none }) (v := .int .i64 (j : Int)) rfl (by kernel_rfl) (by kernel_rfl) (by kernel_rfl) (fun _ _ _ h => h) (Or.inl ⟨by rfl, fun w' hSw => by go_simp⟩) (by assumption) ?qz12
                  try simp only [Act.put, List.setIfInBounds_toArray, List.set_cons_zero, List.set_cons_succ]
                  refine' wpAnyH_take (i := 12) (oi := { dst := some 107, op := Op.indexAddr 40 (Operand.tmp 105) (Operand.tmp 106), type := 0, pos := "law.go:222", after := #[{ on := 10, ground := Ground.data }, { on := 11, ground := Ground.data }], guard := none }) (v := .pointer (some ⟨g, j, none⟩)) rfl (by kernel_rfl) (by kernel_rfl) (by kernel_rfl) (fun _ _ _ h => h) (Or.inl ⟨by rfl, fun w' hSw => by go_simp⟩) (by assumption) ?qz13
                  try simp only [Act.put, List.setIfInBounds_toArray, List.set_cons_zero, List.set_cons_succ]
                  refine wpAnyH_ready (rs := [13]) (by kernel_rfl) (by simp) ?_
                  refine AllReadyH.cons (o := { dst := some 108, op := Op.load 5 (Operand.tmp 107), type := 5, pos := "law.go:222", after := #[{ on := 12, ground := Ground.data }], guard := none }) rfl (fun K hK => ?_) AllReadyH.nil
                  rw [if_pos (by rfl)]
                  go_simp
                  refine hK.out _ _ (by assumption) (fun hHeld => ?_)
                  clear hK K
                  try simp only [Act.put, List.setIfInBounds_toArray, List.set_cons_zero, List.set_cons_succ]
                  refine' wpAnyH_take (i := 14) (oi := { dst := some 109, op := Op.binOp BinOp.add 5 (Operand.tmp 108) (Operand.const (Value.int IntKind.u8 7)) 5, type := 5, pos := "law.go:222", after := #[{ on := 13, ground := Ground.data }], guard := none }) (v := .int .u8 (((x : Nat) + 7 : Int) % 256)) rfl (by kernel_rfl) (by kernel_rfl) (by kernel_rfl) (fun _ _ _ h => h) (Or.inl ⟨by rfl, fun w' hSw => by go_simp; simp [IntKind.wrap, IntKind.bits, IntKind.signed]⟩) (by assumption) ?qz14
                  try simp only [Act.put, List.setIfInBounds_toArray, List.set_cons_zero, List.set_cons_succ]
                  refine' wpAnyH_take (i := 15) (oi := { dst := some 110, op := Op.indexAddr 40 (Operand.tmp 99) (Operand.tmp 100), type := 0, pos := "law.go:222", after := #[{ on := 4, ground := Ground.data }, { on := 5, ground := Ground.data }, { on := 0, ground := Ground.phase }, { on := 1, ground := Ground.phase }, { on := 2, ground := Ground.phase }, { on := 3, ground := Ground.phase }, { on := 4, ground := Ground.phase }, { on := 5, ground := Ground.phase }, { on := 6, ground := Ground.phase }, { on := 7, ground := Ground.phase }, { on := 8, ground := Ground.phase }, { on := 9, ground := Ground.phase }, { on := 10, ground := Ground.phase }, { on := 11, ground := Ground.phase }, { on := 12, ground := Ground.phase }, { on := 13, ground := Ground.phase }, { on := 14, ground := Ground.phase }], guard := none }) (v := .pointer (some ⟨g, j, none⟩)) rfl (by kernel_rfl) (by kernel_rfl) (by kernel_rfl) (fun _ _ _ h => h) (Or.inl ⟨by rfl, fun w' hSw => by go_simp⟩) (by assumption) ?qz15
                  try simp only [Act.put, List.setIfInBounds_toArray, List.set_cons_zero, List.set_cons_succ]
                  refine wpAnyH_ready (rs := [16]) (by kernel_rfl) (by simp) ?_
                  refine AllReadyH.cons (o := { dst := none, op := Op.store 5 (Operand.tmp 110) (Operand.tmp 109), type := 0, pos := "law.go:222", after := #[{ on := 15, ground := Ground.data }, { on := 14, ground := Ground.data }, { on := 0, ground := Ground.phase }, { on := 1, ground := Ground.phase }, { on := 2, ground := Ground.phase }, { on := 3, ground := Ground.phase }, { on := 4, ground := Ground.phase }, { on := 5, ground := Ground.phase }, { on := 6, ground := Ground.phase }, { on := 7, ground := Ground.phase }, { on := 8, ground := Ground.phase }, { on := 9, ground := Ground.phase }, { on := 10, ground := Ground.phase }, { on := 11, ground := Ground.phase }, { on := 12, ground := Ground.phase }, { on := 13, ground := Ground.phase }, { on := 14, ground := Ground.phase }], guard := none }) rfl (fun K hK => ?_) AllReadyH.nil
                  rw [if_pos (by rfl)]
                  refine wp_store_cell 5 _ _ rfl size5c g j (.int .u8 (((x : Nat) + 7 : Int) % 256)) rfl rfl rfl _ _ hb (by omega) (fun wa ka ra => ?_)
                  refine hK.out _ _ ((World.cell?_of_block (ra.out.block g9 (Ne.symm HNE.out))).trans (by assumption)) (fun hHeld => ?_)
                  clear hK K
                  dsimp only [Act.put]
                  refine wpAnyH_done (by kernel_rfl) ?_ _
                  go_wp2
                  go_roundw
                  case rel =>
                    obtain ⟨n1, n2, n3⟩ := HN.out
                    have e1 : ((x : Int) + 7) % 256 = (((x + 7) % 256 : Nat) : Int) := by omega
                    have hba : Blk wa g 5 (cs.set j (.int .u8 (((x + 7) % 256 : Nat) : Int))) := by rw [← e1]; exact ka.out
                    refine ⟨j + 1, by omega, by go_num, ⟨some ⟨g, 0, none⟩, c, (World.cell?_of_block (ra.out.block g9 (Ne.symm HNE.out))).trans HC1.out, .inr ⟨g, rfl, HNE.out, Rw.set hn HX.out (by omega) hba hlt2, n1, n2, n3⟩⟩, (HV.out.grown (grown_drewN 1)).wr ra.out n1 n2 n3⟩
                  case measure => simp [intOf]; omega
                · obtain rfl : j = vl.length := by omega
                  have hal2 : Al w wr f5 fs5 g9 vl.length := ⟨A9, c, hc1, hal⟩
                  clear hal
                  go_wp2
                  go_roundw
                  case rel => exact ⟨1, Nat.le_refl _, by go_num, trivial, hal2, hv⟩
                  case measure => simp [intOf]
            · have hge2 : Calls Try.prog 15 #[.pointer (some ⟨sp, 0, none⟩), .string ⟨nm.toArray⟩] wr (GetE wr (some vl)) := by
                have := get_sto hv.st nm HM.out.1
                rw [HGET.out] at this
                exact this
              obtain rfl : k = 1 := by omega
              have HG := Lib.hid hv.g
              clear hal hv
              go_wp2_with (first
                | (go_at_call 15
                   refine hge2.mono ?_
                   rintro _ wb ⟨Ab, cb, rfl, -, -, hyb, hwb⟩
                   simp only [Option.getD_some] at hyb
                   have HGB := Lib.hid (HG.out.trans (grown_of_below hwb))
                   have hyw : Byt wb (fun b => b < w.heap.size) A vl := HY.out.keep fun b hb => HGB.out.block b hb (by simp)
                   have hbb := bytes_any (c := cb) (d := cv) hyb hyw
                   clear hge2 hyb hyw hwb)
                | (go_at_call 16
                   refine hbb.mono ?_
                   rintro _ _ ⟨rfl, rfl⟩)
                | fail)
              go_ret
              exact ⟨by simp, HGB.out⟩
end Go.Proofs.Ytonpcenjipigpaa
