/- Seal and Open of either suite. Conditions: no more than 5,000 bytes. -/
import Derived.Test.YtkbffponemihoaaGreatDoorV4
namespace Go.Proofs.YtkbffponemihoaaGreatDoor
open Go.RowKit T
/-- A suite: the real one, or a table and its terms. -/
abbrev Sg := Option (Nat × List Trm)
/-- Its value. -/
def val : Sg → Value
  | none => sui none
  | some p => sui (some ⟨p.1, 0, none⟩)
/-- What of it lies in memory; what may turn of its table is 'ok'. -/
def Sm (ok : Nat → Prop) (w : World) : Sg → Prop
  | none => S.Tab w
  | some p => Tbl w ok p.1 p.2
/-- What it seals a text to, and what it is then. -/
def sealF (σ : Sg) (ks plain : List UInt8) : Option (List UInt8) × Sg :=
  if plain.length ≤ 1024 then
    match σ with
    | none => (some (sealB ks plain), none)
    | some (tb, T) => (if 0 < (mk T 8 [ks, plain]).1 then some (cov T ks plain) else none, some (tb, (mk T 8 [ks, plain]).2))
  else (none, σ)
/-- What it opens. -/
def openF (σ : Sg) (ks b : List UInt8) : Option (List UInt8) :=
  match σ with
  | none => openB ks b
  | some (_, T) => uncov T ks b
/-- An answer of bytes and a bool. -/
def Ans (r : Option (List UInt8)) (e : Ending) (w' : World) : Prop :=
  (r = none ∧ e = .returned (.tuple #[.slice none 0 0, .bool false])) ∨
    ∃ s A c, r = some s ∧ e = .returned (.tuple #[.slice A s.length c, .bool true]) ∧ s.length ≤ c ∧ c ≤ maxLen ∧ Byt w' (fun b => b < w'.heap.size) A s
theorem ans_none {r : Option (List UInt8)} {w' : World} (h : r = none) : Ans r (.returned (.tuple #[.slice none 0 0, .bool false])) w' := .inl ⟨h, rfl⟩
theorem ans_some {r : Option (List UInt8)} {s : List UInt8} {w' : World} {A : Option Addr} {n c : Nat} (h : r = some s) (hn : s.length = n) (h1 : n ≤ c) (h2 : c ≤ maxLen) (h3 : Byt w' (fun b => b < w'.heap.size) A s) : Ans r (.returned (.tuple #[.slice A n c, .bool true])) w' := by
  subst hn
  exact .inr ⟨s, A, c, h, rfl, h1, h2, h3⟩
theorem Sm.up {ok : Nat → Prop} {w w' : World} {σ : Sg} (h : Sm ok w σ) (hg : w.grownBy w' none) : Sm ok w' σ := by
  cases σ with
  | none => exact S.Tab.grown h hg (by simp) (by simp)
  | some p =>
    have h' : Tbl w ok p.1 p.2 := h
    exact h'.below (grown_below hg)
theorem Sm.imp {ok ok' : Nat → Prop} {w : World} {σ : Sg} (h : Sm ok w σ) (hi : ∀ b, b < w.heap.size → ok b → ok' b) : Sm ok' w σ := by
  cases σ with
  | none => exact h
  | some p =>
    have h' : Tbl w ok p.1 p.2 := h
    exact h'.imp hi
theorem val_seal (σ : Sg) (ks plain : List UInt8) : val (sealF σ ks plain).2 = val σ := by
  unfold sealF
  split
  · cases σ with
    | none => rfl
    | some p => rfl
  · rfl
theorem sealF_big {σ : Sg} {ks plain : List UInt8} (h : 1024 < plain.length) : sealF σ ks plain = (none, σ) := if_neg (by omega)
theorem open_sealF {σ : Sg} {ks plain b : List UInt8} {ok : Nat → Prop} {w : World} (hk : ks.length = 32) (hm : Sm ok w σ) (h : (sealF σ ks plain).1 = some b) : openF (sealF σ ks plain).2 ks b = some plain := by
  by_cases hp : plain.length ≤ 1024
  · unfold sealF at h ⊢
    rw [if_pos hp] at h ⊢
    cases σ with
    | none =>
      obtain rfl := Option.some.inj h
      exact open_seal ks plain hp
    | some p =>
      obtain ⟨tb, T⟩ := p
      have h' : (if 0 < (mk T 8 [ks, plain]).1 then some (cov T ks plain) else none) = some b := h
      by_cases h0 : 0 < (mk T 8 [ks, plain]).1
      · rw [if_pos h0] at h'
        obtain rfl := Option.some.inj h'
        exact uncov_cov hk hp (Tbl.max (show Tbl w ok tb T from hm)) h0
      · rw [if_neg h0] at h'
        cases h'
  · rw [sealF_big (by omega)] at h
    cases h
theorem tbl_nodup {w : World} {ok : Nat → Prop} {tb : Nat} {T : List Trm} (h : Tbl w ok tb T) : T.Nodup := by
  obtain ⟨v, mb, D, h1, h2, h3, h4, h5, h6, h7, h8, h9, h10, _⟩ := h
  exact h10
theorem seal_openF {σ : Sg} {ks plain b : List UInt8} {ok : Nat → Prop} {w : World} (hk : ks.length = 32) (hm : Sm ok w σ) (h : openF σ ks b = some plain) : sealF σ ks plain = (some b, σ) := by
  cases σ with
  | none =>
    obtain ⟨h1, h2⟩ := seal_open ks b plain h
    unfold sealF
    rw [if_pos h1]
    show (some (sealB ks plain), none) = _
    rw [h2]
  | some p =>
    obtain ⟨tb, T⟩ := p
    obtain ⟨h1, ⟨n, h0, hmk⟩, h2⟩ := cov_uncov hk (tbl_nodup (show Tbl w ok tb T from hm)) h
    unfold sealF
    rw [if_pos h1]
    show (if 0 < (mk T 8 [ks, plain]).1 then some (cov T ks plain) else none, some (tb, (mk T 8 [ks, plain]).2)) = _
    rw [hmk, if_pos h0, h2]
/-- What Seal tells. -/
def SealE (ok : Nat → Prop) (w : World) (σ : Sg) (ks plain : List UInt8) (e : Ending) (w' : World) : Prop := Ans (sealF σ ks plain).1 e w' ∧ Sm (More ok w w') w' (sealF σ ks plain).2 ∧ Md ok w w'
theorem seal_big {ok : Nat → Prop} {w w' : World} {σ : Sg} {ks plain : List UInt8} (h : 1024 < plain.length) (hm : Sm ok w' σ) (hb : Below w.heap.size w w') : SealE ok w σ ks plain (.returned (.tuple #[.slice none 0 0, .bool false])) w' := by
  unfold SealE
  rw [sealF_big h]
  exact ⟨ans_none rfl, hm.imp fun _ _ h => .inl h, Md.of_below hb⟩
theorem seal_real {ok : Nat → Prop} {w w0 w' : World} {ks plain : List UInt8} {A : Option Addr} {c : Nat} (h : plain.length ≤ 1024) (hm : Sm ok w' none) (hb : Below w.heap.size w w') (h1 : (sealB ks plain).length ≤ c) (h2 : c ≤ maxLen) (h3 : Byt w' (fun b => w0.heap.size ≤ b ∧ b < w'.heap.size) A (sealB ks plain)) : SealE ok w none ks plain (.returned (.tuple #[.slice A (sealB ks plain).length c, .bool true])) w' := by
  unfold SealE sealF
  rw [if_pos h]
  exact ⟨ans_some rfl rfl h1 h2 (h3.imp fun _ hb => hb.2), hm, Md.of_below hb⟩
theorem sm_more {ok : Nat → Prop} {tb : Nat} {w w2 w' : World} {T : List Trm} (ht : Tbl w' (More ok w2 w') tb T) (hm : Md ok w2 w') (hb : Below w.heap.size w w2) : Sm (More ok w w') w' (some (tb, T)) ∧ Md ok w w' := by
  refine ⟨?_, (Md.of_below hb).trans (hm.imp fun _ _ h => .inl h)⟩
  show Tbl w' (More ok w w') tb T
  exact ht.imp fun _ _ h => h.imp id fun x => ⟨Nat.le_trans hb.size x.1, x.2⟩
theorem seal_full {ok : Nat → Prop} {tb : Nat} {w w2 w' : World} {T : List Trm} {ks plain : List UInt8} (h : plain.length ≤ 1024) (h0 : (mk T 8 [ks, plain]).1 = 0) (ht : Tbl w' (More ok w2 w') tb (mk T 8 [ks, plain]).2) (hm : Md ok w2 w') (hb : Below w.heap.size w w2) : SealE ok w (some (tb, T)) ks plain (.returned (.tuple #[.slice none 0 0, .bool false])) w' := by
  obtain ⟨h1, h2⟩ := sm_more ht hm hb
  unfold SealE sealF
  rw [if_pos h]
  exact ⟨ans_none (if_neg (by omega)), h1, h2⟩
theorem seal_free {ok : Nat → Prop} {tb g : Nat} {w w2 w' : World} {T : List Trm} {ks plain : List UInt8} (h : plain.length ≤ 1024) (h0 : 0 < (mk T 8 [ks, plain]).1) (ht : Tbl w' (More ok w2 w') tb (mk T 8 [ks, plain]).2) (hm : Md ok w2 w') (hb : Below w.heap.size w w2) (hy : Byt w' (fun b => b < w'.heap.size) (some ⟨g, 0, none⟩) (cov T ks plain)) :
    SealE ok w (some (tb, T)) ks plain (.returned (.tuple #[.slice (some ⟨g, 0, none⟩) (sizeL plain.length) (sizeL plain.length), .bool true])) w' := by
  obtain ⟨h1, h2⟩ := sm_more ht hm hb
  unfold SealE sealF
  rw [if_pos h]
  exact ⟨ans_some (if_pos h0) (pad_length (nm_length _) (by unfold sizeL; omega)) (Nat.le_refl _) (by unfold sizeL maxLen; omega) hy, h1, h2⟩
set_option maxRecDepth 100000 in
set_option maxHeartbeats 2000000 in
theorem seal_any {w : World} {σ : Sg} {ok0 ok : Nat → Prop} {A : Option Addr} {ks plain : List UInt8} {n c : Nat} (h : Sm ok0 w σ) (hl : ks.length = 32) (hx : Byt w ok A plain) (hok : ∀ b, ok b → b < w.heap.size) (hn : plain.length = n) (hc : n ≤ c) (hm : c ≤ maxLen) :
    Calls Tryz.prog 6 #[val σ, .agg (u8s ks).toArray, .slice A n c] w (SealE ok0 w σ ks plain) := by
  have HH := Lib.hid h
  have HL := Lib.hid hl
  have HX := Lib.hid hx
  have HO := Lib.hid hok
  have HN := Lib.hid hn
  clear h hl hx hok hn
  rcases σ with _ | ⟨tb, T⟩
  · show Calls Tryz.prog 6 #[.agg #[.pointer none], .agg (u8s ks).toArray, .slice A n c] w _
    have HG0 := Lib.hid (grown_below (World.grownBy_alloc w (.cells #[.pointer none] 27) none))
    have hb0 : C.Blk (w.alloc (.cells #[.pointer none] 27)) w.heap.size 27 [.pointer none] := C.Blk.of_alloc w _ 27
    have HB0 := Lib.hid hb0
    clear hb0
    go_enter Tryz.func6, Tryz.ntmps6
    go_wp2_with (refine wpList_box32 i49 rfl _ rfl ks rfl HL.out ?_)
    intro w1 k1 b1 z1
    have HB1 := Lib.hid (HB0.out.keep (b1.block _ (Nat.lt_succ_self _)))
    have B1 := Lib.hid (HG0.out.trans (b1.mono (Nat.le_succ _)))
    have K1 : Hid (Arr w1 40 (w.heap.size + 1) ks) := k1
    have X1 := Lib.hid (byt_up HX.out HO.out B1.out)
    have M1 := Lib.hid (Sm.up HH.out (below_grown B1.out))
    clear b1 z1 HG0 HB0 k1 HX HO HH
    obtain ⟨gk, hgk⟩ : ∃ g, g = w.heap.size + 1 := ⟨_, rfl⟩
    rw [← hgk] at K1 ⊢
    obtain ⟨gs, hgs⟩ : ∃ g, g = w.heap.size := ⟨_, rfl⟩
    rw [← hgs] at HB1 ⊢
    clear hgs hgk
    by_cases hbig : 1024 < n
    · have d0 : ((1024 : Int) < (n : Int)) = True := by simp; omega
      have d1 : decide ((1024 : Int) < (n : Int)) = true := by simp; omega
      go_wp2
      go_ret2
      exact seal_big (by rw [HN.out]; exact hbig) M1.out B1.out
    · have d0 : ((1024 : Int) < (n : Int)) = False := by simp; omega
      have d1 : decide ((1024 : Int) < (n : Int)) = false := by simp; omega
      have hcs : w1.cell? ⟨gs, 0, none⟩ = some (.pointer none) := HB1.out.get 0 _ rfl
      have hr := real_yes w1
      unfold sui at hr
      go_wp2_with fail
      go_at_call 15
      refine hr.mono ?_
      rintro _ w2 ⟨rfl, g2⟩
      have K2 := Lib.hid (Arr.grown K1.out g2 (by simp))
      have X2 := Lib.hid (byt_up X1.out (fun _ h => h) (grown_below g2))
      have M2 := Lib.hid (Sm.up M1.out g2)
      have HB2 := Lib.hid (HB1.out.grown g2 (by simp))
      have B2 := Lib.hid (B1.out.trans ((grown_below g2).mono B1.out.size))
      clear hr g2 hcs K1 X1 M1 HB1 B1
      have hcs2 : w2.cell? ⟨gs, 0, none⟩ = some (.pointer none) := HB2.out.get 0 _ rfl
      have hlk := lock_any (c := c) M2.out HL.out X2.out (fun _ h => h) HN.out hc hm (by omega)
      clear hcs2
      go_wp2_with (refine wpList_load_ar ar26 rfl _ rfl gk rfl ks K2.out HL.out ?_)
      go_at_call 16
      refine hlk.mono ?_
      rintro _ w3 ⟨A3, c3, rfl, q1, q2, q3, g3⟩
      have Q3 := Lib.hid q3
      have M3 := Lib.hid (Sm.up M2.out g3)
      have B3 := Lib.hid (B2.out.trans ((grown_below g3).mono B2.out.size))
      clear hlk q3 g3
      go_wp2
      go_ret2
      exact seal_real (by rw [HN.out]; omega) M3.out B3.out q1 q2 Q3.out
  · show Calls Tryz.prog 6 #[.agg #[.pointer (some ⟨tb, 0, none⟩)], .agg (u8s ks).toArray, .slice A n c] w _
    have HG0 := Lib.hid (grown_below (World.grownBy_alloc w (.cells #[.pointer (some ⟨tb, 0, none⟩)] 27) none))
    have hb0 : C.Blk (w.alloc (.cells #[.pointer (some ⟨tb, 0, none⟩)] 27)) w.heap.size 27 [.pointer (some ⟨tb, 0, none⟩)] := C.Blk.of_alloc w _ 27
    have HB0 := Lib.hid hb0
    clear hb0
    go_enter Tryz.func6, Tryz.ntmps6
    go_wp2_with (refine wpList_box32 i49 rfl _ rfl ks rfl HL.out ?_)
    intro w1 k1 b1 z1
    have HB1 := Lib.hid (HB0.out.keep (b1.block _ (Nat.lt_succ_self _)))
    have B1 := Lib.hid (HG0.out.trans (b1.mono (Nat.le_succ _)))
    have K1 : Hid (Arr w1 40 (w.heap.size + 1) ks) := k1
    have X1 := Lib.hid (byt_up HX.out HO.out B1.out)
    have M1 := Lib.hid (Sm.up HH.out (below_grown B1.out))
    clear b1 z1 HG0 HB0 k1 HX HO HH
    obtain ⟨gk, hgk⟩ : ∃ g, g = w.heap.size + 1 := ⟨_, rfl⟩
    rw [← hgk] at K1 ⊢
    obtain ⟨gs, hgs⟩ : ∃ g, g = w.heap.size := ⟨_, rfl⟩
    rw [← hgs] at HB1 ⊢
    clear hgs hgk
    by_cases hbig : 1024 < n
    · have d0 : ((1024 : Int) < (n : Int)) = True := by simp; omega
      have d1 : decide ((1024 : Int) < (n : Int)) = true := by simp; omega
      go_wp2
      go_ret2
      exact seal_big (by rw [HN.out]; exact hbig) M1.out B1.out
    · have d0 : ((1024 : Int) < (n : Int)) = False := by simp; omega
      have d1 : decide ((1024 : Int) < (n : Int)) = false := by simp; omega
      have hcs : w1.cell? ⟨gs, 0, none⟩ = some (.pointer (some ⟨tb, 0, none⟩)) := HB1.out.get 0 _ rfl
      have hr := real_no w1 tb
      unfold sui at hr
      go_wp2_with fail
      go_at_call 15
      refine hr.mono ?_
      rintro _ w2 ⟨rfl, g2⟩
      have K2 := Lib.hid (Arr.grown K1.out g2 (by simp))
      have X2 := Lib.hid (byt_up X1.out (fun _ h => h) (grown_below g2))
      have M2 := Lib.hid (Sm.up M1.out g2)
      have HB2 := Lib.hid (HB1.out.grown g2 (by simp))
      have B2 := Lib.hid (B1.out.trans ((grown_below g2).mono B1.out.size))
      clear hr g2 hcs K1 X1 M1 HB1 B1
      have hcs2 : w2.cell? ⟨gs, 0, none⟩ = some (.pointer (some ⟨tb, 0, none⟩)) := HB2.out.get 0 _ rfl
      have hcv := cover_any (c := c) (show Tbl w2 ok0 tb T from M2.out) HL.out X2.out (fun _ h => h) HN.out hc hm (by omega)
      unfold sui at hcv
      go_wp2_with (refine wpList_load_ar ar26 rfl _ rfl gk rfl ks K2.out HL.out ?_)
      go_at_call 17
      refine hcv.mono ?_
      rintro _ w3 ⟨t3, m3, h3⟩
      have T3 := Lib.hid t3
      have M3 := Lib.hid m3
      clear hcv t3 m3 hcs2
      rcases h3 with ⟨h0, rfl⟩ | ⟨h0, g, hge, rfl, hby⟩
      · have H0 := Lib.hid h0
        clear h0
        go_wp2
        go_ret2
        exact seal_full (by rw [HN.out]; omega) H0.out T3.out M3.out B2.out
      · have H0 := Lib.hid h0
        have HY := Lib.hid hby
        clear h0 hby
        go_wp2
        go_ret2
        exact seal_free (by rw [HN.out]; omega) H0.out T3.out M3.out B2.out HY.out
/-- What Open tells. -/
def OpnE (ok : Nat → Prop) (w : World) (σ : Sg) (ks b : List UInt8) (e : Ending) (w' : World) : Prop := Ans (openF σ ks b) e w' ∧ Sm ok w' σ ∧ Below w.heap.size w w'
set_option maxRecDepth 100000 in
set_option maxHeartbeats 2000000 in
theorem open_any {w : World} {σ : Sg} {ok0 ok : Nat → Prop} {A : Option Addr} {ks b : List UInt8} {n c : Nat} (h : Sm ok0 w σ) (hl : ks.length = 32) (hx : Byt w ok A b) (hok : ∀ b, ok b → b < w.heap.size) (hn : b.length = n) (hc : n ≤ c) (hm : c ≤ maxLen) (hs : n ≤ 5000) :
    Calls Tryz.prog 11 #[val σ, .agg (u8s ks).toArray, .slice A n c] w (OpnE ok0 w σ ks b) := by
  have HH := Lib.hid h
  have HL := Lib.hid hl
  have HX := Lib.hid hx
  have HO := Lib.hid hok
  have HN := Lib.hid hn
  clear h hl hx hok hn
  rcases σ with _ | ⟨tb, T⟩
  · show Calls Tryz.prog 11 #[.agg #[.pointer none], .agg (u8s ks).toArray, .slice A n c] w _
    have HG0 := Lib.hid (grown_below (World.grownBy_alloc w (.cells #[.pointer none] 27) none))
    have hb0 : C.Blk (w.alloc (.cells #[.pointer none] 27)) w.heap.size 27 [.pointer none] := C.Blk.of_alloc w _ 27
    have HB0 := Lib.hid hb0
    clear hb0
    go_enter Tryz.func11, Tryz.ntmps11
    go_wp2_with (refine wpList_box32 i49 rfl _ rfl ks rfl HL.out ?_)
    intro w1 k1 b1 z1
    have HB1 := Lib.hid (HB0.out.keep (b1.block _ (Nat.lt_succ_self _)))
    have B1 := Lib.hid (HG0.out.trans (b1.mono (Nat.le_succ _)))
    have K1 : Hid (Arr w1 40 (w.heap.size + 1) ks) := k1
    have X1 := Lib.hid (byt_up HX.out HO.out B1.out)
    have M1 := Lib.hid (Sm.up HH.out (below_grown B1.out))
    clear b1 z1 HG0 HB0 k1 HX HO HH
    obtain ⟨gk, hgk⟩ : ∃ g, g = w.heap.size + 1 := ⟨_, rfl⟩
    rw [← hgk] at K1 ⊢
    obtain ⟨gs, hgs⟩ : ∃ g, g = w.heap.size := ⟨_, rfl⟩
    rw [← hgs] at HB1 ⊢
    clear hgs hgk
    have hcs : w1.cell? ⟨gs, 0, none⟩ = some (.pointer none) := HB1.out.get 0 _ rfl
    have hr := real_yes w1
    unfold sui at hr
    go_wp2_with fail
    go_at_call 15
    refine hr.mono ?_
    rintro _ w2 ⟨rfl, g2⟩
    have K2 := Lib.hid (Arr.grown K1.out g2 (by simp))
    have X2 := Lib.hid (byt_up X1.out (fun _ h => h) (grown_below g2))
    have M2 := Lib.hid (Sm.up M1.out g2)
    have HB2 := Lib.hid (HB1.out.grown g2 (by simp))
    have B2 := Lib.hid (B1.out.trans ((grown_below g2).mono B1.out.size))
    clear hr g2 hcs K1 X1 M1 HB1 B1
    have hcs2 : w2.cell? ⟨gs, 0, none⟩ = some (.pointer none) := HB2.out.get 0 _ rfl
    have hlk := unlock_any (c := c) M2.out HL.out X2.out (fun _ h => h) HN.out hc hm hs
    clear hcs2
    go_wp2_with (refine wpList_load_ar ar26 rfl _ rfl gk rfl ks K2.out HL.out ?_)
    go_at_call 25
    refine hlk.mono ?_
    rintro _ w3 ⟨g3, h3⟩
    have M3 := Lib.hid (Sm.up M2.out g3)
    have B3 := Lib.hid (B2.out.trans ((grown_below g3).mono B2.out.size))
    clear hlk g3
    rcases h3 with ⟨h0, rfl⟩ | ⟨s, A3, c3, h0, rfl, q1, q2, q3⟩
    · have H0 := Lib.hid h0
      clear h0
      go_wp2
      go_ret2
      exact ⟨ans_none H0.out, M3.out, B3.out⟩
    · have H0 := Lib.hid h0
      have Q3 := Lib.hid q3
      clear h0 q3
      obtain ⟨l, hl⟩ : ∃ l, s.length = l := ⟨_, rfl⟩
      rw [hl] at q1 ⊢
      go_wp2
      go_ret2
      exact ⟨ans_some H0.out hl q1 q2 Q3.out, M3.out, B3.out⟩
  · show Calls Tryz.prog 11 #[.agg #[.pointer (some ⟨tb, 0, none⟩)], .agg (u8s ks).toArray, .slice A n c] w _
    have HG0 := Lib.hid (grown_below (World.grownBy_alloc w (.cells #[.pointer (some ⟨tb, 0, none⟩)] 27) none))
    have hb0 : C.Blk (w.alloc (.cells #[.pointer (some ⟨tb, 0, none⟩)] 27)) w.heap.size 27 [.pointer (some ⟨tb, 0, none⟩)] := C.Blk.of_alloc w _ 27
    have HB0 := Lib.hid hb0
    clear hb0
    go_enter Tryz.func11, Tryz.ntmps11
    go_wp2_with (refine wpList_box32 i49 rfl _ rfl ks rfl HL.out ?_)
    intro w1 k1 b1 z1
    have HB1 := Lib.hid (HB0.out.keep (b1.block _ (Nat.lt_succ_self _)))
    have B1 := Lib.hid (HG0.out.trans (b1.mono (Nat.le_succ _)))
    have K1 : Hid (Arr w1 40 (w.heap.size + 1) ks) := k1
    have X1 := Lib.hid (byt_up HX.out HO.out B1.out)
    have M1 := Lib.hid (Sm.up HH.out (below_grown B1.out))
    clear b1 z1 HG0 HB0 k1 HX HO HH
    obtain ⟨gk, hgk⟩ : ∃ g, g = w.heap.size + 1 := ⟨_, rfl⟩
    rw [← hgk] at K1 ⊢
    obtain ⟨gs, hgs⟩ : ∃ g, g = w.heap.size := ⟨_, rfl⟩
    rw [← hgs] at HB1 ⊢
    clear hgs hgk
    have hcs : w1.cell? ⟨gs, 0, none⟩ = some (.pointer (some ⟨tb, 0, none⟩)) := HB1.out.get 0 _ rfl
    have hr := real_no w1 tb
    unfold sui at hr
    go_wp2_with fail
    go_at_call 15
    refine hr.mono ?_
    rintro _ w2 ⟨rfl, g2⟩
    have K2 := Lib.hid (Arr.grown K1.out g2 (by simp))
    have X2 := Lib.hid (byt_up X1.out (fun _ h => h) (grown_below g2))
    have M2 := Lib.hid (Sm.up M1.out g2)
    have HB2 := Lib.hid (HB1.out.grown g2 (by simp))
    have B2 := Lib.hid (B1.out.trans ((grown_below g2).mono B1.out.size))
    clear hr g2 hcs K1 X1 M1 HB1 B1
    have hcs2 : w2.cell? ⟨gs, 0, none⟩ = some (.pointer (some ⟨tb, 0, none⟩)) := HB2.out.get 0 _ rfl
    have hlk := uncover_any (c := c) (show Tbl w2 ok0 tb T from M2.out) HL.out X2.out (fun _ h => h) HN.out hs
    unfold sui at hlk
    go_wp2_with (refine wpList_load_ar ar26 rfl _ rfl gk rfl ks K2.out HL.out ?_)
    go_at_call 26
    refine hlk.mono ?_
    rintro _ w3 ⟨g3, h3⟩
    have M3 := Lib.hid (Sm.up M2.out g3)
    have B3 := Lib.hid (B2.out.trans ((grown_below g3).mono B2.out.size))
    clear hlk g3
    rcases h3 with ⟨h0, rfl⟩ | ⟨s, A3, c3, h0, rfl, q1, q2, q3⟩
    · have H0 := Lib.hid h0
      clear h0
      go_wp2
      go_ret2
      exact ⟨ans_none H0.out, M3.out, B3.out⟩
    · have H0 := Lib.hid h0
      have Q3 := Lib.hid q3
      clear h0 q3
      obtain ⟨l, hl⟩ : ∃ l, s.length = l := ⟨_, rfl⟩
      rw [hl] at q1 ⊢
      go_wp2
      go_ret2
      exact ⟨ans_some H0.out hl q1 q2 Q3.out, M3.out, B3.out⟩
end Go.Proofs.YtkbffponemihoaaGreatDoor
