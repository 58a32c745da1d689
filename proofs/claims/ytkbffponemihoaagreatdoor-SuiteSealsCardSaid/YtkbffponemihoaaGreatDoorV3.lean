/- cover: a text is sealed by a term. Conditions: no more than 1,024 bytes. -/
import Derived.Test.YtkbffponemihoaaGreatDoorV2
import Derived.Test.YtkbffponemihoaaGreatDoorU6
namespace Go.Proofs.YtkbffponemihoaaGreatDoor
open Go.RowKit T
/-- A text is sealed, or the table is full: what the table is then. -/
def CovE (w : World) (ok : Nat → Prop) (tb : Nat) (T : List Trm) (ks plain : List UInt8) (e : Ending) (w' : World) : Prop :=
  Tbl w' (More ok w w') tb (mk T 8 [ks, plain]).2 ∧ Md ok w w' ∧
  (((mk T 8 [ks, plain]).1 = 0 ∧ e = .returned (.tuple #[.slice none 0 0, .bool false])) ∨
   (0 < (mk T 8 [ks, plain]).1 ∧ ∃ g, w.heap.size ≤ g ∧ e = .returned (.tuple #[.slice (some ⟨g, 0, none⟩) (sizeL plain.length) (sizeL plain.length), .bool true]) ∧ Byt w' (fun b => b < w'.heap.size) (some ⟨g, 0, none⟩) (cov T ks plain)))
/-- What lies there behind Make. -/
def CovM (w : World) (ok : Nat → Prop) (tb : Nat) (p : Nat × List Trm) (x y : Value) (w' : World) : Prop :=
  ∃ ga, x = .pointer (some ⟨ga, 0, none⟩) ∧ y = .bool (decide (0 < p.1)) ∧ Arr w' 40 ga (nm0 p.1) ∧ Tbl w' (More ok w w') tb p.2 ∧ Md ok w w' ∧ w.heap.size ≤ ga
theorem byt_up {v w : World} {ok : Nat → Prop} {A : Option Addr} {xs : List UInt8} (h : Byt v ok A xs) (hok : ∀ b, ok b → b < v.heap.size) (hb : Below v.heap.size v w) : Byt w (fun b => b < w.heap.size) A xs := (h.below hb hok).imp fun _ hbb => Nat.lt_of_lt_of_le (hok _ hbb) hb.size
theorem nm0_length (n : Nat) : (nm0 n).length = 32 := by
  unfold nm0
  split
  · exact z32_length
  · exact nm_length n
theorem lst_up {v w : World} {A : Option Addr} {ps : List (List UInt8)} (h : Lst v (fun b => b < v.heap.size) A ps) (hg : v.grownBy w none) : Lst w (fun b => b < w.heap.size) A ps := (h.below (grown_below hg) fun _ h => h).imp fun _ hb => Nat.lt_of_lt_of_le hb hg.size
theorem cv_tbl {w W : World} {ok : Nat → Prop} {tb : Nat} {T : List Trm} (h : Tbl w ok tb T) (hb : Below w.heap.size w W) : Tbl W (fun b => ok b ∧ b < w.heap.size) tb T := (h.imp fun _ hlt ho => ⟨ho, hlt⟩).below hb
/-- A table behind Make, and a block that isn't the table's. -/
def CvT (w W : World) (ok : Nat → Prop) (tb : Nat) (T : List Trm) (ga : Nat) : Prop := Tbl W (fun b => b ≠ ga ∧ More ok w W b) tb T ∧ Md ok w W
theorem cv_made {w W V : World} {ok : Nat → Prop} {tb ga : Nat} {T : List Trm} (h1 : Md ok w W) (h2 : Tbl V (More (fun b => ok b ∧ b < w.heap.size) W V) tb T) (h3 : Md (fun b => ok b ∧ b < w.heap.size) W V) (h4 : w.heap.size ≤ ga) (h5 : ga < W.heap.size) : CvT w V ok tb T ga := by
  refine ⟨h2.imp fun _ _ hm => ?_, h1.trans (h3.imp fun _ _ h => .inl h.1)⟩
  rcases hm with ⟨h, hlt⟩ | ⟨h, hlt⟩
  · exact ⟨by omega, .inl h⟩
  · exact ⟨by omega, .inr ⟨Nat.le_trans h1.size h, hlt⟩⟩
theorem cv_made' {w W V : World} {ok : Nat → Prop} {tb : Nat} {T : List Trm} (h1 : Md ok w W) (h2 : Tbl V (More (fun b => ok b ∧ b < w.heap.size) W V) tb T) (h3 : Md (fun b => ok b ∧ b < w.heap.size) W V) : CvT w V ok tb T V.heap.size := by
  refine ⟨h2.imp fun _ _ hm => ?_, h1.trans (h3.imp fun _ _ h => .inl h.1)⟩
  rcases hm with ⟨h, hlt⟩ | ⟨h, hlt⟩
  · exact ⟨by omega, .inl h⟩
  · exact ⟨by omega, .inr ⟨Nat.le_trans h1.size h, hlt⟩⟩
theorem cv_alloc {w W V : World} {ok : Nat → Prop} {tb ga : Nat} {T : List Trm} (h : CvT w W ok tb T ga) (hg : W.grownBy V none) : CvT w V ok tb T ga :=
  ⟨(h.1.below (grown_below hg)).imp fun _ _ hb => ⟨hb.1, hb.2.imp id fun x => ⟨x.1, Nat.lt_of_lt_of_le x.2 hg.size⟩⟩, h.2.trans (Md.of_below (grown_below hg))⟩
theorem cv_store {w W V : World} {ok : Nat → Prop} {tb ga : Nat} {T : List Trm} (h : CvT w W ok tb T ga) (hg : W.grownBy V (some ga)) (h1 : w.heap.size ≤ ga) (h2 : ga < W.heap.size) : CvT w V ok tb T ga :=
  ⟨(h.1.keep fun b hb hlt => hg.block b hlt (fun e => hb.1 (Option.some.inj e))).imp fun b _ hb => ⟨hb.1, hb.2.imp id fun x => ⟨x.1, Nat.lt_of_lt_of_le x.2 hg.size⟩⟩,
    h.2.trans ⟨hg.os, hg.tape, hg.output, hg.size, fun k hk hn => hg.block k hk (fun e => hn (by rw [Option.some.inj e]; exact .inr ⟨h1, h2⟩))⟩⟩
theorem covE_no {w W : World} {ok : Nat → Prop} {tb : Nat} {T : List Trm} {ks plain : List UInt8} {p : Nat × List Trm} (hp : mk T 8 [ks, plain] = p) (h0 : p.1 = 0) (ht : Tbl W (More ok w W) tb p.2) (hm : Md ok w W) : CovE w ok tb T ks plain (.returned (.tuple #[.slice none 0 0, .bool false])) W := by
  subst hp
  exact ⟨ht, hm, .inl ⟨h0, rfl⟩⟩
theorem covE_yes {w W V : World} {ok : Nat → Prop} {tb n N g : Nat} {T : List Trm} {ks plain : List UInt8} {p : Nat × List Trm} (hp : mk T 8 [ks, plain] = p) (h0 : 0 < p.1) (hn : plain.length = n) (hN : N = sizeL n) (ht : Tbl W (More ok w W) tb p.2) (hm : Md ok w W) (hg : W.grownBy V none) (hge : w.heap.size ≤ g) (hb : C.Blk V g 5 (u8s (pad (nm p.1) N))) : CovE w ok tb T ks plain (.returned (.tuple #[.slice (some ⟨g, 0, none⟩) N N, .bool true])) V := by
  subst hp hn hN
  have hb' : Byt V (fun b => b = g) (some ⟨g, 0, none⟩) (cov T ks plain) := C.byt_blk hb
  exact ⟨(ht.below (grown_below hg)).imp fun _ _ hb => hb.imp id fun x => ⟨x.1, Nat.lt_of_lt_of_le x.2 hg.size⟩, hm.trans (Md.of_below (grown_below hg)), .inr ⟨h0, g, hge, rfl, hb'.imp fun _ e => by rw [e]; exact hb.lt⟩⟩
theorem cv_end {w W : World} {ok : Nat → Prop} {tb ga : Nat} {T : List Trm} (h : CvT w W ok tb T ga) : Tbl W (More ok w W) tb T := h.1.imp fun _ _ hb => hb.2
set_option maxRecDepth 100000 in
set_option maxHeartbeats 4000000 in
theorem cover_any {w : World} {ok ok' : Nat → Prop} {tb : Nat} {T : List Trm} {A : Option Addr} {ks plain : List UInt8} {n c : Nat} (h : Tbl w ok tb T) (hl : ks.length = 32) (hx : Byt w ok' A plain) (hok : ∀ b, ok' b → b < w.heap.size) (hn : plain.length = n) (hc : n ≤ c) (hm : c ≤ maxLen) (hs : n ≤ 1024) :
    Calls Tryz.prog 17 #[sui (some ⟨tb, 0, none⟩), .agg (u8s ks).toArray, .slice A n c] w (CovE w ok tb T ks plain) := by
  have HL := Lib.hid hl
  have HT := Lib.hid h
  have HX := Lib.hid hx
  have HO := Lib.hid hok
  have HN := Lib.hid hn
  clear hl h hx hok hn
  have hg0 := World.grownBy_alloc w (.cells #[.pointer (some ⟨tb, 0, none⟩)] 27) none
  have hb0 : C.Blk (w.alloc (.cells #[.pointer (some ⟨tb, 0, none⟩)] 27)) w.heap.size 27 [.pointer (some ⟨tb, 0, none⟩)] := C.Blk.of_alloc w _ 27
  have HG0 := Lib.hid (grown_below hg0)
  have HB0 := Lib.hid hb0
  clear hg0 hb0
  unfold sui
  go_enter Tryz.func17, Tryz.ntmps17
  go_wp2_with (refine wpList_box32 i49 rfl _ rfl ks rfl HL.out ?_)
  intro w1 k1 b1 z1
  have hb1 : C.Blk w1 w.heap.size 27 [.pointer (some ⟨tb, 0, none⟩)] := HB0.out.keep (b1.block _ (Nat.lt_succ_self _))
  have HC1 : Hid (w1.cell? ⟨w.heap.size, 0, none⟩ = some (.pointer (some ⟨tb, 0, none⟩))) := hb1.get 0 _ rfl
  have B1 := Lib.hid (HG0.out.trans (b1.mono (Nat.le_succ _)))
  have K1 : Hid (Arr w1 40 (w.heap.size + 1) ks) := k1
  have Z1 : Hid (w1.heap.size = w.heap.size + 1 + 1) := z1
  clear hb1 b1 z1 HG0 HB0 k1
  obtain ⟨gk, hgk⟩ : ∃ g, g = w.heap.size + 1 := ⟨_, rfl⟩
  rw [← hgk] at K1 ⊢
  obtain ⟨gs, hgs⟩ : ∃ g, g = w.heap.size := ⟨_, rfl⟩
  rw [← hgs] at HC1 ⊢
  have HGS := Lib.hid hgs
  have HGK := Lib.hid hgk
  clear hgs hgk
  go_wp2_with fail
  obtain ⟨p, hp⟩ : ∃ p, mk T 8 [ks, plain] = p := ⟨_, rfl⟩
  go_cut [8, 9] from 11 to 19 (fun x y wx => CovM w ok tb p x y wx)
  case first =>
    obtain ⟨v, hv⟩ : ∃ v, v = w1.drew := ⟨_, rfl⟩
    have hgsv : gs < v.heap.size := by
      rw [hv, HGS.out]
      show w.heap.size < w1.heap.size
      rw [Z1.out]
      omega
    have hBW : Below w.heap.size w v := by rw [hv]; exact B1.out.drew
    have hS : v.cell? ⟨gs, 0, none⟩ = some (.pointer (some ⟨tb, 0, none⟩)) := by rw [hv]; exact HC1.out
    have XK : Byt v (fun b => b < v.heap.size) (some ⟨gk, 0, none⟩) ks := by rw [hv]; exact Arr.byt (ok := fun b => b < w1.drew.heap.size) (show Arr w1.drew 40 gk ks from K1.out) (Arr.lt (show Arr w1.drew 40 gk ks from K1.out))
    have XP : Byt v (fun b => b < v.heap.size) A plain := byt_up HX.out HO.out hBW
    have hKL := HL.out
    have hPN := HN.out
    have HBW := Lib.hid hBW
    have HB0 := Lib.hid (Below.refl v.heap.size v)
    refine wp_region_held_drew (S := fun W => W.cell? ⟨gs, 0, none⟩ = some (.pointer (some ⟨tb, 0, none⟩))) (by kernel_rfl) (by rw [← hv]; exact hS) (fun hHeld => ?_)
    rw [← hv] at hHeld ⊢
    clear hv hBW hS B1 HC1 K1 Z1 HX HO
    refine' wpAnyH_take (i := 0) (oi := { dst := some 12, op := Op.fieldAddr 27 (Operand.tmp 3) 0, type := 0, pos := "free.go:58", after := #[], guard := none }) (v := .pointer (some ⟨gs, 0, none⟩)) rfl (by kernel_rfl) (by kernel_rfl) (by kernel_rfl) (fun _ _ _ h => h) (Or.inl ⟨by rfl, fun w' hSw => by go_simp⟩) (by assumption) ?qz1
    try simp only [Act.put, List.setIfInBounds_toArray, List.set_cons_zero, List.set_cons_succ]
    refine' wpAnyH_take (i := 1) (oi := { dst := some 13, op := Op.load 25 (Operand.tmp 12), type := 25, pos := "free.go:58", after := #[{ on := 0, ground := Ground.data }], guard := none }) (v := .pointer (some ⟨tb, 0, none⟩)) rfl (by kernel_rfl) (by kernel_rfl) (by kernel_rfl) (fun _ _ _ h => h) (Or.inl ⟨by rfl, fun w' hSw => by go_simp⟩) (by assumption) ?qz2
    try simp only [Act.put, List.setIfInBounds_toArray, List.set_cons_zero, List.set_cons_succ]
    refine' wpAnyH_take (i := 2) (oi := { dst := some 14, op := Op.slice 40 (Operand.tmp 4) none none none, type := 23, pos := "free.go:58", after := #[], guard := none }) (v := .slice (some ⟨gk, 0, none⟩) 32 32) rfl (by kernel_rfl) (by kernel_rfl) (by kernel_rfl) (fun _ _ _ h => h) (Or.inl ⟨by rfl, fun w' hSw => by go_simp⟩) (by assumption) ?qz3
    try simp only [Act.put, List.setIfInBounds_toArray, List.set_cons_zero, List.set_cons_succ]
    refine' wpAnyH_take (i := 3) (oi := { dst := some 15, op := Op.move (Operand.tmp 2), type := 23, pos := "free.go:58", after := #[], guard := none }) (v := .slice A n c) rfl (by kernel_rfl) (by kernel_rfl) (by kernel_rfl) (fun _ _ _ h => h) (Or.inl ⟨by rfl, fun _ _ => rfl⟩) (by assumption) ?qz4
    try simp only [Act.put, List.setIfInBounds_toArray, List.set_cons_zero, List.set_cons_succ]
    refine wpAnyH_ready (rs := [4, 9]) (by kernel_rfl) (by simp) ?_
    refine AllReadyH.cons (o := { dst := some 16, op := Op.buildSlice 46 2 #[(0, Operand.tmp 14), (1, Operand.tmp 15)], type := 46, pos := "free.go:58", after := #[{ on := 2, ground := Ground.data }, { on := 3, ground := Ground.data }], guard := none }) rfl (fun K hK => ?_) (AllReadyH.cons (o := { dst := some 8, op := Op.alloc 40, type := 0, pos := "free.go:58", after := #[], guard := none }) rfl (fun K hK => ?_) AllReadyH.nil)
    · rw [if_pos (by rfl)]
      go_simp
      have hls_ := lst_two (byt_up XK (fun _ h => h) HB0.out) (byt_up XP (fun _ h => h) HB0.out) (fun _ h => h) hKL hPN (Nat.le_refl _) (by unfold maxLen; omega) hc hm
      have hga_ := World.grownBy_alloc v (.cells #[.slice (some ⟨gk, 0, none⟩) 32 32, .slice A n c] 23) none
      have hsz_ : (v.alloc (.cells #[.slice (some ⟨gk, 0, none⟩) 32 32, .slice A n c] 23)).heap.size = v.heap.size + 1 := World.size_alloc _ _
      obtain ⟨wz5, hw_⟩ : ∃ w', v.alloc (.cells #[.slice (some ⟨gk, 0, none⟩) 32 32, .slice A n c] 23) = w' := ⟨_, rfl⟩
      rw [hw_] at hls_ hga_ hsz_ ⊢
      obtain ⟨glz8, hg_⟩ : ∃ g, g = v.heap.size := ⟨_, rfl⟩
      rw [← hg_] at hls_ hsz_ ⊢
      have LSz7 : Hid (Lst wz5 (fun b => b < wz5.heap.size) (some ⟨glz8, 0, none⟩) [ks, plain]) := hls_.imp fun b hb => by rw [hsz_]; exact hb
      have Bz6 := Lib.hid (HB0.out.trans ((grown_below hga_).mono HB0.out.size))
      clear hls_ hsz_ hw_ hg_
      refine hK.out _ _ (hga_.cell hHeld (by simp)) (fun hHeld => ?_)
      clear hK K
      try simp only [Act.put, List.setIfInBounds_toArray, List.set_cons_zero, List.set_cons_succ]
      refine wpAnyH_ready (rs := [5, 9]) (by kernel_rfl) (by simp) ?_
      refine AllReadyH.cons (o := { dst := some 17, op := Op.call { callee := Callee.value (Operand.func 32), args := #[Operand.tmp 13, Operand.const (Value.int IntKind.i64 8), Operand.tmp 16], argTypes := #[25, 3, 46] }, type := 55, pos := "free.go:58", after := #[{ on := 1, ground := Ground.data }, { on := 4, ground := Ground.data }], guard := none }) rfl (fun K hK => ?_) (AllReadyH.cons (o := { dst := some 8, op := Op.alloc 40, type := 0, pos := "free.go:58", after := #[], guard := none }) rfl (fun K hK => ?_) AllReadyH.nil)
      · rw [if_pos (by rfl)]
        go_simp
        have hB_ := HBW.out.trans (Bz6.out.mono HBW.out.size)
        have hc_ : Calls Tryz.prog 32 #[.pointer (some ⟨tb, 0, none⟩), .int .i64 8, .slice (some ⟨glz8, 0, none⟩) 2 2] wz5 (MakeE wz5 (fun b => ok b ∧ b < w.heap.size) tb p) := by
          have h := make_any (kind := 8) (c := 2) (cv_tbl HT.out hB_) LSz7.out (fun _ h => h) (by unfold maxLen; simp)
          rw [hp] at h
          exact h
        with_reducible refine hc_.mono ?_
        rintro _ wz9 ⟨rfl, ht_, hm_⟩
        have hs_ : gs < wz5.heap.size := Nat.lt_of_lt_of_le hgsv Bz6.out.size
        have CVz10 := Lib.hid (cv_made' (Md.of_below hB_) ht_ hm_)
        refine hK.out _ _ ((World.cell?_of_block (hm_.block gs hs_ (fun h => by rw [HGS.out] at h; exact Nat.lt_irrefl _ h.2))).trans hHeld) (fun hHeld => ?_)
        clear hK K
        try simp only [Act.put, List.setIfInBounds_toArray, List.set_cons_zero, List.set_cons_succ]
        refine' wpAnyH_take (i := 6) (oi := { dst := some 11, op := Op.move (Operand.tmp 17), type := 55, pos := "free.go:58", after := #[{ on := 5, ground := Ground.data }], guard := none }) (v := _) rfl (by kernel_rfl) (by kernel_rfl) (by kernel_rfl) (fun _ _ _ h => h) (Or.inl ⟨by rfl, fun _ _ => rfl⟩) (by assumption) ?qz11
        try simp only [Act.put, List.setIfInBounds_toArray, List.set_cons_zero, List.set_cons_succ]
        refine' wpAnyH_take (i := 7) (oi := { dst := some 18, op := Op.extract (Operand.tmp 11) 0, type := 40, pos := "free.go:58", after := #[{ on := 6, ground := Ground.data }], guard := none }) (v := .agg (u8s (nm0 p.1)).toArray) rfl (by kernel_rfl) (by kernel_rfl) (by kernel_rfl) (fun _ _ _ h => h) (Or.inl ⟨by rfl, fun _ _ => rfl⟩) (by assumption) ?qz12
        try simp only [Act.put, List.setIfInBounds_toArray, List.set_cons_zero, List.set_cons_succ]
        refine' wpAnyH_take (i := 8) (oi := { dst := some 19, op := Op.extract (Operand.tmp 11) 1, type := 4, pos := "free.go:58", after := #[{ on := 6, ground := Ground.data }, { on := 10, ground := Ground.gcOnly Departure.lateStores }], guard := none }) (v := .bool (decide (0 < p.1))) rfl (by kernel_rfl) (by kernel_rfl) (by kernel_rfl) (fun _ _ _ h => h) (Or.inl ⟨by rfl, fun _ _ => rfl⟩) (by assumption) ?qz13
        try simp only [Act.put, List.setIfInBounds_toArray, List.set_cons_zero, List.set_cons_succ]
        refine wpAnyH_ready (rs := [9]) (by kernel_rfl) (by simp) ?_
        refine AllReadyH.cons (o := { dst := some 8, op := Op.alloc 40, type := 0, pos := "free.go:58", after := #[], guard := none }) rfl (fun K hK => ?_) AllReadyH.nil
        rw [if_pos (by rfl)]
        have hgsc_ : gs < wz9.heap.size := Nat.lt_of_lt_of_le hgsv (Nat.le_trans Bz6.out.size hm_.size)
        refine wp_alloc_ar ar26 rfl ?_
        intro wz14 hk_ hga_ hz_
        have CVz17 := Lib.hid (cv_alloc CVz10.out hga_)
        have ARz16 := Lib.hid hk_
        have GEz18 : Hid (w.heap.size ≤ wz9.heap.size ∧ wz9.heap.size < wz14.heap.size) := ⟨CVz10.out.2.size, by rw [hz_]; exact Nat.lt_succ_self _⟩
        obtain ⟨gaz15, hg_⟩ : ∃ g, g = wz9.heap.size := ⟨_, rfl⟩
        rw [← hg_] at CVz17 ARz16 GEz18 ⊢
        have HNEgaz15 : Hid (gaz15 ≠ gs) := fun e => by rw [hg_] at e; rw [e] at hgsc_; exact Nat.lt_irrefl _ hgsc_
        clear hg_ hz_ hgsc_ hk_
        refine hK.out _ _ (hga_.cell hHeld (by simp)) (fun hHeld => ?_)
        clear hK K
        dsimp only [Act.put]
        refine wpAnyH_ready (rs := [10]) (by kernel_rfl) (by simp) ?_
        refine AllReadyH.cons (o := { dst := none, op := Op.store 40 (Operand.tmp 8) (Operand.tmp 18), type := 0, pos := "free.go:58", after := #[{ on := 9, ground := Ground.data }, { on := 7, ground := Ground.data }, { on := 5, ground := Ground.chain }, { on := 0, ground := Ground.phase }, { on := 1, ground := Ground.phase }, { on := 2, ground := Ground.phase }, { on := 3, ground := Ground.phase }, { on := 4, ground := Ground.phase }, { on := 5, ground := Ground.phase }, { on := 6, ground := Ground.phase }, { on := 7, ground := Ground.phase }, { on := 8, ground := Ground.textOnly Departure.lateStores }, { on := 9, ground := Ground.phase }], guard := none }) rfl (fun K hK => ?_) AllReadyH.nil
        rw [if_pos (by rfl)]
        refine wp_store_ar ar26 _ _ rfl gaz15 (zz 32) (nm0 p.1) rfl rfl ARz16.out (zz_length _) (nm0_length _) ?_
        intro wz19 hk_ hgb_ hz_
        have CVz20 := Lib.hid (cv_store CVz17.out hgb_ GEz18.out.1 GEz18.out.2)
        have ARz21 := Lib.hid hk_
        have hne_ : gaz15 ≠ gs := HNEgaz15.out
        refine hK.out _ _ (hgb_.cell hHeld (by simpa using Ne.symm (hne_))) (fun hHeld => ?_)
        clear hK K
        dsimp only [Act.put]
        refine wpAnyH_ready (rs := [11]) (by kernel_rfl) (by simp) ?_
        refine AllReadyH.cons (o := { dst := some 9, op := Op.assign (Operand.tmp 19), type := 4, pos := "free.go:58", after := #[{ on := 8, ground := Ground.data }, { on := 10, ground := Ground.chain }, { on := 0, ground := Ground.phase }, { on := 1, ground := Ground.phase }, { on := 2, ground := Ground.phase }, { on := 3, ground := Ground.phase }, { on := 4, ground := Ground.phase }, { on := 5, ground := Ground.phase }, { on := 6, ground := Ground.phase }, { on := 7, ground := Ground.phase }, { on := 8, ground := Ground.phase }, { on := 9, ground := Ground.phase }, { on := 10, ground := Ground.phase }], guard := none }) rfl (fun K hK => ?_) AllReadyH.nil
        rw [if_pos (by rfl)]
        go_simp
        refine hK.out _ _ hHeld (fun hHeld => ?_)
        clear hK K
        try simp only [Act.put, List.setIfInBounds_toArray, List.set_cons_zero, List.set_cons_succ]
        refine wpAnyH_done (by kernel_rfl) ?_ _
        go_wp2_with (fail)
        go_meet
        case rel => exact ⟨gaz15, rfl, rfl, ARz21.out, cv_end CVz20.out, CVz20.out.2, GEz18.out.1⟩
      · rw [if_pos (by rfl)]
        have hgsc_ : gs < wz5.heap.size := Nat.lt_of_lt_of_le hgsv Bz6.out.size
        refine wp_alloc_ar ar26 rfl ?_
        intro wz22 hk_ hga_ hz_
        have Bz25 := Lib.hid (Bz6.out.trans ((grown_below hga_).mono Bz6.out.size))
        have ARz24 := Lib.hid hk_
        have LSz27 := Lib.hid (lst_up LSz7.out hga_)
        obtain ⟨gaz23, hg_⟩ : ∃ g, g = wz5.heap.size := ⟨_, rfl⟩
        have GEz26 : Hid (v.heap.size ≤ gaz23 ∧ gaz23 < wz22.heap.size) := ⟨by rw [hg_]; exact Bz6.out.size, by rw [hz_, hg_]; exact Nat.lt_succ_self _⟩
        rw [← hg_] at ARz24 ⊢
        have HNEgaz23 : Hid (gaz23 ≠ gs) := fun e => by rw [hg_] at e; rw [e] at hgsc_; exact Nat.lt_irrefl _ hgsc_
        clear hg_ hz_ hgsc_ hk_
        refine hK.out _ _ (hga_.cell hHeld (by simp)) (fun hHeld => ?_)
        clear hK K
        dsimp only [Act.put]
        refine wpAnyH_ready (rs := [5]) (by kernel_rfl) (by simp) ?_
        refine AllReadyH.cons (o := { dst := some 17, op := Op.call { callee := Callee.value (Operand.func 32), args := #[Operand.tmp 13, Operand.const (Value.int IntKind.i64 8), Operand.tmp 16], argTypes := #[25, 3, 46] }, type := 55, pos := "free.go:58", after := #[{ on := 1, ground := Ground.data }, { on := 4, ground := Ground.data }], guard := none }) rfl (fun K hK => ?_) AllReadyH.nil
        rw [if_pos (by rfl)]
        go_simp
        have hB_ := HBW.out.trans (Bz25.out.mono HBW.out.size)
        have hc_ : Calls Tryz.prog 32 #[.pointer (some ⟨tb, 0, none⟩), .int .i64 8, .slice (some ⟨glz8, 0, none⟩) 2 2] wz22 (MakeE wz22 (fun b => ok b ∧ b < w.heap.size) tb p) := by
          have h := make_any (kind := 8) (c := 2) (cv_tbl HT.out hB_) LSz27.out (fun _ h => h) (by unfold maxLen; simp)
          rw [hp] at h
          exact h
        with_reducible refine hc_.mono ?_
        rintro _ wz28 ⟨rfl, ht_, hm_⟩
        have hs_ : gs < wz22.heap.size := Nat.lt_of_lt_of_le hgsv Bz25.out.size
        have CVz29 := Lib.hid (cv_made (Md.of_below hB_) ht_ hm_ (Nat.le_trans HBW.out.size GEz26.out.1) GEz26.out.2)
        have ARz30 := Lib.hid (Arr.keep ARz24.out (hm_.block _ GEz26.out.2 (fun h => Nat.lt_irrefl _ (Nat.lt_of_lt_of_le h.2 (Nat.le_trans HBW.out.size GEz26.out.1)))))
        have GEz31 : Hid (w.heap.size ≤ gaz23 ∧ gaz23 < wz28.heap.size) := ⟨Nat.le_trans HBW.out.size GEz26.out.1, Nat.lt_of_lt_of_le GEz26.out.2 hm_.size⟩
        refine hK.out _ _ ((World.cell?_of_block (hm_.block gs hs_ (fun h => by rw [HGS.out] at h; exact Nat.lt_irrefl _ h.2))).trans hHeld) (fun hHeld => ?_)
        clear hK K
        try simp only [Act.put, List.setIfInBounds_toArray, List.set_cons_zero, List.set_cons_succ]
        refine' wpAnyH_take (i := 6) (oi := { dst := some 11, op := Op.move (Operand.tmp 17), type := 55, pos := "free.go:58", after := #[{ on := 5, ground := Ground.data }], guard := none }) (v := _) rfl (by kernel_rfl) (by kernel_rfl) (by kernel_rfl) (fun _ _ _ h => h) (Or.inl ⟨by rfl, fun _ _ => rfl⟩) (by assumption) ?qz32
        try simp only [Act.put, List.setIfInBounds_toArray, List.set_cons_zero, List.set_cons_succ]
        refine' wpAnyH_take (i := 7) (oi := { dst := some 18, op := Op.extract (Operand.tmp 11) 0, type := 40, pos := "free.go:58", after := #[{ on := 6, ground := Ground.data }], guard := none }) (v := .agg (u8s (nm0 p.1)).toArray) rfl (by kernel_rfl) (by kernel_rfl) (by kernel_rfl) (fun _ _ _ h => h) (Or.inl ⟨by rfl, fun _ _ => rfl⟩) (by assumption) ?qz33
        try simp only [Act.put, List.setIfInBounds_toArray, List.set_cons_zero, List.set_cons_succ]
        refine' wpAnyH_take (i := 8) (oi := { dst := some 19, op := Op.extract (Operand.tmp 11) 1, type := 4, pos := "free.go:58", after := #[{ on := 6, ground := Ground.data }, { on := 10, ground := Ground.gcOnly Departure.lateStores }], guard := none }) (v := .bool (decide (0 < p.1))) rfl (by kernel_rfl) (by kernel_rfl) (by kernel_rfl) (fun _ _ _ h => h) (Or.inl ⟨by rfl, fun _ _ => rfl⟩) (by assumption) ?qz34
        try simp only [Act.put, List.setIfInBounds_toArray, List.set_cons_zero, List.set_cons_succ]
        refine wpAnyH_ready (rs := [10]) (by kernel_rfl) (by simp) ?_
        refine AllReadyH.cons (o := { dst := none, op := Op.store 40 (Operand.tmp 8) (Operand.tmp 18), type := 0, pos := "free.go:58", after := #[{ on := 9, ground := Ground.data }, { on := 7, ground := Ground.data }, { on := 5, ground := Ground.chain }, { on := 0, ground := Ground.phase }, { on := 1, ground := Ground.phase }, { on := 2, ground := Ground.phase }, { on := 3, ground := Ground.phase }, { on := 4, ground := Ground.phase }, { on := 5, ground := Ground.phase }, { on := 6, ground := Ground.phase }, { on := 7, ground := Ground.phase }, { on := 8, ground := Ground.textOnly Departure.lateStores }, { on := 9, ground := Ground.phase }], guard := none }) rfl (fun K hK => ?_) AllReadyH.nil
        rw [if_pos (by rfl)]
        refine wp_store_ar ar26 _ _ rfl gaz23 (zz 32) (nm0 p.1) rfl rfl ARz30.out (zz_length _) (nm0_length _) ?_
        intro wz35 hk_ hgb_ hz_
        have CVz36 := Lib.hid (cv_store CVz29.out hgb_ GEz31.out.1 GEz31.out.2)
        have ARz37 := Lib.hid hk_
        have hne_ : gaz23 ≠ gs := HNEgaz23.out
        refine hK.out _ _ (hgb_.cell hHeld (by simpa using Ne.symm (hne_))) (fun hHeld => ?_)
        clear hK K
        dsimp only [Act.put]
        refine wpAnyH_ready (rs := [11]) (by kernel_rfl) (by simp) ?_
        refine AllReadyH.cons (o := { dst := some 9, op := Op.assign (Operand.tmp 19), type := 4, pos := "free.go:58", after := #[{ on := 8, ground := Ground.data }, { on := 10, ground := Ground.chain }, { on := 0, ground := Ground.phase }, { on := 1, ground := Ground.phase }, { on := 2, ground := Ground.phase }, { on := 3, ground := Ground.phase }, { on := 4, ground := Ground.phase }, { on := 5, ground := Ground.phase }, { on := 6, ground := Ground.phase }, { on := 7, ground := Ground.phase }, { on := 8, ground := Ground.phase }, { on := 9, ground := Ground.phase }, { on := 10, ground := Ground.phase }], guard := none }) rfl (fun K hK => ?_) AllReadyH.nil
        rw [if_pos (by rfl)]
        go_simp
        refine hK.out _ _ hHeld (fun hHeld => ?_)
        clear hK K
        try simp only [Act.put, List.setIfInBounds_toArray, List.set_cons_zero, List.set_cons_succ]
        refine wpAnyH_done (by kernel_rfl) ?_ _
        go_wp2_with (fail)
        go_meet
        case rel => exact ⟨gaz23, rfl, rfl, ARz37.out, cv_end CVz36.out, CVz36.out.2, GEz31.out.1⟩
    · rw [if_pos (by rfl)]
      have hgsc_ : gs < v.heap.size := Nat.lt_of_lt_of_le hgsv HB0.out.size
      refine wp_alloc_ar ar26 rfl ?_
      intro wz38 hk_ hga_ hz_
      have Bz41 := Lib.hid (HB0.out.trans ((grown_below hga_).mono HB0.out.size))
      have ARz40 := Lib.hid hk_
      obtain ⟨gaz39, hg_⟩ : ∃ g, g = v.heap.size := ⟨_, rfl⟩
      have GEz42 : Hid (v.heap.size ≤ gaz39 ∧ gaz39 < wz38.heap.size) := ⟨by rw [hg_]; exact HB0.out.size, by rw [hz_, hg_]; exact Nat.lt_succ_self _⟩
      rw [← hg_] at ARz40 ⊢
      have HNEgaz39 : Hid (gaz39 ≠ gs) := fun e => by rw [hg_] at e; rw [e] at hgsc_; exact Nat.lt_irrefl _ hgsc_
      clear hg_ hz_ hgsc_ hk_
      refine hK.out _ _ (hga_.cell hHeld (by simp)) (fun hHeld => ?_)
      clear hK K
      dsimp only [Act.put]
      refine wpAnyH_ready (rs := [4]) (by kernel_rfl) (by simp) ?_
      refine AllReadyH.cons (o := { dst := some 16, op := Op.buildSlice 46 2 #[(0, Operand.tmp 14), (1, Operand.tmp 15)], type := 46, pos := "free.go:58", after := #[{ on := 2, ground := Ground.data }, { on := 3, ground := Ground.data }], guard := none }) rfl (fun K hK => ?_) AllReadyH.nil
      rw [if_pos (by rfl)]
      go_simp
      have hls_ := lst_two (byt_up XK (fun _ h => h) Bz41.out) (byt_up XP (fun _ h => h) Bz41.out) (fun _ h => h) hKL hPN (Nat.le_refl _) (by unfold maxLen; omega) hc hm
      have hga_ := World.grownBy_alloc wz38 (.cells #[.slice (some ⟨gk, 0, none⟩) 32 32, .slice A n c] 23) none
      have hsz_ : (wz38.alloc (.cells #[.slice (some ⟨gk, 0, none⟩) 32 32, .slice A n c] 23)).heap.size = wz38.heap.size + 1 := World.size_alloc _ _
      obtain ⟨wz43, hw_⟩ : ∃ w', wz38.alloc (.cells #[.slice (some ⟨gk, 0, none⟩) 32 32, .slice A n c] 23) = w' := ⟨_, rfl⟩
      rw [hw_] at hls_ hga_ hsz_ ⊢
      obtain ⟨glz46, hg_⟩ : ∃ g, g = wz38.heap.size := ⟨_, rfl⟩
      rw [← hg_] at hls_ hsz_ ⊢
      have LSz45 : Hid (Lst wz43 (fun b => b < wz43.heap.size) (some ⟨glz46, 0, none⟩) [ks, plain]) := hls_.imp fun b hb => by rw [hsz_]; exact hb
      have Bz44 := Lib.hid (Bz41.out.trans ((grown_below hga_).mono Bz41.out.size))
      clear hls_ hsz_ hw_ hg_
      have ARz47 := Lib.hid (Arr.grown ARz40.out hga_ (by simp))
      have GEz48 : Hid (v.heap.size ≤ gaz39 ∧ gaz39 < wz43.heap.size) := ⟨GEz42.out.1, Nat.lt_of_lt_of_le GEz42.out.2 hga_.size⟩
      refine hK.out _ _ (hga_.cell hHeld (by simp)) (fun hHeld => ?_)
      clear hK K
      try simp only [Act.put, List.setIfInBounds_toArray, List.set_cons_zero, List.set_cons_succ]
      refine wpAnyH_ready (rs := [5]) (by kernel_rfl) (by simp) ?_
      refine AllReadyH.cons (o := { dst := some 17, op := Op.call { callee := Callee.value (Operand.func 32), args := #[Operand.tmp 13, Operand.const (Value.int IntKind.i64 8), Operand.tmp 16], argTypes := #[25, 3, 46] }, type := 55, pos := "free.go:58", after := #[{ on := 1, ground := Ground.data }, { on := 4, ground := Ground.data }], guard := none }) rfl (fun K hK => ?_) AllReadyH.nil
      rw [if_pos (by rfl)]
      go_simp
      have hB_ := HBW.out.trans (Bz44.out.mono HBW.out.size)
      have hc_ : Calls Tryz.prog 32 #[.pointer (some ⟨tb, 0, none⟩), .int .i64 8, .slice (some ⟨glz46, 0, none⟩) 2 2] wz43 (MakeE wz43 (fun b => ok b ∧ b < w.heap.size) tb p) := by
        have h := make_any (kind := 8) (c := 2) (cv_tbl HT.out hB_) LSz45.out (fun _ h => h) (by unfold maxLen; simp)
        rw [hp] at h
        exact h
      with_reducible refine hc_.mono ?_
      rintro _ wz49 ⟨rfl, ht_, hm_⟩
      have hs_ : gs < wz43.heap.size := Nat.lt_of_lt_of_le hgsv Bz44.out.size
      have CVz50 := Lib.hid (cv_made (Md.of_below hB_) ht_ hm_ (Nat.le_trans HBW.out.size GEz48.out.1) GEz48.out.2)
      have ARz51 := Lib.hid (Arr.keep ARz47.out (hm_.block _ GEz48.out.2 (fun h => Nat.lt_irrefl _ (Nat.lt_of_lt_of_le h.2 (Nat.le_trans HBW.out.size GEz48.out.1)))))
      have GEz52 : Hid (w.heap.size ≤ gaz39 ∧ gaz39 < wz49.heap.size) := ⟨Nat.le_trans HBW.out.size GEz48.out.1, Nat.lt_of_lt_of_le GEz48.out.2 hm_.size⟩
      refine hK.out _ _ ((World.cell?_of_block (hm_.block gs hs_ (fun h => by rw [HGS.out] at h; exact Nat.lt_irrefl _ h.2))).trans hHeld) (fun hHeld => ?_)
      clear hK K
      try simp only [Act.put, List.setIfInBounds_toArray, List.set_cons_zero, List.set_cons_succ]
      refine' wpAnyH_take (i := 6) (oi := { dst := some 11, op := Op.move (Operand.tmp 17), type := 55, pos := "free.go:58", after := #[{ on := 5, ground := Ground.data }], guard := none }) (v := _) rfl (by kernel_rfl) (by kernel_rfl) (by kernel_rfl) (fun _ _ _ h => h) (Or.inl ⟨by rfl, fun _ _ => rfl⟩) (by assumption) ?qz53
      try simp only [Act.put, List.setIfInBounds_toArray, List.set_cons_zero, List.set_cons_succ]
      refine' wpAnyH_take (i := 7) (oi := { dst := some 18, op := Op.extract (Operand.tmp 11) 0, type := 40, pos := "free.go:58", after := #[{ on := 6, ground := Ground.data }], guard := none }) (v := .agg (u8s (nm0 p.1)).toArray) rfl (by kernel_rfl) (by kernel_rfl) (by kernel_rfl) (fun _ _ _ h => h) (Or.inl ⟨by rfl, fun _ _ => rfl⟩) (by assumption) ?qz54
      try simp only [Act.put, List.setIfInBounds_toArray, List.set_cons_zero, List.set_cons_succ]
      refine' wpAnyH_take (i := 8) (oi := { dst := some 19, op := Op.extract (Operand.tmp 11) 1, type := 4, pos := "free.go:58", after := #[{ on := 6, ground := Ground.data }, { on := 10, ground := Ground.gcOnly Departure.lateStores }], guard := none }) (v := .bool (decide (0 < p.1))) rfl (by kernel_rfl) (by kernel_rfl) (by kernel_rfl) (fun _ _ _ h => h) (Or.inl ⟨by rfl, fun _ _ => rfl⟩) (by assumption) ?qz55
      try simp only [Act.put, List.setIfInBounds_toArray, List.set_cons_zero, List.set_cons_succ]
      refine wpAnyH_ready (rs := [10]) (by kernel_rfl) (by simp) ?_
      refine AllReadyH.cons (o := { dst := none, op := Op.store 40 (Operand.tmp 8) (Operand.tmp 18), type := 0, pos := "free.go:58", after := #[{ on := 9, ground := Ground.data }, { on := 7, ground := Ground.data }, { on := 5, ground := Ground.chain }, { on := 0, ground := Ground.phase }, { on := 1, ground := Ground.phase }, { on := 2, ground := Ground.phase }, { on := 3, ground := Ground.phase }, { on := 4, ground := Ground.phase }, { on := 5, ground := Ground.phase }, { on := 6, ground := Ground.phase }, { on := 7, ground := Ground.phase }, { on := 8, ground := Ground.textOnly Departure.lateStores }, { on := 9, ground := Ground.phase }], guard := none }) rfl (fun K hK => ?_) AllReadyH.nil
      rw [if_pos (by rfl)]
      refine wp_store_ar ar26 _ _ rfl gaz39 (zz 32) (nm0 p.1) rfl rfl ARz51.out (zz_length _) (nm0_length _) ?_
      intro wz56 hk_ hgb_ hz_
      have CVz57 := Lib.hid (cv_store CVz50.out hgb_ GEz52.out.1 GEz52.out.2)
      have ARz58 := Lib.hid hk_
      have hne_ : gaz39 ≠ gs := HNEgaz39.out
      refine hK.out _ _ (hgb_.cell hHeld (by simpa using Ne.symm (hne_))) (fun hHeld => ?_)
      clear hK K
      dsimp only [Act.put]
      refine wpAnyH_ready (rs := [11]) (by kernel_rfl) (by simp) ?_
      refine AllReadyH.cons (o := { dst := some 9, op := Op.assign (Operand.tmp 19), type := 4, pos := "free.go:58", after := #[{ on := 8, ground := Ground.data }, { on := 10, ground := Ground.chain }, { on := 0, ground := Ground.phase }, { on := 1, ground := Ground.phase }, { on := 2, ground := Ground.phase }, { on := 3, ground := Ground.phase }, { on := 4, ground := Ground.phase }, { on := 5, ground := Ground.phase }, { on := 6, ground := Ground.phase }, { on := 7, ground := Ground.phase }, { on := 8, ground := Ground.phase }, { on := 9, ground := Ground.phase }, { on := 10, ground := Ground.phase }], guard := none }) rfl (fun K hK => ?_) AllReadyH.nil
      rw [if_pos (by rfl)]
      go_simp
      refine hK.out _ _ hHeld (fun hHeld => ?_)
      clear hK K
      try simp only [Act.put, List.setIfInBounds_toArray, List.set_cons_zero, List.set_cons_succ]
      refine wpAnyH_done (by kernel_rfl) ?_ _
      go_wp2_with (fail)
      go_meet
      case rel => exact ⟨gaz39, rfl, rfl, ARz58.out, cv_end CVz57.out, CVz57.out.2, GEz52.out.1⟩
  case rest =>
    obtain ⟨ga, rfl, rfl, ha, ht, hmd, hge⟩ := hcut
    have HTT := Lib.hid ht
    have HM := Lib.hid hmd
    clear ht hmd B1 HC1 K1 Z1 HX HO HT
    by_cases h0 : p.1 = 0
    · have e0 : decide (0 < p.1) = false := by rw [h0]; rfl
      rw [e0]
      clear e0
      go_wp2
      go_ret2
      exact covE_no hp h0 HTT.out HM.out
    · have e0 : decide (0 < p.1) = true := by simp; omega
      rw [e0]
      clear e0
      have hnm : nm0 p.1 = nm p.1 := if_neg h0
      rw [hnm] at ha
      have HA := Lib.hid ha
      clear ha hnm
      obtain ⟨i0, hi, hz0, hz1, hz2⟩ := info_parts Tryz.info5
      obtain ⟨N, hNs⟩ : ∃ N, N = sizeL n := ⟨_, rfl⟩
      have hN1 : 32 ≤ N := by rw [hNs]; unfold sizeL; omega
      have hN2 : N ≤ 2000 := by rw [hNs]; unfold sizeL; omega
      have hsz := siz_any wc n
      rw [sizeN_len n hs, show (n / 16 + 2) * 16 = N from hNs.symm] at hsz
      have HNS := Lib.hid hNs
      clear hNs
      go_wp2_with fail
      go_at_call 10
      refine hsz.mono ?_
      rintro _ w3 ⟨rfl, g3⟩
      have HA3 := Lib.hid (Arr.grown HA.out g3 (by simp))
      have G3 := Lib.hid g3
      clear hsz g3 HA
      go_wp2_with (with_reducible refine wpList_make_full _ rfl _ _ 23 rfl w3.heap.size 5 i0 (.int .u8 0) 1 Tryz.underlying23 hi hz0 hz1 .i64 .i64 _ _ N rfl rfl rfl rfl ?c1 ?c2 ?c3 ?_)
      case c1 => rw [hz2]; omega
      case c2 => unfold maxLen; omega
      case c3 => exact Nat.le_refl _
      intro w4 hown g4
      rw [C.made_u8] at hown
      have hb4 : C.Blk w4 w3.heap.size 5 ([] ++ C.u8s (zz N) ++ []) := by
        rw [List.nil_append, List.append_nil]
        exact C.Blk.of_owns_e hown
      have hk4 := Arr.grown HA3.out g4 (by simp)
      have hkk : C.Byt w4 (fun b => b < w4.heap.size) (some ⟨ga, 0, none⟩) (nm p.1) := Arr.byt (ok := fun b => b < w4.heap.size) hk4 (Arr.lt hk4)
      have HBB := Lib.hid hb4
      have HKK := Lib.hid hkk
      have HMM : Hid (Nat.min (nm p.1).length (zz N).length = 32) := by
        rw [nm_length, zz_length]
        exact Nat.min_eq_left hN1
      have G4 := Lib.hid (World.grownBy.trans G3.out g4)
      have NE : Hid (wc.heap.size ≤ w3.heap.size) := G3.out.size
      clear hown hb4 hk4 hkk g4 HA3 G3
      go_wp2_with (refine C.wpList_copy_blk rfl _ _ rfl w3.heap.size 0 N N 32 32 (some ⟨ga, 0, none⟩) (nm p.1) (zz N) rfl rfl (nm_length _) (zz_length N) 5 [] [] HBB.out rfl (fun b => b < w4.heap.size) HKK.out 32 HMM.out ?_)
      intro w5 k5 g5 z5
      have hk5 : C.Blk w5 w3.heap.size 5 (u8s (pad (nm p.1) N)) := by
        have h : C.Blk w5 w3.heap.size 5 (C.u8s (C.lay (nm p.1) (zz N))) := C.Blk.to k5 (by simp)
        rw [lay_pad _ (nm_length _) N hN1] at h
        exact h
      have K5 := Lib.hid hk5
      have G5 := Lib.hid (World.grownBy.andThen G4.out g5 (by rintro _ ⟨⟩; exact .inl NE.out))
      clear k5 g5 z5 hk5 HBB HKK HMM G4
      go_wp2
      go_ret2
      exact covE_yes hp (by omega) HN.out HNS.out HTT.out HM.out G5.out (Nat.le_trans HM.out.size NE.out) K5.out
end Go.Proofs.YtkbffponemihoaaGreatDoor
