/- The reference's Seal. Conditions: none. -/
import Derived.Test.YtkbffponemihoaaGreatDoorV6
import Derived.Test.YtkbffponemihoaaGreatDoorTh
import Derived.Test.YtkbffponemihoaaGreatDoorSg
import Derived.Test.YtkbffponemihoaaGreatDoorSh
namespace Go.Proofs.YtkbffponemihoaaGreatDoor
open Go.RowKit T
theorem refmac_g {w : World} {c1 c2 n m : Nat} {ok : Nat → Prop} {A1 A2 : Option Addr} {key text : List UInt8} (hk : Byt w ok A1 key) (ht : Byt w ok A2 text) (hok : ∀ b, ok b → b < w.heap.size) (hn : key.length = n) (hm : text.length = m) (hn3 : n ≤ 20000) (hm2 : m ≤ 15000) :
    Calls Tryz.prog 23 #[.slice A1 n c1, .slice A2 m c2] w fun e w' => e = .returned (.agg (u8s (S.hmac key text)).toArray) ∧ w.grownBy w' none := S.refmac_any S.hash_any (ok := ok) hk ht hok hn hm hn3 hm2
theorem refhkdf_g {w : World} {c2 c3 : Nat} {ok : Nat → Prop} {A2 A3 : Option Addr} {ks info : List UInt8} (hf : Byt w ok A2 ks) (hx : Byt w ok A3 info) (hok : ∀ b, ok b → b < w.heap.size) (hl : ks.length = 32) (hn3 : info.length = 4) :
    Calls Tryz.prog 21 #[.slice none 0 0, .slice A2 32 c2, .slice A3 4 c3, .int .i64 80] w fun e w' => ∃ A c, e = .returned (.tuple #[.slice A 80 c, .bool true]) ∧ 80 ≤ c ∧ c ≤ maxLen ∧ Byt w' (fun b => b < w'.heap.size) A (S.hkdf [] ks info 80) ∧ w.grownBy w' none :=
  S.refhkdf_yes S.hash_any (n := 80) (S.Byt.nil : S.Byt w ok none []) hf hx hok rfl hl hn3 (by omega) (by omega) (by omega) (by omega)
theorem refcbc_g {w : World} {ok : Nat → Prop} {A : Option Addr} {text ks vs : List UInt8} {n c : Nat} (hx : Byt w ok A text) (hok : ∀ b, ok b → b < w.heap.size) (hn : text.length = n) (hs : n ≤ 1000000) (hk : ks.length = 32) (hv : vs.length = 16) :
    Calls Tryz.prog 22 #[.agg (u8s ks).toArray, .agg (u8s vs).toArray, .slice A n c] w fun e w' => ∃ v', e = .returned v' ∧ w'.ownsRow w.heap.size 5 1 v' (C.lockB (C.kn ks) (v16 vs) text).length (u8s (C.lockB (C.kn ks) (v16 vs) text)) ∧ w.grownBy w' none := by
  obtain ⟨k, rfl⟩ := k32_of ks hk
  rw [← v16_bytes vs hv]
  exact C.ref6_any hx hok hn hs k (v16 vs)
theorem rsiz_any (w : World) (n : Nat) (h1 : n ≤ 1024) : Calls Tryz.prog 20 #[.int .i64 (n : Int)] w fun e w' => e = .returned (.int .i64 (sizeL n : Nat)) ∧ w' = w := by
  have e : ((sizeL n : Nat) : Int) = (n : Int) - (n : Int) % 16 + 32 := by unfold sizeL; omega
  rw [e]
  have d0 : decide ((n : Int) < 0) = false := decide_eq_false (by omega)
  have d1 : decide ((1024 : Int) < (n : Int)) = false := decide_eq_false (by omega)
  have d2 : IntKind.i64.wrap (((n : Int)).tdiv 16) = (n : Int) / 16 := by rw [Int.tdiv_eq_ediv_of_nonneg (by omega), IntKind.wrap_i64]; omega
  have d3 : IntKind.i64.wrap ((n : Int) / 16 * 16) = (n : Int) - (n : Int) % 16 := by rw [IntKind.wrap_i64]; omega
  have d4 : IntKind.i64.wrap ((n : Int) - (n : Int) % 16 + 32) = (n : Int) - (n : Int) % 16 + 32 := by rw [IntKind.wrap_i64]; omega
  go_enter Tryz.func20, Tryz.ntmps20
  go_wp2
  go_ret
  exact ⟨rfl, rfl⟩
theorem rtbl_new {w : World} {ok : Nat → Prop} {rb : Nat} (h : w.heap[rb]? = some (.cells #[.slice none 0 0] 59 (0, 0))) (hok : ok rb) : RTbl w ok rb [] :=
  ⟨.slice none 0 0, [], h, hok, fun g hg => by simp [Value.ownBlock] at hg, World.ownsRow_nil _ _ _ _, rfl, fun i hi => by simp at hi, by simp⟩
theorem size36 : (Tryz.prog.info? 33).map (·.size) = some 1 := by kernel_rfl
theorem ref_out {w' : World} {g : Nat} {p : Option Addr} {fn : Func} {tmps : Array Value} {t : Tmp} (h : fn.results = #[.cell t 33]) (hp : tmps.getD t undef = .pointer (some ⟨g, 0, none⟩)) (hb : C.Blk w' g 33 [.pointer p]) :
    (results fn tmps).run Tryz.prog w' = .ok (.agg #[.pointer p]) w' := results_cell_row h tmps w' g 33 #[.pointer p] (0, 0) _ hp hb Tryz.underlying33 rfl size36
theorem rfree_any (w : World) : Calls Tryz.prog 18 #[] w fun e w' => ∃ rb, e = .returned (.agg #[.pointer (some ⟨rb, 0, none⟩)]) ∧ RTbl w' (fun b => w.heap.size ≤ b ∧ b < w'.heap.size) rb [] ∧ w.grownBy w' none := by
  go_enter Tryz.func18, Tryz.ntmps18
  go_wp2
  have hb : C.Blk (w.alloc (.cells #[.pointer (some ⟨w.heap.size + 1, 0, none⟩)] 33)) w.heap.size 33 [.pointer (some ⟨w.heap.size + 1, 0, none⟩)] := C.Blk.of_alloc w _ 33
  have g1 := World.grownBy_alloc w (.cells #[.pointer (some ⟨w.heap.size + 1, 0, none⟩)] 33) none
  have hz : (w.alloc (.cells #[.pointer (some ⟨w.heap.size + 1, 0, none⟩)] 33)).heap.size = w.heap.size + 1 := World.size_alloc _ _
  generalize w.alloc (.cells #[.pointer (some ⟨w.heap.size + 1, 0, none⟩)] 33) = W at hb g1 hz ⊢
  have g2 := World.grownBy_alloc W (.cells #[.slice none 0 0] 59) none
  have hr : (W.alloc (.cells #[.slice none 0 0] 59)).heap[W.heap.size]? = some (.cells #[.slice none 0 0] 59 (0, 0)) := heap_alloc_new W _
  have hz2 : (W.alloc (.cells #[.slice none 0 0] 59)).heap.size = W.heap.size + 1 := World.size_alloc _ _
  generalize W.alloc (.cells #[.slice none 0 0] 59) = V at g2 hr hz2 ⊢
  rw [hz] at hr
  exact bodyPost_ret (ref_out (g := w.heap.size) rfl rfl (hb.grown g2 (by simp))) rfl ⟨w.heap.size + 1, rfl, rtbl_new hr ⟨by omega, by omega⟩, g1.trans g2⟩
/-- A new suite of the reference. -/
def RNewE (w : World) (f : Bool) (e : Ending) (w' : World) : Prop :=
  w.grownBy w' none ∧ ((f = false ∧ e = .returned (.agg #[.pointer none])) ∨ (f = true ∧ ∃ rb, e = .returned (.agg #[.pointer (some ⟨rb, 0, none⟩)]) ∧ RTbl w' (fun b => w.heap.size ≤ b ∧ b < w'.heap.size) rb []))
theorem ref_any (w : World) (f : Bool) : Calls Tryz.prog 7 #[.bool f] w (RNewE w f) := by
  cases f
  · go_enter Tryz.func7, Tryz.ntmps7
    go_wp2
    have hb : C.Blk (w.alloc (.cells #[.pointer none] 33)) w.heap.size 33 [.pointer none] := C.Blk.of_alloc w _ 33
    have g1 := World.grownBy_alloc w (.cells #[.pointer none] 33) none
    generalize w.alloc (.cells #[.pointer none] 33) = W at hb g1 ⊢
    exact bodyPost_ret (ref_out (g := w.heap.size) rfl rfl hb) rfl ⟨g1, .inl ⟨rfl, rfl⟩⟩
  · go_enter Tryz.func7, Tryz.ntmps7
    go_wp2_with fail
    go_at_call 18
    refine (rfree_any _).mono ?_
    rintro _ w2 ⟨rb, rfl, h1, g2⟩
    have hb : C.Blk w2 w.heap.size 33 [.pointer none] := (C.Blk.of_alloc w #[.pointer none] 33).grown g2 (by simp)
    have g1 := World.grownBy.trans (World.grownBy_alloc w (.cells #[.pointer none] 33) none) g2
    have hc : w2.cell? ⟨w.heap.size, 0, none⟩ = some (.pointer none) := hb.get 0 _ rfl
    have hf : w2.frozen? ⟨w.heap.size, 0, none⟩ = false := hb.frozen 0
    rw [World.size_alloc] at h1
    have H1 := Lib.hid h1
    have G1 := Lib.hid g1
    have HB := Lib.hid hb
    clear h1 g1 hb g2
    go_wp2
    refine bodyPost_ret (ref_out (g := w.heap.size) rfl rfl (HB.out.set 0 _)) rfl ⟨C.grown_new G1.out (Nat.le_refl _) 0 _, .inr ⟨rfl, rb, rfl, ?_⟩⟩
    have hk := C.grown_set w2 w.heap.size 0 (.pointer (some ⟨rb, 0, none⟩))
    refine (H1.out.keep hk.size fun b hb hlt => hk.block b hlt (by simp; omega)).imp fun b _ hb => ⟨by omega, Nat.lt_of_lt_of_le hb.2 hk.size⟩
/-- What the reference seals. -/
def rsealR (free : Bool) (ks plain : List UInt8) : Option (List UInt8) := if plain.length ≤ 1024 then some (if free then pad (nm 1) (sizeL plain.length) else sealB ks plain) else none
/-- The reference's answer. -/
def RAns (r : Option (List UInt8)) (e : Ending) (w' : World) : Prop :=
  (r = none ∧ e = .returned (.tuple #[.slice none 0 0, .bool false])) ∨ ∃ s A c, r = some s ∧ e = .returned (.tuple #[.slice A s.length c, .bool true]) ∧ Byt w' (fun b => b < w'.heap.size) A s
theorem rans_some {r : Option (List UInt8)} {s : List UInt8} {w' : World} {A : Option Addr} {n c : Nat} (h : r = some s) (hn : s.length = n) (h3 : Byt w' (fun b => b < w'.heap.size) A s) : RAns r (.returned (.tuple #[.slice A n c, .bool true])) w' := by
  subst hn
  exact .inr ⟨s, A, c, h, rfl, h3⟩
theorem byt_addr {w : World} {ok : Nat → Prop} {A : Option Addr} {xs : List UInt8} (h : Byt w ok A xs) (h0 : 0 < xs.length) : ∃ ab ao, A = some ⟨ab, ao, none⟩ := by
  obtain ⟨ad, rfl, _, hc⟩ := h.some_ h0
  obtain ⟨ab, ao, sp⟩ := ad
  refine ⟨ab, ao, ?_⟩
  have : sp = none := by simpa [Addr.add] using World.cell?_spot (hc 0 h0)
  rw [this]
theorem byt_from' {W : World} {ok : Nat → Prop} {ab ao : Nat} {xs : List UInt8} (h : Byt W ok (some ⟨ab, ao, none⟩) xs) (k c : Nat) (hk : k ≤ xs.length) (hc : xs.length ≤ c) (hne : c ≠ k) : Byt W ok (some ⟨ab, ao + k, none⟩) (xs.drop k) := by
  have := byt_from h k c hk hc hne
  rw [Addr.add_lit] at this
  exact this
theorem lay_full (xs : List UInt8) (n : Nat) (h : xs.length = n) : C.lay xs (zz n) = xs := by
  unfold C.lay
  rw [List.take_of_length_le (by rw [zz_length]; omega), List.drop_eq_nil_of_le (by rw [zz_length]; omega), List.append_nil]
set_option maxRecDepth 100000 in
set_option maxHeartbeats 4000000 in
theorem rseal_real {w : World} {ok : Nat → Prop} {A : Option Addr} {ks plain : List UInt8} {n c : Nat} (hl : ks.length = 32) (hx : Byt w ok A plain) (hok : ∀ b, ok b → b < w.heap.size) (hn : plain.length = n) :
    Calls Tryz.prog 8 #[.agg #[.pointer none], .agg (u8s ks).toArray, .slice A n c] w fun e w' => RAns (rsealR false ks plain) e w' ∧ w.grownBy w' none := by
  have HL := Lib.hid hl
  have HX := Lib.hid hx
  have HO := Lib.hid hok
  have HN := Lib.hid hn
  clear hl hx hok hn
  have HG0 := Lib.hid (grown_below (World.grownBy_alloc w (.cells #[.pointer none] 33) none))
  have hb0 : C.Blk (w.alloc (.cells #[.pointer none] 33)) w.heap.size 33 [.pointer none] := C.Blk.of_alloc w _ 33
  have HB0 := Lib.hid hb0
  clear hb0
  go_enter Tryz.func8, Tryz.ntmps8
  go_wp2_with (refine wpList_box32 i34 rfl _ rfl ks rfl HL.out ?_)
  intro w1 k1 b1 z1
  have HB1 := Lib.hid (HB0.out.keep (b1.block _ (Nat.lt_succ_self _)))
  have B1 := Lib.hid (HG0.out.trans (b1.mono (Nat.le_succ _)))
  have K1 : Hid (Arr w1 22 (w.heap.size + 1) ks) := k1
  have X1 := Lib.hid (byt_up HX.out HO.out B1.out)
  clear b1 z1 HG0 HB0 k1 HX HO
  obtain ⟨gk, hgk⟩ : ∃ g, g = w.heap.size + 1 := ⟨_, rfl⟩
  rw [← hgk] at K1 ⊢
  obtain ⟨gs, hgs⟩ : ∃ g, g = w.heap.size := ⟨_, rfl⟩
  rw [← hgs] at HB1 ⊢
  have HGS : Hid (w.heap.size ≤ gs ∧ w.heap.size ≤ gk) := by show w.heap.size ≤ gs ∧ w.heap.size ≤ gk; omega
  clear hgs hgk
  have hcs : w1.cell? ⟨gs, 0, none⟩ = some (.pointer none) := HB1.out.get 0 _ rfl
  by_cases hbig : 1024 < n
  · have d0 : ((1024 : Int) < (n : Int)) = True := by simp; omega
    have d1 : decide ((1024 : Int) < (n : Int)) = true := by simp; omega
    have HF : Hid (rsealR false ks plain = none) := by show rsealR false ks plain = none; unfold rsealR; rw [if_neg (by rw [HN.out]; omega)]
    go_wp2
    go_ret2
    exact ⟨.inl ⟨HF.out, rfl⟩, below_grown B1.out⟩
  · have d0 : ((1024 : Int) < (n : Int)) = False := by simp; omega
    have d1 : decide ((1024 : Int) < (n : Int)) = false := by simp; omega
    have hn10 : n ≤ 1024 := by omega
    go_wp2_with (refine wpList_four 115 101 97 108 rfl rfl rfl _ rfl rfl ?_)
    intro w2 hx2 g2 z2
    have hx2' : Byt w2 (fun b => b < w2.heap.size) (some ⟨w1.heap.size, 0, none⟩) sealT := hx2.imp fun b hb => by rw [hb]; exact z2
    have hk2 := Arr.grown K1.out g2 (by simp)
    have B2 := Lib.hid (B1.out.trans ((grown_below g2).mono B1.out.size))
    have X2 := Lib.hid (byt_up X1.out (fun _ h => h) (grown_below g2))
    have hh := refhkdf_g (c2 := 32) (c3 := 4) (Arr.byt (ok := fun b => b < w2.heap.size) hk2 (Arr.lt hk2)) hx2' (fun _ h => h) HL.out rfl
    clear hx2 g2 z2 hx2' hk2 K1 X1 B1 HB1 hcs
    go_wp2_with fail
    go_at_call 21
    refine hh.mono ?_
    rintro _ w3 ⟨A3, c3, rfl, q1, q2, q3, g3⟩
    obtain ⟨ab, ao, rfl⟩ := byt_addr q3 (by rw [S.hkdf_length]; omega)
    have X3 := Lib.hid (byt_up X2.out (fun _ h => h) (grown_below g3))
    have B3 := Lib.hid (B2.out.trans ((grown_below g3).mono B2.out.size))
    have W3 : Hid (Byt w3 (fun b => b < w3.heap.size) (some ⟨ab, ao, none⟩) (wide ks)) := q3
    clear hh q3 g3 X2 B2
    have c32 : ¬ c3 = 32 := by omega
    have c64 : ¬ c3 = 64 := by omega
    have i32 : (32 : Int) ≤ (c3 : Int) := by omega
    have i64 : (64 : Int) ≤ (c3 : Int) := by omega
    have i80 : (80 : Int) ≤ (c3 : Int) := by omega
    go_wp2_with (refine wpList_alloc_ar ar25 rfl rfl ?_)
    intro w4 k4 g4 z4
    obtain ⟨ga, hga⟩ : ∃ g, g = w3.heap.size := ⟨_, rfl⟩
    rw [← hga] at k4 z4 ⊢
    have K4 := Lib.hid k4
    have W4 : Hid (Byt w4 (fun b => b < w3.heap.size) (some ⟨ab, ao, none⟩) (wide ks)) := W3.out.grown g4 fun b hb => ⟨hb, by simp⟩
    have L4 := Lib.hid (grown_below g4)
    have N4 : Hid (w3.heap.size ≤ ga ∧ ga < w4.heap.size) := ⟨by rw [hga]; exact Nat.le_refl _, Arr.lt k4⟩
    clear k4 g4 z4 hga W3
    go_wp2_with (refine wpList_alloc_ar ar78 rfl rfl ?_)
    intro w5 k5 g5 z5
    obtain ⟨gb, hgb⟩ : ∃ g, g = w4.heap.size := ⟨_, rfl⟩
    rw [← hgb] at k5 z5 ⊢
    have K5 := Lib.hid k5
    have K45 := Lib.hid (Arr.grown K4.out g5 (by simp))
    have W5 : Hid (Byt w5 (fun b => b < w3.heap.size) (some ⟨ab, ao, none⟩) (wide ks)) := W4.out.grown g5 fun b hb => ⟨Nat.lt_of_lt_of_le hb L4.out.size, by simp⟩
    have L5 := Lib.hid (L4.out.trans ((grown_below g5).mono L4.out.size))
    have N5 : Hid (w3.heap.size ≤ ga ∧ ga < gb) := ⟨N4.out.1, by rw [hgb]; exact N4.out.2⟩
    clear k5 g5 z5 hgb W4 K4 L4 N4
    have hb5 : C.Blk w5.drew ga 22 ([] ++ C.u8s (zz 32) ++ []) := by
      rw [List.nil_append, List.append_nil]
      exact K45.out
    have hw5 : C.Byt w5.drew (fun b => b < w3.heap.size) (some ⟨ab, ao, none⟩) (own ks) := (W5.out.take 32 : Byt w5 _ _ _)
    have hm5 : Nat.min (own ks).length (zz 32).length = 32 := by rw [own_length, zz_length]; rfl
    have HB5 := Lib.hid hb5
    have HW5 := Lib.hid hw5
    have HM5 := Lib.hid hm5
    have HM0 : Hid (0 < Nat.min (own ks).length (zz 32).length) := by show 0 < Nat.min _ _; rw [hm5]; decide
    clear hb5 hw5 hm5
    go_wp2_with (fail)
    go_region_law (first
      | (refine C.step_copy_blk rfl (.tmp 49) (.tmp 51) rfl ga 0 32 32 32 c3 (some ⟨ab, ao, none⟩) (own ks) (zz 32) (by simp [Act.eval, Act.put]) (by simp [Act.eval, Act.put]) (own_length ks) (zz_length 32) HM0.out 22 [] [] HB5.out rfl (fun b => b < w3.heap.size) HW5.out 32 HM5.out ?_; intro w6 hb6 hg6 hz6)
      | fail)
    have hk6 : Arr w6 22 ga (own ks) := by
      have h : C.Blk w6 ga 22 (C.u8s (C.lay (own ks) (zz 32))) := C.Blk.to hb6 (by simp)
      rw [lay_full _ 32 (own_length ks)] at h
      exact h
    have K6 := Lib.hid hk6
    have KB6 := Lib.hid (Arr.grown (w := w5.drew) K5.out hg6 (by have := N5.out; simp; omega))
    have W6 : Hid (Byt w6 (fun b => b < w3.heap.size) (some ⟨ab, ao, none⟩) (wide ks)) := Byt.grown (w := w5.drew) W5.out hg6 fun b hb => ⟨Nat.lt_of_lt_of_le hb L5.out.size, by have := N5.out; simp; omega⟩
    have L6 : Hid (Below w3.heap.size w3 w6) := L5.out.trans ⟨hg6.os, hg6.tape, hg6.output, hg6.size, fun k hk => hg6.block k (Nat.lt_of_lt_of_le hk L5.out.size) (by have := N5.out; simp; omega)⟩
    clear hb6 hg6 hz6 hk6 HB5 HW5 HM5 HM0 K5 K45 W5 L5
    have hb7 : C.Blk w6.drew gb 48 ([] ++ C.u8s (zz 16) ++ []) := by
      rw [List.nil_append, List.append_nil]
      exact KB6.out
    have hw7 : C.Byt w6.drew (fun b => b < w3.heap.size) (some ⟨ab, ao + 64, none⟩) (begin16 ks) := ((byt_from' W6.out 64 c3 (by rw [wide_length]; omega) (by rw [wide_length]; omega) c64).take 16 : Byt w6 _ _ _)
    have hm7 : Nat.min (begin16 ks).length (zz 16).length = 16 := by rw [begin16_length, zz_length]; rfl
    have HB7 := Lib.hid hb7
    have HW7 := Lib.hid hw7
    have HM7 := Lib.hid hm7
    have HM0 : Hid (0 < Nat.min (begin16 ks).length (zz 16).length) := by show 0 < Nat.min _ _; rw [hm7]; decide
    clear hb7 hw7 hm7
    go_wp2_with (fail)
    go_region_law (first
      | (refine C.step_copy_blk rfl (.tmp 53) (.tmp 55) rfl gb 0 16 16 16 (c3 - 64) (some ⟨ab, ao + 64, none⟩) (begin16 ks) (zz 16) (by simp [Act.eval, Act.put]) (by simp [Act.eval, Act.put]) (begin16_length ks) (zz_length 16) HM0.out 48 [] [] HB7.out rfl (fun b => b < w3.heap.size) HW7.out 16 HM7.out ?_; intro w7 hb7 hg7 hz7)
      | fail)
    have hk7 : Arr w7 48 gb (begin16 ks) := by
      have h : C.Blk w7 gb 48 (C.u8s (C.lay (begin16 ks) (zz 16))) := C.Blk.to hb7 (by simp)
      rw [lay_full _ 16 (begin16_length ks)] at h
      exact h
    have K7 := Lib.hid hk7
    have KA7 := Lib.hid (Arr.grown (w := w6.drew) K6.out hg7 (by have := N5.out; simp; omega))
    have W7 : Hid (Byt w7 (fun b => b < w3.heap.size) (some ⟨ab, ao, none⟩) (wide ks)) := Byt.grown (w := w6.drew) W6.out hg7 fun b hb => ⟨Nat.lt_of_lt_of_le hb L6.out.size, by have := N5.out; simp; omega⟩
    have L7 : Hid (Below w3.heap.size w3 w7) := L6.out.trans ⟨hg7.os, hg7.tape, hg7.output, hg7.size, fun k hk => hg7.block k (Nat.lt_of_lt_of_le hk L6.out.size) (by have := N5.out; simp; omega)⟩
    clear hb7 hg7 hz7 hk7 HB7 HW7 HM7 HM0 K6 KB6 W6 L6 N5
    have hx7 := byt_up X3.out (fun _ h => h) L7.out
    have hlk : Calls Tryz.prog 22 #[.agg (u8s (own ks)).toArray, .agg (u8s (begin16 ks)).toArray, .slice A n c] w7 fun e w' => ∃ v', e = .returned v' ∧ w'.ownsRow w7.heap.size 5 1 v' (body ks plain).length (u8s (body ks plain)) ∧ w7.grownBy w' none := refcbc_g hx7 (fun _ h => h) HN.out (by omega) (own_length ks) (begin16_length ks)
    clear hx7
    go_wp2_with (first | (refine wpList_load_ar ar25 rfl _ rfl ga rfl (own ks) KA7.out (own_length ks) ?_) | (refine wpList_load_ar ar78 rfl _ rfl gb rfl (begin16 ks) K7.out (begin16_length ks) ?_))
    go_at_call 22
    refine hlk.mono ?_
    rintro _ w8 ⟨v8, rfl, ho8, g8⟩
    obtain ⟨bd, hbd⟩ : ∃ x, x = body ks plain := ⟨_, rfl⟩
    have hbl := body_length ks plain
    have hsl : sealB ks plain = bd ++ stampB ks bd := by rw [hbd]; rfl
    rw [← hbd] at hbl ho8
    obtain ⟨m, hml⟩ : ∃ m, bd.length = m := ⟨_, rfl⟩
    rw [hml] at hbl ho8
    have hm1 : m ≤ 1040 := by rw [hbl, HN.out]; omega
    obtain ⟨A8, c8, hv8, -, p1, p2, p3⟩ := own_form ho8
    rw [hml] at hv8 p1
    subst hv8
    have HSL := Lib.hid hsl
    have HML := Lib.hid hml
    have HO8 := Lib.hid ho8
    have W8 : Hid (Byt w8 (fun b => b < w8.heap.size) (some ⟨ab, ao + 32, none⟩) (marker ks)) := (byt_from' ((W7.out.grown g8 fun b hb => ⟨Nat.lt_of_lt_of_le hb L7.out.size, by simp⟩).imp (ok' := fun b => b < w8.heap.size) fun b hb => Nat.lt_of_lt_of_le hb (Nat.le_trans L7.out.size g8.size)) 32 c3 (by rw [wide_length]; omega) (by rw [wide_length]; omega) c32).take 32
    have P8 : Hid (Byt w8 (fun b => b < w8.heap.size) A8 bd) := p3.imp fun _ hb => hb.2.2
    have L8 := Lib.hid (L7.out.trans ((grown_below g8).mono L7.out.size))
    have SZ7 : Hid (w3.heap.size ≤ w7.heap.size ∧ w7.heap.size ≤ w8.heap.size) := ⟨L7.out.size, g8.size⟩
    clear hlk ho8 g8 hbd hbl hsl hml p3 K7 KA7 W7 L7
    have hmc := refmac_g (c1 := c3 - 32) (c2 := c8) W8.out P8.out (fun _ h => h) (marker_length ks) HML.out (by omega) (by omega)
    go_wp2_with fail
    go_at_call 23
    refine hmc.mono ?_
    rintro _ w9 ⟨rfl, g9⟩
    have HO9 : Hid (w9.ownsRow w7.heap.size 5 1 (.slice A8 m c8) m (u8s bd)) := ownsRow_keep HO8.out fun g hg => g9.block g (HO8.out.lt g hg).2 (by simp)
    have L9 := Lib.hid (L8.out.trans ((grown_below g9).mono L8.out.size))
    have SZ9 : Hid (w7.heap.size ≤ w9.heap.size) := Nat.le_trans SZ7.out.2 g9.size
    obtain ⟨mm, hmm⟩ : ∃ x, x = S.hmac (marker ks) bd := ⟨_, rfl⟩
    have hmml : mm.length = 32 := by rw [hmm, S.hmac_length]
    have HMM := Lib.hid hmm
    rw [← hmm]
    clear hmc g9 hmm HO8 L8 W8 P8
    go_wp2_with (refine wpList_alloc_ar ar25 rfl rfl ?_)
    intro w10 k10 g10 z10
    obtain ⟨gc, hgc⟩ : ∃ g, g = w9.heap.size := ⟨_, rfl⟩
    rw [← hgc] at k10 z10 ⊢
    have K10 := Lib.hid k10
    have HO10 : Hid (w10.ownsRow w7.heap.size 5 1 (.slice A8 m c8) m (u8s bd)) := ownsRow_keep HO9.out fun g hg => g10.block g (HO9.out.lt g hg).2 (by simp)
    have OL10 : Hid (∀ g, (Value.slice A8 m c8).ownBlock = some g → g < gc) := fun g hg => by rw [hgc]; exact (HO9.out.lt g hg).2
    have L10 := Lib.hid (L9.out.trans ((grown_below g10).mono L9.out.size))
    have NC : Hid (w3.heap.size ≤ gc ∧ w7.heap.size ≤ gc) := ⟨by rw [hgc]; exact L9.out.size, by rw [hgc]; exact SZ9.out⟩
    clear k10 g10 z10 hgc HO9 L9
    go_wp2_with (refine wpList_store_ar ar25 rfl _ _ rfl gc (zz 32) mm rfl rfl K10.out (zz_length _) hmml ?_)
    intro w11 k11 g11 z11
    have ho11 : w11.ownsRow w7.heap.size 5 1 (.slice A8 m c8) m (u8s bd) := ownsRow_keep HO10.out fun g hg => g11.block g (HO10.out.lt g hg).2 (by have := OL10.out g hg; simp; omega)
    have hs11 : Byt w11 (fun b => b < w11.heap.size) (some ⟨gc, 0, none⟩) (stampB ks bd) := by
      have h : Byt w11 (fun b => b < w11.heap.size) (some ⟨gc, 0, none⟩) mm := Arr.byt (ok := fun b => b < w11.heap.size) k11 (Arr.lt k11)
      rw [HMM.out] at h
      exact h.take 16
    have L11 : Hid (Below w3.heap.size w3 w11) := L10.out.trans ⟨g11.os, g11.tape, g11.output, g11.size, fun k hk => g11.block k (Nat.lt_of_lt_of_le hk L10.out.size) (by have := NC.out.1; simp; omega)⟩
    have HO11 := Lib.hid ho11
    have HS11 := Lib.hid hs11
    have SZ11 : Hid (w7.heap.size ≤ w11.heap.size) := Nat.le_trans NC.out.2 (Nat.le_of_lt (Arr.lt k11))
    clear k11 g11 z11 ho11 hs11 HO10 OL10 L10 K10
    obtain ⟨i0, hi, hz0, hz1, hz2⟩ := info_parts Tryz.info5
    go_wp2_with (at_builtin; refine S.wpList_append_byt_n _ rfl _ _ 23 rfl w7.heap.size i0 (.int .u8 0) Tryz.underlying23 hi hz0 hz1 hz2 rfl (.slice A8 m c8) m bd rfl HO11.out (fun b => b < w11.heap.size) (some ⟨gc, 0, none⟩) 32 16 (stampB ks bd) (stampB_length ks bd) rfl HS11.out (by omega) SZ11.out ?_)
    intro v12 w12 ho12 g12 a12
    have L12 : Hid (w.grownBy w12 none) := below_grown (B3.out.trans ((L11.out.trans ⟨g12.os, g12.tape, g12.output, g12.size, fun k hk => g12.block k (Nat.lt_of_lt_of_le hk L11.out.size) (fun e => by have := (HO11.out.lt k e.symm).1; have := SZ7.out.1; omega)⟩).mono B3.out.size))
    have ho12' : w12.ownsRow w7.heap.size 5 1 v12 (m + 16) (u8s (sealB ks plain)) := by rw [HSL.out]; exact ho12
    obtain ⟨A12, c12, rfl, e12, r1, r2, r3⟩ := own_form ho12'
    have R3 : Hid (Byt w12 (fun b => b < w12.heap.size) A12 (sealB ks plain)) := r3.imp fun _ hb => hb.2.2
    have HF : Hid (rsealR false ks plain = some (sealB ks plain)) := by show rsealR false ks plain = _; unfold rsealR; rw [if_pos (by rw [HN.out]; omega)]; rfl
    clear ho12 g12 a12 ho12' r3 HO11 HS11 L11
    go_wp2
    go_ret2
    exact ⟨rans_some HF.out rfl R3.out, L12.out⟩
end Go.Proofs.YtkbffponemihoaaGreatDoor
