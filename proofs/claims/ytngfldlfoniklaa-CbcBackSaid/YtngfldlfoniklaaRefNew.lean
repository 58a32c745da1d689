/- The reference's cipher. Conditions: none. -/
import Derived.Test.YtngfldlfoniklaaKeys2
namespace Go.Proofs.Ytngfldlfoniklaa
open Go.RowKit
def none31 : List Value := [.slice none 0 0, .slice none 0 0]
theorem run_alloc31 (w : World) : (Instr.alloc 43 true (.tuple #[])).run Try.prog w = .ok (.pointer (some ⟨w.heap.size, 0, none⟩)) (w.alloc (.cells none31.toArray 43)) := by kernel_rfl
section
variable {w : World} {ops : Array Oper} {rest : List Oper} {o : Oper} {a : Act} {Q : Exit → Act → World → Prop}
theorem wpList_alloc31 (hgd : o.guard = none) (ho : o.op = .alloc 43)
    (h : ∀ w', Blk w' w.heap.size 43 none31 → w.grownBy w' none → w'.heap.size = w.heap.size + 1 → wpList Try.prog ops Q rest (a.put o.dst (.pointer (some ⟨w.heap.size, 0, none⟩))) w') : wpList Try.prog ops Q (o :: rest) a w := by
  refine wpList_plain hgd fun K hK => ?_
  have hrun := run_alloc31 w
  generalize none31 = z at hrun h
  unfold Oper.wp
  simp only [execOp, ho, Sem.run_bind, hrun, Result.andThen_ok, Sem.run_pure]
  exact hK _ _ (h _ (Blk.of_alloc w _ 43) (World.grownBy_alloc w _ none) (World.size_alloc w _))
end
theorem size31 : (Try.prog.info? 43).map (·.size) = some 2 := by kernel_rfl
theorem two_one (A B : Option Addr) (n c m d : Nat) : ∀ u ∈ [Value.slice A n c, Value.slice B m d], u.oneCell' = true := by
  intro u hu
  simp only [List.mem_cons, List.not_mem_nil, or_false] at hu
  rcases hu with rfl | rfl <;> rfl
theorem Wps.far {w w' : World} {B g : Nat} {v : Value} {ws : List (List Nat)} (h : Wps w B v ws) (hg : w.grownBy w' (some g)) (hlt : g < B) : Wps w' B v ws := by
  obtain ⟨vals, ho, hp⟩ := h
  refine ⟨vals, ho.kept hg ?_, fun n hn => ?_⟩
  · cases hv : v.ownBlock with
    | none => exact .inl rfl
    | some k => exact .inr (fun e => by have := (ho.lt k hv).1; cases e; omega)
  · obtain ⟨gt, c, e1, e2, e3, e4, e5, e6⟩ := hp n hn
    exact ⟨gt, c, e1, e2, e3, Nat.lt_of_lt_of_le e4 hg.size, e5, e6.grown hg (fun e => by cases e; omega)⟩
set_option maxRecDepth 100000 in
set_option maxHeartbeats 1600000 in
theorem refnew_any (W : World) (k : Fin 32 → UInt8) :
    Calls Try.prog 19 #[.agg (u8s (k32 k)).toArray] W fun e w' => ∃ gs gw cw, e = .returned (.agg #[.slice (some ⟨gs, 0, none⟩) 256 256, .slice (some ⟨gw, 0, none⟩) 60 cw]) ∧ Blk w' gs 3 (ints stab) ∧ Wps w' W.heap.size (.slice (some ⟨gw, 0, none⟩) 60 cw) (kws (kn (k32 k)) 60) ∧ W.grownBy w' none := by
  go_enter Try.func19, Try.ntmps19
  go_wp2_with (refine wpList_box22 rfl _ k rfl rfl ?_)
  intro w2 hb2 hg2 hz2
  obtain ⟨gk, hgk⟩ : ∃ g, g = W.heap.size := ⟨_, rfl⟩
  rw [← hgk] at hb2 ⊢
  have HB2 := Lib.hid hb2
  have HG2 := Lib.hid hg2
  clear hb2 hz2 hgk
  go_wp2_with (refine wpList_alloc31 rfl rfl ?_)
  intro w3 hb3 hg3 hz3
  obtain ⟨go, hgo⟩ : ∃ g, g = w2.heap.size := ⟨_, rfl⟩
  rw [← hgo] at hb3 ⊢
  have HB3 := Lib.hid hb3
  have HG3 := Lib.hid (World.grownBy.trans hg2 hg3)
  have HK3 := Lib.hid (HB2.out.grown hg3 (by simp))
  have HGO : Hid (W.heap.size ≤ go) := Lib.hid (by rw [hgo]; exact hg2.size)
  clear hb3 hg3 hz3 hgo hg2 HB2 HG2
  go_wp2_with (first
    | (go_at_call 30
       refine (table_any w3).mono ?_
       rintro _ w4 ⟨gs, rfl, hb4, hg4, hz4⟩
       have HB4 := Lib.hid hb4
       have HG4 := Lib.hid hg4
       have HZ4 := Lib.hid hz4
       clear hb4 hg4 hz4)
    | (refine wpList_load_mid rfl 22 _ rfl gk 0 rfl (u8s (k32 k)) _ (range_blk (HK3.out.grown HG4.out (by simp))) Try.underlying22 rfl (by rw [size22, u8s_length, k32_length]) ?_)
    | (go_at_call 31
       refine (refkeys_any HB4.out k).mono ?_
       rintro _ w5 ⟨v, rfl, hw5, hg5⟩
       obtain ⟨gw, cw, rfl⟩ := hw5.form (by rw [kws_length]; omega)
       rw [kws_length] at hw5 ⊢
       have HW5 := Lib.hid hw5
       have HG5 := Lib.hid hg5
       have HB5 := Lib.hid ((HB3.out.grown HG4.out (by simp)).grown hg5 (by simp))
       have HS5 := Lib.hid (HB4.out.grown hg5 (by simp))
       have HGO5 : Hid (W.grownBy w5 none) := Lib.hid (World.grownBy.trans HG3.out (World.grownBy.trans HG4.out hg5))
       have HGW : Hid (W.heap.size ≤ w4.heap.size) := Lib.hid (World.grownBy.trans HG3.out HG4.out).size
       have HLT : Hid (go < w4.heap.size) := Lib.hid (Nat.lt_of_lt_of_le HB3.out.lt HG4.out.size)
       have HNE : Hid (gs ≠ go) := Lib.hid (fun e => by have h1 := HZ4.out; have h2 := HB3.out.lt; omega)
       clear hw5 hg5)
    | (refine wpList_store_row rfl 43 _ _ rfl go #[.slice (some ⟨gs, 0, none⟩) 256 256, .slice (some ⟨gw, 0, none⟩) 60 cw] rfl rfl 43 _ HB5.out size31 rfl (all_oneCell_toArray (two_one _ _ _ _ _ _)) ?_))
  exact bodyPost_ret (results_cell_row rfl _ _ go 43 #[.slice (some ⟨gs, 0, none⟩) 256 256, .slice (some ⟨gw, 0, none⟩) 60 cw] (0, 0) _ rfl (setRow_heap w5 go _ _ 43 (0, 0) HB5.out) Try.underlying43 rfl size31) rfl
    ⟨gs, gw, cw, rfl, HS5.out.grown (grown_setRow _ _ _) (fun e => HNE.out (Option.some.inj e)), (HW5.out.far (grown_setRow _ _ _) HLT.out).weak HGW.out, World.grownBy.andThen HGO5.out (grown_setRow _ _ _) (by rintro _ ⟨⟩; exact .inl HGO.out)⟩
/-- The reference's cipher, as Lock asks for it. -/
theorem Wps.wds {w : World} {B gw cw : Nat} {ks : List UInt8} (h : Wps w B (.slice (some ⟨gw, 0, none⟩) 60 cw) (kws (kn ks) 60)) : Wds w (fun b => b < w.heap.size) ⟨gw, 0, none⟩ (kws (kn ks) 60) := fun n hn => by
  have hl := kws_length (kn ks) 60
  have h' : Wps w B (.slice (some ⟨gw, 0, none⟩) (kws (kn ks) 60).length cw) (kws (kn ks) 60) := by rw [hl]; exact h
  obtain ⟨gt, c, e1, e2, e3, e4, e5⟩ := h'.read n hn
  have hw := World.block_lt_of_cell? w _ e1
  refine ⟨⟨gt, 0, none⟩, c, by rw [Addr.add_lit, Nat.zero_add]; exact e1, hw, e4, e2, fun r hr => ?_⟩
  rw [Addr.add_lit, Nat.zero_add]
  exact e5.get r (by rw [kws_get _ _ _ (by omega), nw_length]; exact hr)
theorem reflock_any {w : World} {B gs gw cw : Nat} {ks : List UInt8} (hs : Blk w gs 3 (ints stab)) (hw : Wps w B (.slice (some ⟨gw, 0, none⟩) 60 cw) (kws (kn ks) 60)) (s : State) :
    Calls Try.prog 20 #[.agg #[.slice (some ⟨gs, 0, none⟩) 256 256, .slice (some ⟨gw, 0, none⟩) 60 cw], .agg (bytesOf s).toArray] w fun e w' => e = .returned (.agg (bytesOf (lockS (rk (kws (kn ks) 60)) s)).toArray) ∧ w.grownBy w' none := by
  refine lock_any (fun j hj => ?_) hw.wds (kws_length _ _) (fun n r => wb_lt ks n r) s
  have h := hs.get j _ (ints_get stab j (by rw [stab_length]; exact hj))
  rw [stab_get j hj] at h
  rw [Addr.add_lit, Nat.zero_add]
  exact h
end Go.Proofs.Ytngfldlfoniklaa
