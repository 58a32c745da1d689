/- has, burn and Sync of a disk. Conditions: none. -/
import Derived.Test.YtonpcenjipigpaaDDsk
namespace Go.Proofs.Ytonpcenjipigpaa
open Go.RowKit
theorem bool_end {a b : Bool} (h : a = b) : Ending.returned (.bool a) = .returned (.bool b) := by rw [h]
section
variable {foot : Nat → Prop} {w : World} {p : Nat} {s : St}
theorem has_any (h : Dsk w foot p s) (at_ : Int) : Calls Try.prog 54 #[.pointer (some ⟨p, 0, none⟩), .int .i64 at_] w fun e w' => e = .returned (.bool (decide (0 ≤ at_ ∧ at_ < (s.n : Int)))) ∧ w = w' := by
  obtain ⟨gb, Wv, B, W, h1, h2, h3, h4, h5⟩ := h
  have c0 : w.cell? ⟨p, 0, none⟩ = some (.slice (some ⟨gb, 0, none⟩) s.n s.n) := h1.get 0 _ rfl
  clear h1 h2 h3 h4 h5
  by_cases hat : 0 ≤ at_
  · have d1 : decide (0 ≤ at_) = true := by simpa using hat
    go_enter Try.func54, Try.ntmps54
    go_wp2
    go_ret
    exact ⟨bool_end (by rw [Bool.eq_iff_iff]; simp [hat]), rfl⟩
  · have d1 : decide (0 ≤ at_) = false := by simpa using hat
    go_enter Try.func54, Try.ntmps54
    go_wp2
    go_ret
    exact ⟨bool_end (by simp), rfl⟩
/-- What burn leaves behind. -/
theorem Dsk.burnt {w' : World} {gb : Nat} {Wv : Value} {B : List UInt8} {W : List (Nat × List UInt8)} {n : Nat} {f : Int} {d : Bool}
    (hb : Blk w' p 52 (dcells gb n Wv f d)) (hn : n = s.n) (hf : f = s.burn.f) (hd : d = s.burn.dead) (h2 : Blk w gb 91 (u8s B)) (h3 : w.ownsRow 0 93 65 Wv W.length (wcells W)) (h4 : Places foot w p gb Wv) (h5 : Fits s B W)
    (hg : w.grownBy w' (some p)) : Dsk w' foot p s.burn ∧ Md foot w w' := by
  subst hn hf hd
  refine ⟨⟨gb, Wv, B, W, hb, h2.grown hg (by have := h4.ne; simp; omega), h3.kept hg ?_, h4.size hg.size, ⟨St.burn_ok h5.ok, h5.len, h5.fit, h5.inv⟩⟩, Md.of_grown hg (by rintro _ ⟨⟩; exact h4.hp)⟩
  right
  intro e
  exact (h4.wv p e).2.1 rfl
theorem burn_any (h : Dsk w foot p s) : Calls Try.prog 55 #[.pointer (some ⟨p, 0, none⟩)] w fun e w' => e = .returned (.bool s.goes) ∧ Dsk w' foot p s.burn ∧ Md foot w w' := by
  obtain ⟨gb, Wv, B, W, h1, h2, h3, h4, h5⟩ := h
  obtain ⟨o1, o2, o3, o4, o5, o6⟩ := h5.ok
  have c2 : w.cell? ⟨p, 2, none⟩ = some (.int .i64 s.f) := h1.get 2 _ rfl
  have c3 : w.cell? ⟨p, 3, none⟩ = some (.bool s.dead) := h1.get 3 _ rfl
  have H1 := Lib.hid h1
  have H5 := Lib.hid h5
  clear h1 o1 o2 o3 o4 h5
  by_cases hz : s.f = 0
  · have e0 : (s.f == 0) = true := by simpa using hz
    have Hz := Lib.hid hz
    clear hz c3
    go_enter Try.func55, Try.ntmps55
    go_wp2_with (first | (refine wpList_store_cell rfl 4 _ _ rfl size4 p 3 (.bool true) rfl rfl rfl _ _ H1.out (by simp [dcells]) ?_) | fail)
    intro w1 g1 r1
    have c3 : w1.cell? ⟨p, 3, none⟩ = some (.bool true) := Blk.get g1.out 3 _ rfl
    go_wp2
    go_ret
    refine ⟨by rw [St.goes, e0]; simp, Dsk.burnt (s := s) g1.out rfl ?_ ?_ h2 h3 h4 H5.out r1.out.grown⟩
    · simp [St.burn, Hz.out]
    · simp [St.burn, e0]
  · have e0 : (s.f == 0) = false := by simpa using hz
    cases hdd : s.dead with
    | true =>
      rw [hdd] at c3
      have Hd := Lib.hid hdd
      clear hdd
      go_enter Try.func55, Try.ntmps55
      go_wp2
      go_ret
      refine ⟨by rw [St.goes, Hd.out]; simp, Dsk.burnt (s := s) H1.out rfl ?_ ?_ h2 h3 h4 H5.out (World.grownBy.refl _ _)⟩
      · simp [St.burn, St.goes, Hd.out]
      · simp [St.burn, Hd.out]
    | false =>
      rw [hdd] at c3
      have Hd := Lib.hid hdd
      clear hdd
      by_cases hp : 0 < s.f
      · have d1 : decide (0 < s.f) = true := by simpa using hp
        have hw : IntKind.i64.wrap (s.f - 1) = s.f - 1 := IntWalk.i64_in _ (by omega)
        go_enter Try.func55, Try.ntmps55
        go_wp2_with (first | (refine wpList_store_cell rfl 3 _ _ rfl size3 p 2 (.int .i64 (s.f - 1)) rfl rfl rfl _ _ H1.out (by simp [dcells]) ?_) | fail)
        intro w1 g1 r1
        go_wp2
        go_ret
        refine ⟨by rw [St.goes, Hd.out, e0]; simp, Dsk.burnt (s := s) g1.out rfl ?_ ?_ h2 h3 h4 H5.out r1.out.grown⟩
        · simp [St.burn, St.goes, Hd.out, e0, hp]
        · simp [St.burn, Hd.out, e0]
      · have d1 : decide (0 < s.f) = false := by simpa using hp
        go_enter Try.func55, Try.ntmps55
        go_wp2
        go_ret
        refine ⟨by rw [St.goes, Hd.out, e0]; simp, Dsk.burnt (s := s) H1.out rfl ?_ ?_ h2 h3 h4 H5.out (World.grownBy.refl _ _)⟩
        · rw [St.burn, if_neg (fun h => by have := h.2; omega)]
        · simp [St.burn, Hd.out, e0]
/-- What Sync answers, and makes of the state. -/
def St.syncE (s : St) : Int := if s.goes = true then 0 else 150
def St.synced (s : St) : St := if s.goes = true then s.burn.sync else s.burn
theorem sync_any (h : Dsk w foot p s) : Calls Try.prog 38 #[.pointer (some ⟨p, 0, none⟩)] w fun e w' => e = .returned (.int .i64 s.syncE) ∧ Dsk w' foot p s.synced ∧ Md foot w w' := by
  have hc := burn_any h
  cases hg : s.goes with
  | true =>
    rw [hg] at hc
    have Hg := Lib.hid hg
    have HC := Lib.hid hc
    clear hg h hc
    go_enter Try.func38, Try.ntmps38
    go_wp2_with (first | (go_at_call 55; refine HC.out.mono ?_; rintro e w1 ⟨rfl, hd, hm⟩; obtain ⟨gb, Wv, B, W, h1, h2, h3, h4, h5⟩ := hd; have H1 := Lib.hid h1; clear h1) | (refine wpList_store_cell rfl 50 _ _ rfl size53 p 1 (.slice none 0 0) rfl rfl rfl _ _ H1.out (by simp [dcells]) ?_) | fail)
    intro w2 g1 r1
    go_wp2
    go_ret
    have hg := r1.out.grown
    have e : s.synced = s.burn.sync := by rw [St.synced, if_pos Hg.out]
    refine ⟨by rw [St.syncE, if_pos Hg.out]; rfl, ?_, hm.trans (Md.of_wr r1.out h4.hp)⟩
    rw [e]
    refine ⟨gb, .slice none 0 0, B, [], g1.out, h2.grown hg (by have := h4.ne; simp; omega), World.ownsRow_nil _ _ _ _, ⟨h4.hp, h4.hgb, h4.ne, fun k hk => by simp [Value.ownBlock] at hk, fun k hk => Nat.lt_of_lt_of_le (h4.lt k hk) hg.size⟩, ⟨St.sync_ok h5.ok, h5.len, Fit.nil _, ?_⟩⟩
    show Inv (redo s.burn.K s.burn.L) [] B []
    rw [← h5.inv.now]
    exact Inv.nil B
  | false =>
    rw [hg] at hc
    have Hg := Lib.hid hg
    have HC := Lib.hid hc
    clear hg h hc
    go_enter Try.func38, Try.ntmps38
    go_wp2_with (first | (go_at_call 55; refine HC.out.mono ?_; rintro e w1 ⟨rfl, hd, hm⟩) | fail)
    go_ret
    refine ⟨by rw [St.syncE, Hg.out]; rfl, ?_, hm⟩
    rw [St.synced, Hg.out]
    exact hd
end
end Go.Proofs.Ytonpcenjipigpaa
