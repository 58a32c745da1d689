/- A store and its disk in memory beside other things, through calls. Conditions: none. -/
import Derived.Test.YtonpcenjipigpaaE4
import Derived.Test.YtonpcenjipigpaaF1
import Derived.Test.YtonpcenjipigpaaDCra
namespace Go.Proofs.Ytonpcenjipigpaa
open Go.RowKit
/-- A disk (in the blocks of f) and a store on it (in the blocks of fs), all made since w0. -/
structure Lv (w0 w : World) (f fs : Nat → Prop) (sp dp : Nat) (s : St) (t : Ste) : Prop where
  d : Dsk w f dp s
  st : Stm w fs sp dp t
  dis : ∀ k, fs k → ¬ f k
  fn : ∀ k, f k → w0.heap.size ≤ k
  fsn : ∀ k, fs k → w0.heap.size ≤ k
  g : w0.grownBy w none
/-- A call that turns nothing but disk and store. -/
structure Tn (w w' : World) (f fs f' fs' : Nat → Prop) : Prop where
  md : Md (fun k => f k ∨ fs k) w w'
  ff : ∀ k, f' k → f k ∨ (w.heap.size ≤ k ∧ k < w'.heap.size)
  ss : ∀ k, fs' k → fs k ∨ (w.heap.size ≤ k ∧ k < w'.heap.size)
/-- Blocks that are there, and neither the disk's nor the store's. -/
def Oth (w : World) (f fs ok : Nat → Prop) : Prop := ∀ b, ok b → b < w.heap.size ∧ ¬ f b ∧ ¬ fs b
section
variable {w0 w w' : World} {f fs f' fs' ok : Nat → Prop} {sp dp : Nat} {s s' : St} {t t' : Ste}
theorem Tn.oth (h : Tn w w' f fs f' fs') (ho : Oth w f fs ok) : Oth w' f' fs' ok := fun b hb => by
  obtain ⟨h1, h2, h3⟩ := ho b hb
  refine ⟨Nat.lt_of_lt_of_le h1 h.md.size, fun h4 => ?_, fun h4 => ?_⟩
  · rcases h.ff b h4 with h5 | h5
    · exact h2 h5
    · omega
  · rcases h.ss b h4 with h5 | h5
    · exact h3 h5
    · omega
theorem Tn.at (h : Tn w w' f fs f' fs') (ho : Oth w f fs ok) : ∀ b, ok b → w'.heap[b]? = w.heap[b]? := fun b hb => by
  obtain ⟨h1, h2, h3⟩ := ho b hb
  exact h.md.block b h1 fun h4 => h4.elim h2 h3
theorem Tn.of_grown (hg : w.grownBy w' none) : Tn w w' f fs f fs := ⟨Md.of_grown hg (by simp), fun _ h => .inl h, fun _ h => .inl h⟩
theorem Oth.grown (ho : Oth w f fs ok) (hg : w.grownBy w' none) : Oth w' f fs ok := (Tn.of_grown hg).oth ho
theorem Lv.grown (h : Lv w0 w f fs sp dp s t) (hg : w.grownBy w' none) : Lv w0 w' f fs sp dp s t :=
  ⟨h.d.grown hg, h.st.keep hg.size fun k hk => hg.block k (h.st.lt k hk) (by simp), h.dis, h.fn, h.fsn, h.g.trans hg⟩
theorem Lv.tn (h : Lv w0 w f fs sp dp s t) (hd : Dsk w' f' dp s') (hs : Stm w' fs' sp dp t') (hdis : ∀ k, fs' k → ¬ f' k) (ht : Tn w w' f fs f' fs') : Lv w0 w' f' fs' sp dp s' t' := by
  refine ⟨hd, hs, hdis, fun k hk => ?_, fun k hk => ?_, ht.md.grown h.g fun k hk => hk.elim (h.fn k) (h.fsn k)⟩
  · rcases ht.ff k hk with h1 | h1
    · exact h.fn k h1
    · exact Nat.le_trans h.g.size h1.1
  · rcases ht.ss k hk with h1 | h1
    · exact h.fsn k h1
    · exact Nat.le_trans h.g.size h1.1
/-- New memory is neither the disk's nor the store's. -/
theorem Lv.new (h : Lv w0 w f fs sp dp s t) : Oth w' f fs (fun b => w.heap.size ≤ b ∧ b < w'.heap.size) := fun b hb => ⟨hb.2, fun h1 => by have := h.d.lt b h1; omega, fun h1 => by have := h.st.lt b h1; omega⟩
/-- What was there ahead of all is neither. -/
theorem Lv.old (h : Lv w0 w f fs sp dp s t) : Oth w f fs (fun b => b < w0.heap.size) := fun b hb => ⟨Nat.lt_of_lt_of_le hb h.g.size, fun h1 => by have := h.fn b h1; omega, fun h1 => by have := h.fsn b h1; omega⟩
/-- A commit. -/
theorem commit_lv (h : Lv w0 w f fs sp dp s t) (hok : t.ok (s.n / 2)) (hgd : Gd t.L) {okl : Nat → Prop} {A : Option Addr} {l : List Chg} {n cl : Nat} (hx : Chs w okl A l) (hokl : ∀ b, okl b → b < w.heap.size) (hn : l.length = n) (hl : n ≤ 30000) (hL : s.L.length ≤ 900000) {e : Nat} {s2 : St} {t2 : Ste} (hr : s.commitT t l = (e, s2, t2)) :
    Calls Try.prog 9 #[.pointer (some ⟨sp, 0, none⟩), .slice A n cl] w fun r w' => r = .returned (.int .i64 (e : Int)) ∧ ∃ f' fs', Lv w0 w' f' fs' sp dp s2 t2 ∧ Tn w w' f fs f' fs' := by
  subst hn
  have := commit_any (cl := cl) h.d h.st h.dis hok hgd hx hokl hl hL
  rw [hr] at this
  refine this.mono fun r w' hc => ?_
  obtain ⟨rfl, f', fs', hd, hs, hdis, hf, hfs, hm⟩ := hc
  exact ⟨rfl, f', fs', h.tn hd hs hdis ⟨hm, hf, hfs⟩, ⟨hm, hf, hfs⟩⟩
/-- A crash: the store's memory is as it was. -/
theorem crash_lv (h : Lv w0 w f fs sp dp s t) (hL : s.L.length ≤ 1000000) (k : Int) : Calls Try.prog 13 #[.pointer (some ⟨dp, 0, none⟩), .int .i64 k] w fun r w' => r = .returned (.tuple #[]) ∧ Lv w0 w' f fs sp dp (s.crash k) t ∧ Tn w w' f fs f fs := by
  refine (crash_any h.d (by omega) k).mono fun r w' ⟨hr, hd, hm⟩ => ?_
  have ht : Tn w w' f fs f fs := ⟨hm.mono fun _ h => .inl h, fun _ h => .inl h, fun _ h => .inl h⟩
  exact ⟨hr, h.tn hd (h.st.md hm h.dis) h.dis ht, ht⟩
/-- A fuse. -/
theorem fuse_lv (h : Lv w0 w f fs sp dp s t) (x : Int) (h1 : -9223372036854775808 ≤ x) (h2 : x ≤ 9223372036854775807) : Calls Try.prog 11 #[.pointer (some ⟨dp, 0, none⟩), .int .i64 x] w fun r w' => r = .returned (.tuple #[]) ∧ Lv w0 w' f fs sp dp (s.fuse x) t ∧ Tn w w' f fs f fs := by
  refine (fuse_any h.d x h1 h2).mono fun r w' ⟨hr, hd, hm⟩ => ?_
  have ht : Tn w w' f fs f fs := ⟨hm.mono fun _ h => .inl h, fun _ h => .inl h, fun _ h => .inl h⟩
  exact ⟨hr, h.tn hd (h.st.md hm h.dis) h.dis ht, ht⟩
/-- A store is opened anew: the one that was there is left. -/
theorem open_lv (h : Lv w0 w f fs sp dp s t) (hL : s.L.length ≤ 1000000) {s2 : St} {t2 : Ste} (hr : s.openT = (0, s2, some t2)) : Calls Try.prog 7 #[.pointer (some ⟨dp, 0, none⟩)] w fun r w' => ∃ sp2 f' fs', r = .returned (.tuple #[.pointer (some ⟨sp2, 0, none⟩), .int .i64 0]) ∧ Lv w0 w' f' fs' sp2 dp s2 t2 ∧ Tn w w' f fs f' fs' := by
  have := open_any h.d hL
  rw [hr] at this
  refine this.mono fun r w' hc => ?_
  obtain ⟨f', hd, hf, hm, sp2, fs', rfl, hst, -, hfs⟩ := hc
  have ht : Tn w w' f fs f' fs' := ⟨hm.mono fun _ h => .inl h, hf, fun k hk => .inr ⟨(hfs k hk).1, hst.lt k hk⟩⟩
  refine ⟨sp2, f', fs', rfl, ⟨hd, hst, fun k hk => (hfs k hk).2, fun k hk => ?_, fun k hk => Nat.le_trans h.g.size (hfs k hk).1, hm.grown h.g h.fn⟩, ht⟩
  rcases hf k hk with h1 | h1
  · exact h.fn k h1
  · exact Nat.le_trans h.g.size h1.1
/-- A store is opened on a new disk. -/
theorem open_new {f1 : Nat → Prop} (hd1 : Dsk w f1 dp s) (hf1 : ∀ k, f1 k → w0.heap.size ≤ k) (hg : w0.grownBy w none) (hL : s.L.length ≤ 1000000) {s2 : St} {t2 : Ste} (hr : s.openT = (0, s2, some t2)) : Calls Try.prog 7 #[.pointer (some ⟨dp, 0, none⟩)] w fun r w' => ∃ sp2 f' fs', r = .returned (.tuple #[.pointer (some ⟨sp2, 0, none⟩), .int .i64 0]) ∧ Lv w0 w' f' fs' sp2 dp s2 t2 := by
  have := open_any hd1 hL
  rw [hr] at this
  refine this.mono fun r w' hc => ?_
  obtain ⟨f', hd, hf, hm, sp2, fs', rfl, hst, -, hfs⟩ := hc
  refine ⟨sp2, f', fs', rfl, ⟨hd, hst, fun k hk => (hfs k hk).2, fun k hk => ?_, fun k hk => Nat.le_trans hg.size (hfs k hk).1, hm.grown hg hf1⟩⟩
  rcases hf k hk with h1 | h1
  · exact hf1 k h1
  · exact Nat.le_trans hg.size h1.1
end
/-- One change in a block of its own. -/
theorem chs_one {w : World} {ok : Nat → Prop} {g : Nat} {nm vl : List UInt8} {gn : Bool} {A : Option Addr} {c : Nat} (hb : Blk w g 42 (ccells ⟨nm, vl, gn⟩ (.slice A vl.length c))) (hg : ok g) (hc : vl.length ≤ c) (hm : c ≤ maxLen) (hnm : nm.length ≤ maxLen) (hy : Byt w ok A vl) : Chs w ok (some ⟨g, 0, none⟩) [⟨nm, vl, gn⟩] := fun j hj => by
  obtain rfl : j = 0 := by simpa using hj
  refine ⟨g, 0, A, c, rfl, hg, fun i u hu => ?_, hc, hm, hnm, hy⟩
  rw [Nat.zero_mul, Nat.add_zero, Nat.zero_add]
  exact hb.get i u hu
/-- A commit that has room is done where no fuse burns. -/
theorem commit_ok {s : St} {t : Ste} (h : Hld s.n s.K t) (hL : s.L = []) (hd : s.dead = false) (hf : s.f = -1) {l : List Chg} (hg : Good l) (h0 : l ≠ []) (h64 : l.length ≤ 64) (h642 : (doAll t.L l).length ≤ 64) (hfit : t.n + nblk (8 + (payB l).length) ≤ s.n / 2) : ∃ s' t', s.commitT t l = (0, s', t') ∧ ComDone s t (doAll t.L l) s' t' := by
  rcases commit_out h hL hd l with ⟨s', t', h1, h2, -⟩ | ⟨e, h1, h2, h3⟩ | ⟨s', -, h2⟩
  · exact ⟨s', t', h1, h2⟩
  · exfalso
    have hfn : l.find? (fun c => c.err ≠ 0) = none := List.find?_eq_none.2 fun c hc => by simp [hg c hc]
    have hmm : nblk (recB t.e (t.c + 1) (payB l)).length = nblk (8 + (payB l).length) := by rw [recB_length]; unfold nblk; omega
    unfold St.commitT at h1
    rw [hfn] at h1
    dsimp only at h1
    rw [if_neg (by omega), if_neg (by omega), if_neg (by rw [hd]; decide), if_neg h0, St.keepT, hmm, if_pos hfit] at h1
    rcases lays_out hd hL t.hf t.n (recB t.e (t.c + 1) (payB l)) t.e (t.c + 1) (t.n + nblk (8 + (payB l).length)) with ⟨f, h4, -⟩ | ⟨f, K, L, h4, h5, -⟩
    · rw [h4] at h1
      exact h2 (congrArg Prod.fst h1).symm
    · exact h5 hf
  · exact absurd hf h2.f
end Go.Proofs.Ytonpcenjipigpaa
/- The laws' example: alive answers true. Conditions: none. -/
namespace Go.Proofs.Ytonpcenjipigpaa
open Go.RowKit
theorem crash_img {s : St} {t : Ste} (h : Hld s.n s.K t) (hL : s.L = []) (k : Int) : (s.crash k).openT = (0, s.crash k, some t) := by
  have e : (s.crash k).K = s.K := by simp [St.crash, hL, redo]
  refine Hld.opens (s := s.crash k) ?_ rfl rfl
  rw [e]
  exact h
theorem ex_one (w : World) {W : World} (hW : W = (mk (w.alloc (.cells #[.int .u8 120] 5)) w.heap.size).alloc (.cells #[.string ⟨#[97]⟩, .slice (some ⟨w.heap.size, 0, none⟩) 1 1, .bool false] 42)) :
    Chs W (fun b => b < W.heap.size) (some ⟨(mk (w.alloc (.cells #[.int .u8 120] 5)) w.heap.size).heap.size, 0, none⟩) [⟨[97], [120], false⟩] ∧ w.grownBy W none := by
  obtain ⟨W2, hW2⟩ : ∃ W2, W2 = mk (w.alloc (.cells #[.int .u8 120] 5)) w.heap.size := ⟨_, rfl⟩
  rw [← hW2] at hW ⊢
  have hb2 : Below w.heap.size w W2 := by rw [hW2]; exact bel_mk (below_alloc _ _) (Nat.le_refl _)
  have hz2 : W2.heap.size = w.heap.size + 1 := by rw [hW2, mk_size]; simp
  have y2 : W2.cell? ⟨w.heap.size, 0, none⟩ = some (.int .u8 120) := by
    rw [hW2]
    exact (cel_mk _ w.heap.size).cell _ _ ((Blk.of_alloc w #[.int .u8 120] 5).get 0 _ rfl)
  have hg3 : W2.grownBy W none := by rw [hW]; exact World.grownBy_alloc _ _ _
  have hz3 : W.heap.size = w.heap.size + 2 := by rw [hW]; simp [hz2]
  have hb : Blk W W2.heap.size 42 [.string ⟨#[97]⟩, .slice (some ⟨w.heap.size, 0, none⟩) 1 1, .bool false] := by rw [hW]; exact Blk.of_alloc _ _ _
  refine ⟨chs_one (c := 1) (A := some ⟨w.heap.size, 0, none⟩) hb (by omega) (by decide) (by decide) (by decide) fun j hj => ?_, (grown_of_below hb2).trans hg3⟩
  obtain rfl : j = 0 := by simpa using hj
  exact ⟨_, rfl, by show w.heap.size < _; omega, hg3.cell y2 (by simp)⟩
set_option maxRecDepth 100000 in
set_option maxHeartbeats 4000000 in
theorem alive_any (w : World) : Calls Try.prog 5 #[] w fun e w' => e = .returned (.bool true) ∧ w.grownBy w' none := by
  have hN := new_any w 8
  rw [show nOf 8 = 8 from rfl] at hN
  have HN := Lib.hid hN
  obtain ⟨s1, ho1, hh1, hL1, hd1, hf1, hn1⟩ := start_out (n := 8) (by decide) (by decide)
  have hg0 : Good [⟨[97], [120], false⟩] := by intro c hc; simp at hc; subst hc; rfl
  rw [← hn1] at hh1
  obtain ⟨s2, t2, hc2, hD2⟩ := commit_ok hh1 hL1 hd1 hf1 hg0 (by simp) (by decide) (by decide) (by rw [hn1]; decide)
  have hh2 := hD2.held
  rw [← hD2.n] at hh2
  have ho3 := crash_img hh2 hD2.wait 0
  have htL : t2.L = [([97], [120])] := hD2.L
  have HO1 : Hid (s1.L = []) := Lib.hid hL1
  have HOK1 : Hid (Ste.ok ⟨0, 1, 0, 1, []⟩ (s1.n / 2)) := Lib.hid hh1.ok
  have HW2 := Lib.hid hD2.wait
  have HTL := Lib.hid htL
  have HC2 := Lib.hid hc2
  have HO := Lib.hid ho1
  have HO3 := Lib.hid ho3
  clear hN ho1 hh1 hL1 hd1 hf1 hn1 hg0 hc2 hD2 hh2 ho3 htL
  have hcv := run_convert_mk
  go_enter Try.func5, Try.ntmps5
  go_wp2_with (first
    | (go_at_call 6
       refine HN.out.mono ?_
       rintro _ w1 ⟨p, f1, rfl, hd1, hf1, hg1⟩
       have hop1 := open_new (w0 := w) hd1 hf1 hg1 (by show 0 ≤ 1000000; decide) HO.out
       clear HN hd1 hf1 hg1)
    | (go_at_call 7
       refine hop1.mono ?_
       rintro _ w2 ⟨sp, f2, fs2, rfl, hv2⟩
       have HV2 := Lib.hid hv2
       have hep := epoch_any hv2.st
       clear hop1 hv2)
    | (go_at_call 17
       refine hep.mono ?_
       rintro _ _ ⟨rfl, rfl⟩
       clear hep)
    | (go_at_call 9
       obtain ⟨hx, hgx⟩ := ex_one w2 rfl
       refine (commit_lv (cl := 1) (HV2.out.grown hgx) HOK1.out Gd.nil hx (fun b hb => hb) rfl (by decide) (by rw [HO1.out]; decide) HC2.out).mono ?_
       rintro _ w3 ⟨rfl, f3, fs3, hv3, -⟩
       have hcr := crash_lv hv3 (by rw [HW2.out]; decide) 0
       clear hx hgx hv3 HV2)
    | (go_at_call 13
       refine hcr.mono ?_
       rintro _ w4 ⟨rfl, hv4, -⟩
       have hop2 := open_lv hv4 (by show 0 ≤ 1000000; decide) HO3.out
       clear hcr hv4)
    | (go_at_call 7
       refine hop2.mono ?_
       rintro _ w5 ⟨sp5, f5, fs5, rfl, hv5, -⟩
       have HV5 := Lib.hid hv5
       have hge : Calls Try.prog 15 #[.pointer (some ⟨sp5, 0, none⟩), .string ⟨#[97]⟩] w5 (GetE w5 (some [120])) := by
         have := get_sto hv5.st [97] (by decide)
         rw [HTL.out] at this
         exact this
       clear hop2 hv5)
    | (go_at_call 15
       refine hge.mono ?_
       rintro _ w6 ⟨A6, c6, rfl, -, -, hy6, hb6⟩
       have hst6 : (convert 40 9 (.slice A6 1 c6)).run Try.prog w6 = .ok (.string ⟨#[120]⟩) w6 := hy6.str c6
       have hv6 := HV5.out.grown (grown_of_below hb6)
       have hal := all_sto hv6.st (by rw [HTL.out]; decide)
       have hcl : (chgs t2.L).length = 1 := by rw [HTL.out]; rfl
       have hg6 := Lib.hid hv6.g
       clear hge hv6)
    | (go_at_call 10
       refine hal.mono ?_
       rintro _ w7 ⟨g7, c7, rfl, -, -, -, hg7⟩
       rw [hcl])
    | fail)
  go_ret
  exact ⟨rfl, hg6.out.trans hg7⟩
end Go.Proofs.Ytonpcenjipigpaa
