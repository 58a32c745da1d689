/- The reference's Do and All. Conditions: at most a million changes. -/
import Derived.Test.YtonpcenjipigpaaGreatZ36
namespace Go.Proofs.YtonpcenjipigpaaGreat
open Go.RowKit
/-- What comes out so far. -/
def AccV (w wr : World) (ok : Nat → Prop) (v : Value) (out : List Chg) (vs : List Value) : Prop :=
  wr.ownsRow w.heap.size 56 3 v out.length (rows out vs) ∧ Sls w ok vs (out.map (·.val)) ∧ w.grownBy wr none ∧ ∀ c ∈ out, c.name.length ≤ maxLen
def Acc (w wr : World) (ok : Nat → Prop) (v : Value) (out : List Chg) : Prop := ∃ vs, AccV w wr ok v out vs
/-- How the reference's Do ends. -/
def DoRE (w : World) (ok : Nat → Prop) (l : List Chg) (e : Ending) (w' : World) : Prop := ∃ A c, e = .returned (.slice A l.length c) ∧ Chs w' (fun b => ok b ∨ (w.heap.size ≤ b ∧ b < w'.heap.size)) A l ∧ w.grownBy w' none
theorem Acc.nil {w wr : World} {ok : Nat → Prop} (h : w.grownBy wr none) : Acc w wr ok (.slice none 0 0) [] := ⟨[], World.ownsRow_nil _ _ _ _, Sls.nil _ _, h, by simp⟩
theorem Acc.drew {w wr : World} {ok : Nat → Prop} {v : Value} {out : List Chg} (h : Acc w wr ok v out) (n : Nat) : Acc w (wr.drewN n) ok v out := by
  obtain ⟨vs, h1, h2, h3, h4⟩ := h
  exact ⟨vs, own_up h1 (below_of_grown (grown_drewN n)), h2, h3.trans (grown_drewN n), h4⟩
theorem Acc.end {w wr : World} {ok : Nat → Prop} {v : Value} {out : List Chg} (h : Acc w wr ok v out) (hok : ∀ b, ok b → b < w.heap.size) : DoRE w ok out (.returned v) wr := by
  obtain ⟨vs, h1, h2, h3, h4⟩ := h
  by_cases hv : v = .slice none 0 0
  · subst hv
    have h0 : out = [] := by
      rcases h1.2 with ⟨-, e⟩ | ⟨g, cap, cur, e, _⟩
      · exact List.eq_nil_of_length_eq_zero e
      · cases e
    subst h0
    exact ⟨none, 0, rfl, Chs.nil, h3⟩
  · obtain ⟨g, c, rfl, k1, k2, k3, k4, k5⟩ := own_form3 h1 hv
    have hl : vs.length = out.length := by rw [h2.1]; simp
    refine ⟨_, c, rfl, fun j hj => ?_, h3⟩
    obtain ⟨A, cp, e1, e2, e3, e4⟩ := h2.2 j (by simpa using hj)
    simp only [List.getElem_map] at e1 e2 e4
    refine ⟨g, 0, A, cp, rfl, .inr ⟨k3, k4⟩, fun i u hu => ?_, e2, e3, h4 _ (List.getElem_mem hj), ((e4.keep fun b hb => h3.block b (hok b hb) (by simp)).imp fun b hb => .inl hb)⟩
    rw [Nat.zero_add]
    exact k5 _ _ (rows_get _ _ hl j hj i u _ e1 hu)
theorem AccV.push {w wr w5 : World} {ok : Nat → Prop} {v v5 : Value} {out : List Chg} {vs : List Value} {x : Chg} {A : Option Addr} {c : Nat} {o : Obj} (h : AccV w wr ok v out vs) (hy : Byt w ok A x.val) (h1 : x.val.length ≤ c) (h2 : c ≤ maxLen) (h3 : x.name.length ≤ maxLen)
    (ho : w5.ownsRow w.heap.size 56 3 v5 (out.length + 1) (rows out vs ++ ccells x (.slice A x.val.length c))) (hg : (wr.alloc o).grownBy w5 v.ownBlock) : AccV w w5 ok v5 (out ++ [x]) (vs ++ [.slice A x.val.length c]) := by
  obtain ⟨k1, k2, k3, k4⟩ := h
  have hl : vs.length = out.length := by rw [k2.1]; simp
  refine ⟨?_, ?_, ?_, fun y hy => ?_⟩
  · rw [rows_snoc _ _ _ _ hl, List.length_append]
    exact ho
  · rw [List.map_append]
    exact k2.snoc hy h1 h2
  · refine World.grownBy.andThen (k3.trans (World.grownBy_alloc wr o none)) hg ?_
    intro g e
    exact .inl (k1.lt g e).1
  · rcases List.mem_append.1 hy with hy | hy
    · exact k4 y hy
    · simp at hy; subst hy; exact h3
theorem AccV.drew {w wr : World} {ok : Nat → Prop} {v : Value} {out : List Chg} {vs : List Value} (h : AccV w wr ok v out vs) (n : Nat) : AccV w (wr.drewN n) ok v out vs := by
  obtain ⟨h1, h2, h3, h4⟩ := h
  exact ⟨own_up h1 (below_of_grown (grown_drewN n)), h2, h3.trans (grown_drewN n), h4⟩
theorem less_before : ∀ a b : List UInt8, Op.bytesLess a b = bytesBefore a b
  | [], [] => rfl
  | [], _ :: _ => rfl
  | _ :: _, [] => rfl
  | a :: r, b :: s => by
    have ih := less_before r s
    simp only [Op.bytesLess, bytesBefore, ih]
theorem doR_cons (c : Chg) (done : Bool) (x : Chg) (xs : List Chg) : doR c done (x :: xs) = (if done = false ∧ bytesBefore c.name x.name = true then [⟨c.name, c.val, false⟩] else []) ++ ((if x.name ≠ c.name then [x] else []) ++ doR c (done || bytesBefore c.name x.name) xs) := rfl
set_option maxRecDepth 100000 in
set_option maxHeartbeats 4000000 in
theorem dor_any {w : World} {ok : Nat → Prop} {A A' : Option Addr} {l : List Chg} {cl c' : Nat} {c : Chg} (hx : Chs w ok A l) (hok : ∀ b, ok b → b < w.heap.size) (hl : l.length ≤ 1000000) (hy : Byt w ok A' c.val) (h1 : c.val.length ≤ c') (h2 : c' ≤ maxLen) (h3 : c.name.length ≤ maxLen) :
    Calls Tryz.prog 63 #[.slice A l.length cl, .agg #[.string ⟨c.name.toArray⟩, .slice A' c.val.length c', .bool c.gone]] w (DoRE w ok (doR c c.gone l)) := by
  obtain ⟨i0, hi, hz0, hz1, hz2⟩ := info_parts Tryz.info56
  obtain ⟨T, hT⟩ : ∃ T, T = doR c c.gone l := ⟨_, rfl⟩
  rw [← hT]
  have HX := Lib.hid hx
  have HOK := Lib.hid hok
  have HT := Lib.hid hT
  obtain ⟨w1, hw1⟩ : ∃ w1, w1 = w.alloc (.cells #[.string ⟨c.name.toArray⟩, .slice A' c.val.length c', .bool c.gone] 56) := ⟨_, rfl⟩
  have hg1 : w.grownBy w1 none := by rw [hw1]; exact World.grownBy_alloc _ _ _
  have hb1 : Blk w1 w.heap.size 56 [.string ⟨c.name.toArray⟩, .slice A' c.val.length c', .bool c.gone] := by rw [hw1]; exact Blk.of_alloc _ _ _
  have hz1' : w1.heap.size = w.heap.size + 1 := by rw [hw1]; simp
  have kB : Hid (∀ W, w1.grownBy W none → W.cell? ⟨w.heap.size, 0, none⟩ = some (.string ⟨c.name.toArray⟩) ∧ W.cell? ⟨w.heap.size, 1, none⟩ = some (.slice A' c.val.length c') ∧ W.cell? ⟨w.heap.size, 2, none⟩ = some (.bool c.gone)) := Lib.hid fun W hW => by
    have := hb1.grown hW (by simp)
    exact ⟨this.get 0 _ rfl, this.get 1 _ rfl, this.get 2 _ rfl⟩
  have HW1 := Lib.hid hw1
  obtain ⟨y0, y1, y2⟩ := kB.out w1 (World.grownBy.refl _ _)
  have HY := Lib.hid hy
  have HC := Lib.hid (And.intro h1 (And.intro h2 h3))
  have hacc : Acc w1 w1 ok (.slice none 0 0) [] := Acc.nil (World.grownBy.refl _ _)
  clear hx hok hT hw1 hb1 hy h1 h2 h3
  go_enter Tryz.func63, Tryz.ntmps63
  go_wp2
  rw [← HW1.out]
  go_wp2
  have hT0 : Hid (T = [] ++ doR c c.gone (l.drop 0)) := HT
  go_loopw [5, 6, 7] (fun v d i wr => ∃ (k : Nat) (done : Bool) (u : Value) (out : List Chg), k ≤ l.length ∧ i = .int .i64 (k : Int) ∧ d = .bool done ∧ u = v ∧ Acc w1 wr ok u out ∧ Hid (T = out ++ doR c done (l.drop k)) ∧ out.length ≤ 2 * k) (fun _ _ i _ => l.length - (intOf i).toNat)
  case atStart => exact ⟨0, c.gone, _, [], Nat.zero_le _, rfl, rfl, rfl, hacc, hT0, Nat.le_refl _⟩
  case round =>
    clear hacc hT0
    obtain ⟨k, done, u, out, hk, rfl, rfl, hu, hA, HTT, hol⟩ := hrel
    subst hu
    by_cases hlt : k < l.length
    · obtain ⟨b, o, A2, c2, rfl, hokb, d0, d1, d2, e1, e2, e3, hby⟩ := HX.out.at hlt
      have hgr : w1.grownBy wr none := by obtain ⟨_, _, _, h, _⟩ := hA; exact h
      obtain ⟨z0, z1, z2⟩ := kB.out wr hgr
      have hg0 := hg1.trans hgr
      have q0 : wr.cell? ⟨b, o + k * 3, none⟩ = some (.string ⟨l[k].name.toArray⟩) := hg0.cell d0 (by simp)
      have q1 : wr.cell? ⟨b, o + k * 3 + 1, none⟩ = some (.slice A2 l[k].val.length c2) := hg0.cell d1 (by simp)
      have q2 : wr.cell? ⟨b, o + k * 3 + 2, none⟩ = some (.bool l[k].gone) := hg0.cell d2 (by simp)
      have hdr : l.drop k = l[k] :: l.drop (k + 1) := List.drop_eq_getElem_cons hlt
      obtain ⟨x, hxx⟩ : ∃ x, x = l[k] := ⟨_, rfl⟩
      rw [← hxx] at q0 q1 q2 e1 e3 hby hdr
      have HTN : Hid (T = out ++ doR c done (x :: l.drop (k + 1))) := Lib.hid (by rw [← hdr]; exact HTT.out)
      have HBY := Lib.hid hby
      have HAC := Lib.hid hA
      have HE := Lib.hid (And.intro e1 (And.intro e2 e3))
      have KQ : Hid (∀ W, w1.grownBy W none → W.cell? ⟨b, o + k * 3, none⟩ = some (.string ⟨x.name.toArray⟩) ∧ W.cell? ⟨b, o + k * 3 + 1, none⟩ = some (.slice A2 x.val.length c2) ∧ W.cell? ⟨b, o + k * 3 + 2, none⟩ = some (.bool x.gone)) := Lib.hid fun W hW => by
        have hgW := hg1.trans hW
        rw [hxx]
        exact ⟨hgW.cell d0 (by simp), hgW.cell d1 (by simp), hgW.cell d2 (by simp)⟩
      have hol2 : out.length ≤ 2000000 := by omega
      have HOL := Lib.hid hol
      have hdec : decide ((k : Int) < (l.length : Int)) = true := decide_eq_true (by omega)
      clear d0 d1 d2 hby hA HTT hxx hdr hg0 hgr e1 e2 e3 hol hk
      obtain ⟨vs, hav⟩ := HAC.out
      have HAV := Lib.hid hav
      have kQ := KQ
      have HBW : Hid (Byt w1 ok A2 x.val) := Lib.hid (HBY.out.keep fun b hb => hg1.block b (HOK.out b hb) (by simp))
      have HYW : Hid (Byt w1 ok A' c.val) := Lib.hid (HY.out.keep fun b hb => hg1.block b (HOK.out b hb) (by simp))
      clear hav HAC HBY
      cases done with
      | false =>
        by_cases hless : Op.bytesLess c.name x.name = true
        · have hbb : bytesBefore c.name x.name = true := by rw [← less_before]; exact hless
          have hne : x.name ≠ c.name := fun e => by rw [e, before_self] at hbb; cases hbb
          have hnb : (!x.name == c.name) = true := by simpa using hne
          have HTF : Hid (T = (out ++ [⟨c.name, c.val, false⟩] ++ [x]) ++ doR c true (l.drop (k + 1))) := Lib.hid (by
            rw [HTN.out, doR_cons, if_pos ⟨rfl, hbb⟩, if_pos hne, hbb]
            simp)
          clear hbb
          go_wp2
          go_quiet (fail)
          obtain ⟨wq, hwq⟩ : ∃ X : World, X = wr.drewN nq := ⟨_, rfl⟩
          have hav : AccV w1 wq ok u out vs := by rw [hwq]; exact HAV.out.drew nq
          rw [← hwq]
          obtain ⟨s0, s1, s2⟩ := kB.out wq hav.2.2.1
          obtain ⟨t0, t1, t2⟩ := kQ.out wq hav.2.2.1
          have HAQ := Lib.hid hav
          have hws := hav.2.2.1.size
          clear z0 z1 z2 q0 q1 q2
          have hown := hav.1.alloc (.cells #[.string ⟨c.name.toArray⟩, .slice A' c.val.length c', .bool false] 56)
          clear hwq hav
          go_wp2_with (first
            | (at_builtin; refine wpList_append_own_at _ rfl _ _ 36 rfl w1.heap.size 56 i0 _ 3 48 Tryz.underlying36 hi hz0 hz1 hz2 rfl (by decide) u out.length _ rfl hown ⟨wq.heap.size, 0, none⟩ 1 1 [.string ⟨c.name.toArray⟩, .slice A' c.val.length c', .bool false] rfl rfl (fun j u hu => by rw [Addr.add_lit, Nat.zero_add]; exact (Blk.of_alloc wq #[.string ⟨c.name.toArray⟩, .slice A' c.val.length c', .bool false] 56).get j u hu) (by simp [Value.oneCell']) (by unfold maxLen; omega) (by omega) (by simp; omega) ?_; intro v5 w5 ho5 hg5 hn5 hv5
               have hav5 := HAQ.out.push (x := ⟨c.name, c.val, false⟩) HYW.out HC.out.1 HC.out.2.1 HC.out.2.2 ho5 hg5
               obtain ⟨t0, t1, t2⟩ := kQ.out w5 hav5.2.2.1
               obtain ⟨s0, s1, s2⟩ := kB.out w5 hav5.2.2.1
               have HA5 := Lib.hid hav5
               clear ho5 hg5 hn5 hv5 hav5 hown)
            | fail)
          go_quiet (fail)
          obtain ⟨wq2, hwq2⟩ : ∃ X : World, X = w5.drewN nq := ⟨_, rfl⟩
          have hav : AccV w1 wq2 ok v5 (out ++ [⟨c.name, c.val, false⟩]) (vs ++ [.slice A' c.val.length c']) := by rw [hwq2]; exact HA5.out.drew nq
          rw [← hwq2]
          obtain ⟨s0, s1, s2⟩ := kB.out wq2 hav.2.2.1
          obtain ⟨t0, t1, t2⟩ := kQ.out wq2 hav.2.2.1
          have HAQ2 := Lib.hid hav
          have hws2 := hav.2.2.1.size
          have hln : (out ++ [(⟨c.name, c.val, false⟩ : Chg)]).length = out.length + 1 := by simp
          have hava := hav.1
          rw [hln] at hava
          have hav0 := hav
          have hown := hava.alloc (.cells #[.string ⟨x.name.toArray⟩, .slice A2 x.val.length c2, .bool x.gone] 56)
          clear hwq2 hav hav0 hava
          go_wp2_with (first
            | (at_builtin; refine wpList_append_own_at _ rfl _ _ 36 rfl w1.heap.size 56 i0 _ 3 48 Tryz.underlying36 hi hz0 hz1 hz2 rfl (by decide) v5 (out.length + 1) _ rfl hown ⟨wq2.heap.size, 0, none⟩ 1 1 [.string ⟨x.name.toArray⟩, .slice A2 x.val.length c2, .bool x.gone] rfl rfl (fun j u hu => by rw [Addr.add_lit, Nat.zero_add]; exact (Blk.of_alloc wq2 #[.string ⟨x.name.toArray⟩, .slice A2 x.val.length c2, .bool x.gone] 56).get j u hu) (by simp [Value.oneCell']) (by unfold maxLen; omega) (by omega) (by simp; omega) ?_; intro v6 w6 ho6 hg6 hn6 hv6
               have hav6 := HAQ2.out.push (x := x) HBW.out HE.out.1 HE.out.2.1 HE.out.2.2 (by rw [hln]; exact ho6) hg6
               obtain ⟨t0, t1, t2⟩ := kQ.out w6 hav6.2.2.1
               obtain ⟨s0, s1, s2⟩ := kB.out w6 hav6.2.2.1
               have HA6 := Lib.hid hav6
               clear ho6 hg6 hn6 hv6 hav6 hown)
            | fail)
          go_roundw
          case rel => exact ⟨k + 1, true, v6, out ++ [⟨c.name, c.val, false⟩] ++ [x], by omega, by go_num, rfl, rfl, ⟨_, HA6.out⟩, HTF, by have := HOL.out; simp; omega⟩
          case measure => simp [intOf]; omega
        · have hbb : bytesBefore c.name x.name = false := by rw [← less_before]; simpa using hless
          have hless : Op.bytesLess c.name x.name = false := by simpa using hless
          by_cases hne : x.name = c.name
          · have hnb : (!x.name == c.name) = false := by simpa using hne
            have HTF : Hid (T = out ++ doR c false (l.drop (k + 1))) := Lib.hid (by
              rw [HTN.out, doR_cons, if_neg (by rw [hbb]; simp), if_neg (by simpa using hne), hbb]
              simp)
            clear hbb hne
            go_wp2
            go_quiet (fail)
            obtain ⟨wq, hwq⟩ : ∃ X : World, X = wr.drewN nq := ⟨_, rfl⟩
            have hav : AccV w1 wq ok u out vs := by rw [hwq]; exact HAV.out.drew nq
            rw [← hwq]
            obtain ⟨s0, s1, s2⟩ := kB.out wq hav.2.2.1
            obtain ⟨t0, t1, t2⟩ := kQ.out wq hav.2.2.1
            have HAQ := Lib.hid hav
            have hws := hav.2.2.1.size
            clear z0 z1 z2 q0 q1 q2
            clear hwq
            go_wp2
            go_quiet (fail)
            obtain ⟨wq2, hwq2⟩ : ∃ X : World, X = wq.drewN nq := ⟨_, rfl⟩
            have hav : AccV w1 wq2 ok u out vs := by rw [hwq2]; exact HAQ.out.drew nq
            rw [← hwq2]
            obtain ⟨s0, s1, s2⟩ := kB.out wq2 hav.2.2.1
            obtain ⟨t0, t1, t2⟩ := kQ.out wq2 hav.2.2.1
            have HAQ2 := Lib.hid hav
            have hws2 := hav.2.2.1.size
            clear hwq2
            go_wp2
            go_roundw
            case rel => exact ⟨k + 1, false, u, out, by omega, by go_num, rfl, rfl, ⟨_, HAQ2.out⟩, HTF, by have := HOL.out; simp; omega⟩
            case measure => simp [intOf]; omega
          · have hnb : (!x.name == c.name) = true := by simpa using hne
            have HTF : Hid (T = (out ++ [x]) ++ doR c false (l.drop (k + 1))) := Lib.hid (by
              rw [HTN.out, doR_cons, if_neg (by rw [hbb]; simp), if_pos hne, hbb]
              simp)
            clear hbb hne
            go_wp2
            go_quiet (fail)
            obtain ⟨wq, hwq⟩ : ∃ X : World, X = wr.drewN nq := ⟨_, rfl⟩
            have hav : AccV w1 wq ok u out vs := by rw [hwq]; exact HAV.out.drew nq
            rw [← hwq]
            obtain ⟨s0, s1, s2⟩ := kB.out wq hav.2.2.1
            obtain ⟨t0, t1, t2⟩ := kQ.out wq hav.2.2.1
            have HAQ := Lib.hid hav
            have hws := hav.2.2.1.size
            clear z0 z1 z2 q0 q1 q2
            clear hwq
            go_wp2
            go_quiet (fail)
            obtain ⟨wq2, hwq2⟩ : ∃ X : World, X = wq.drewN nq := ⟨_, rfl⟩
            have hav : AccV w1 wq2 ok u out vs := by rw [hwq2]; exact HAQ.out.drew nq
            rw [← hwq2]
            obtain ⟨s0, s1, s2⟩ := kB.out wq2 hav.2.2.1
            obtain ⟨t0, t1, t2⟩ := kQ.out wq2 hav.2.2.1
            have HAQ2 := Lib.hid hav
            have hws2 := hav.2.2.1.size
            have hown := hav.1.alloc (.cells #[.string ⟨x.name.toArray⟩, .slice A2 x.val.length c2, .bool x.gone] 56)
            clear hwq2 hav
            go_wp2_with (first
              | (at_builtin; refine wpList_append_own_at _ rfl _ _ 36 rfl w1.heap.size 56 i0 _ 3 48 Tryz.underlying36 hi hz0 hz1 hz2 rfl (by decide) u out.length _ rfl hown ⟨wq2.heap.size, 0, none⟩ 1 1 [.string ⟨x.name.toArray⟩, .slice A2 x.val.length c2, .bool x.gone] rfl rfl (fun j u hu => by rw [Addr.add_lit, Nat.zero_add]; exact (Blk.of_alloc wq2 #[.string ⟨x.name.toArray⟩, .slice A2 x.val.length c2, .bool x.gone] 56).get j u hu) (by simp [Value.oneCell']) (by unfold maxLen; omega) (by omega) (by simp; omega) ?_; intro v6 w6 ho6 hg6 hn6 hv6
                 have hav6 := HAQ2.out.push (x := x) HBW.out HE.out.1 HE.out.2.1 HE.out.2.2 ho6 hg6
                 obtain ⟨t0, t1, t2⟩ := kQ.out w6 hav6.2.2.1
                 obtain ⟨s0, s1, s2⟩ := kB.out w6 hav6.2.2.1
                 have HA6 := Lib.hid hav6
                 clear ho6 hg6 hn6 hv6 hav6 hown)
              | fail)
            go_roundw
            case rel => exact ⟨k + 1, false, v6, out ++ [x], by omega, by go_num, rfl, rfl, ⟨_, HA6.out⟩, HTF, by have := HOL.out; simp; omega⟩
            case measure => simp [intOf]; omega
      | true =>
        by_cases hne : x.name = c.name
        · have hnb : (!x.name == c.name) = false := by simpa using hne
          have HTF : Hid (T = out ++ doR c true (l.drop (k + 1))) := Lib.hid (by
            rw [HTN.out, doR_cons, if_neg (by simp), if_neg (by simpa using hne), Bool.true_or]
            simp)
          clear hne
          go_wp2
          go_quiet (fail)
          obtain ⟨wq, hwq⟩ : ∃ X : World, X = wr.drewN nq := ⟨_, rfl⟩
          have hav : AccV w1 wq ok u out vs := by rw [hwq]; exact HAV.out.drew nq
          rw [← hwq]
          obtain ⟨s0, s1, s2⟩ := kB.out wq hav.2.2.1
          obtain ⟨t0, t1, t2⟩ := kQ.out wq hav.2.2.1
          have HAQ := Lib.hid hav
          have hws := hav.2.2.1.size
          clear z0 z1 z2 q0 q1 q2
          clear hwq
          go_wp2
          go_quiet (fail)
          obtain ⟨wq2, hwq2⟩ : ∃ X : World, X = wq.drewN nq := ⟨_, rfl⟩
          have hav : AccV w1 wq2 ok u out vs := by rw [hwq2]; exact HAQ.out.drew nq
          rw [← hwq2]
          obtain ⟨s0, s1, s2⟩ := kB.out wq2 hav.2.2.1
          obtain ⟨t0, t1, t2⟩ := kQ.out wq2 hav.2.2.1
          have HAQ2 := Lib.hid hav
          have hws2 := hav.2.2.1.size
          clear hwq2
          go_wp2
          go_roundw
          case rel => exact ⟨k + 1, true, u, out, by omega, by go_num, rfl, rfl, ⟨_, HAQ2.out⟩, HTF, by have := HOL.out; simp; omega⟩
          case measure => simp [intOf]; omega
        · have hnb : (!x.name == c.name) = true := by simpa using hne
          have HTF : Hid (T = (out ++ [x]) ++ doR c true (l.drop (k + 1))) := Lib.hid (by
            rw [HTN.out, doR_cons, if_neg (by simp), if_pos hne, Bool.true_or]
            simp)
          clear hne
          go_wp2
          go_quiet (fail)
          obtain ⟨wq, hwq⟩ : ∃ X : World, X = wr.drewN nq := ⟨_, rfl⟩
          have hav : AccV w1 wq ok u out vs := by rw [hwq]; exact HAV.out.drew nq
          rw [← hwq]
          obtain ⟨s0, s1, s2⟩ := kB.out wq hav.2.2.1
          obtain ⟨t0, t1, t2⟩ := kQ.out wq hav.2.2.1
          have HAQ := Lib.hid hav
          have hws := hav.2.2.1.size
          clear z0 z1 z2 q0 q1 q2
          clear hwq
          go_wp2
          go_quiet (fail)
          obtain ⟨wq2, hwq2⟩ : ∃ X : World, X = wq.drewN nq := ⟨_, rfl⟩
          have hav : AccV w1 wq2 ok u out vs := by rw [hwq2]; exact HAQ.out.drew nq
          rw [← hwq2]
          obtain ⟨s0, s1, s2⟩ := kB.out wq2 hav.2.2.1
          obtain ⟨t0, t1, t2⟩ := kQ.out wq2 hav.2.2.1
          have HAQ2 := Lib.hid hav
          have hws2 := hav.2.2.1.size
          have hown := hav.1.alloc (.cells #[.string ⟨x.name.toArray⟩, .slice A2 x.val.length c2, .bool x.gone] 56)
          clear hwq2 hav
          go_wp2_with (first
            | (at_builtin; refine wpList_append_own_at _ rfl _ _ 36 rfl w1.heap.size 56 i0 _ 3 48 Tryz.underlying36 hi hz0 hz1 hz2 rfl (by decide) u out.length _ rfl hown ⟨wq2.heap.size, 0, none⟩ 1 1 [.string ⟨x.name.toArray⟩, .slice A2 x.val.length c2, .bool x.gone] rfl rfl (fun j u hu => by rw [Addr.add_lit, Nat.zero_add]; exact (Blk.of_alloc wq2 #[.string ⟨x.name.toArray⟩, .slice A2 x.val.length c2, .bool x.gone] 56).get j u hu) (by simp [Value.oneCell']) (by unfold maxLen; omega) (by omega) (by simp; omega) ?_; intro v6 w6 ho6 hg6 hn6 hv6
               have hav6 := HAQ2.out.push (x := x) HBW.out HE.out.1 HE.out.2.1 HE.out.2.2 ho6 hg6
               obtain ⟨t0, t1, t2⟩ := kQ.out w6 hav6.2.2.1
               obtain ⟨s0, s1, s2⟩ := kB.out w6 hav6.2.2.1
               have HA6 := Lib.hid hav6
               clear ho6 hg6 hn6 hv6 hav6 hown)
            | fail)
          go_roundw
          case rel => exact ⟨k + 1, true, v6, out ++ [x], by omega, by go_num, rfl, rfl, ⟨_, HA6.out⟩, HTF, by have := HOL.out; simp; omega⟩
          case measure => simp [intOf]; omega
    · obtain rfl : k = l.length := by omega
      have hdec : decide ((l.length : Int) < (l.length : Int)) = false := decide_eq_false (by omega)
      have hgr : w1.grownBy wr none := by obtain ⟨_, _, _, h, _⟩ := hA; exact h
      obtain ⟨z0, z1, z2⟩ := kB.out wr hgr
      have hol2 : out.length ≤ 2000000 := by omega
      have hTT := HTT.out
      rw [List.drop_length] at hTT
      have HYW : Hid (Byt w1 ok A' c.val) := Lib.hid (HY.out.keep fun b hb => hg1.block b (HOK.out b hb) (by simp))
      have hok1 : ∀ b, ok b → b < w1.heap.size := fun b hb => Nat.lt_of_lt_of_le (HOK.out b hb) hg1.size
      have HUP : Hid (∀ e W, DoRE w1 ok T e W → DoRE w ok T e W) := Lib.hid fun e W ⟨A, cc, k1, k2, k3⟩ => ⟨A, cc, k1, k2.imp fun b hb => hb.imp id fun h => ⟨Nat.le_trans hg1.size h.1, h.2⟩, hg1.trans k3⟩
      cases done with
      | true =>
        have HT2 : Hid (T = out) := Lib.hid (by rw [hTT, doR]; simp)
        have HAC := Lib.hid hA
        clear hTT HTT hgr hA
        go_wp2
        go_ret
        have he := HAC.out.end hok1
        rw [← HT2.out] at he
        exact HUP.out _ _ he
      | false =>
        have HT2 : Hid (T = out ++ [⟨c.name, c.val, false⟩]) := Lib.hid (by rw [hTT, doR]; simp)
        obtain ⟨vs, hav⟩ := hA
        have HAQ := Lib.hid hav
        have hws := hav.2.2.1.size
        have hown := hav.1.alloc (.cells #[.string ⟨c.name.toArray⟩, .slice A' c.val.length c', .bool false] 56)
        clear hTT HTT hgr hav
        go_wp2_with (first
          | (at_builtin; refine wpList_append_own_at _ rfl _ _ 36 rfl w1.heap.size 56 i0 _ 3 48 Tryz.underlying36 hi hz0 hz1 hz2 rfl (by decide) u out.length _ rfl hown ⟨wr.heap.size, 0, none⟩ 1 1 [.string ⟨c.name.toArray⟩, .slice A' c.val.length c', .bool false] rfl rfl (fun j u hu => by rw [Addr.add_lit, Nat.zero_add]; exact (Blk.of_alloc wr #[.string ⟨c.name.toArray⟩, .slice A' c.val.length c', .bool false] 56).get j u hu) (by simp [Value.oneCell']) (by unfold maxLen; omega) (by omega) (by simp; omega) ?_; intro v5 w5 ho5 hg5 hn5 hv5
             have hav5 := HAQ.out.push (x := ⟨c.name, c.val, false⟩) HYW.out HC.out.1 HC.out.2.1 HC.out.2.2 ho5 hg5
             have HA5 := Lib.hid hav5
             clear ho5 hg5 hn5 hv5 hav5 hown)
          | fail)
        go_ret
        have he := (show Acc w1 w5 ok v5 (out ++ [⟨c.name, c.val, false⟩]) from ⟨_, HA5.out⟩).end hok1
        rw [← HT2.out] at he
        exact HUP.out _ _ he
end Go.Proofs.YtonpcenjipigpaaGreat
