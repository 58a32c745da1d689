/- In tells the names that stand in bytes. Conditions: MaxLen holds some number. -/
import Derived.Test.YtbhfjjlfpgineaaRow
namespace Go.Proofs.Ytbhfjjlfpgineaa
open Go.RowKit

/-- Names as cells, one behind the other. -/
def keys (ns : List Nat) : List Value := ns.flatMap fun n => u8s (nm n)
theorem u8nm_length (n : Nat) : (u8s (nm n)).length = 32 := by rw [u8s_length, nm_length]
theorem keys_length (ns : List Nat) : (keys ns).length = ns.length * 32 := by
  unfold keys
  induction ns with
  | nil => rfl
  | cons n ns ih => rw [List.flatMap_cons, List.length_append, ih, u8nm_length, List.length_cons]; omega
theorem keys_snoc (ns : List Nat) (n : Nat) : keys (ns ++ [n]) = keys ns ++ u8s (nm n) := by simp [keys]
theorem keys_get : ∀ (ns : List Nat) (j : Nat) (h : j < ns.length) (i : Nat), i < 32 → (keys ns)[j * 32 + i]? = (u8s (nm ns[j]))[i]?
  | [], j, h, i, _ => by simp at h
  | n :: ns, 0, h, i, hi => by
    show (u8s (nm n) ++ keys ns)[0 * 32 + i]? = _
    rw [Nat.zero_mul, Nat.zero_add, List.getElem?_append_left (by rw [u8nm_length]; exact hi)]
    rfl
  | n :: ns, j + 1, h, i, hi => by
    show (u8s (nm n) ++ keys ns)[(j + 1) * 32 + i]? = _
    rw [List.getElem?_append_right (by rw [u8nm_length]; omega), u8nm_length, show (j + 1) * 32 + i - 32 = j * 32 + i by omega]
    exact keys_get ns j (by simpa using h) i hi
/-- What In tells. -/
def KeyE (w : World) (ns : List Nat) (e : Ending) (w' : World) : Prop :=
  ∃ A c, e = .returned (.slice A ns.length c) ∧ ns.length ≤ c ∧ c ≤ maxLen ∧ (∀ j (h : j < ns.length), ∃ g, A = some ⟨g, 0, none⟩ ∧ w.heap.size ≤ g ∧ g < w'.heap.size ∧ w'.rangeAt g (j * 32) (u8s (nm ns[j]))) ∧ Below w.heap.size w w'
theorem info49 : (Try.prog.info? 49).map (fun i => (i.zero, i.size, i.bytes)) = some (some (.agg (u8s z32).toArray), 32, 32) := by kernel_rfl
theorem keyE_end {w w' : World} {v : Value} {m : Nat} {os ns : List Nat} (h : w'.ownsRow w.heap.size 49 32 v m (keys os)) (hm : os.length = m) (he : ns = os) (hb : Below w.heap.size w w') : KeyE w ns (.returned v) w' := by
  subst he hm
  rcases h.2 with ⟨e, h0⟩ | ⟨g, cap, cur, e, hg, hgb, h1, h2, _⟩
  · subst e
    exact ⟨none, 0, by rw [h0], by omega, by unfold maxLen; omega, fun j hj => by omega, hb⟩
  · subst e
    refine ⟨_, cap, rfl, h1, h2, fun j hj => ⟨g, rfl, hg, (Array.getElem?_eq_some_iff.1 hgb).1, fun i v hv => ?_⟩, hb⟩
    have hi : i < 32 := by have := (List.getElem?_eq_some_iff.1 hv).1; rwa [u8nm_length] at this
    have hc := h.cells (g := g) rfl (j * 32 + i) v (by rw [keys_get ns j hj i hi]; exact hv)
    rw [Addr.add_lit, Nat.zero_add] at hc
    exact hc

theorem run_build46k (w : World) (k : Fin 32 → UInt8) : (Instr.buildSlice 46 1 #[(0, .agg (u8s (k32 k)).toArray)]).run Try.prog w = .ok (.slice (some ⟨w.heap.size, 0, none⟩) 1 1) (w.alloc (.cells (u8s (k32 k)).toArray 49)) := by kernel_rfl
theorem run_build46 (w : World) (xs : List UInt8) (hl : xs.length = 32) : (Instr.buildSlice 46 1 #[(0, .agg (u8s xs).toArray)]).run Try.prog w = .ok (.slice (some ⟨w.heap.size, 0, none⟩) 1 1) (w.alloc (.cells (u8s xs).toArray 49)) := by
  obtain ⟨k, rfl⟩ := k32_of xs hl
  exact run_build46k w k
theorem wpList_build46 {w : World} {ops : Array Oper} {rest : List Oper} {o : Oper} {a : Act} {Q : Exit → Act → World → Prop} (hgd : o.guard = none) (x : Operand) (ho : o.op = .buildSlice 46 1 #[(0, x)]) (xs : List UInt8) (hx : a.eval x = .agg (u8s xs).toArray) (hl : xs.length = 32)
    (h : ∀ w', Arr w' 49 w.heap.size xs → Below w.heap.size w w' → w'.heap.size = w.heap.size + 1 → wpList Try.prog ops Q rest (a.put o.dst (.slice (some ⟨w.heap.size, 0, none⟩) 1 1)) w') : wpList Try.prog ops Q (o :: rest) a w := by
  refine wpList_plain hgd fun K hK => ?_
  have hrun := run_build46 w xs hl
  unfold Oper.wp
  simp only [execOp, ho, List.map_toArray, List.map_cons, List.map_nil, hx, Sem.run_bind, hrun, Result.andThen_ok, Sem.run_pure]
  exact hK _ _ (h _ (heap_alloc_new w _) (below_alc w _) (alloc_size w _))
set_option maxRecDepth 100000 in
set_option maxHeartbeats 4000000 in
theorem cin_any {w : World} {ok okT : Nat → Prop} {tb : Nat} {T : List Trm} {A : Option Addr} {b : List UInt8} {n c N : Nat} (ht : Tbl w okT tb T) (hN : T.length = N) (hn : b.length = n) (hx : Byt w ok A b) (hok : ∀ g, ok g → g < w.heap.size) (hc : n ≤ c) (hm : c ≤ maxLen) (hl : n ≤ 100000000) (hM : Mx w) :
    Calls Try.prog 15 #[.pointer (some ⟨tb, 0, none⟩), .slice A n c] w (KeyE w (nms b (N + 1))) := by
  have hmax := ht.max
  rw [hN] at hmax
  have HBY : Hid (∀ W, Below w.heap.size w W → Calls Try.prog 26 #[.pointer (some ⟨tb, 0, none⟩)] W (Num W (N + 1))) := fun W hW => by
    rw [← hN]
    exact beyond_any (ht.below hW)
  obtain ⟨i9, hi9, hz0, hz1, hz2⟩ := info_parts info49
  have HI9 := Lib.hid hi9
  have HZ0 := Lib.hid hz0
  have HZ1 := Lib.hid hz1
  have HZ2 := Lib.hid hz2
  have HMX := Lib.hid hM
  have HOK := Lib.hid hok
  have HBL := Lib.hid hn
  have HNX := Lib.hid (next_any (below := N + 1) hn hx hok hc hm (by omega) (by omega) hM)
  clear hi9 hz0 hz1 hz2 ht hN
  go_enter Try.func15, Try.ntmps15
  go_wp2_with fail
  go_at_call 26
  refine (HBY.out w (Below.refl _ _)).mono ?_
  rintro _ _ ⟨rfl, rfl⟩
  go_wp2_with fail
  go_at_call 30
  refine HNX.out.mono ?_
  intro e w1 h1
  obtain ⟨A1, n1, c1, rfl, h11, h12, h13, h14, h15⟩ := nextE_n h1
  have hl1 : n1 ≤ n := by
    rcases nx_spec b (N + 1) with ⟨_, _, h3⟩ | h3
    · have := h11.out; omega
    · have := h11.out
      rw [h3] at this
      simp at this
      omega
  obtain ⟨k1, hk1⟩ : ∃ k1, (nx b (N + 1)).1 = k1 := ⟨_, rfl⟩
  rw [hk1]
  have HK1 := Lib.hid hk1
  have H14 := Lib.hid h14
  have H15 := Lib.hid h15
  clear h1 hk1 hx hok hc hm hn hM h14 h15 HNX
  go_wp2_with fail
  go_loopg [5, 6, 7] (n + 1) (fun G nv v r wr => ∃ (k : Nat) (A : Option Addr) (m n2 c2 : Nat) (cur : List UInt8) (os : List Nat), v = .int .i64 k ∧ r = .slice A n2 c2 ∧ Hid ((nx cur (N + 1)).1 = k) ∧ Hid ((nx cur (N + 1)).2.length = n2) ∧ n2 ≤ c2 ∧ c2 ≤ maxLen ∧ n2 ≤ n ∧ (0 < k → n2 + 1 ≤ G) ∧ Hid (nms b (N + 1) = os ++ nms cur (N + 1)) ∧ Hid (Byt wr ok A (nx cur (N + 1)).2) ∧
    os.length = m ∧ m ≤ n ∧ Hid (wr.ownsRow w.heap.size 49 32 nv m (keys os)) ∧ Hid (Below w.heap.size w wr))
  case atStart => exact ⟨k1, A1, 0, n1, c1, b, [], rfl, rfl, HK1.out, h11.out, h12, h13, hl1, fun _ => by omega, rfl, H14.out, rfl, by omega, World.ownsRow_nil _ _ _ _, H15.out⟩
  case round =>
    clear h11 h12 h13 hl1 HK1 H14 H15
    obtain ⟨k, A, m, n2, c2, cur, os, rfl, rfl, hk', hn, hc, hm, hl2, hgk, hnm, hx, hos, hmn, hown, hb⟩ := hrel
    have HGK := Lib.hid hgk
    have HOS := Lib.hid hos
    clear hgk hos
    by_cases h0 : 0 < k
    · have hlt : k < N + 1 := by
        rcases nx_spec cur (N + 1) with ⟨_, h2, _⟩ | h3
        · have := hk'.out; omega
        · have := hk'.out
          rw [h3] at this
          simp at this
          omega
      have d0 : decide (0 < k) = true := by simpa using h0
      have hpos : 0 < (nx cur (N + 1)).1 := by rw [hk'.out]; exact h0
      have HNM : Hid (nms b (N + 1) = (os ++ [k]) ++ nms (nx cur (N + 1)).2 (N + 1)) := by
        show nms b (N + 1) = _
        rw [hnm.out, nms_more cur (N + 1) hpos, hk'.out]
        simp
      have HNA := Lib.hid (fun W => name_any k W (by omega))
      have hm6 : m + 1 ≤ n := by
        have h1 := nms_length (N + 1) _ b (Nat.le_refl _)
        rw [HNM.out, List.length_append, List.length_append, HOS.out, HBL.out] at h1
        simp only [List.length_singleton] at h1
        omega
      clear hpos
      go_wp2_with fail
      go_at_call 31
      refine (HNA.out _).mono ?_
      rintro _ w2 ⟨rfl, hb2⟩
      have HO2 := Lib.hid (own_below hown.out hb2)
      have HB2 := Lib.hid (hb.out.trans (hb2.mono hb.out.size))
      clear hb2
      go_wp2_with (first | (refine wpList_build46 rfl (.tmp 26) rfl (nm k) rfl (nm_length k) ?_) | fail)
      intro w3 hk3 hb3 hz3
      have F1 : Hid (∀ q u, (u8s (nm k))[q]? = some u → w3.cell? ((⟨w2.heap.size, 0, none⟩ : Addr).add q) = some u) := fun q u hq => World.news_of_block hk3 q u hq
      have F2 := Lib.hid (u8s_one (nm k))
      have F5 := Lib.hid (own_below HO2.out hb3)
      have HB3 := Lib.hid (HB2.out.trans (hb3.mono HB2.out.size))
      have HZ3 := Lib.hid hz3
      have F0 : Hid ((u8s (nm k)).length = 1 * 32) := u8nm_length k
      have F3 : Hid (m + 1 ≤ maxLen) := by show m + 1 ≤ maxLen; unfold maxLen; omega
      have F4 : Hid ((m + 1) * 32 ≤ 140737488355328) := by show (m + 1) * 32 ≤ _; omega
      clear hk3 hb3 hz3
      go_wp2_with (first | (at_builtin; refine wpList_append_own_at _ rfl _ _ 46 rfl w.heap.size 49 i9 (.agg (u8s z32).toArray) 32 32 Try.underlying46 HI9.out HZ0.out HZ1.out HZ2.out (by rw [Value.cells]; simp [u8s_length, z32]) (by omega) u5 m _ rfl F5.out ⟨w2.heap.size, 0, none⟩ 1 1 (u8s (nm k)) rfl F0.out F1.out F2.out F3.out F4.out HB3.out.size ?_) | fail)
      intro v5 w5 ho hg _ hat
      have HO5 : Hid (w5.ownsRow w.heap.size 49 32 v5 (m + 1) (keys (os ++ [k]))) := by rw [keys_snoc]; exact ho
      have HB5 : Hid (Below w.heap.size w w5) := HB3.out.grown hg HB3.out.size fun g hg => (hown.out.lt g hg).1
      have HOS5 : Hid ((os ++ [k]).length = m + 1) := by rw [List.length_append, HOS.out]; rfl
      have HX5 : Hid (Byt w5 ok A (nx cur (N + 1)).2) := hx.out.keep fun g hg => ((HB5.out.block g (HOK.out g hg)).trans (hb.out.block g (HOK.out g hg)).symm)
      have HN5 := Lib.hid (next_any (below := N + 1) hn.out HX5.out (fun g hg => Nat.lt_of_lt_of_le (HOK.out g hg) HB5.out.size) hc hm (by omega) (by omega) (HMX.out.below HB5.out))
      clear ho hg hat F0 F1 F2 F3 F4 F5 HB3 HZ3 HO2 HB2 hown
      go_wp2_with fail
      go_at_call 26
      refine (HBY.out w5 HB5.out).mono ?_
      rintro _ _ ⟨rfl, rfl⟩
      go_wp2_with fail
      go_at_call 30
      refine HN5.out.mono ?_
      intro e w6 h6
      obtain ⟨A6, n6, c6, rfl, h61, h62, h63, h64, h65⟩ := nextE_n h6
      obtain ⟨k6, hk6⟩ : ∃ k6, (nx (nx cur (N + 1)).2 (N + 1)).1 = k6 := ⟨_, rfl⟩
      rw [hk6]
      have HK6 := Lib.hid hk6
      have hlt6 : (0 < k6 → n6 + 32 ≤ n2) ∧ n6 ≤ n2 := by
        rcases nx_spec (nx cur (N + 1)).2 (N + 1) with ⟨h1, _, h3⟩ | h3
        · have := h61.out; have := hn.out; omega
        · have e1 := h61.out
          have e2 := HK6.out
          rw [h3] at e1 e2
          simp at e1 e2
          omega
      have HOA := Lib.hid (own_below HO5.out h65)
      have HBA := Lib.hid (HB5.out.trans (h65.mono HB5.out.size))
      have HXA := Lib.hid h64
      have hgk2 : 0 < k6 → n6 + 1 ≤ n2 := fun h => by have := hlt6.1 h; omega
      have HG2 := Lib.hid hgk2
      have hn6 : n6 ≤ n := by omega
      clear h6 hk6 h64 h65 hlt6 HN5 HX5 HO5 HB5 hgk2
      go_wp2_with fail
      go_roundg n2
      case measure => have := HGK.out h0; omega
      case rel => exact ⟨k6, A6, m + 1, n6, c6, (nx cur (N + 1)).2, os ++ [k], rfl, rfl, HK6.out, h61.out, h62, h63, hn6, HG2.out, HNM.out, HXA.out, HOS5.out, hm6, HOA.out, HBA.out⟩
    · obtain rfl : k = 0 := by omega
      have HE : Hid (nms b (N + 1) = os) := by
        show nms b (N + 1) = _
        rw [hnm.out, nms_none cur (N + 1) hk'.out, List.append_nil]
      go_wp2_with fail
      go_ret
      exact keyE_end hown.out HOS.out HE.out hb.out
end Go.Proofs.Ytbhfjjlfpgineaa
