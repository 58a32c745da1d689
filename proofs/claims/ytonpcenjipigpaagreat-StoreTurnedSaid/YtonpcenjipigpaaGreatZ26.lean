/- A store's records are done, one by one. Conditions: the half lies on the disk, the disk isn't dead. -/
import Derived.Test.YtonpcenjipigpaaGreatZ24
namespace Go.Proofs.YtonpcenjipigpaaGreat
open Go.RowKit Go.Maps
theorem Vals.tight {w : World} {ok : Nat → Prop} {mb n : Nat} {L : List (List UInt8 × List UInt8)} (h : Vals w ok mb n L) : Vals w ok mb L.length L := by
  obtain ⟨Z, ⟨es, clock, h1, h2, h3, h4⟩, h5, h6⟩ := h
  refine ⟨Z, ⟨es, clock, h1, h2, ?_, h4⟩, h5, h6⟩
  have h7 := congrArg Maps.size h4
  rw [dat_size] at h7
  have h8 : (mapA (·.1) Z).length = L.length := by rw [h5]; simp [mapA]
  have h9 : Maps.size (DataW.map ((es.toList.map (WideElems.rg Tryz.prog 9 RV)).foldr DataW.insert [])) = es.size := by simp [Maps.size, length_sorted]
  omega
/-- The records of a half, 'left' of them from block 'at_' on, done on L. -/
def loadT (B : List UInt8) (base e n : Nat) : Nat → Nat → Nat → List (List UInt8 × List UInt8) → Option (List (List UInt8 × List UInt8))
  | 0, at_, _, L => if at_ = n then some L else none
  | m + 1, at_, k, L => match readT B base e n at_ (k + 1) with
    | none => none
    | some (l, en) => if 64 < (doAll L l).length then none else loadT B base e n m en (k + 1) (doAll L l)
/-- How loading ends. -/
def LoadE (w : World) (ok : Nat → Prop) (mb : Nat) (t : Option (List (List UInt8 × List UInt8))) (r : Ending) (w' : World) : Prop :=
  w.grownBy w' (some mb) ∧ match t with
    | none => r = .returned (.int .i64 160)
    | some L => r = .returned (.int .i64 0) ∧ Vals w' (fun b => ok b ∨ (w.heap.size ≤ b ∧ b < w'.heap.size)) mb L.length L ∧ L.length ≤ 64
theorem readT_end {B : List UInt8} {base e n a k : Nat} {l : List Chg} {en : Nat} (h : readT B base e n a k = some (l, en)) : a < n ∧ en ≤ n := by
  unfold readT at h
  split at h
  · cases h
  · rename_i h1
    split at h
    · cases h
    · rename_i h2
      split at h
      · cases hc : chgsT (((secs B (base + a) (nblk (8 + nb ((blk B (base + a)).take 4)))).drop 8).take (nb ((blk B (base + a)).take 4))) with
        | none => rw [hc] at h; cases h
        | some l' =>
          rw [hc] at h
          simp only [Option.map_some, Option.some.injEq, Prod.mk.injEq] at h
          omega
      · cases h
set_option maxRecDepth 100000 in
set_option maxHeartbeats 1000000 in
theorem load_any {foot ok : Nat → Prop} {w : World} {sp dp hf e c n mb : Nat} {s : St} {L0 : List (List UInt8 × List UInt8)} (hb : Blk w sp 75 (scells dp hf e c n (.map (some mb)))) (hd : Dsk w foot dp s) (hdd : s.dead = false) (hhf : hf ≤ 1) (hn : n ≤ s.n / 2) (he : e < 18446744073709551616) (hc : c < 4294967296)
    (hv : Vals w ok mb L0.length L0) (h64 : L0.length ≤ 64) (hok : ∀ b, ok b → b < w.heap.size ∧ b ≠ mb) (hsm : sp ≠ mb) (hfm : ¬ foot mb) :
    Calls Tryz.prog 30 #[.pointer (some ⟨sp, 0, none⟩)] w (LoadE w ok mb (loadT s.img (hf * (s.n / 2)) e n c 1 0 L0)) := by
  have hnn := hd.ok.2.1
  have hsl := hb.lt
  have hmb := hv.lt
  have kR : Hid (∀ (W : World) (a k : Nat), w.grownBy W (some mb) → a ≤ 4096 → k < 4294967296 → Calls Tryz.prog 55 #[.pointer (some ⟨sp, 0, none⟩), .int .u64 (a : Int), .int .u64 (k : Int)] W (ReadE W (readT s.img (hf * (s.n / 2)) e n a k))) := Lib.hid fun W a k hW ha hk =>
    read_any (hb.grown hW (by simpa using hsm)) (hd.md (Md.of_grown (foot := fun j => j = mb) hW (fun r e => by cases e; rfl)) fun j hj e => hfm (by rw [← e]; exact hj)) hdd hhf hn he a k ha hk
  have kC : Hid (∀ W, w.grownBy W (some mb) → W.cell? ⟨sp, 3, none⟩ = some (.int .u64 (c : Int)) ∧ W.cell? ⟨sp, 4, none⟩ = some (.int .u64 (n : Int)) ∧ W.cell? ⟨sp, 5, none⟩ = some (.map (some mb))) := Lib.hid fun W hW => by
    have := hb.grown hW (by simpa using hsm)
    exact ⟨this.get 3 _ rfl, this.get 4 _ rfl, this.get 5 _ rfl⟩
  obtain ⟨q3, q4, q5⟩ := kC.out w (World.grownBy.refl _ _)
  obtain ⟨base, hbase⟩ : ∃ base, base = hf * (s.n / 2) := ⟨_, rfl⟩
  obtain ⟨B, hB⟩ : ∃ B, B = s.img := ⟨_, rfl⟩
  rw [← hbase, ← hB] at kR ⊢
  have hnn2 : n ≤ 2048 := by omega
  have HOK := Lib.hid hok
  obtain ⟨T, hT⟩ : ∃ T, T = loadT B base e n c 1 0 L0 := ⟨_, rfl⟩
  rw [← hT]
  have HT := Lib.hid hT
  have HV := Lib.hid hv
  clear hd hdd hb hB hbase hn hT hok hv hnn
  go_enter Tryz.func30, Tryz.ntmps30
  go_wp2
  go_loopw [3, 13] (fun x y wr => ∃ (j a : Nat) (L : List (List UInt8 × List UInt8)), j ≤ c ∧ y = .int .u64 (j : Int) ∧ x = .int .u64 (a : Int) ∧ a ≤ 2048 ∧ T = loadT B base e n (c - j) a j L ∧ Vals wr (fun b => ok b ∨ (w.heap.size ≤ b ∧ b < wr.heap.size)) mb L.length L ∧ L.length ≤ 64 ∧ w.grownBy wr (some mb)) (fun _ y _ => c - (intOf y).toNat)
  case atStart => exact ⟨0, 1, L0, Nat.zero_le _, rfl, rfl, by decide, HT.out, HV.out.imp fun b hb => .inl hb, h64, World.grownBy.refl _ _⟩
  case round =>
    obtain ⟨j, a, L, hj, rfl, rfl, ha, hTT, hV, hL, hg⟩ := hrel
    obtain ⟨q3, q4, q5⟩ := kC.out wr hg
    have hgs := hg.size
    by_cases hlt : j < c
    · have hr := kR.out wr a (j + 1) hg (by omega) (by omega)
      rw [show ((j + 1 : Nat) : Int) = (j : Int) + 1 by simp] at hr
      have hj1 : j + 1 < 4294967296 := by omega
      have hc1 : c - j = (c - (j + 1)) + 1 := by omega
      rw [hc1, loadT] at hTT
      clear hc1
      cases ht : readT B base e n a (j + 1) with
      | none =>
        rw [ht] at hr hTT
        dsimp only at hTT
        have HTT := Lib.hid hTT
        have HG := Lib.hid hg
        clear ht hTT hg hV
        go_wp2_with (first
          | (go_at_call 55; (with_reducible refine hr.mono ?_); rintro _ w3 ⟨hb3, v3, u3, rfl⟩)
          | fail)
        go_ret
        rw [HTT.out]
        exact ⟨World.grownBy.andThen HG.out (grown_of_below hb3) (by simp), rfl⟩
      | some le =>
        obtain ⟨l, en⟩ := le
        have hen := readT_end ht
        rw [ht] at hr hTT
        dsimp only at hTT
        have hent : en ≤ 2048 := by omega
        have HTT := Lib.hid hTT
        have HG := Lib.hid hg
        have HVV := Lib.hid hV
        clear ht hTT hg hV hen
        obtain ⟨L', hL'⟩ : ∃ L', L' = doAll L l := ⟨_, rfl⟩
        rw [← hL'] at HTT
        have HL' := Lib.hid hL'
        by_cases hbig : 64 < L'.length
        · have HTN : Hid (T = none) := Lib.hid (by rw [HTT.out, if_pos hbig])
          rw [hL'] at hbig
          clear hL' HTT
          go_wp2_with (first
            | (go_at_call 55; (with_reducible refine hr.mono ?_); rintro _ w3 ⟨hb3, g3, rfl, hx3, he3, hl3⟩
               have hg3 := grown_of_below hb3
               have hV3 := HVV.out.keep (hg3.block _ (by omega) (by simp)) (fun b hb => hg3.block _ (by rcases hb with hb | hb; exact Nat.lt_of_lt_of_le (HOK.out b hb).1 hgs; exact hb.2) (by simp))
               have hgw3 := World.grownBy.andThen (row' := none) HG.out hg3 (by simp)
               obtain ⟨p3, p4, p5⟩ := kC.out w3 hgw3
               have hdo := do_any (cp := l.length) hV3 (fun b hb => ⟨by rcases hb with hb | hb; exact Nat.lt_of_lt_of_le (HOK.out b hb).1 (Nat.le_trans hgs hb3.size); exact Nat.lt_of_lt_of_le hb.2 hb3.size, by rcases hb with hb | hb; exact (HOK.out b hb).2; exact fun e => by omega⟩) hx3 (fun b hb => ⟨hb.2, by omega⟩) rfl he3 (by omega)
               have HGW3 := Lib.hid hgw3
               have HS3 := Lib.hid hb3.size
               clear hV3 hx3 hgw3 hb3 hg3)
            | (go_at_call 40; (with_reducible refine hdo.mono ?_); rintro _ w4 ⟨rfl, hV4, hg4⟩
               have hgw4 := World.grownBy.andThen (row' := some mb) HGW3.out hg4 (by intro j hj; exact .inr hj)
               obtain ⟨r3, r4, r5⟩ := kC.out w4 hgw4
               have hlen := fun ty => hV4.lenrun ty
               have HV4 := Lib.hid hV4.tight
               have HG4 := Lib.hid hg4.size
               have HGW4 := Lib.hid hgw4
               clear hV4 hg4 hgw4)
            | fail)
          go_ret
          rw [HTN.out]
          exact ⟨HGW4.out, rfl⟩
        · have HTN : Hid (T = loadT B base e n (c - (j + 1)) en (j + 1) L') := Lib.hid (by rw [HTT.out, if_neg hbig])
          rw [hL'] at hbig
          clear hL' HTT
          go_wp2_with (first
            | (go_at_call 55; (with_reducible refine hr.mono ?_); rintro _ w3 ⟨hb3, g3, rfl, hx3, he3, hl3⟩
               have hg3 := grown_of_below hb3
               have hV3 := HVV.out.keep (hg3.block _ (by omega) (by simp)) (fun b hb => hg3.block _ (by rcases hb with hb | hb; exact Nat.lt_of_lt_of_le (HOK.out b hb).1 hgs; exact hb.2) (by simp))
               have hgw3 := World.grownBy.andThen (row' := none) HG.out hg3 (by simp)
               obtain ⟨p3, p4, p5⟩ := kC.out w3 hgw3
               have hdo := do_any (cp := l.length) hV3 (fun b hb => ⟨by rcases hb with hb | hb; exact Nat.lt_of_lt_of_le (HOK.out b hb).1 (Nat.le_trans hgs hb3.size); exact Nat.lt_of_lt_of_le hb.2 hb3.size, by rcases hb with hb | hb; exact (HOK.out b hb).2; exact fun e => by omega⟩) hx3 (fun b hb => ⟨hb.2, by omega⟩) rfl he3 (by omega)
               have HGW3 := Lib.hid hgw3
               have HS3 := Lib.hid hb3.size
               clear hV3 hx3 hgw3 hb3 hg3)
            | (go_at_call 40; (with_reducible refine hdo.mono ?_); rintro _ w4 ⟨rfl, hV4, hg4⟩
               have hgw4 := World.grownBy.andThen (row' := some mb) HGW3.out hg4 (by intro j hj; exact .inr hj)
               obtain ⟨r3, r4, r5⟩ := kC.out w4 hgw4
               have hlen := fun ty => hV4.lenrun ty
               have HV4 := Lib.hid hV4.tight
               have HG4 := Lib.hid hg4.size
               have HGW4 := Lib.hid hgw4
               clear hV4 hg4 hgw4)
            | fail)
          go_roundw
          case rel =>
            refine ⟨j + 1, en, L', hlt, by simp, rfl, hent, HTN.out, ?_, by rw [HL'.out]; omega, HGW4.out⟩
            rw [HL'.out]
            have h1 := HS3.out
            have h2 := HG4.out
            refine HV4.out.imp fun b hb => ?_
            rcases hb with (hb | hb) | hb
            · exact .inl hb
            · exact .inr ⟨hb.1, by omega⟩
            · exact .inr ⟨by omega, hb.2⟩
          case measure => simp [intOf]; omega
    · obtain rfl : j = c := by omega
      rw [Nat.sub_self, loadT] at hTT
      have HG := Lib.hid hg
      have HVV := Lib.hid hV
      by_cases hend : a = n
      · have HTN : Hid (T = some L) := Lib.hid (by rw [hTT, if_pos hend])
        clear hTT hg hV
        go_wp2
        go_ret
        rw [HTN.out]
        exact ⟨HG.out, rfl, HVV.out, hL⟩
      · have HTN : Hid (T = none) := Lib.hid (by rw [hTT, if_neg hend])
        clear hTT hg hV
        go_wp2
        go_ret
        rw [HTN.out]
        exact ⟨HG.out, rfl⟩
end Go.Proofs.YtonpcenjipigpaaGreat
