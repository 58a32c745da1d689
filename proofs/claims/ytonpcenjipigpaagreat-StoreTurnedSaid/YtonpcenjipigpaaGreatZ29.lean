/- A map of values cloned; the plain mathematics of a commit. Conditions: none. -/
import Derived.Test.YtonpcenjipigpaaGreatZ28
namespace Go.Proofs.YtonpcenjipigpaaGreat
open Go.RowKit
theorem mclone_any {w : World} {ok : Nat → Prop} {mb n : Nat} {L : List (List UInt8 × List UInt8)} (h : Vals w ok mb n L) (hok : ∀ b, ok b → b < w.heap.size) : Calls Tryz.prog 39 #[.map (some mb)] w fun e w' => e = .returned (.map (some w.heap.size)) ∧ Vals w' ok w.heap.size n L ∧ Below w.heap.size w w' ∧ w.heap.size < w'.heap.size := by
  obtain ⟨Z, h1, h2, h3⟩ := h
  refine (AnyW.maps_Clone_owns Tryz.cloneM 9 RV mb n _ w h1).mono fun e w' ⟨he, ho, _, hb⟩ => ?_
  exact ⟨he, ⟨Z, ho, h2, fun x hx => by obtain ⟨A, c, a1, a2, a3, a4, a5, a6⟩ := h3 x hx; exact ⟨A, c, a1, a2, a3, a4, a5, a6.below hb hok⟩⟩, hb, ho.lt⟩
/-- A record and a header laid: the error, the disk, the store's numbers. -/
def St.lays (s : St) (hf a : Nat) (b : List UInt8) (e c n : Nat) : Nat × St × Option (Nat × Nat × Nat × Nat) :=
  if (s.laid (hf * (s.n / 2) + a) (cuts b (nblk b.length))).1 ≠ 0 then ((s.laid (hf * (s.n / 2) + a) (cuts b (nblk b.length))).1, (s.laid (hf * (s.n / 2) + a) (cuts b (nblk b.length))).2, none)
  else if ((s.laid (hf * (s.n / 2) + a) (cuts b (nblk b.length))).2.sealed (hf * (s.n / 2)) (hdrB e c n)).1 ≠ 0 then (((s.laid (hf * (s.n / 2) + a) (cuts b (nblk b.length))).2.sealed (hf * (s.n / 2)) (hdrB e c n)).1, ((s.laid (hf * (s.n / 2) + a) (cuts b (nblk b.length))).2.sealed (hf * (s.n / 2)) (hdrB e c n)).2, none)
  else (0, ((s.laid (hf * (s.n / 2) + a) (cuts b (nblk b.length))).2.sealed (hf * (s.n / 2)) (hdrB e c n)).2, some (hf, e, c, n))
/-- What keeping changes makes of disk and store. -/
def St.keepT (s : St) (t : Ste) (l : List Chg) (L2 : List (List UInt8 × List UInt8)) : Nat × St × Option (Nat × Nat × Nat × Nat) :=
  if t.n + nblk (recB t.e (t.c + 1) (payB l)).length ≤ s.n / 2 then s.lays t.hf t.n (recB t.e (t.c + 1) (payB l)) t.e (t.c + 1) (t.n + nblk (recB t.e (t.c + 1) (payB l)).length)
  else if t.e = 18446744073709551615 then (7, s, none)
  else if 1 + nblk (recB (t.e + 1) 1 (payB (chgs L2))).length ≤ s.n / 2 then s.lays (1 - t.hf) 1 (recB (t.e + 1) 1 (payB (chgs L2))) (t.e + 1) 1 (1 + nblk (recB (t.e + 1) 1 (payB (chgs L2))).length)
  else (4, s, none)
/-- What a commit makes of disk and store. -/
def St.commitT (s : St) (t : Ste) (l : List Chg) : Nat × St × Ste :=
  match l.find? (fun c => c.err ≠ 0) with
  | some c => (c.err, s, t)
  | none =>
    if 64 < l.length then (4, s, t)
    else if 64 < (doAll t.L l).length then (4, s, t)
    else if s.dead = true then (150, s, t)
    else if l = [] then (0, s, t)
    else match s.keepT t l (doAll t.L l) with
      | (e, s', none) => (e, s', t)
      | (e, s', some (hf, ep, c, n)) => (e, s', ⟨hf, ep, c, n, doAll t.L l⟩)
end Go.Proofs.YtonpcenjipigpaaGreat
/- What keep's walk needs: lengths, new rows, what a laid disk is. Conditions: none. -/
namespace Go.Proofs.YtonpcenjipigpaaGreat
open Go.RowKit
theorem payB_length {l : List Chg} (h : Good l) (hl : l.length ≤ 64) : (payB l).length ≤ 524280 := by
  have := jn_length _ (payB_fit h hl)
  unfold payB
  omega
theorem own_new {w : World} {base n : Nat} {v : Value} {xs : List UInt8} (h : w.ownsRow base 5 1 v n (u8s xs)) (hn : 0 < n) : ∃ g c, v = .slice (some ⟨g, 0, none⟩) n c ∧ n ≤ c ∧ c ≤ maxLen ∧ Byt w (fun b => base ≤ b ∧ b < w.heap.size) (some ⟨g, 0, none⟩) xs := by
  rcases h.2 with ⟨-, rfl⟩ | ⟨g, cap, cur, rfl, _⟩
  · omega
  · obtain ⟨h1, h2, h3, h4⟩ := Byt.of_own h
    exact ⟨g, cap, rfl, h2, h3, h4.imp fun b hb => hb.2⟩
theorem St.laid_n : ∀ (cs : List (List UInt8)) (s : St) (i : Nat), (s.laid i cs).2.n = s.n ∧ (s.laid i cs).2.L.length ≤ s.L.length + cs.length
  | [], s, i => by
    rw [St.laid]
    refine ⟨St.synced_n s, ?_⟩
    unfold St.synced
    split
    · simp [St.sync]
    · simp [St.burn]
  | c :: cs, s, i => by
    have hl : (s.wrote i c).L.length ≤ s.L.length + 1 := by
      unfold St.wrote
      split
      · simp [St.write, St.burn]
      · simp [St.burn]
    rw [St.laid]
    split
    · have := St.laid_n cs (s.wrote i c) (i + 1)
      rw [St.wrote_n] at this
      exact ⟨this.1, by rw [List.length_cons]; omega⟩
    · exact ⟨St.wrote_n _ _ _, by rw [List.length_cons]; show (s.wrote i c).L.length ≤ _; omega⟩
/-- How keeping ends. -/
def KeepE (w : World) (foot : Nat → Prop) (sp dp : Nat) (mv : Value) (t : Nat × St × Option (Nat × Nat × Nat × Nat)) (r : Ending) (w' : World) : Prop :=
  ∃ f', Dsk w' f' dp t.2.1 ∧ (∀ k, f' k → foot k ∨ (w.heap.size ≤ k ∧ k < w'.heap.size)) ∧ r = .returned (.int .i64 (t.1 : Int)) ∧ match t.2.2 with
    | none => Md foot w w'
    | some (h, e, c, n) => Md (fun k => foot k ∨ k = sp) w w' ∧ Blk w' sp 75 (scells dp h e c n mv)
end Go.Proofs.YtonpcenjipigpaaGreat
