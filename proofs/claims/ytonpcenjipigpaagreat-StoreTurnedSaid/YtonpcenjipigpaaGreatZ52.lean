/- The reference's Commit and Open, whatever comes. Conditions: at most 900000 writes wait. -/
import Derived.Test.YtonpcenjipigpaaGreatZ47
import Derived.Test.YtonpcenjipigpaaGreatZ48
import Derived.Test.YtonpcenjipigpaaGreatZ49
import Derived.Test.YtonpcenjipigpaaGreatZ50
import Derived.Test.YtonpcenjipigpaaGreatZ51
import Derived.Test.YtonpcenjipigpaaGreatZ45
namespace Go.Proofs.YtonpcenjipigpaaGreat
open Go.RowKit
theorem rcommit_any {f fs okl : Nat → Prop} {w : World} {sp dp : Nat} {s : St} {t : Ste} {A : Option Addr} {cl : Nat} {l : List Chg} (hd : RDsk w f dp s) (ht : RStm w fs sp dp t s.dead) (hdis : ∀ k, fs k → ¬ f k) (hsf : ¬ f sp) (hok : t.ok (s.n / 2)) (hgd : Gd t.L) (hx : Chs w okl A l) (hokl : ∀ b, okl b → b < w.heap.size ∧ ¬ f b ∧ b ≠ sp) (hn4 : s.n ≤ 4096)
    (hl : l.length ≤ 30000) (hL : s.L.length ≤ 900000) : Calls Tryz.prog 14 #[.pointer (some ⟨sp, 0, none⟩), .slice A l.length cl] w (RCommitE w f fs okl sp dp (s.commitT t l)) := by
  by_cases hsame : (∃ c ∈ l, c.err ≠ 0) ∨ 64 < l.length ∨ 64 < (doAll t.L l).length ∨ s.dead = true ∨ l = []
  · exact rcommit_same hd ht hdis hsf hx (fun b hb => (hokl b hb).1) hl hok.len hsame
  · have hg : Good l := fun c hc => by
      by_cases h : c.err = 0
      · exact h
      · exact absurd (.inl ⟨c, hc, h⟩) hsame
    have hdd : s.dead = false := by
      cases h : s.dead with
      | false => rfl
      | true => exact absurd (.inr (.inr (.inr (.inl h)))) hsame
    have hne : l ≠ [] := fun h => hsame (.inr (.inr (.inr (.inr h))))
    have h1 : l.length ≤ 64 := by
      by_cases h : 64 < l.length
      · exact absurd (.inr (.inl h)) hsame
      · omega
    have h2 : (doAll t.L l).length ≤ 64 := by
      by_cases h : 64 < (doAll t.L l).length
      · exact absurd (.inr (.inr (.inl h))) hsame
      · omega
    rw [hdd] at ht
    by_cases hfit : t.n + nblk (recB t.e (t.c + 1) (payB l)).length ≤ s.n / 2
    · exact rcommit_fits hd ht hdis hsf hok hx hokl hn4 hL hdd hg hne h1 h2 hfit
    · exact rcommit_turns hd ht hdis hsf hok hx hokl hn4 hL hdd hg hne h1 h2 hgd hfit
theorem ropen_any {foot : Nat → Prop} {w : World} {dp : Nat} {s : St} (hd : RDsk w foot dp s) (hn4 : s.n ≤ 4096) (hL : s.L.length ≤ 1000000) : Calls Tryz.prog 10 #[.pointer (some ⟨dp, 0, none⟩)] w (ROpenE w foot dp s.openT) := by
  by_cases h4 : s.n < 4
  · exact ropen_few hd h4
  cases hdd : s.dead with
  | true => exact ropen_dead hd h4 hn4 hdd
  | false =>
    obtain ⟨⟨t0, a0, c0, n0⟩, h0⟩ : ∃ H, headT (blk s.img 0) (s.n / 2) = H := ⟨_, rfl⟩
    obtain ⟨⟨t1, a1, c1, n1⟩, h1⟩ : ∃ H, headT (blk s.img (s.n / 2)) (s.n / 2) = H := ⟨_, rfl⟩
    rcases headK_cases h0 with ⟨-, rfl⟩ | ⟨-, rfl⟩ | ⟨-, rfl⟩
    · exact ropen_wrong0 hd h4 hn4 hdd hL h0 h1
    · rcases headK_cases h1 with ⟨-, rfl⟩ | ⟨-, rfl⟩ | ⟨-, rfl⟩
      · exact ropen_wrong1 hd h4 hn4 hdd hL (.inl rfl) h0 h1
      · exact ropen_begin hd h4 hn4 hdd hL h0 h1
      · exact ropen_loadb hd h4 hn4 hdd hL h0 h1
    · rcases headK_cases h1 with ⟨-, rfl⟩ | ⟨-, rfl⟩ | ⟨-, rfl⟩
      · exact ropen_wrong1 hd h4 hn4 hdd hL (.inr rfl) h0 h1
      · exact ropen_loada hd h4 hn4 hdd hL h0 h1
      · by_cases he : a0 = a1
        · exact ropen_equal hd h4 hn4 hdd hL h0 h1 he
        · by_cases hlt : a0 < a1
          · exact ropen_loadd hd h4 hn4 hdd hL h0 h1 hlt
          · exact ropen_loadc hd h4 hn4 hdd hL h0 h1 hlt he
end Go.Proofs.YtonpcenjipigpaaGreat
/- Calls of both stores beside each other. Conditions: none. -/
namespace Go.Proofs.YtonpcenjipigpaaGreat
open Go.RowKit
section
variable {w0 w w' : World} {f fs f' fs' rf rfs rf' rfs' : Nat → Prop} {sp sp' dp rsp rsp' rdp : Nat} {s s1 s' s2' : St} {t t1 t' t2' : Ste} {br br' : Bool}
/-- A store is opened on a disk beside the reference's. -/
theorem open_beside (hd : Dsk w f dp s) (hf : ∀ k, f k → w0.heap.size ≤ k) (hg : w0.grownBy w none) (hrd : RDsk w rf rdp s') (hap : ∀ k, rf k → ¬ f k) (hL : s.L.length ≤ 1000000) (hr : s.openT = (0, s1, some t1)) :
    Calls Tryz.prog 9 #[.pointer (some ⟨dp, 0, none⟩)] w fun r w' => ∃ sp f' fs', r = .returned (.tuple #[.pointer (some ⟨sp, 0, none⟩), .int .i64 0]) ∧ Lv w0 w' f' fs' sp dp s1 t1 ∧ t1.ok (s1.n / 2) ∧ RDsk w' rf rdp s' ∧ (∀ k, rf k → ¬ f' k ∧ ¬ fs' k) := by
  have := open_any hd hL
  rw [hr] at this
  refine this.mono fun r w' hc => ?_
  obtain ⟨f', hd', hf', hm, sp, fs', rfl, hst, hok, hfs⟩ := hc
  refine ⟨sp, f', fs', rfl, ⟨hd', hst, fun k hk => (hfs k hk).2, fun k hk => ?_, fun k hk => Nat.le_trans hg.size (hfs k hk).1, hm.grown hg hf⟩, hok, hrd.keep hm.size fun k hk => hm.block k (hrd.lt k hk) (hap k hk), fun k hk => ⟨fun h1 => ?_, fun h1 => ?_⟩⟩
  · rcases hf' k hk with h1 | h1
    · exact hf k h1
    · exact Nat.le_trans hg.size h1.1
  · have hkl := hrd.lt k hk
    rcases hf' k h1 with h2 | h2
    · exact hap k hk h2
    · omega
  · have hkl := hrd.lt k hk
    have := (hfs k h1).1
    omega
/-- The reference's store is opened on its disk. -/
theorem ropen_beside (hv : Lv w0 w f fs sp dp s t) (hrd : RDsk w rf rdp s') (hrf : ∀ k, rf k → w0.heap.size ≤ k) (hap : ∀ k, rf k → ¬ f k ∧ ¬ fs k) (hn4 : s'.n ≤ 4096) (hL : s'.L.length ≤ 1000000) (hr : s'.openT = (0, s2', some t2')) :
    Calls Tryz.prog 10 #[.pointer (some ⟨rdp, 0, none⟩)] w fun r w' => ∃ rsp rf' rfs', r = .returned (.tuple #[.pointer (some ⟨rsp, 0, none⟩), .int .i64 0]) ∧ Tw w0 w' f fs sp dp s t rf' rfs' rsp rdp s2' t2' s2'.dead := by
  have := ropen_any hrd hn4 hL
  rw [hr] at this
  refine this.mono fun r w' hc => ?_
  obtain ⟨rf', hd', hf', hm, rsp, rfs', rfl, hst, hfs, hsp, hsf⟩ := hc
  have hnew : ∀ k, w.heap.size ≤ k → ¬ f k ∧ ¬ fs k := fun k hk => ⟨fun h1 => by have := hv.d.lt k h1; omega, fun h1 => by have := hv.st.lt k h1; omega⟩
  have hgs := hv.g.size
  refine ⟨rsp, rf', rfs', rfl, ⟨hv.d.md hm fun k hk h1 => (hap k h1).1 hk, hv.st.md hm fun k hk h1 => (hap k h1).2 hk, hv.dis, hv.fn, hv.fsn, hm.grown hv.g hrf⟩, hd', hst, fun k hk => (hfs k hk).2, hsf, fun k hk => ?_, by omega, fun k hk => ?_⟩
  · rcases hf' k hk with h1 | h1
    · exact hrf k h1
    · omega
  · rcases hk with hk | hk | rfl
    · rcases hf' k hk with h1 | h1
      · exact hap k h1
      · exact hnew k h1.1
    · exact hnew k (hfs k hk).1
    · exact hnew k hsp
/-- The code's commit. -/
theorem commit_tw (h : Tw w0 w f fs sp dp s t rf rfs rsp rdp s' t' br) (hok : t.ok (s.n / 2)) (hgd : Gd t.L) {A : Option Addr} {l : List Chg} {n cl : Nat} (hx : Chs w (fun b => b < w0.heap.size) A l) (hn : l.length = n) (hl : n ≤ 30000) (hL : s.L.length ≤ 900000) {e : Nat} (hr : s.commitT t l = (e, s1, t1)) :
    Calls Tryz.prog 13 #[.pointer (some ⟨sp, 0, none⟩), .slice A n cl] w fun r w' => r = .returned (.int .i64 (e : Int)) ∧ ∃ f' fs', Tw w0 w' f' fs' sp dp s1 t1 rf rfs rsp rdp s' t' br :=
  (commit_lv (cl := cl) h.cv hok hgd hx (fun _ hb => Nat.lt_of_lt_of_le hb h.cv.g.size) hn hl hL hr).mono fun _ _ ⟨h1, f', fs', h2, h3⟩ => ⟨h1, f', fs', h.code h2 h3⟩
/-- The reference's commit. -/
theorem rcommit_tw (h : Tw w0 w f fs sp dp s t rf rfs rsp rdp s' t' s'.dead) (hok : t'.ok (s'.n / 2)) (hgd : Gd t'.L) {A : Option Addr} {l : List Chg} {n cl : Nat} (hx : Chs w (fun b => b < w0.heap.size) A l) (hn : l.length = n) (hl : n ≤ 30000) (hn4 : s'.n ≤ 4096) (hL : s'.L.length ≤ 900000) {e : Nat} (hr : s'.commitT t' l = (e, s2', t2')) :
    Calls Tryz.prog 14 #[.pointer (some ⟨rsp, 0, none⟩), .slice A n cl] w fun r w' => r = .returned (.int .i64 (e : Int)) ∧ ∃ rf' rfs', Tw w0 w' f fs sp dp s t rf' rfs' rsp rdp s2' t2' s2'.dead := by
  subst hn
  have := rcommit_any (cl := cl) h.rd h.rs h.rdis h.rsf hok hgd hx (fun b hb => ⟨Nat.lt_of_lt_of_le hb h.cv.g.size, fun h1 => by have := h.rfn b h1; omega, fun h1 => by have := h.rspn; omega⟩) hn4 hl hL
  rw [hr] at this
  refine this.mono fun r w' hc => ?_
  obtain ⟨rfl, rf', rfs', hd, hs, h1, h2, h3, h4, h5⟩ := hc
  exact ⟨rfl, rf', rfs', h.ref hd hs h1 h2 h5 h3 h4 (.inl rfl)⟩
/-- A crash of the code's disk. -/
theorem crash_tw (h : Tw w0 w f fs sp dp s t rf rfs rsp rdp s' t' br) (hL : s.L.length ≤ 1000000) (k : Int) : Calls Tryz.prog 18 #[.pointer (some ⟨dp, 0, none⟩), .int .i64 k] w fun r w' => r = .returned (.tuple #[]) ∧ Tw w0 w' f fs sp dp (s.crash k) t rf rfs rsp rdp s' t' br :=
  (crash_lv h.cv hL k).mono fun _ _ ⟨h1, h2, h3⟩ => ⟨h1, h.code h2 h3⟩
/-- A crash of the reference's disk. -/
theorem rcrash_tw (h : Tw w0 w f fs sp dp s t rf rfs rsp rdp s' t' br) (hL : s'.L.length ≤ 1000000) (k : Int) : Calls Tryz.prog 19 #[.pointer (some ⟨rdp, 0, none⟩), .int .i64 k] w fun r w' => r = .returned (.tuple #[]) ∧ Tw w0 w' f fs sp dp s t rf rfs rsp rdp (s'.crash k) t' br :=
  (rcrash_any h.rd (by omega) k).mono fun _ _ ⟨h1, h2, h3⟩ => ⟨h1, h.ref h2 (h.rs.keep h3.size (h3.block _ h.rs.sp_lt h.rsf) fun k hk => h3.block _ (h.rs.lt k hk) (h.rdis k hk)) h.rdis h.rsf (h3.mono fun _ => .inl) (fun _ => .inl) (fun _ => .inl) (.inl rfl)⟩
/-- The code's disk gets a fuse. -/
theorem fuse_tw (h : Tw w0 w f fs sp dp s t rf rfs rsp rdp s' t' br) (x : Int) (h1 : -9223372036854775808 ≤ x) (h2 : x ≤ 9223372036854775807) : Calls Tryz.prog 12 #[.pointer (some ⟨dp, 0, none⟩), .int .i64 x] w fun r w' => r = .returned (.tuple #[]) ∧ Tw w0 w' f fs sp dp (s.fuse x) t rf rfs rsp rdp s' t' br :=
  (fuse_lv h.cv x h1 h2).mono fun _ _ ⟨h1, h2, h3⟩ => ⟨h1, h.code h2 h3⟩
/-- The code's store is opened anew. -/
theorem open_tw (h : Tw w0 w f fs sp dp s t rf rfs rsp rdp s' t' br) (hL : s.L.length ≤ 1000000) (hr : s.openT = (0, s1, some t1)) : Calls Tryz.prog 9 #[.pointer (some ⟨dp, 0, none⟩)] w fun r w' => ∃ sp2 f' fs', r = .returned (.tuple #[.pointer (some ⟨sp2, 0, none⟩), .int .i64 0]) ∧ Tw w0 w' f' fs' sp2 dp s1 t1 rf rfs rsp rdp s' t' br :=
  (open_lv h.cv hL hr).mono fun _ _ ⟨sp2, f', fs', h1, h2, h3⟩ => ⟨sp2, f', fs', h1, h.code h2 h3⟩
/-- The reference's store is opened anew. -/
theorem ropen_tw (h : Tw w0 w f fs sp dp s t rf rfs rsp rdp s' t' br) (hn4 : s'.n ≤ 4096) (hL : s'.L.length ≤ 1000000) (hr : s'.openT = (0, s2', some t2')) : Calls Tryz.prog 10 #[.pointer (some ⟨rdp, 0, none⟩)] w fun r w' => ∃ rsp rf' rfs', r = .returned (.tuple #[.pointer (some ⟨rsp, 0, none⟩), .int .i64 0]) ∧ Tw w0 w' f fs sp dp s t rf' rfs' rsp rdp s2' t2' s2'.dead :=
  ropen_beside h.cv h.rd h.rfn (fun k hk => h.ap k (.inl hk)) hn4 hL hr
/-- The reference's fuse is set: its cell is written. -/
theorem rfuse_set {foot : Nat → Prop} {p gk : Nat} {Av Bv : Value} {vs : List Value} {x : Int} (h2 : Blk w gk 5 (u8s s.K)) (h3 : w.ownsRow 0 3 1 Av s.L.length (ats s.L)) (h4 : w.ownsRow 0 40 1 Bv s.L.length vs) (h5 : RB w foot p gk Av Bv vs s.L) (h6 : RP foot w p gk Av Bv) (h7 : s.ok)
    (hf1 : -9223372036854775808 ≤ x) (hf2 : x ≤ 9223372036854775807) (hb : Blk w' p 44 ((rcells s.n gk Av Bv (max s.f (-1)) s.dead).set 4 (.int .i64 (max x (-1))))) (hg : w.grownBy w' (some p)) : RDsk w' foot p (s.fuse x) ∧ Md foot w w' :=
  RDsk.turned (s := s) (s' := s.fuse x) hb hg h2 h3 h4 h5 h6 (St.fuse_ok h7 hf1 hf2) rfl rfl
/-- The reference's cells, one of which (the fuse) is going to be written. -/
theorem Tw.cells (h : Tw w0 w f fs sp dp s t rf rfs rsp rdp s' t' br) : ∃ cs : List Value, Blk w rdp 44 cs ∧ 4 < cs.length ∧ ∀ (x : Int) (V : World), 0 ≤ x → x ≤ 9223372036854775807 → Blk V rdp 44 (cs.set 4 (.int .i64 x)) → Wr rdp w V → Tw w0 V f fs sp dp s t rf rfs rsp rdp (s'.fuse x) t' br := by
  have hd := h.rd
  obtain ⟨gk, Av, Bv, vs, b1, b2, b3, b4, b5, b6, b7⟩ := hd
  refine ⟨_, b1, by simp [rcells], fun x V l1 l2 hb hg => ?_⟩
  obtain ⟨hd, hm⟩ := rfuse_set (x := x) b2 b3 b4 b5 b6 b7 (by omega) l2 (by rw [show max x (-1) = x by omega]; exact hb) hg.grown
  exact h.ref hd (h.rs.keep hm.size (hm.block _ h.rs.sp_lt h.rsf) fun k hk => hm.block _ (h.rs.lt k hk) (h.rdis k hk)) h.rdis h.rsf (hm.mono fun _ => .inl) (fun _ => .inl) (fun _ => .inl) (.inl rfl)
/-- What is compared at the end. -/
theorem Tw.ends (h : Tw w0 w f fs sp dp s t rf rfs rsp rdp s t' br) (hL : s.L.length ≤ 1048576) : ∃ (K : List UInt8) (m gk : Nat) (cs : List Value), Calls Tryz.prog 22 #[.pointer (some ⟨dp, 0, none⟩)] w.drew (NewBytes w.drew K m) ∧ Blk w rdp 44 cs ∧ cs[1]? = some (.slice (some ⟨gk, 0, none⟩) m m) ∧ Blk w gk 5 (u8s K) ∧ K.length = m ∧ m ≤ 262144 := by
  have h2 := h.rd
  obtain ⟨gk, Av, Bv, vs, b1, b2, b3, b4, b5, b6, b7⟩ := h2
  have := b7.2.1
  exact ⟨s.K, 64 * s.n, gk, _, kept_any (h.cv.d.grown (grown_drewN 1 : w.grownBy w.drew none)) hL, b1, rfl, b2, b7.2.2.1, by omega⟩
end
end Go.Proofs.YtonpcenjipigpaaGreat
/- StoreOpens' walk. Conditions: none. -/
namespace Go.Proofs.YtonpcenjipigpaaGreat
open Go.RowKit
/-- Both disks, in one state each, made since w0 and apart. -/
structure Bd (w0 w : World) (f : Nat → Prop) (dp : Nat) (s : St) (rf : Nat → Prop) (rdp : Nat) (s' : St) : Prop where
  d : Dsk w f dp s
  rd : RDsk w rf rdp s'
  fn : ∀ k, f k → w0.heap.size ≤ k
  rfn : ∀ k, rf k → w0.heap.size ≤ k
  ap : ∀ k, rf k → ¬ f k
  g : w0.grownBy w none
section
variable {w0 w w' : World} {f f' rf rf' : Nat → Prop} {dp rdp : Nat} {s s1 s' s1' : St}
theorem Bd.grown (h : Bd w0 w f dp s rf rdp s') (hg : w.grownBy w' none) : Bd w0 w' f dp s rf rdp s' := ⟨h.d.grown hg, h.rd.grown hg, h.fn, h.rfn, h.ap, h.g.trans hg⟩
theorem Bd.code (h : Bd w0 w f dp s rf rdp s') (hd : Dsk w' f' dp s1) (hf : ∀ k, f' k → f k ∨ (w.heap.size ≤ k ∧ k < w'.heap.size)) (hm : Md f w w') : Bd w0 w' f' dp s1 rf rdp s' := by
  have hgs := h.g.size
  refine ⟨hd, h.rd.keep hm.size fun k hk => hm.block k (h.rd.lt k hk) (h.ap k hk), fun k hk => ?_, h.rfn, fun k hk h1 => ?_, hm.grown h.g h.fn⟩
  · rcases hf k hk with h1 | h1
    · exact h.fn k h1
    · omega
  · rcases hf k h1 with h2 | h2
    · exact h.ap k hk h2
    · have := h.rd.lt k hk; omega
theorem Bd.ref (h : Bd w0 w f dp s rf rdp s') (hd : RDsk w' rf' rdp s1') (hf : ∀ k, rf' k → rf k ∨ (w.heap.size ≤ k ∧ k < w'.heap.size)) (hm : Md rf w w') : Bd w0 w' f dp s rf' rdp s1' := by
  have hgs := h.g.size
  refine ⟨h.d.md hm fun k hk h1 => h.ap k h1 hk, hd, h.fn, fun k hk => ?_, fun k hk h1 => ?_, hm.grown h.g h.rfn⟩
  · rcases hf k hk with h1 | h1
    · exact h.rfn k h1
    · omega
  · rcases hf k hk with h2 | h2
    · exact h.ap k h2 h1
    · have := h.d.lt k h1; omega
theorem Bd.of (hd : Dsk w f dp s) (hf : ∀ k, f k → w0.heap.size ≤ k) (hg : w0.grownBy w none) (hr : RDsk w' rf rdp s') (hrf : ∀ k, rf k → w.heap.size ≤ k) (hg2 : w.grownBy w' none) : Bd w0 w' f dp s rf rdp s' :=
  ⟨hd.grown hg2, hr, hf, fun k hk => Nat.le_trans hg.size (hrf k hk), fun k hk h1 => by have := hd.lt k h1; have := hrf k hk; omega, hg.trans hg2⟩
/-- Both disks are written alike. -/
theorem write_bd (h : Bd w0 w f dp s rf rdp s') {i : Nat} (hi : i < s.n) {ok : Nat → Prop} {A : Option Addr} {c : Nat} {b : List UInt8} (hb : Byt w ok A b) (hbl : b.length = 64) (hok : ∀ k, ok k → k < w.heap.size ∧ ¬ f k) (hL : s.L.length ≤ 1048576) :
    Calls Tryz.prog 24 #[.pointer (some ⟨dp, 0, none⟩), .int .i64 (i : Int), .slice A 64 c] w fun e w' => e = .returned (.int .i64 (s.wroteE : Nat)) ∧ ∃ f', Bd w0 w' f' dp (s.wrote i b) rf rdp s' ∧ (∀ k, f' k → f k ∨ (w.heap.size ≤ k ∧ k < w'.heap.size)) ∧ Md f w w' :=
  (write_any h.d hi hb hbl rfl hok hL).mono fun _ _ ⟨h1, f', h2, h3, h4⟩ => ⟨h1, f', h.code h2 h3 h4, h3, h4⟩
theorem rwrite_bd (h : Bd w0 w f dp s rf rdp s') {i : Nat} (hi : i < s'.n) {ok : Nat → Prop} {A : Option Addr} {c : Nat} {b : List UInt8} (hb : Byt w ok A b) (hbl : b.length = 64) (hok : ∀ k, ok k → k < w.heap.size ∧ ¬ rf k) (hL : s'.L.length ≤ 1048576) :
    Calls Tryz.prog 25 #[.pointer (some ⟨rdp, 0, none⟩), .int .i64 (i : Int), .slice A 64 c] w fun e w' => e = .returned (.int .i64 (s'.wroteE : Nat)) ∧ ∃ rf', Bd w0 w' f dp s rf' rdp (s'.wrote i b) :=
  (rwrite_both h.rd hi hb hbl hok hL).mono fun _ _ ⟨h1, f', h2, h3, h4⟩ => ⟨h1, f', h.ref h2 h3 h4⟩
theorem fuse_bd (h : Bd w0 w f dp s rf rdp s') (x : Int) (h1 : -9223372036854775808 ≤ x) (h2 : x ≤ 9223372036854775807) : Calls Tryz.prog 12 #[.pointer (some ⟨dp, 0, none⟩), .int .i64 x] w fun r w' => r = .returned (.tuple #[]) ∧ Bd w0 w' f dp (s.fuse x) rf rdp s' :=
  (fuse_any h.d x h1 h2).mono fun _ _ ⟨h1, h2, h3⟩ => ⟨h1, h.code h2 (fun _ => .inl) h3⟩
theorem sync_bd (h : Bd w0 w f dp s rf rdp s') : Calls Tryz.prog 26 #[.pointer (some ⟨dp, 0, none⟩)] w fun r w' => r = .returned (.int .i64 s.syncE) ∧ Bd w0 w' f dp s.synced rf rdp s' :=
  (sync_any h.d).mono fun _ _ ⟨h1, h2, h3⟩ => ⟨h1, h.code h2 (fun _ => .inl) h3⟩
theorem rsync_bd (h : Bd w0 w f dp s rf rdp s') (hL : s'.L.length ≤ 1048576) : Calls Tryz.prog 27 #[.pointer (some ⟨rdp, 0, none⟩)] w fun r w' => r = .returned (.int .i64 s'.syncE) ∧ Bd w0 w' f dp s rf rdp s'.synced :=
  (rsync_any h.rd hL).mono fun _ _ ⟨h1, h2, h3⟩ => ⟨h1, h.ref h2 (fun _ => .inl) h3⟩
theorem Bd.cells (h : Bd w0 w f dp s rf rdp s') : ∃ cs : List Value, Blk w rdp 44 cs ∧ 4 < cs.length ∧ ∀ (x : Int) (V : World), 0 ≤ x → x ≤ 9223372036854775807 → Blk V rdp 44 (cs.set 4 (.int .i64 x)) → Wr rdp w V → Bd w0 V f dp s rf rdp (s'.fuse x) := by
  have hd := h.rd
  obtain ⟨gk, Av, Bv, vs, b1, b2, b3, b4, b5, b6, b7⟩ := hd
  refine ⟨_, b1, by simp [rcells], fun x V l1 l2 hb hg => ?_⟩
  obtain ⟨hd, hm⟩ := rfuse_set (x := x) b2 b3 b4 b5 b6 b7 (by omega) l2 (by rw [show max x (-1) = x by omega]; exact hb) hg.grown
  exact h.ref hd (fun _ => .inl) hm
end
theorem openT_none {s s2 : St} {e : Nat} (h : s.openT = (e, s2, none)) : e ≠ 0 := by
  unfold St.openT at h
  split at h
  · cases h; decide
  · split at h
    · cases h; decide
    · split at h
      · cases h; decide
      · split at h
        · cases h; decide
        · cases h
      · split at h
        · cases h
        · rename_i h0
          cases h
          exact h0
theorem openT_some {s s2 : St} {e : Nat} {u : Ste} (h : s.openT = (e, s2, some u)) : e = 0 := by
  unfold St.openT at h
  split at h
  · cases h
  · split at h
    · cases h
    · split at h
      · cases h
      · split at h
        · cases h
        · cases h; rfl
      · split at h
        · cases h; rfl
        · cases h
/-- No disk: no store. -/
theorem open_nil (w : World) : Calls Tryz.prog 9 #[.pointer none] w fun e w' => e = .returned (.tuple #[.pointer none, .int .i64 1]) ∧ w = w' := by
  go_enter Tryz.func9, Tryz.ntmps9
  go_wp2
  go_ret2
  exact ⟨rfl, rfl⟩
end Go.Proofs.YtonpcenjipigpaaGreat
