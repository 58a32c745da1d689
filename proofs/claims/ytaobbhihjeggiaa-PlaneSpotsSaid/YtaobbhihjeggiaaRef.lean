/- The document's list of spots, as its reference lays it: the parts of the spots 0 to 4095. Conditions: none. -/
import Derived.Test.YtaobbhihjeggiaaMath
import Derived.Test.YtaobbhihjeggiaaRows
import Derived.WalkKit
import Derived.WalkSpells
import Derived.WalkLawsBesides
import Derived.Maps.AppendAt
import Derived.IntWalk
import Derived.Lib.Hide
import Derived.RangeFuncBox
namespace Go.Proofs.Ytaobbhihjeggiaa
open Go.RowKit

theorem Try.info3 : (Try.prog.info? 3).map (fun i => (i.zero, i.size, i.bytes)) = some (some (.int .i64 0), 1, 8) := by kernel_rfl

def legB (k : Nat) (s : Sp) : Bool := (Nat.blt k 4096 && Nat.ble s.leg 128) || (Nat.beq k 4096 && Nat.beq s.leg 129)
set_option maxRecDepth 1000000 in
theorem leg_all : chk legB 4097 0 (st 0) = true := by decide +kernel
theorem leg_at {k : Nat} (h : k ≤ 4096) : (k < 4096 ∧ lg k ≤ 128) ∨ (k = 4096 ∧ lg k = 129) := by
  have := chk_ok _ 4097 0 leg_all k (Nat.zero_le _) (by omega)
  simp only [legB, Bool.or_eq_true, Bool.and_eq_true, Nat.blt_eq, Nat.ble_eq, Nat.beq_eq] at this
  exact this

def XS (n : Nat) : List Value := (List.range n).map fun j => Value.int .i64 (px j)
def YS (n : Nat) : List Value := (List.range n).map fun j => Value.int .i64 (py j)
theorem XS_succ (n : Nat) : XS (n + 1) = XS n ++ [.int .i64 (px n)] := by simp [XS, List.range_succ]
theorem YS_succ (n : Nat) : YS (n + 1) = YS n ++ [.int .i64 (py n)] := by simp [YS, List.range_succ]

theorem ddx_bd (l : Nat) : -1 ≤ ddx l ∧ ddx l ≤ 1 := by unfold ddx; split; omega; split <;> omega
theorem ddy_bd (l : Nat) : -1 ≤ ddy l ∧ ddy l ≤ 1 := by unfold ddy; split; omega; split <;> omega
theorem ddx_succ (l : Nat) : ddx (l + 1) = -(ddy l) := by
  have : l % 4 = 0 ∨ l % 4 = 1 ∨ l % 4 = 2 ∨ l % 4 = 3 := by omega
  unfold ddx ddy
  rcases this with h | h | h | h <;> simp [h, Nat.add_mod]
theorem ddy_succ (l : Nat) : ddy (l + 1) = ddx l := by
  have : l % 4 = 0 ∨ l % 4 = 1 ∨ l % 4 = 2 ∨ l % 4 = 3 := by omega
  unfold ddx ddy
  rcases this with h | h | h | h <;> simp [h, Nat.add_mod]

/-- Two slices lie in two blocks. -/
def Apart (v u : Value) : Prop := ∀ g, v.ownBlock = some g → u.ownBlock ≠ some g
theorem Apart.symm {v u : Value} (h : Apart v u) : Apart u v := fun g hu hv => h g hv hu

/-- One of two rows has grown: the other one lies as it lay, and they lie in two blocks. -/
theorem grow_one {B n m k : Nat} {W w1 : World} {v v' u : Value} {tmp : Obj} {xs ys zs : List Value} (hu : W.ownsRow B 3 1 u m ys) (hv : W.ownsRow B 3 1 v n xs) (hne : Apart v u) (_hown : w1.ownsRow B 3 1 v' k zs)
    (hgrow : (W.alloc tmp).grownBy w1 v.ownBlock) (hat : v'.ownBlock = v.ownBlock ∨ v'.ownBlock = some (W.heap.size + 1)) (hB : B ≤ W.heap.size) :
    w1.ownsRow B 3 1 u m ys ∧ Apart v' u ∧ Below B W w1 ∧ B ≤ w1.heap.size := by
  have hb : Below B W w1 := ((Below.refl B W).alloc hB tmp).grown hgrow (by simp; omega) (fun j hj => (hv.lt j hj).1)
  refine ⟨(hu.alloc tmp).kept hgrow ?_, ?_, hb, Nat.le_trans hB (Nat.le_trans (by simp) hgrow.size)⟩
  · cases hug : u.ownBlock with
    | none => exact .inl rfl
    | some g => exact .inr fun e => hne g e.symm hug
  · intro g hg hug
    rcases hat with e | e
    · exact hne g (e ▸ hg) hug
    · rw [e] at hg
      have := (hu.lt g hug).2
      cases hg
      omega

/-- The two lists, as they lie behind n rounds. -/
structure TwoRows (B n : Nat) (w wr : World) (vx vy : Value) : Prop where
  fx : ∃ a c, vx = .slice a n c
  fy : ∃ a c, vy = .slice a n c
  rx : wr.ownsRow B 3 1 vx n (XS n)
  ry : wr.ownsRow B 3 1 vy n (YS n)
  ne : Apart vx vy
  bl : Below B w wr
  le : B ≤ wr.heap.size

set_option maxRecDepth 100000 in
set_option maxHeartbeats 1000000 in
theorem spots_any (w : World) : Calls Try.prog 13 #[] w fun e w' => ∃ vx vy, e = .returned (.tuple #[vx, vy]) ∧ TwoRows w.heap.size 4096 w w' vx vy := by
  obtain ⟨i0, hi, hz0, hz1, hz2⟩ := info_parts Try.info3
  have Hi := Lib.hid hi
  have Hz0 := Lib.hid hz0
  have Hz1 := Lib.hid hz1
  have Hz2 := Lib.hid hz2
  clear hi hz0 hz1 hz2
  go_enter Try.func13, Try.ntmps13
  go_wp2
  go_loopw [2, 3, 4, 5, 6, 7, 8] (fun vx vy px' py' dx dy vl wr => ∃ n l : Nat, px' = .int .i64 (px n) ∧ py' = .int .i64 (py n) ∧ dx = .int .i64 (ddx l) ∧ dy = .int .i64 (ddy l) ∧ vl = .int .i64 l ∧ n ≤ 4096 ∧ lg n = l ∧ ix n = 0 ∧ TwoRows w.heap.size n w wr vx vy)
    (fun _ _ _ _ _ _ vl _ => 200 - (intOf vl).toNat)
  case atStart => exact ⟨0, 2, rfl, rfl, rfl, rfl, rfl, by omega, rfl, rfl, ⟨⟨_, _, rfl⟩, ⟨_, _, rfl⟩, World.ownsRow_nil _ _ _ _, World.ownsRow_nil _ _ _ _, (fun _ h => by cases h), Below.refl _ _, Nat.le_refl _⟩⟩
  case round =>
    obtain ⟨n, l, rfl, rfl, rfl, rfl, rfl, hn, hlg, hix, hT⟩ := hrel
    obtain ⟨⟨ax, cx, rfl⟩, ⟨ay, cy, rfl⟩, hrx, hry, hne, hbl, hle⟩ := hT
    by_cases hend : n ≤ 4095
    · have hd : decide ((n : Int) ≤ 4095) = true := by simp; omega
      obtain ⟨wo, rfl⟩ : ∃ wo : World, wo = wr := ⟨_, rfl⟩
      have hb1 := ddx_bd l
      have hb2 := ddy_bd l
      have hl := (good_at hn).l2
      have HL := Lib.hid hlg
      have HI := Lib.hid hix
      clear hlg hix
      have hl128 : l ≤ 128 := by have := leg_at hn; have := HL.out; omega
      go_wp2
      go_loopw [2, 3, 4, 5, 9] (fun vx vy px' py' vk wr => ∃ n j : Nat, px' = .int .i64 (px n) ∧ py' = .int .i64 (py n) ∧ vk = .int .i64 j ∧ n ≤ 4096 ∧ j ≤ l / 2 ∧ (j < l / 2 → lg n = l ∧ ix n = j) ∧ (j = l / 2 → lg n = l + 1 ∧ ix n = 0) ∧ TwoRows w.heap.size n w wr vx vy)
        (fun _ _ _ _ vk _ => l - (intOf vk).toNat)
      case atStart => exact ⟨n, 0, rfl, rfl, rfl, hn, by omega, fun _ => ⟨HL.out, HI.out⟩, fun h => by have := (good_at hn).l1; have := HL.out; omega, ⟨⟨_, _, rfl⟩, ⟨_, _, rfl⟩, hrx, hry, hne, hbl, hle⟩⟩
      case round =>
        clear hrx hry hne hbl hle
        obtain ⟨n1, j, rfl, rfl, rfl, hn1, hj, hA, hB, hT⟩ := hrel
        obtain ⟨⟨ax1, cx1, rfl⟩, ⟨ay1, cy1, rfl⟩, hrx, hry, hne, hbl, hle⟩ := hT
        obtain ⟨wi, rfl⟩ : ∃ wi : World, wi = wr := ⟨_, rfl⟩
        by_cases hjl : j < l / 2
        · have HA := Lib.hid (hA hjl)
          clear hA hB
          have hd2 : decide ((j : Int) < (l : Int) / 2) = true := by simp; omega
          have hn2 : n1 < 4096 := by have := leg_at hn1; have := HA.out.1; omega
          have g := good_at hn1
          have hx1 := g.x1; have hx2 := g.x2; have hy1 := g.y1; have hy2 := g.y2
          clear g
          go_wp2_with (at_builtin; refine wpList_append_own_at _ rfl (.tmp 22) (.tmp 24) 34 rfl w.heap.size 3 i0 (.int .i64 0) 1 8 Try.underlying34 Hi.out Hz0.out Hz1.out Hz2.out rfl (by decide) _ _ _ rfl (hrx.alloc _) ⟨wi.heap.size, 0, none⟩ 1 1 [.int .i64 (px n1)] rfl rfl ?c1 ?c2 ?c3 ?c4 ?c5 ?_)
          case c1 =>
            intro j u hj
            match j, hj with
            | 0, hj => simp at hj; subst hj; simp [Addr.add]
          case c2 => intro u hu; simp at hu; subst hu; rfl
          case c3 => unfold maxLen; omega
          case c4 => omega
          case c5 => simp; omega
          intro v' w1 hown1 hgrow1 _ hat1
          have hxs : XS n1 ++ [.int .i64 (px n1)] = XS (n1 + 1) := (XS_succ n1).symm
          rw [hxs] at hown1
          clear hxs
          obtain ⟨hry1, hne1, hbl1, hle1⟩ := grow_one hry hrx hne hown1 hgrow1 hat1 hle
          obtain ⟨gx, capx, rfl⟩ := ownsRow_succ hown1
          clear hgrow1 hat1 hry hrx hne
          go_wp2_with (at_builtin; refine wpList_append_own_at _ rfl (.tmp 26) (.tmp 28) 34 rfl w.heap.size 3 i0 (.int .i64 0) 1 8 Try.underlying34 Hi.out Hz0.out Hz1.out Hz2.out rfl (by decide) _ _ _ rfl (hry1.alloc _) ⟨w1.heap.size, 0, none⟩ 1 1 [.int .i64 (py n1)] rfl rfl ?d1 ?d2 ?d3 ?d4 ?d5 ?_)
          case d1 =>
            intro j u hj
            match j, hj with
            | 0, hj => simp at hj; subst hj; simp [Addr.add]
          case d2 => intro u hu; simp at hu; subst hu; rfl
          case d3 => unfold maxLen; omega
          case d4 => omega
          case d5 => simp; omega
          intro v'' w2 hown2 hgrow2 _ hat2
          have hys : YS n1 ++ [.int .i64 (py n1)] = YS (n1 + 1) := (YS_succ n1).symm
          rw [hys] at hown2
          clear hys
          obtain ⟨hrx2, hne2, hbl2, hle2⟩ := grow_one hown1 hry1 hne1.symm hown2 hgrow2 hat2 hle1
          obtain ⟨gy, capy, rfl⟩ := ownsRow_succ hown2
          have T : TwoRows w.heap.size (n1 + 1) w w2 (.slice (some ⟨gx, 0, none⟩) (n1 + 1) capx) (.slice (some ⟨gy, 0, none⟩) (n1 + 1) capy) :=
            ⟨⟨_, _, rfl⟩, ⟨_, _, rfl⟩, hrx2, hown2, hne2.symm, hbl.trans (hbl1.trans hbl2), hle2⟩
          clear hgrow2 hat2 hown1 hown2 hry1 hne1 hrx2 hne2
          go_wp2
          go_roundw
          case rel =>
            have ea := HA.out
            refine ⟨n1 + 1, j + 1, ?_, ?_, by go_num, by omega, by omega, fun h => ?_, fun h => ?_, T⟩
            · rw [px_succ (by omega), ea.1]
            · rw [py_succ (by omega), ea.1]
            · have := lg_in (k := n1) (by rw [ea.1, ea.2]; omega)
              exact ⟨this.1.trans ea.1, this.2.trans (by rw [ea.2])⟩
            · have := lg_out (k := n1) (by rw [ea.1, ea.2]; omega)
              exact ⟨this.1.trans (by rw [ea.1]), this.2⟩
          case measure => simp [intOf]; omega
        · have HB := Lib.hid (hB (by omega))
          clear hA hB
          have hd2 : decide ((j : Int) < (l : Int) / 2) = false := by simp; omega
          go_wp2
          go_roundw
          case rel => exact ⟨n1, l + 1, rfl, rfl, by rw [ddx_succ], by rw [ddy_succ], by go_num, hn1, HB.out.1, HB.out.2, ⟨⟨_, _, rfl⟩, ⟨_, _, rfl⟩, hrx, hry, hne, hbl, hle⟩⟩
          case measure => simp [intOf]; omega
    · have hd : decide ((n : Int) ≤ 4095) = false := by simp; omega
      obtain rfl : n = 4096 := by omega
      go_wp2
      go_ret2
      exact ⟨_, _, rfl, ⟨⟨_, _, rfl⟩, ⟨_, _, rfl⟩, hrx, hry, hne, hbl, hle⟩⟩

end Go.Proofs.Ytaobbhihjeggiaa
