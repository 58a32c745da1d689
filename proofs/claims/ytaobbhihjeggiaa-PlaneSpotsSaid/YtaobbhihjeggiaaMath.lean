/- The spiral in whole numbers, and what the floating-point operations give on its spots: facts that name no program. Conditions: none. -/
import Derived.WalkLawsBesides
namespace Go.Proofs.Ytaobbhihjeggiaa

/-- A float's bits for a whole number. -/
def F (x : Int) : Nat := floatOfInt .f64 x

structure Sp where
  x : Int
  y : Int
  dx : Int
  dy : Int
  leg : Nat
  ix : Nat

/-- One step along the spiral: within a straight piece, or round its corner. -/
def stp (s : Sp) : Sp := if s.ix + 1 < s.leg / 2 then ⟨s.x + s.dx, s.y + s.dy, s.dx, s.dy, s.leg, s.ix + 1⟩ else ⟨s.x + s.dx, s.y + s.dy, -s.dy, s.dx, s.leg + 1, 0⟩
def st : Nat → Sp
  | 0 => ⟨0, 0, 1, 0, 2, 0⟩
  | k + 1 => stp (st k)

def chk (p : Nat → Sp → Bool) : Nat → Nat → Sp → Bool
  | 0, _, _ => true
  | m + 1, k, s => p k s && chk p m (k + 1) (stp s)

theorem chk_ok (p : Nat → Sp → Bool) : ∀ (m k : Nat), chk p m k (st k) = true → ∀ j, k ≤ j → j < k + m → p j (st j) = true
  | 0, k, _, j, h1, h2 => by omega
  | m + 1, k, h, j, h1, h2 => by
    simp only [chk, Bool.and_eq_true] at h
    by_cases e : j = k
    · subst e; exact h.1
    · exact chk_ok p m (k + 1) h.2 j (by omega) (by omega)

/-- The number of the spot at (x, y). -/
def inv (x y : Int) : Int :=
  if x.natAbs ≤ y.natAbs ∧ 0 < y then 4 * y * y - y - x
  else if y.natAbs ≤ x.natAbs ∧ x < 0 then 4 * x * x - x - y
  else if x.natAbs ≤ y.natAbs ∧ y < 0 then 4 * y * y - 3 * y + x
  else 4 * x * x - 3 * x + y

/-- The step's two parts, as bits, along the piece with number leg (2 the first): the signs of its zeros turn with it. -/
def sre (leg : Nat) : Nat := if leg = 2 then 4607182418800017408 else if leg % 4 = 2 then 4607182418800017408 else if leg % 4 = 3 then 0 else if leg % 4 = 0 then 13830554455654793216 else 9223372036854775808
def sim (leg : Nat) : Nat := if leg = 2 then 0 else if leg % 4 = 2 then 9223372036854775808 else if leg % 4 = 3 then 4607182418800017408 else if leg % 4 = 0 then 0 else 13830554455654793216
def ddx (leg : Nat) : Int := if leg % 4 = 2 then 1 else if leg % 4 = 0 then -1 else 0
def ddy (leg : Nat) : Int := if leg % 4 = 3 then 1 else if leg % 4 = 1 then -1 else 0

def good (k : Nat) (s : Sp) : Bool :=
  decide (-33 ≤ s.x) && decide (s.x ≤ 33) && decide (-33 ≤ s.y) && decide (s.y ≤ 33) && decide (inv s.x s.y = k) && decide (s.ix < s.leg / 2) && decide (2 ≤ s.leg) && decide (s.leg ≤ 129) && decide (s.dx = ddx s.leg) && decide (s.dy = ddy s.leg)

set_option maxRecDepth 1000000 in
theorem good_all : chk good 4097 0 (st 0) = true := by decide +kernel


def px (k : Nat) : Int := (st k).x
def py (k : Nat) : Int := (st k).y
def lg (k : Nat) : Nat := (st k).leg
def ix (k : Nat) : Nat := (st k).ix

structure Good (k : Nat) : Prop where
  x1 : -33 ≤ px k
  x2 : px k ≤ 33
  y1 : -33 ≤ py k
  y2 : py k ≤ 33
  iv : inv (px k) (py k) = k
  ix : ix k < lg k / 2
  l1 : 2 ≤ lg k
  l2 : lg k ≤ 129
  dx : (st k).dx = ddx (lg k)
  dy : (st k).dy = ddy (lg k)

theorem good_at {k : Nat} (h : k ≤ 4096) : Good k := by
  have g := chk_ok good 4097 0 good_all k (Nat.zero_le _) (by omega)
  simp only [good, Bool.and_eq_true, decide_eq_true_eq] at g
  obtain ⟨⟨⟨⟨⟨⟨⟨⟨⟨a, b⟩, c⟩, d⟩, e⟩, f⟩, g1⟩, h1⟩, i⟩, j⟩ := g
  exact ⟨a, b, c, d, e, f, g1, h1, i, j⟩

theorem px_succ {k : Nat} (h : k ≤ 4096) : px (k + 1) = px k + ddx (lg k) := by
  have g := (good_at h).dx
  have e : px (k + 1) = (st k).x + (st k).dx := by
    show (stp (st k)).x = _
    unfold stp; split <;> rfl
  rw [e, g]; rfl
theorem py_succ {k : Nat} (h : k ≤ 4096) : py (k + 1) = py k + ddy (lg k) := by
  have g := (good_at h).dy
  have e : py (k + 1) = (st k).y + (st k).dy := by
    show (stp (st k)).y = _
    unfold stp; split <;> rfl
  rw [e, g]; rfl
theorem lg_in {k : Nat} (h : ix k + 1 < lg k / 2) : lg (k + 1) = lg k ∧ ix (k + 1) = ix k + 1 := by
  have h' : (st k).ix + 1 < (st k).leg / 2 := h
  have e : st (k + 1) = stp (st k) := rfl
  unfold lg ix; rw [e]; unfold stp; rw [if_pos h']; exact ⟨rfl, rfl⟩
theorem lg_out {k : Nat} (h : ¬ ix k + 1 < lg k / 2) : lg (k + 1) = lg k + 1 ∧ ix (k + 1) = 0 := by
  have h' : ¬ (st k).ix + 1 < (st k).leg / 2 := h
  have e : st (k + 1) = stp (st k) := rfl
  unfold lg ix; rw [e]; unfold stp; rw [if_neg h']; exact ⟨rfl, rfl⟩

theorem px_0 : px 0 = 0 := rfl
theorem py_0 : py 0 = 0 := rfl
theorem lg_0 : lg 0 = 2 := rfl
theorem ix_0 : ix 0 = 0 := rfl

/-- No two spots are the same. -/
theorem spot_inj {j k : Nat} (hj : j ≤ 4096) (hk : k ≤ 4096) (hx : px j = px k) (hy : py j = py k) : j = k := by
  have a := (good_at hj).iv
  have b := (good_at hk).iv
  rw [hx, hy, b] at a
  omega

/-! ### The tables -/
def rng (n : Nat) : List Int := (List.range (2 * n + 1)).map fun (k : Nat) => (k : Int) - (n : Int)
theorem mem_rng {n : Nat} {x : Int} (h1 : -(n : Int) ≤ x) (h2 : x ≤ n) : x ∈ rng n := by
  unfold rng
  rw [List.mem_map]
  exact ⟨(x + n).toNat, by rw [List.mem_range]; omega, by omega⟩

/-- The four values of a step's part, and the whole numbers that they stand for. -/
def parts : List (Nat × Int) := [(4607182418800017408, 1), (0, 0), (13830554455654793216, -1), (9223372036854775808, 0)]
def okAdd : Bool := parts.all fun d => (rng 34).all fun x => floatBits .add .f64 (F x) d.1 == some (F (x + d.2))
set_option maxRecDepth 1000000 in
theorem okAdd_all : okAdd = true := by decide +kernel
theorem add_part {x : Int} {b : Nat} {d : Int} (h1 : -34 ≤ x) (h2 : x ≤ 34) (hm : (b, d) ∈ parts) : floatBits .add .f64 (F x) b = some (F (x + d)) := by
  have h := List.all_eq_true.1 okAdd_all (b, d) hm
  have h' := List.all_eq_true.1 h x (mem_rng (n := 34) (by omega) (by omega))
  exact eq_of_beq h'
theorem re_part (leg : Nat) : (sre leg, ddx leg) ∈ parts := by
  unfold sre ddx parts
  by_cases h2 : leg = 2
  · subst h2; simp
  · have : leg % 4 = 0 ∨ leg % 4 = 1 ∨ leg % 4 = 2 ∨ leg % 4 = 3 := by omega
    rcases this with h | h | h | h <;> simp [h2, h]
theorem im_part (leg : Nat) : (sim leg, ddy leg) ∈ parts := by
  unfold sim ddy parts
  by_cases h2 : leg = 2
  · subst h2; simp
  · have : leg % 4 = 0 ∨ leg % 4 = 1 ∨ leg % 4 = 2 ∨ leg % 4 = 3 := by omega
    rcases this with h | h | h | h <;> simp [h2, h]
theorem add_re {x : Int} {leg : Nat} (h1 : -34 ≤ x) (h2 : x ≤ 34) : floatBits .add .f64 (F x) (sre leg) = some (F (x + ddx leg)) := add_part h1 h2 (re_part leg)
theorem add_im {x : Int} {leg : Nat} (h1 : -34 ≤ x) (h2 : x ≤ 34) : floatBits .add .f64 (F x) (sim leg) = some (F (x + ddy leg)) := add_part h1 h2 (im_part leg)
/-- One step of z. -/
theorem sum_step {k : Nat} (h : k ≤ 4096) : cSumBits .add .f64 (F (px k)) (F (py k)) (sre (lg k)) (sim (lg k)) = some (F (px (k + 1)), F (py (k + 1))) := by
  have g := good_at h
  have a := add_re (x := px k) (leg := lg k) (by have := g.x1; omega) (by have := g.x2; omega)
  have b := add_im (x := py k) (leg := lg k) (by have := g.y1; omega) (by have := g.y2; omega)
  unfold cSumBits
  rw [a, b, px_succ h, py_succ h]
  rfl

def okMul : Bool := (List.range 130).all fun leg => decide (leg < 2) || cMulBits (sre leg) (sim leg) 0 4607182418800017408 == some (sre (leg + 1), sim (leg + 1))
set_option maxRecDepth 1000000 in
theorem okMul_all : okMul = true := by decide +kernel
/-- One corner. -/
theorem mul_step {leg : Nat} (l1 : 2 ≤ leg) (l2 : leg ≤ 129) : cMulBits (sre leg) (sim leg) 0 4607182418800017408 = some (sre (leg + 1), sim (leg + 1)) := by
  have h := List.all_eq_true.1 okMul_all leg (List.mem_range.2 (by omega))
  simp only [Bool.or_eq_true, decide_eq_true_eq, beq_iff_eq] at h
  rcases h with h | h
  · omega
  · exact h

/-- What the bits of a whole number stand for: that number, at a place from -1074 to 0. -/
def sgn (x : Int) : Ieee.Datum → Bool
  | .number s m i => decide (i ≤ 0) && decide (-1074 ≤ i) && (Ieee.signed s m (i + 1074).toNat == x * 2 ^ 1074)
  | _ => false
def okRd (n : Nat) : Bool := (rng n).all fun b => sgn b (FloatKind.f64.format.read (F b))
set_option maxRecDepth 1000000 in
theorem okRd_all : okRd 80 = true := by decide +kernel
theorem signed_add (s : Bool) (m u v : Nat) : Ieee.signed s m (u + v) = Ieee.signed s m u * 2 ^ v := by
  unfold Ieee.signed
  have h : ((m <<< (u + v) : Nat) : Int) = ((m <<< u : Nat) : Int) * 2 ^ v := by
    rw [Nat.shiftLeft_eq, Nat.shiftLeft_eq, Nat.pow_add, ← Nat.mul_assoc]
    push_cast
    rfl
  split
  · rw [h, Int.neg_mul]
  · exact h
theorem read_F {x : Int} (h1 : -80 ≤ x) (h2 : x ≤ 80) : ∃ s m i, FloatKind.f64.format.read (F x) = .number s m i ∧ i ≤ 0 ∧ -1074 ≤ i ∧ Ieee.signed s m (i + 1074).toNat = x * 2 ^ 1074 := by
  have h := List.all_eq_true.1 okRd_all x (mem_rng (n := 80) (by omega) (by omega))
  revert h
  cases FloatKind.f64.format.read (F x) with
  | number s m i =>
    intro h
    simp only [sgn, Bool.and_eq_true, decide_eq_true_eq, beq_iff_eq] at h
    exact ⟨s, m, i, rfl, h.1.1, h.1.2, h.2⟩
  | nan _ _ => intro h; cases h
  | infinity _ => intro h; cases h
theorem cmp_scaled {a b x y p k : Int} (hp : 0 < p) (hk : 0 < k) (ha : a * p = x * k) (hb : b * p = y * k) : compare a b = compare x y := by
  have lt : a < b ↔ x < y := by
    rw [← Int.mul_lt_mul_right hp, ha, hb, Int.mul_lt_mul_right hk]
  have lt' : b < a ↔ y < x := by
    rw [← Int.mul_lt_mul_right hp, ha, hb, Int.mul_lt_mul_right hk]
  have eq : a = b ↔ x = y := by omega
  show compareOfLessAndEq a b = compareOfLessAndEq x y
  unfold compareOfLessAndEq
  simp only [lt, eq]
/-- How two whole numbers' bits stand to each other. -/
theorem ord_F {a b : Int} (a1 : -80 ≤ a) (a2 : a ≤ 80) (b1 : -80 ≤ b) (b2 : b ≤ 80) : FloatKind.f64.format.order (F a) (F b) = some (compare a b) := by
  obtain ⟨s, m, i, ea, i1, i2, ha⟩ := read_F a1 a2
  obtain ⟨t, n, j, eb, j1, j2, hb⟩ := read_F b1 b2
  unfold Ieee.Format.order
  rw [ea, eb]
  show some (compare (Ieee.signed s m (i - min i j).toNat) (Ieee.signed t n (j - min i j).toNat)) = _
  have ei : (i + 1074).toNat = (i - min i j).toNat + (min i j + 1074).toNat := by omega
  have ej : (j + 1074).toNat = (j - min i j).toNat + (min i j + 1074).toNat := by omega
  rw [ei, signed_add] at ha
  rw [ej, signed_add] at hb
  have hp : (0 : Int) < 2 ^ (min i j + 1074).toNat := Int.pow_pos (by decide)
  have hk : (0 : Int) < 2 ^ 1074 := Int.pow_pos (by decide)
  generalize (2 : Int) ^ (min i j + 1074).toNat = p at ha hb hp
  generalize (2 : Int) ^ 1074 = k at ha hb hk
  rw [cmp_scaled hp hk ha hb]
theorem eq_F {a b : Int} (a1 : -80 ≤ a) (a2 : a ≤ 80) (b1 : -80 ≤ b) (b2 : b ≤ 80) : (FloatKind.f64.format.order (F a) (F b) == some .eq) = decide (a = b) := by
  rw [ord_F a1 a2 b1 b2]
  have : compare a b = compareOfLessAndEq a b := rfl
  rw [this]
  unfold compareOfLessAndEq
  by_cases l : a < b
  · have : a ≠ b := by omega
    simp [l, this]
  · by_cases e : a = b
    · subst e; simp
    · simp [l, e]

/-- Are two spots equal, as complex numbers? -/
theorem eq_spot {j k : Nat} (hj : j ≤ 4096) (hk : k ≤ 4096) : ((FloatKind.f64.format.order (F (px j)) (F (px k)) == some .eq) && (FloatKind.f64.format.order (F (py j)) (F (py k)) == some .eq)) = decide (j = k) := by
  have g := good_at hj
  have f := good_at hk
  have := g.x1; have := g.x2; have := g.y1; have := g.y2; have := f.x1; have := f.x2; have := f.y1; have := f.y2
  rw [eq_F (by omega) (by omega) (by omega) (by omega), eq_F (by omega) (by omega) (by omega) (by omega)]
  by_cases e : j = k
  · subst e; simp
  · simp only [e, decide_false, Bool.and_eq_false_iff, decide_eq_false_iff_not]
    by_cases hx : px j = px k
    · exact .inr fun hy => e (spot_inj hj hk hx hy)
    · exact .inl hx

end Go.Proofs.Ytaobbhihjeggiaa
