/- SHA-256 as plain mathematics: words of 32 bits, rounds, blocks, and what a text is filled up with. Conditions: none. -/
import Derived.Test.YtgphopahlgfogaaDoorWord
namespace Go.Proofs.YtgphopahlgfogaaDoor

/-- The first words of SHA-512, and its rounds' words, out of which those of SHA-256 are made. -/
def sqN : List Nat := [7640891576956012808, 13503953896175478587, 4354685564936845355, 11912009170470909681, 5840696475078001361, 11170449401992604703, 2270897969802886507, 6620516959819538809]
def cuN : List Nat := [4794697086780616226, 8158064640168781261, 13096744586834688815, 16840607885511220156, 4131703408338449720, 6480981068601479193, 10538285296894168987, 12329834152419229976, 15566598209576043074, 1334009975649890238, 2608012711638119052, 6128411473006802146, 8268148722764581231, 9286055187155687089, 11230858885718282805, 13951009754708518548, 16472876342353939154, 17275323862435702243, 1135362057144423861, 2597628984639134821, 3308224258029322869, 5365058923640841347, 6679025012923562964, 8573033837759648693, 10970295158949994411, 12119686244451234320, 12683024718118986047, 13788192230050041572, 14330467153632333762, 15395433587784984357, 489312712824947311, 1452737877330783856, 2861767655752347644, 3322285676063803686, 5560940570517711597, 5996557281743188959, 7280758554555802590, 8532644243296465576, 9350256976987008742, 10552545826968843579, 11727347734174303076, 12113106623233404929, 14000437183269869457, 14369950271660146224, 15101387698204529176, 15463397548674623760, 17586052441742319658, 1182934255886127544, 1847814050463011016, 2177327727835720531, 2830643537854262169, 3796741975233480872, 4115178125766777443, 5681478168544905931, 6601373596472566643, 7507060721942968483, 8399075790359081724, 8693463985226723168, 9568029438360202098, 10144078919501101548, 10430055236837252648, 11840083180663258601, 13761210420658862357, 14299343276471374635, 14566680578165727644, 15097957966210449927, 16922976911328602910, 17689382322260857208, 500013540394364858, 748580250866718886, 1242879168328830382, 1977374033974150939, 2944078676154940804, 3659926193048069267, 4368137639120453308, 4836135668995329356, 5532061633213252278, 6448918945643986474, 6902733635092675308, 7801388544844847127]
/-- The rounds' words. -/
def kw (i : Nat) : UInt32 := UInt32.ofNat (cuN.getD i 0 / 4294967296)
def s0 (x : UInt32) : UInt32 := rotr x 7 ^^^ rotr x 18 ^^^ shr x 3
def s1 (x : UInt32) : UInt32 := rotr x 17 ^^^ rotr x 19 ^^^ shr x 10
def S0 (x : UInt32) : UInt32 := rotr x 2 ^^^ rotr x 13 ^^^ rotr x 22
def S1 (x : UInt32) : UInt32 := rotr x 6 ^^^ rotr x 11 ^^^ rotr x 25
/-- The words of a block. -/
def wd (xs : List UInt8) (i : Nat) : UInt32 := UInt32.ofNat (nb ((xs.drop (4 * i)).take 4))
def wds (xs : List UInt8) (k : Nat) : List UInt32 := (List.range k).map (wd xs)
/-- The next word of those that the rounds take. -/
def nxt (l : List UInt32) (i : Nat) : UInt32 := l.getD i 0 + s0 (l.getD (i + 1) 0) + l.getD (i + 9) 0 + s1 (l.getD (i + 14) 0)
def sch (l : List UInt32) : Nat → List UInt32
  | 0 => l
  | k + 1 => sch l k ++ [nxt (sch l k) k]
/-- Eight words. -/
structure St where (a b c d e f g h : UInt32)
def St.list (s : St) : List UInt32 := [s.a, s.b, s.c, s.d, s.e, s.f, s.g, s.h]
def t1 (s : St) (k w : UInt32) : UInt32 := s.h + S1 s.e + ((s.e &&& s.f) ^^^ (~~~s.e &&& s.g)) + k + w
def t2 (s : St) : UInt32 := S0 s.a + ((s.a &&& s.b) ^^^ (s.a &&& s.c) ^^^ (s.b &&& s.c))
def rnd (s : St) (k w : UInt32) : St := ⟨t1 s k w + t2 s, s.a, s.b, s.c, s.d + t1 s k w, s.e, s.f, s.g⟩
def rnds (l : List UInt32) (s : St) : Nat → St
  | 0 => s
  | i + 1 => rnd (rnds l s i) (kw i) (l.getD i 0)
def St.plus (s r : St) : St := ⟨s.a + r.a, s.b + r.b, s.c + r.c, s.d + r.d, s.e + r.e, s.f + r.f, s.g + r.g, s.h + r.h⟩
/-- What a block makes of eight words. -/
def comp (s : St) (xs : List UInt8) : St := s.plus (rnds (sch (wds xs 16) 48) s 64)

theorem wds_length (xs : List UInt8) (k : Nat) : (wds xs k).length = k := by simp [wds]
theorem wds_succ (xs : List UInt8) (k : Nat) : wds xs (k + 1) = wds xs k ++ [wd xs k] := by simp [wds, List.range_succ]
theorem sch_length (l : List UInt32) : ∀ k, (sch l k).length = l.length + k
  | 0 => rfl
  | k + 1 => by rw [sch, List.length_append, sch_length l k]; simp; omega
theorem list_length (s : St) : s.list.length = 8 := rfl

/-- How many bytes 0 a text of n bytes is filled up with. -/
def zpad (n : Nat) : Nat := (119 - n % 64) % 64
/-- The last blocks of a text of n bytes, of which rs stands behind the whole ones. -/
def fill (rs : List UInt8) (n : Nat) : List UInt8 := rs ++ (128 :: (List.replicate (zpad n) 0 ++ be 8 (8 * n)))
theorem fill_length (rs : List UInt8) (n : Nat) (h : rs.length = n % 64) : (fill rs n).length = (n % 64 + 72) / 64 * 64 := by
  simp only [fill, List.length_append, List.length_cons, List.length_replicate, be_length, h, zpad]
  omega
/-- What so many blocks make of eight words. -/
def runs : Nat → St → List UInt8 → St
  | 0, s, _ => s
  | k + 1, s, xs => runs k (comp s (xs.take 64)) (xs.drop 64)
theorem runs_add : ∀ (j k : Nat) (s : St) (xs : List UInt8), runs (j + k) s xs = runs k (runs j s xs) (xs.drop (64 * j))
  | 0, k, s, xs => by simp [runs]
  | j + 1, k, s, xs => by
    rw [show j + 1 + k = (j + k) + 1 by omega, runs, runs, runs_add j k, List.drop_drop, show 64 + 64 * j = 64 * (j + 1) by omega]
theorem runs_front : ∀ (j : Nat) (s : St) (xs ys : List UInt8), 64 * j ≤ xs.length → runs j s (xs ++ ys) = runs j s xs
  | 0, _, _, _, _ => rfl
  | j + 1, s, xs, ys, h => by
    rw [runs, runs, List.take_append_of_le_length (by omega), List.drop_append_of_le_length (by omega), runs_front j _ _ _ (by simp; omega)]
/-- The first words. -/
def H0 : St := ⟨1779033703, 3144134277, 1013904242, 2773480762, 1359893119, 2600822924, 528734635, 1541459225⟩
/-- The words behind the whole blocks, and the bytes behind these. -/
def st (xs : List UInt8) : St := runs (xs.length / 64) H0 xs
def rst (xs : List UInt8) : List UInt8 := xs.drop (64 * (xs.length / 64))
theorem rst_length (xs : List UInt8) : (rst xs).length = xs.length % 64 := by simp [rst]; omega
/-- The words behind the last block. -/
def fin (xs : List UInt8) : St := runs ((fill (rst xs) xs.length).length / 64) (st xs) (fill (rst xs) xs.length)
/-- The bytes of words. -/
def outs (l : List UInt32) : List UInt8 := l.flatMap fun x => be 4 x.toNat
theorem outs_length (l : List UInt32) : (outs l).length = 4 * l.length := by
  induction l with
  | nil => rfl
  | cons x l ih =>
    have : outs (x :: l) = be 4 x.toNat ++ outs l := rfl
    rw [this, List.length_append, be_length, ih, List.length_cons]; omega
/-- SHA-256. -/
def sha256 (xs : List UInt8) : List UInt8 := outs (fin xs).list
theorem sha256_length (xs : List UInt8) : (sha256 xs).length = 32 := by rw [sha256, outs_length, list_length]
/-- A text with what it is filled up with. -/
def whole (xs : List UInt8) : List UInt8 := xs ++ (128 :: (List.replicate (zpad xs.length) 0 ++ be 8 (8 * xs.length)))
theorem whole_is (xs : List UInt8) : whole xs = xs.take (64 * (xs.length / 64)) ++ fill (rst xs) xs.length := by
  rw [whole, fill, ← List.append_assoc, rst, List.take_append_drop]
theorem fin_whole (xs : List UInt8) : fin xs = runs ((whole xs).length / 64) H0 (whole xs) := by
  have hl : (xs.take (64 * (xs.length / 64))).length = 64 * (xs.length / 64) := by simp; omega
  have h1 := runs_add (xs.length / 64) ((fill (rst xs) xs.length).length / 64) H0 (whole xs)
  have h2 : (whole xs).length / 64 = xs.length / 64 + (fill (rst xs) xs.length).length / 64 := by
    rw [whole_is, List.length_append, hl]; omega
  rw [h2, h1, fin, st]
  have h3 : (whole xs).drop (64 * (xs.length / 64)) = fill (rst xs) xs.length := by
    rw [whole_is, List.drop_left' hl]
  have h4 : runs (xs.length / 64) H0 (whole xs) = runs (xs.length / 64) H0 xs := by
    rw [whole]; exact runs_front _ _ _ _ (by omega)
  rw [h3, h4]
/-- More bytes behind a text. -/
theorem st_short (xs ys : List UInt8) (h : xs.length % 64 + ys.length < 64) : st (xs ++ ys) = st xs ∧ rst (xs ++ ys) = rst xs ++ ys := by
  have e : (xs ++ ys).length / 64 = xs.length / 64 := by rw [List.length_append]; omega
  refine ⟨?_, ?_⟩
  · rw [st, st, e]; exact runs_front _ _ _ _ (by omega)
  · rw [rst, rst, e, List.drop_append_of_le_length (by omega)]
theorem st_block (xs ys : List UInt8) (h : xs.length % 64 + ys.length = 64) : st (xs ++ ys) = comp (st xs) (rst xs ++ ys) ∧ rst (xs ++ ys) = [] := by
  have e : (xs ++ ys).length / 64 = xs.length / 64 + 1 := by rw [List.length_append]; omega
  have hd : (xs ++ ys).drop (64 * (xs.length / 64)) = rst xs ++ ys := by rw [rst, List.drop_append_of_le_length (by omega)]
  refine ⟨?_, ?_⟩
  · rw [st, st, e, runs_add, hd, runs_front _ _ xs _ (by omega), runs, runs, List.take_of_length_le]
    rw [List.length_append, rst_length]; omega
  · rw [rst, e, List.drop_eq_nil_of_le]
    rw [List.length_append]; omega
end Go.Proofs.YtgphopahlgfogaaDoor
