/- The laws' own block of bytes; whether two slices hold the same bytes. Conditions: none. -/
import Derived.Test.YtmdkpfogdbggoaaCra
namespace Go.Proofs.Ytmdkpfogdbggoaa
open Go.RowKit
/-- n bytes, the first one f, each one more than the one ahead. -/
def fillB (f : UInt8) (n : Nat) : List UInt8 := (List.range n).map fun i => f + UInt8.ofNat i
theorem fillB_length (f : UInt8) (n : Nat) : (fillB f n).length = n := by simp [fillB]
theorem fillB_succ (f : UInt8) (n : Nat) : fillB f (n + 1) = fillB f n ++ [f + UInt8.ofNat n] := by simp [fillB, List.range_succ]
theorem fill_set (f : UInt8) (m k : Nat) (hk : k < m) : (u8s (fillB f k ++ zb (m - k))).set k (.int .u8 ((f + UInt8.ofNat k).toNat : Int)) = u8s (fillB f (k + 1) ++ zb (m - (k + 1))) := by
  have e : zb (m - k) = 0 :: zb (m - (k + 1)) := by
    unfold zb
    rw [show m - k = m - (k + 1) + 1 by omega, List.replicate_succ]
  rw [e, fillB_succ, u8s_append, List.set_append_right _ _ (by rw [u8s_length, fillB_length]; exact Nat.le_refl _), u8s_length, fillB_length, Nat.sub_self]
  simp [u8s]
theorem fill_byte (f : UInt8) (k : Nat) : ((f.toNat : Int) + (k : Int)) % 256 = ((f + UInt8.ofNat k).toNat : Int) := by
  have h1 : (f + UInt8.ofNat k).toNat = (f.toNat + k) % 256 := by
    rw [UInt8.toNat_add, UInt8.toNat_ofNat']
    first | omega | simp
  rw [h1]
  omega
/-- An operation of the laws, as a value. -/
def opV (kd at_ : Int) (f sz : UInt8) : Value := .agg #[.int .u8 kd, .int .i64 at_, .int .u8 (f.toNat : Int), .int .u8 (sz.toNat : Int)]
theorem run_make33u {N : Nat} (hN : N ≤ 255) (w : World) : (Instr.makeSlice 33 (.int .u8 (N : Int)) (.int .u8 (N : Int))).run Try.prog w = .ok (.slice (some ⟨w.heap.size, 0, none⟩) N N) (w.alloc (.cells (u8s (zb N)).toArray 5)) := by
  obtain ⟨i, hi, hz, hs, hb⟩ := info_parts Try.info5
  have h := run_makeSlice (P := Try.prog) w 33 5 i _ Try.underlying33 hi hz .u8 .u8 (N : Int) (N : Int) (by omega) (by omega) (by rw [hs]; simp; omega) (by rw [hb]; simp; omega) (by omega)
  rw [h, hs]
  have e : madeCells (Value.int .u8 0).cells ((N : Int).toNat * 1) = (u8s (zb N)).toArray := by
    rw [show (Value.int .u8 0).cells = #[Value.int .u8 0] from rfl]
    apply Array.toList_inj.1
    rw [toList_madeCells_one]
    simp [u8s, zb]
  rw [e]
  rfl
theorem size5 : (Try.prog.info? 5).map (·.size) = some 1 := by kernel_rfl
set_option maxRecDepth 100000 in
set_option maxHeartbeats 1600000 in
theorem block_any (w : World) (kd at_ : Int) (f sz : UInt8) : Calls Try.prog 12 #[.agg #[.int .u8 kd, .int .i64 at_, .int .u8 (f.toNat : Int), .int .u8 (sz.toNat : Int)]] w (NewBytes w (fillB f (sz.toNat % 80)) (sz.toNat % 80)) := by
  have hs := sz.toNat_lt
  obtain ⟨m, hm⟩ : ∃ m, m = sz.toNat % 80 := ⟨_, rfl⟩
  have hm80 : m < 80 := by omega
  have hmi : (sz.toNat : Int) % 80 = (m : Int) := by omega
  have hmk := fun w => run_make33u (N := m) (by omega) w
  rw [← hm]
  have hf := f.toNat_lt
  clear hm
  go_enter Try.func12, Try.ntmps12
  go_wp2
  have b0 : Blk ((w.alloc (.cells #[.int .u8 kd, .int .i64 at_, .int .u8 (f.toNat : Int), .int .u8 (sz.toNat : Int)] 30)).alloc (.cells (u8s (zb m)).toArray 5)) w.heap.size 30 [.int .u8 kd, .int .i64 at_, .int .u8 (f.toNat : Int), .int .u8 (sz.toNat : Int)] := heap_alloc2_old w _ _
  have b1 : Blk ((w.alloc (.cells #[.int .u8 kd, .int .i64 at_, .int .u8 (f.toNat : Int), .int .u8 (sz.toNat : Int)] 30)).alloc (.cells (u8s (zb m)).toArray 5)) (w.heap.size + 1) 5 (u8s (fillB f 0 ++ zb (m - 0))) := by
    have : fillB f 0 ++ zb (m - 0) = zb m := by simp [fillB]
    rw [this]
    exact heap_alloc2_new w _ _
  have hg := (World.grownBy_alloc w (.cells #[.int .u8 kd, .int .i64 at_, .int .u8 (f.toNat : Int), .int .u8 (sz.toNat : Int)] 30) none).trans (World.grownBy_alloc (w.alloc (.cells #[.int .u8 kd, .int .i64 at_, .int .u8 (f.toNat : Int), .int .u8 (sz.toNat : Int)] 30)) (.cells (u8s (zb m)).toArray 5) none)
  obtain ⟨W3, hW3⟩ : ∃ W3, (w.alloc (.cells #[.int .u8 kd, .int .i64 at_, .int .u8 (f.toNat : Int), .int .u8 (sz.toNat : Int)] 30)).alloc (.cells (u8s (zb m)).toArray 5) = W3 := ⟨_, rfl⟩
  rw [hW3] at b0 b1 hg ⊢
  clear hW3 hmk hmi
  obtain ⟨gn, hgn⟩ : ∃ gn, gn = w.heap.size + 1 := ⟨_, rfl⟩
  obtain ⟨go, hgo⟩ : ∃ go, go = w.heap.size := ⟨_, rfl⟩
  rw [← hgn] at b1 ⊢
  rw [← hgo] at b0 ⊢
  have HG : Hid (gn = w.heap.size + 1 ∧ go = w.heap.size) := ⟨hgn, hgo⟩
  clear hgn hgo
  go_loopw [4] (fun v wr => ∃ k : Nat, k ≤ m ∧ v = .int .i64 (k : Int) ∧ Blk wr gn 5 (u8s (fillB f k ++ zb (m - k))) ∧ Blk wr go 30 [.int .u8 kd, .int .i64 at_, .int .u8 (f.toNat : Int), .int .u8 (sz.toNat : Int)] ∧ w.grownBy wr none) (fun v _ => m - (intOf v).toNat)
  case atStart => exact ⟨0, Nat.zero_le _, rfl, b1, b0, hg⟩
  case round =>
    clear b0 b1 hg
    obtain ⟨k, hk, rfl, r1, r2, r3⟩ := hrel
    obtain ⟨wo, rfl⟩ : ∃ wo : World, wo = wr := ⟨_, rfl⟩
    have c2 : wo.cell? ⟨go, 2, none⟩ = some (.int .u8 (f.toNat : Int)) := r2.get 2 _ rfl
    have R1 := Lib.hid r1
    have R2 := Lib.hid r2
    have R3 := Lib.hid r3
    clear r1 r2 r3
    by_cases hlt : k < m
    · have hd : decide ((k : Int) < (m : Int)) = true := by simpa using hlt
      have hcv : IntKind.u8.wrap (k : Int) = (k : Int) := by simp [IntKind.wrap, IntKind.bits, IntKind.signed]; omega
      have hl : k < (u8s (fillB f k ++ zb (m - k))).length := by rw [u8s_length, List.length_append, fillB_length, zb_length]; omega
      have HL := Lib.hid hl
      clear hl
      go_wp2_with (first | (refine wpList_store_cell rfl 5 _ _ rfl size5 gn k (.int .u8 (((f.toNat : Int) + (k : Int)) % 256)) rfl rfl rfl _ _ R1.out HL.out ?_) | fail)
      intro w5 g5 r5
      rw [fill_byte, fill_set f m k hlt] at g5
      have hb8 : Blk w5 go 30 [.int .u8 kd, .int .i64 at_, .int .u8 (f.toNat : Int), .int .u8 (sz.toNat : Int)] := R2.out.grown r5.out.grown (by have := HG.out; simp; omega)
      have hg7 : w.grownBy w5 none := World.grownBy.andThen R3.out r5.out.grown (by have := HG.out; rintro j ⟨⟩; left; omega)
      have G5 : Blk w5 gn 5 (u8s (fillB f (k + 1) ++ zb (m - (k + 1)))) := g5.out
      clear g5 r5
      go_wp2
      go_roundw
      case rel => exact ⟨k + 1, by omega, by go_num, G5, hb8, hg7⟩
      case measure => simp [intOf]; omega
    · obtain rfl : k = m := by omega
      go_wp2
      go_ret
      have h1 := R1.out
      rw [Nat.sub_self, show zb 0 = [] from rfl, List.append_nil] at h1
      exact ⟨gn, by simp, h1, by have := HG.out; omega, R3.out⟩
theorem bytes_any {w : World} {ok ok' : Nat → Prop} {A B : Option Addr} {xs ys : List UInt8} {c d : Nat} (ha : Byt w ok A xs) (hb : Byt w ok' B ys) :
    Calls Try.prog 18 #[.slice A xs.length c, .slice B ys.length d] w fun e w' => e = .returned (.bool (decide (xs = ys))) ∧ w = w' := by
  have r1 := ha.str c
  have r2 := hb.str d
  go_enter Try.func18, Try.ntmps18
  go_wp2
  go_ret
  exact ⟨bool_end (by rw [Bool.eq_iff_iff]; simp), rfl⟩
end Go.Proofs.Ytmdkpfogdbggoaa
