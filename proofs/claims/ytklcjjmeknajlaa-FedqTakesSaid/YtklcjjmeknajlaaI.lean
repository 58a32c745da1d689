/- The writer's need and joined; shapes held against each other. Conditions: the pieces may be joined. -/
import Derived.Test.YtklcjjmeknajlaaH
namespace Go.Proofs.Ytklcjjmeknajlaa
open Go.RowKit
theorem need_any (w : World) (p : Value) : Calls Try.prog 20 #[p, .bool true] w fun e w' => e = .returned (.tuple #[]) ∧ w = w' := by
  go_enter Try.func20, Try.ntmps20
  go_wp2
  go_end0
  exact ⟨rfl, rfl⟩
set_option maxRecDepth 100000 in
set_option maxHeartbeats 1600000 in
theorem joined_any {w : World} {B g : Nat} {v : Value} {L : List (List UInt8)} (h : Wtr w B g v L) (hf : Fit L) : Calls Try.prog 22 #[.pointer (some ⟨g, 0, none⟩)] w (YesB w (jn L)) := by
  obtain ⟨A, c, rfl, _, _, hl⟩ := h.row.lst
  have hj := join_yes (c := c) hl (fun _ hb => hb) hf
  obtain ⟨n, hn⟩ : ∃ n, n = L.length := ⟨_, rfl⟩
  rw [← hn] at hj h
  have c0 : w.cell? ⟨g, 0, none⟩ = some (.slice A n c) := h.blk.get 0 _ rfl
  have c1 : w.cell? ⟨g, 1, none⟩ = some (.bool false) := h.blk.get 1 _ rfl
  have HJ := Lib.hid hj
  clear hj hl hf h hn
  go_enter Try.func22, Try.ntmps22
  go_wp2_with (go_at_call 33; refine HJ.out.mono ?_; rintro _ w2 ⟨A2, c2, rfl, hw⟩; have HWW := Lib.hid hw; clear hw)
  go_ret2
  exact ⟨A2, c2, rfl, HWW.out⟩
theorem guardS : Try.prog.eqGuardType Try.prog.depth 79 = false := by kernel_rfl
theorem eqsS0 : Eqs 79 (sv 2 0 0) := ⟨fun _ => by kernel_rfl, guardS⟩
theorem eqsS1 : Eqs 79 (sv 2 1 0) := ⟨fun _ => by kernel_rfl, guardS⟩
theorem eqsS2 : Eqs 79 (sv 2 2 0) := ⟨fun _ => by kernel_rfl, guardS⟩
theorem eqsS3 : Eqs 79 (sv 2 3 0) := ⟨fun _ => by kernel_rfl, guardS⟩
theorem eqsS4 : Eqs 79 (sv 2 4 0) := ⟨fun _ => by kernel_rfl, guardS⟩
theorem eqsS (k : Nat) (hk : k < 5) : Eqs 79 (sv 2 (k : Int) 0) := by
  rcases k with _ | _ | _ | _ | _ | k
  · exact eqsS0
  · exact eqsS1
  · exact eqsS2
  · exact eqsS3
  · exact eqsS4
  · omega
end Go.Proofs.Ytklcjjmeknajlaa
