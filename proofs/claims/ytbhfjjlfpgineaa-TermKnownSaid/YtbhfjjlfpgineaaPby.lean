/- bytes of a part. Conditions: at most 70000 terms. -/
import Derived.Test.YtbhfjjlfpgineaaCut
namespace Go.Proofs.Ytbhfjjlfpgineaa
open Go.RowKit

theorem newB_up {w w1 w' : World} {xs : List UInt8} {e : Ending} (h : NewB w1 xs e w') (hb : Below w.heap.size w w1) : NewB w xs e w' := by
  obtain ⟨A, c, h1, h2, h3, h4, h5⟩ := h
  exact ⟨A, c, h1, h2, h3, h4.imp fun b hb' => ⟨Nat.le_trans hb.size hb'.1, hb'.2⟩, hb.trans (h5.mono hb.size)⟩
set_option maxRecDepth 100000 in
set_option maxHeartbeats 1000000 in
theorem pbytes_any {w : World} {ok : Nat → Prop} {An Ab : Option Addr} {ns : List Int} {bs : List UInt8} {ln lb cn cb made : Nat} (hn : Ints w ok An ns) (hb : Byt w ok Ab bs) (hok : ∀ b, ok b → b < w.heap.size) (hln : ns.length = ln) (hlb : bs.length = lb) (hc : lb ≤ cb) (hm : cb ≤ maxLen) (hN : made ≤ 70000) :
    Calls Try.prog 14 #[.agg #[.slice An ln cn, .slice Ab lb cb], .int .i64 made] w (NewB w (cutB ns bs made 5000)) := by
  have HC : Hid (∀ W, Below w.heap.size w W → Calls Try.prog 23 #[.agg #[.slice An ln cn, .slice Ab lb cb], .int .i64 made, .int .i64 5000] W (NewB W (cutB ns bs made 5000))) := fun W hW =>
    cut_any (most := 5000) (hn.keep fun b hb => hW.block b (hok b hb)) (hb.keep fun b hb => hW.block b (hok b hb)) (fun b hb => Nat.lt_of_lt_of_le (hok b hb) hW.size) hln hlb hc hm hN (by omega)
  clear hn hb hok
  go_enter Try.func14, Try.ntmps14
  go_wp2_with fail
  go_at_call 23
  refine (HC.out _ ((Below.refl _ _).alloc (Nat.le_refl _) _)).mono ?_
  intro e w2 h2
  have h3 := newB_up h2 ((Below.refl _ _).alloc (Nat.le_refl _) _)
  have h4 := h3
  obtain ⟨A, c, rfl, _⟩ := h4
  have H3 := Lib.hid h3
  clear h2 h3
  go_wp2_with fail
  go_ret
  exact H3.out
end Go.Proofs.Ytbhfjjlfpgineaa
