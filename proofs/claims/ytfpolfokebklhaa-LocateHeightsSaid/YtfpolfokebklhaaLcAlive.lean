/-
  What the document tells is so.
-/
import Derived.Test.YtfpolfokebklhaaLcHeights
namespace Go.Proofs.Ytfpolfokebklhaa.An
open Go.RowKit Mem Ht
theorem hts3 : hts 0 3 = [3, 2, 1, 0] := by decide
set_option maxRecDepth 100000 in
theorem alive14 (w : World) : Calls Try.prog 4 #[] w fun e w' => e = .returned (.bool true) ∧ Below w.heap.size w w' := by
  go_enter Try.func4, Try.ntmps4
  go_wp2_with fail
  refine (heights_at 3 (by decide) _).mono ?_
  rintro e v1 ⟨v, rfl, hN, hB⟩
  unfold NatsAt at hN
  rw [hts3] at hN
  obtain ⟨g, c, rfl, _, c0⟩ := nat_at hN.1 (k := 0) (x := 3) rfl
  obtain ⟨g2, c2, e2, _, c3⟩ := nat_at hN.1 (k := 3) (x := 0) rfl
  cases e2
  clear hN
  go_wp2_with fail
  go_ret
  exact ⟨rfl, hB⟩
end Go.Proofs.Ytfpolfokebklhaa.An
