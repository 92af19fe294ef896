/-
  speech: hasRoom, mostNames, goodHeaders.
-/
import Derived.Test.YteblphnpealefaaBunQ13
import Derived.Test.YteblphnpealefaaBunQ10
import Derived.Test.YteblphnpealefaaBunQ14
namespace Go.Proofs.Yteblphnpealefaa
open Go.RowKit Mem Sc
/-- a box of two ints -/
def two (x y : Int) : Array Value := #[.int .i64 x, .int .i64 y]
def mostOf (k : Int) : Nat := if k = 3 ∨ k = 5 then 32 else 0
theorem first_bad : ∀ (hs : List Hd), ¬ (∀ x ∈ hs, x.P) → ∃ (j : Nat) (hj : j < hs.length), (∀ i (h : i < hs.length), i < j → hs[i].P) ∧ ¬ hs[j].P
  | [], h => absurd (fun _ hx => by cases hx) h
  | x :: hs, h => by
    by_cases hx : x.P
    · obtain ⟨j, hj, h1, h2⟩ := first_bad hs (fun hall => h (fun y hy => by
        rcases List.mem_cons.1 hy with rfl | hy
        · exact hx
        · exact hall y hy))
      refine ⟨j + 1, by simpa using hj, fun i hi hij => ?_, by simpa using h2⟩
      cases i with
      | zero => exact hx
      | succ i => simpa using h1 i (by simpa using hi) (by omega)
    · exact ⟨0, by simp, fun i _ hi => by omega, hx⟩
def headsG (hs : List Hd) : Prop := hs.length ≤ 64 ∧ ∀ x ∈ hs, x.P
instance headsDec (hs : List Hd) : Decidable (headsG hs) := by unfold headsG; exact inferInstance
end Go.Proofs.Yteblphnpealefaa
