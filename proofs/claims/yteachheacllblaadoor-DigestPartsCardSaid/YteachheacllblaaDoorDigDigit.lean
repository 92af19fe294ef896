/-
  digit: what a digit's sign is worth.
-/
import Derived.Test.YteachheacllblaaDoorRefShow
namespace Go.Proofs.YteachheacllblaaDoor
open Go.RowKit Mem Sha
def digV (r : Int) : Int := if 48 ≤ r ∧ r ≤ 57 then r - 48 else if 97 ≤ r ∧ r ≤ 102 then r - 87 else 0
def digOk (r : Int) : Bool := if 48 ≤ r ∧ r ≤ 57 then true else if 97 ≤ r ∧ r ≤ 102 then true else false
theorem dig_val (a : Nat) (h : a < 16) : digV ((dig a).toNat : Int) = (a : Int) ∧ digOk ((dig a).toNat : Int) = true := by
  have e : ∀ n : Fin 16, digV ((dig n.val).toNat : Int) = (n.val : Int) ∧ digOk ((dig n.val).toNat : Int) = true := by decide +kernel
  exact e ⟨a, h⟩
set_option maxRecDepth 100000 in
theorem digit (r : Int) (h0 : 0 ≤ r) (h1 : r ≤ 2147483647) (w : World) :
    Calls Tryd.prog 25 #[.int .i32 r] w fun e w' => e = .returned (.tuple #[.int .u8 (digV r), .bool (digOk r)]) ∧ w = w' := by
  by_cases c1 : 48 ≤ r ∧ r ≤ 57
  · rw [show digV r = r - 48 from if_pos c1, show digOk r = true from if_pos c1]
    obtain ⟨c1, c2⟩ := c1
    go_enter Tryd.func25, Tryd.ntmps25
    go_wp2_with fail
    exact bodyPost_ret (v := .tuple #[.int .u8 (r - 48), .bool true]) (by simp [results, Tryd.results25, go_sem]) rfl ⟨rfl, rfl⟩
  · by_cases c2 : 97 ≤ r ∧ r ≤ 102
    · rw [show digV r = r - 97 + 10 by rw [digV, if_neg c1, if_pos c2]; omega, show digOk r = true from (if_neg c1).trans (if_pos c2)]
      clear c1
      obtain ⟨c3, c4⟩ := c2
      go_enter Tryd.func25, Tryd.ntmps25
      go_wp2_with fail
      exact bodyPost_ret (v := .tuple #[.int .u8 (r - 97 + 10), .bool true]) (by simp [results, Tryd.results25, go_sem]) rfl ⟨rfl, rfl⟩
    · rw [show digV r = 0 from (if_neg c1).trans (if_neg c2), show digOk r = false from (if_neg c1).trans (if_neg c2)]
      go_enter Tryd.func25, Tryd.ntmps25
      go_wp2_with fail
      all_goals (first | (exfalso; omega) | exact bodyPost_ret (v := .tuple #[.int .u8 0, .bool false]) (by simp [results, Tryd.results25, go_sem]) rfl ⟨rfl, rfl⟩)
end Go.Proofs.YteachheacllblaaDoor
