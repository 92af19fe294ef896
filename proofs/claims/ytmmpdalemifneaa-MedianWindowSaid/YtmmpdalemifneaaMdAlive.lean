/-
  alive: what the document tells is so.
-/
import Derived.Test.YtmmpdalemifneaaMdLast
namespace Go.Proofs.Ytmmpdalemifneaa
open Go.RowKit Mem Md
theorem mid_513 : mid [5, 1, 3] = 3 := mid_of_rank (by decide) (by decide)
theorem late_4513 : late 4 [5, 1, 3] = true := by unfold late; rw [mid_513]; rfl
theorem near_532 : IntKind.i64.wrap ((5 : Int) - 3) = 2 := by decide
theorem lie_new (w : World) (l : List Int) : Lie (w.alloc (.cells (l.map (Value.int .i64)).toArray 3)) w.heap.size (w.heap.size + 1) (some ⟨w.heap.size, 0, none⟩) l := fun _ =>
  ⟨w.heap.size, 0, rfl, Nat.le_refl _, by omega, fun j hj => by
    have h : Has (w.alloc (.cells (l.map (Value.int .i64)).toArray 3)) w.heap.size _ 3 := Has.new _ _
    rw [Nat.zero_add, h.cell j]
    simp [List.getD_eq_getElem?_getD, hj]⟩
set_option maxRecDepth 100000 in
set_option maxHeartbeats 1000000 in
theorem alive9 (w : World) : Calls Try.prog 9 #[] w fun r w' => r = .returned (.bool true) ∧ Below w.heap.size w w' := by
  have KO := Lib.hid (fun w => of_at (some ⟨w.heap.size, 0, none⟩) 3 3 [5, 1, 3] rfl (by omega) (by omega) _ (lie_new w [5, 1, 3]))
  have KL := Lib.hid (fun w => late_at 4 (some ⟨w.heap.size, 0, none⟩) 3 3 _ _ [5, 1, 3] rfl (by omega) (by omega) _ (lie_new w [5, 1, 3]))
  rw [mid_513] at KO
  rw [late_4513] at KL
  go_enter Try.func9, Try.ntmps9
  go_wp2_with fail
  refine (KO.out w).mono ?_
  rintro r w1 ⟨rfl, hb1⟩
  have hB : Below w.heap.size w w1 := ((Below.refl _ w).alloc (Nat.le_refl _) _).trans (hb1.mono (by rw [World.size_alloc]; omega))
  clear hb1
  go_wp2_with fail
  refine (KL.out w1).mono ?_
  rintro r w2 ⟨rfl, hb2⟩
  replace hB := hB.trans (((Below.refl _ w1).alloc (Nat.le_refl _) _).trans (hb2.mono (by rw [World.size_alloc]; omega)) |>.mono hB.size)
  clear hb2
  go_wp2_with fail
  refine (near_at 5 3 2 2 near_532.symm w2).mono ?_
  rintro r w3 ⟨rfl, rfl⟩
  go_wp2_with fail
  go_ret
  exact ⟨rfl, hB⟩
end Go.Proofs.Ytmmpdalemifneaa
