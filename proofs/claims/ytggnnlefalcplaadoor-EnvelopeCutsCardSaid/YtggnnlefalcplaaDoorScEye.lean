/-
  scroll's Eye: what it holds in memory; its small calls.
-/
import Derived.Test.YtggnnlefalcplaaDoorRows
import Derived.Test.YtggnnlefalcplaaDoorMem
import Derived.Test.YtggnnlefalcplaaDoorScMath
import Derived.Deep.RegionHeld3
import Derived.Lib.QuietBelow
import Derived.Laws.IdiomStrings
import Derived.Laws.DeepStrings4
namespace Go.Proofs.YtggnnlefalcplaaDoor
open Go.RowKit Mem Sc
/-- block b is an eye in this state -/
def EyeAt (w : World) (b : Nat) (e : Ey) : Prop := Has w b #[.string e.s, .bool e.bad] 79
theorem EyeAt.has {w : World} {b : Nat} {e : Ey} (h : EyeAt w b e) : Has w b #[.string e.s, .bool e.bad] 79 := h
theorem EyeAt.lt {w : World} {b : Nat} {e : Ey} (h : EyeAt w b e) : b < w.heap.size := Has.lt h
theorem EyeAt.c0 {w : World} {b : Nat} {e : Ey} (h : EyeAt w b e) : w.cell? ⟨b, 0, none⟩ = some (.string e.s) := h.has.cell 0
theorem EyeAt.c1 {w : World} {b : Nat} {e : Ey} (h : EyeAt w b e) : w.cell? ⟨b, 1, none⟩ = some (.bool e.bad) := h.has.cell 1
theorem EyeAt.below {w w' : World} {b B : Nat} {e : Ey} (h : EyeAt w b e) (hb : Below B w w') (hB : b < B) : EyeAt w' b e := below_has hb h hB
theorem EyeAt.on {w w' : World} {b : Nat} {e : Ey} (h : EyeAt w b e) (hb : Below w.heap.size w w') : EyeAt w' b e := below_has hb h h.lt
theorem EyeAt.grown {w w' : World} {b : Nat} {e : Ey} {r : Option Nat} (h : EyeAt w b e) (hg : w.grownBy w' r) (hn : some b ≠ r) : EyeAt w' b e := gb_has hg h hn
theorem EyeAt.set {w : World} {b : Nat} {e : Ey} (h : EyeAt w b e) (s : ByteArray) : EyeAt (w.setCell ⟨b, 0, none⟩ (.string s)) b ⟨s, e.bad⟩ := h.has.set _
set_option maxHeartbeats 400000 in
theorem nearer (n m : Int) (w : World) : Calls Tryd.prog 32 #[.int .i64 n, .int .i64 m] w fun e w' => e = .returned (.int .i64 (min (max n 1) m)) ∧ w = w' := by
  go_enter Tryd.func32, Tryd.ntmps32
  go_wp2_with fail
  all_goals
    go_ret
    exact ⟨congrArg (fun z => Ending.returned (.int .i64 z)) (by omega), rfl⟩
theorem near_at (n : Int) (most : Nat) (h : 1 ≤ most) (w : World) : Calls Tryd.prog 32 #[.int .i64 n, .int .i64 (most : Int)] w fun e w' => e = .returned (.int .i64 (near n most : Nat)) ∧ w = w' := by
  have := nearer n most w
  rwa [show min (max n 1) (most : Int) = ((near n most : Nat) : Int) by unfold near; omega] at this
set_option maxHeartbeats 400000 in
theorem bad_at (b : Nat) (e : Ey) (w : World) (h : EyeAt w b e) : Calls Tryd.prog 25 #[.pointer (some ⟨b, 0, none⟩)] w fun r w' => r = .returned (.bool e.bad) ∧ w = w' := by
  have c1 := h.c1
  go_enter Tryd.func25, Tryd.ntmps25
  go_wp2_with fail
  go_ret
  exact ⟨rfl, rfl⟩
set_option maxHeartbeats 400000 in
theorem bad_nil (w : World) : Calls Tryd.prog 25 #[.pointer none] w fun r w' => r = .returned (.bool true) ∧ w = w' := by
  go_enter Tryd.func25, Tryd.ntmps25
  go_wp2_with fail
  go_ret
  exact ⟨rfl, rfl⟩
set_option maxHeartbeats 400000 in
theorem blind_at (b : Nat) (e : Ey) (w : World) (h : EyeAt w b e) : Calls Tryd.prog 46 #[.pointer (some ⟨b, 0, none⟩)] w fun r w' => r = .returned (.tuple #[]) ∧ EyeAt w' b dark ∧ w.grownBy w' (some b) := by
  have c0 := h.c0
  have c1 := h.c1
  have f0 := h.has.free 0
  have f1 := h.has.free 1
  go_enter Tryd.func46, Tryd.ntmps46
  go_wp2_with fail
  go_end0
  exact ⟨rfl, (h.has.set (i := 0) (.string ⟨#[]⟩)).set (i := 1) (.bool true), gb_setCell (gb_setCell (gb_refl _ _) 0 _) 1 _⟩
set_option maxHeartbeats 400000 in
theorem blind_nil (w : World) : Calls Tryd.prog 46 #[.pointer none] w fun r w' => r = .returned (.tuple #[]) ∧ w = w' := by
  go_enter Tryd.func46, Tryd.ntmps46
  go_wp2_with fail
  go_end0
  exact ⟨rfl, rfl⟩
set_option maxHeartbeats 400000 in
theorem on_ (s : ByteArray) (w : World) : Calls Tryd.prog 23 #[.string s] w fun r w' => r = .returned (.pointer (some ⟨w.heap.size, 0, none⟩)) ∧ EyeAt w' w.heap.size ⟨s, false⟩ ∧ Below w.heap.size w w' := by
  go_enter Tryd.func23, Tryd.ntmps23
  go_wp2_with fail
  go_ret
  exact ⟨rfl, Has.new _ _, (Below.refl _ _).alloc (Nat.le_refl _) _⟩
end Go.Proofs.YtggnnlefalcplaaDoor
