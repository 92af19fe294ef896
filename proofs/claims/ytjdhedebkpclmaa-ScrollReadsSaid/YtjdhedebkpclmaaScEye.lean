/-
  scroll's Eye: what it holds in memory; its small calls.
-/
import Derived.Test.YtjdhedebkpclmaaRows
import Derived.Test.YtjdhedebkpclmaaMem
import Derived.Test.YtjdhedebkpclmaaScMath
import Derived.Deep.RegionHeld3
import Derived.Lib.QuietBelow
import Derived.Laws.IdiomStrings
import Derived.Laws.DeepStrings4
namespace Go.Proofs.Ytjdhedebkpclmaa
open Go.RowKit Mem Sc
/-- block b is an eye in this state -/
def EyeAt (w : World) (b : Nat) (e : Ey) : Prop := Has w b #[.string e.s, .bool e.bad] 61
theorem EyeAt.has {w : World} {b : Nat} {e : Ey} (h : EyeAt w b e) : Has w b #[.string e.s, .bool e.bad] 61 := h
theorem EyeAt.lt {w : World} {b : Nat} {e : Ey} (h : EyeAt w b e) : b < w.heap.size := Has.lt h
theorem EyeAt.c0 {w : World} {b : Nat} {e : Ey} (h : EyeAt w b e) : w.cell? ⟨b, 0, none⟩ = some (.string e.s) := h.has.cell 0
theorem EyeAt.c1 {w : World} {b : Nat} {e : Ey} (h : EyeAt w b e) : w.cell? ⟨b, 1, none⟩ = some (.bool e.bad) := h.has.cell 1
theorem EyeAt.below {w w' : World} {b B : Nat} {e : Ey} (h : EyeAt w b e) (hb : Below B w w') (hB : b < B) : EyeAt w' b e := below_has hb h hB
theorem EyeAt.on {w w' : World} {b : Nat} {e : Ey} (h : EyeAt w b e) (hb : Below w.heap.size w w') : EyeAt w' b e := below_has hb h h.lt
theorem EyeAt.grown {w w' : World} {b : Nat} {e : Ey} {r : Option Nat} (h : EyeAt w b e) (hg : w.grownBy w' r) (hn : some b ≠ r) : EyeAt w' b e := gb_has hg h hn
theorem EyeAt.set {w : World} {b : Nat} {e : Ey} (h : EyeAt w b e) (s : ByteArray) : EyeAt (w.setCell ⟨b, 0, none⟩ (.string s)) b ⟨s, e.bad⟩ := h.has.set _
set_option maxHeartbeats 400000 in
theorem nearer (n m : Int) (w : World) : Calls Try.prog 34 #[.int .i64 n, .int .i64 m] w fun e w' => e = .returned (.int .i64 (min (max n 1) m)) ∧ w = w' := by
  go_enter Try.func34, Try.ntmps34
  go_wp2_with fail
  all_goals
    go_ret
    exact ⟨congrArg (fun z => Ending.returned (.int .i64 z)) (by omega), rfl⟩
theorem near_at (n : Int) (most : Nat) (h : 1 ≤ most) (w : World) : Calls Try.prog 34 #[.int .i64 n, .int .i64 (most : Int)] w fun e w' => e = .returned (.int .i64 (near n most : Nat)) ∧ w = w' := by
  have := nearer n most w
  rwa [show min (max n 1) (most : Int) = ((near n most : Nat) : Int) by unfold near; omega] at this
set_option maxHeartbeats 400000 in
theorem bad_at (b : Nat) (e : Ey) (w : World) (h : EyeAt w b e) : Calls Try.prog 20 #[.pointer (some ⟨b, 0, none⟩)] w fun r w' => r = .returned (.bool e.bad) ∧ w = w' := by
  have c1 := h.c1
  go_enter Try.func20, Try.ntmps20
  go_wp2_with fail
  go_ret
  exact ⟨rfl, rfl⟩
set_option maxHeartbeats 400000 in
theorem bad_nil (w : World) : Calls Try.prog 20 #[.pointer none] w fun r w' => r = .returned (.bool true) ∧ w = w' := by
  go_enter Try.func20, Try.ntmps20
  go_wp2_with fail
  go_ret
  exact ⟨rfl, rfl⟩
set_option maxHeartbeats 400000 in
theorem left_at (b : Nat) (e : Ey) (w : World) (h : EyeAt w b e) : Calls Try.prog 21 #[.pointer (some ⟨b, 0, none⟩)] w fun r w' => r = .returned (.int .i64 (e.s.size : Int)) ∧ w = w' := by
  have c0 := h.c0
  go_enter Try.func21, Try.ntmps21
  go_wp2_with fail
  go_ret
  exact ⟨rfl, rfl⟩
set_option maxHeartbeats 400000 in
theorem left_nil (w : World) : Calls Try.prog 21 #[.pointer none] w fun r w' => r = .returned (.int .i64 0) ∧ w = w' := by
  go_enter Try.func21, Try.ntmps21
  go_wp2_with fail
  go_ret
  exact ⟨rfl, rfl⟩
set_option maxHeartbeats 400000 in
theorem done_at (b : Nat) (e : Ey) (w : World) (h : EyeAt w b e) (d : Bool) (hd : d = (!e.bad && decide (e.s.size = 0))) : Calls Try.prog 19 #[.pointer (some ⟨b, 0, none⟩)] w fun r w' => r = .returned (.bool d) ∧ w = w' := by
  have C1 := Lib.hid (bad_at b e w h)
  have C2 := Lib.hid (left_at b e w h)
  clear h
  subst hd
  obtain ⟨s, bd⟩ := e
  cases bd
  · by_cases hs : s.size = 0
    · have e1 : (((s.size : Nat) : Int) == 0) = true := by rw [beq_iff_eq]; omega
      have e2 : decide (s.size = 0) = true := by simpa using hs
      simp only [e2]
      clear e2 hs
      go_enter Try.func19, Try.ntmps19
      go_wp2_with fail
      refine C1.out.mono ?_
      rintro r w' ⟨rfl, rfl⟩
      go_wp2_with fail
      refine C2.out.mono ?_
      rintro r w' ⟨rfl, rfl⟩
      go_wp2_with fail
      go_ret
      exact ⟨rfl, rfl⟩
    · have e1 : (((s.size : Nat) : Int) == 0) = false := by rw [beq_eq_false_iff_ne]; omega
      have e2 : decide (s.size = 0) = false := by simpa using hs
      simp only [e2]
      clear e2 hs
      go_enter Try.func19, Try.ntmps19
      go_wp2_with fail
      refine C1.out.mono ?_
      rintro r w' ⟨rfl, rfl⟩
      go_wp2_with fail
      refine C2.out.mono ?_
      rintro r w' ⟨rfl, rfl⟩
      go_wp2_with fail
      go_ret
      exact ⟨rfl, rfl⟩
  · go_enter Try.func19, Try.ntmps19
    go_wp2_with fail
    refine C1.out.mono ?_
    rintro r w' ⟨rfl, rfl⟩
    go_wp2_with fail
    go_ret
    exact ⟨rfl, rfl⟩
set_option maxHeartbeats 400000 in
theorem done_nil (w : World) : Calls Try.prog 19 #[.pointer none] w fun r w' => r = .returned (.bool false) ∧ w = w' := by
  go_enter Try.func19, Try.ntmps19
  go_wp2_with fail
  refine (bad_nil w).mono ?_
  rintro r w' ⟨rfl, rfl⟩
  go_wp2_with fail
  go_ret
  exact ⟨rfl, rfl⟩
set_option maxHeartbeats 400000 in
theorem blind_at (b : Nat) (e : Ey) (w : World) (h : EyeAt w b e) : Calls Try.prog 25 #[.pointer (some ⟨b, 0, none⟩)] w fun r w' => r = .returned (.tuple #[]) ∧ EyeAt w' b dark ∧ w.grownBy w' (some b) := by
  have c0 := h.c0
  have c1 := h.c1
  have f0 := h.has.free 0
  have f1 := h.has.free 1
  go_enter Try.func25, Try.ntmps25
  go_wp2_with fail
  go_end0
  exact ⟨rfl, (h.has.set (i := 0) (.string ⟨#[]⟩)).set (i := 1) (.bool true), gb_setCell (gb_setCell (gb_refl _ _) 0 _) 1 _⟩
set_option maxHeartbeats 400000 in
theorem blind_nil (w : World) : Calls Try.prog 25 #[.pointer none] w fun r w' => r = .returned (.tuple #[]) ∧ w = w' := by
  go_enter Try.func25, Try.ntmps25
  go_wp2_with fail
  go_end0
  exact ⟨rfl, rfl⟩
set_option maxHeartbeats 400000 in
theorem on_ (s : ByteArray) (w : World) : Calls Try.prog 12 #[.string s] w fun r w' => r = .returned (.pointer (some ⟨w.heap.size, 0, none⟩)) ∧ EyeAt w' w.heap.size ⟨s, false⟩ ∧ Below w.heap.size w w' := by
  go_enter Try.func12, Try.ntmps12
  go_wp2_with fail
  go_ret
  exact ⟨rfl, Has.new _ _, (Below.refl _ _).alloc (Nat.le_refl _) _⟩
end Go.Proofs.Ytjdhedebkpclmaa
