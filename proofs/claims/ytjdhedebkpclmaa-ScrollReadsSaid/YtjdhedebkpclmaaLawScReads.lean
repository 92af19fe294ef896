/-
  ScrollReads: the walk.
-/
import Derived.Test.YtjdhedebkpclmaaLawScReadsW0
import Derived.Test.YtjdhedebkpclmaaLawScReadsW1
import Derived.Test.YtjdhedebkpclmaaLawScReadsW2
import Derived.Test.YtjdhedebkpclmaaLawScReadsW3
import Derived.Test.YtjdhedebkpclmaaLawScReadsW4
namespace Go.Proofs.Ytjdhedebkpclmaa
open Go.RowKit Mem Sc
theorem reads_in (s0 : ByteArray) (a : Option Addr) (its : List It) (n c : Nat) (hn : n = its.length) (h : greatB its = false) (hs : s0.size ≤ 4096) (w : World) (hA : ItemsAt w a its) :
    Calls Try.prog 4 #[.string s0, .slice a n c] w fun r w' => r = .returned (.bool true) ∧ Below w.heap.size w w' :=
  reads_cut.2.2.2.2.2 (Lib.hid reads_way0) (Lib.hid reads_way1) (Lib.hid reads_way2) (Lib.hid reads_way3) (Lib.hid reads_way4) s0 a its n c hn h hs w hA
set_option maxRecDepth 100000 in
set_option maxHeartbeats 1000000 in
theorem reads_out (s : ByteArray) (a : Option Addr) (its : List It) (n c : Nat) (hn : n = its.length) (hl : n ≤ 4611686018427387904) (h : greatB its = true) (w : World) (hA : ItemsAt w a its) :
    Calls Try.prog 4 #[.string s, .slice a n c] w fun r w' => r = .returned (.bool true) ∧ Below w.heap.size w w' := by
  have GA := Lib.hid (fun w h' => great_at a its n c hn hl w h' true h.symm)
  have HA := Lib.hid hA
  clear hA hn h
  go_enter Try.func4, Try.ntmps4
  go_wp2_with fail
  refine (salive w).mono ?_
  rintro r w1 ⟨rfl, hb⟩
  go_wp2_with fail
  refine (GA.out _ (HA.out.below hb)).mono ?_
  rintro r w2 ⟨rfl, hb2⟩
  replace hb := hb.trans (hb2.mono hb.size)
  go_wp2_with fail
  go_ret
  exact ⟨rfl, hb⟩
set_option maxRecDepth 100000 in
set_option maxHeartbeats 1000000 in
theorem reads_long (s : ByteArray) (a : Option Addr) (its : List It) (n c : Nat) (hn : n = its.length) (hl : n ≤ 4611686018427387904) (h : greatB its = false) (hs : 4096 < s.size) (w : World) (hA : ItemsAt w a its) :
    Calls Try.prog 4 #[.string s, .slice a n c] w fun r w' => r = .returned (.bool true) ∧ Below w.heap.size w w' := by
  have GA := Lib.hid (fun w h' => great_at a its n c hn hl w h' false h.symm)
  have HA := Lib.hid hA
  have td : decide ((4096 : Int) < (s.size : Int)) = true := decide_eq_true (by omega)
  clear hA hn h hs
  go_enter Try.func4, Try.ntmps4
  go_wp2_with fail
  refine (salive w).mono ?_
  rintro r w1 ⟨rfl, hb⟩
  go_wp2_with fail
  refine (GA.out _ (HA.out.below hb)).mono ?_
  rintro r w2 ⟨rfl, hb2⟩
  replace hb := hb.trans (hb2.mono hb.size)
  go_wp2_with fail
  go_ret
  exact ⟨rfl, hb⟩
theorem reads_walk (s : ByteArray) (a : Option Addr) (its : List It) (n c : Nat) (hn : n = its.length) (hl : n ≤ 4611686018427387904) (w : World) (hA : ItemsAt w a its) :
    Calls Try.prog 4 #[.string s, .slice a n c] w fun r w' => r = .returned (.bool true) ∧ Below w.heap.size w w' := by
  cases h : greatB its
  · by_cases hs : 4096 < s.size
    · exact reads_long s a its n c hn hl h hs w hA
    · exact reads_in s a its n c hn h (by omega) w hA
  · exact reads_out s a its n c hn hl h w hA
end Go.Proofs.Ytjdhedebkpclmaa
