/-
  EnvelopeTakes: the walk.
-/
import Derived.Test.YtggnnlefalcplaaDoorEvAlive
namespace Go.Proofs.YtggnnlefalcplaaDoor
open Go.RowKit Mem Sc Sha
set_option maxRecDepth 100000 in
set_option maxHeartbeats 1000000 in
theorem takes_long (s : ByteArray) (hs : 4096 < s.size) (w : World) (hT : Tab w) : Calls Tryd.prog 4 #[.string s] w fun r w' => r = .returned (.bool true) ∧ Below w.heap.size w w' := by
  have t1 : decide ((4096 : Int) < (s.size : Int)) = true := decide_eq_true (by omega)
  clear hs
  go_enter Tryd.func4, Tryd.ntmps4
  go_wp2_with fail
  refine (ealive w hT).mono ?_
  rintro r w1 ⟨rfl, hB⟩
  go_wp2_with fail
  go_ret
  exact ⟨rfl, hB⟩
set_option maxRecDepth 100000 in
set_option maxHeartbeats 1000000 in
theorem takes_short (l : List UInt8) (hs : l.length ≤ 4096) (w : World) (hT : Tab w) : Calls Tryd.prog 4 #[.string (txt l)] w fun r w' => r = .returned (.bool true) ∧ Below w.heap.size w w' := by
  have hz := txt_size l
  have t1 : decide ((4096 : Int) < ((txt l).size : Int)) = false := decide_eq_false (by omega)
  have K1 := Lib.hid (fun w hT => etake_at l (by omega) w hT)
  have K2 := Lib.hid (fun w => rtake_at l (by omega) w)
  obtain ⟨x, hx⟩ : ∃ x : Ev, x = ⟨(tk l).w, (tk l).p⟩ := ⟨_, rfl⟩
  rw [← hx] at K1
  rw [show (tk l).w = x.w by rw [hx], show (tk l).p = x.p by rw [hx]] at K2
  have qx : ∀ w, (binOp .eql 23 (.agg (evA x)) (.agg #[.string x.w, .string x.p])).run Tryd.prog w = .ok (.bool true) w := ev_eql x x true (decide_eq_true rfl)
  clear hx hz hs
  generalize (tk l).n = n at *
  generalize (tk l).e = e at *
  generalize txt l = s at *
  go_enter Tryd.func4, Tryd.ntmps4
  go_wp2_with fail
  refine (ealive w hT).mono ?_
  rintro r w1 ⟨rfl, hB⟩
  go_wp2_with fail
  refine (K1.out w1 (hT.below hB)).mono ?_
  rintro r w2 ⟨rfl, hb2⟩
  replace hB := hB.trans (hb2.mono hB.size)
  have hZ := ev_newz w2
  go_upto_region 6 with (with_reducible refine ev_store rfl _ _ rfl _ _ x rfl rfl rfl hZ ?_)
  have hX : EvAt ((w2.alloc (.cells #[.string ⟨#[]⟩, .string ⟨#[]⟩] 23)).setRow w2.heap.size (evA x)) w2.heap.size x := Has.row hZ _
  replace hB := below_setRow (hB.alloc hB.size (.cells #[.string ⟨#[]⟩, .string ⟨#[]⟩] 23)) hB.size (evA x)
  clear hZ hb2 K1
  generalize World.setRow _ _ _ = w3 at *
  generalize w2.heap.size = X at *
  go_wp2_with fail
  refine (K2.out w3).mono ?_
  rintro r w4 ⟨rfl, hb4⟩
  replace hX := hX.on hb4
  replace hB := hB.trans (hb4.mono hB.size)
  clear hb4 K2
  go_wp2_with (first
    | (with_reducible refine ev_load rfl _ rfl X rfl hX ?_)
    | (with_reducible refine eveql_f rfl _ _ _ rfl _ _ _ rfl rfl qx ?_))
  go_ret
  exact ⟨rfl, hB⟩
theorem takes_walk (s : ByteArray) (w : World) (hT : Tab w) : Calls Tryd.prog 4 #[.string s] w fun r w' => r = .returned (.bool true) ∧ Below w.heap.size w w' := by
  by_cases h : 4096 < s.size
  · exact takes_long s h w hT
  · have := takes_short s.data.toList (by rw [← Lib.size_eq]; omega) w hT
    rwa [txt_of] at this
end Go.Proofs.YtggnnlefalcplaaDoor
