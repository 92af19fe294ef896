/-
  DigestParses: the walk.
-/
import Derived.Test.YteachheacllblaaDoorLawDigShows
namespace Go.Proofs.YteachheacllblaaDoor
open Go.RowKit Mem Sha
theorem str_of (s : ByteArray) (l : List UInt8) (h : l = s.data.toList) : str l = s := by
  subst h
  simp [str]
theorem eql_gz {ops : Array Oper} {rest : List Oper} {o : Oper} {a : Act} {w : World} {Q : Exit → Act → World → Prop} (hw : Region.wanted o (yielded ops a.tmps) = true) (t' : TypeId) (x y : Operand) (ho : o.op = .binOp .eql 24 x y t') (xs ys xs' ys' : Array Value) (v : Value) (hx : a.eval x = .agg xs) (hy : a.eval y = .agg ys) (ex : xs = xs') (ey : ys = ys')
    (hq : ∀ w, (binOp .eql 24 (.agg xs') (.agg ys')).run Tryd.prog w = .ok v w) (h : wpList Tryd.prog ops Q rest (a.put o.dst v) w) : wpList Tryd.prog ops Q (o :: rest) a w := by
  subst ex ey
  exact eql_g hw t' x y ho xs ys v hx hy hq h
theorem eql_zero32 (w : World) : (binOp .eql 24 (.agg hz32) (.agg hz32)).run Tryd.prog w = .ok (.bool true) w := by
  have := eql_self (List.replicate 32 0) (by simp) w
  rwa [hz32_list] at this
set_option maxRecDepth 100000 in
set_option maxHeartbeats 2000000 in
theorem parses_long (s : ByteArray) (w : World) (hT : Tab w) (hs : 100 < s.size) :
    Calls Tryd.prog 6 #[.string s] w fun e w' => e = .returned (.bool true) ∧ Below w.heap.size w w' := by
  go_enter Tryd.func6, Tryd.ntmps6
  go_wp2_with fail
  refine (alive w hT).mono ?_
  rintro e w1 ⟨rfl, hb1⟩
  go_wp2_with fail
  go_ret
  exact ⟨rfl, hb1⟩
set_option maxRecDepth 100000 in
set_option maxHeartbeats 2000000 in
theorem parses_short (s : ByteArray) (w : World) (hT : Tab w) (hs : ¬ 100 < s.size) :
    Calls Tryd.prog 6 #[.string s] w fun e w' => e = .returned (.bool true) ∧ Below w.heap.size w w' := by
  have K1 := Lib.hid (parse s)
  have h32 := hz32_size
  go_enter Tryd.func6, Tryd.ntmps6
  go_wp2_with fail
  refine (alive w hT).mono ?_
  rintro e w1 ⟨rfl, hb1⟩
  go_wp2_with fail
  refine (K1.out _).mono ?_
  rintro e w2 ⟨⟨l, c, rfl, hl, hP⟩, hb2⟩
  replace hb1 := hb1.trans (hb2.mono hb1.size)
  clear hb2
  have hz := hz32_new w2 24
  have hV : (bytesV l).size = 32 := by rw [bytesV_size, hl]
  have HO := Lib.hid (bytesV_one l)
  rcases hP with ⟨rfl, _, hd⟩ | ⟨rfl, rfl, _⟩
  · have K2 := Lib.hid (ref_show l hl)
    rw [str_of s _ hd] at K2
    clear hd hl
    generalize bytesV l = V at *
    go_upto_region 6 with (with_reducible refine h_store rfl _ _ rfl _ _ V rfl rfl rfl hV HO.out hz32 hz h32 ?_)
    generalize hw5 : World.setRow _ _ _ = w5
    have hb5 : Below w2.heap.size w2 w5 := by rw [← hw5]; exact below_setRow ((Below.refl _ _).alloc (Nat.le_refl _) _) (Nat.le_refl _) _
    have hX : Has w5 w2.heap.size V 24 := by rw [← hw5]; exact hz.row _
    replace hb1 := hb1.trans (hb5.mono hb1.size)
    clear hw5 hb5 hz h32
    generalize w2.heap.size = X at *
    go_wp2_with (with_reducible refine h_load_g (by with_unfolding_all rfl) _ rfl _ rfl V hX hV ?_)
    refine (K2.out _).mono ?_
    rintro e w6 ⟨rfl, hb6⟩
    replace hb1 := hb1.trans (hb6.mono hb1.size)
    go_wp2_with fail
    go_ret
    exact ⟨rfl, hb1⟩
  · rw [hz32_list] at *
    have H1 := Lib.hid hz32_one
    have q1 := eql_zero32
    go_upto_region 6 with (with_reducible refine h_store rfl _ _ rfl _ _ hz32 rfl rfl rfl h32 H1.out hz32 hz h32 ?_)
    generalize hw5 : World.setRow _ _ _ = w5
    have hb5 : Below w2.heap.size w2 w5 := by rw [← hw5]; exact below_setRow ((Below.refl _ _).alloc (Nat.le_refl _) _) (Nat.le_refl _) _
    have hX : Has w5 w2.heap.size hz32 24 := by rw [← hw5]; exact hz.row _
    replace hb1 := hb1.trans (hb5.mono hb1.size)
    clear hw5 hb5 hz
    generalize w2.heap.size = X at *
    go_wp2_with (first | (with_reducible refine h_load_g (by with_unfolding_all rfl) _ rfl _ rfl hz32 hX h32 ?_) | (with_reducible refine eql_gz (by with_unfolding_all rfl) _ _ _ rfl _ _ _ _ _ rfl rfl rfl hz32_lit q1 ?_))
    go_ret
    exact ⟨rfl, hb1⟩
theorem parses_walk (s : ByteArray) (w : World) (hT : Tab w) :
    Calls Tryd.prog 6 #[.string s] w fun e w' => e = .returned (.bool true) ∧ Below w.heap.size w w' := by
  by_cases hs : 100 < s.size
  · exact parses_long s w hT hs
  · exact parses_short s w hT hs
end Go.Proofs.YteachheacllblaaDoor
