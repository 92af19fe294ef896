/-
  DigestShows: the walk.
-/
import Derived.Test.YteachheacllblaaDoorDigParse
import Derived.Test.YteachheacllblaaDoorDigShow
import Derived.Test.YteachheacllblaaDoorLawDigIs
namespace Go.Proofs.YteachheacllblaaDoor
open Go.RowKit Mem Sha
/-- a name is loaded whole in a region that draws its order -/
theorem quiet_load_h {C : World → Prop} {a : Act} {o : Oper} {K : Act → Prop} (x : Operand) (ho : o.op = .load 24 x) (g : Nat) (hx : a.eval x = .pointer (some ⟨g, 0, none⟩)) (cs : Array Value) (hs : cs.size = 32) (hC : ∀ w', C w' → Has w' g cs 24)
    (hk : K (a.put o.dst (.agg cs))) : o.quiet Tryd.prog a C K :=
  ⟨_, fun w' hw' => by
    unfold Oper.quietAt
    have hl : (loadVar 24 ⟨g, 0, none⟩).run Tryd.prog w' = .ok (.agg cs) w' := run_loadVar_row w' g 24 24 cs (0, 0) _ (hC w' hw').out Tryd.underlying24 rfl (infoHash.trans (by rw [hs]))
    have : (execOp a.eval o).run Tryd.prog w' = .ok (.value (.agg cs)) w' := by
      unfold execOp
      simp only [ho, hx, Instr.loadAt, Instr.sureAddr, Sem.run_bind, Sem.run_pure, Result.andThen_ok, hl]
    rw [this]
    exact ⟨rfl, rfl⟩, hk⟩
theorem h_load_g {w : World} {ops : Array Oper} {rest : List Oper} {o : Oper} {a : Act} {Q : Exit → Act → World → Prop} (hw : Region.wanted o (yielded ops a.tmps) = true) (x : Operand) (ho : o.op = .load 24 x) (g : Nat) (hx : a.eval x = .pointer (some ⟨g, 0, none⟩)) (cs : Array Value) (hg : Has w g cs 24) (hs : cs.size = 32)
    (h : wpList Tryd.prog ops Q rest (a.put o.dst (.agg cs)) w) : wpList Tryd.prog ops Q (o :: rest) a w :=
  BigFrame.wpList_want hw fun _ hK => wp_load_row 24 x ho g hx 24 cs (0, 0) _ hg.out Tryd.underlying24 rfl (infoHash.trans (by rw [hs])) (hK _ _ h)
theorem Has.cls {w : World} {b : Nat} {cs : Array Value} {t : TypeId} (h : Has w b cs t) : ∀ w', (∃ p : Regrown, w' = Sort.grow (redrawn w p.d) p.os) → Has w' b cs t := by
  rintro w' ⟨p, rfl⟩
  exact below_has (below_regrown _ _ _) h h.lt
theorem str_list (l : List UInt8) : (str l).data.toList = l := by simp [str]
theorem parse_digs (l : List UInt8) (hl : l.length = 32) (w : World) :
    Calls Tryd.prog 17 #[.string (str (digs l 32))] w fun e w' => e = .returned (.tuple #[.agg (bytesV l), .int .i64 0]) ∧ Below w.heap.size w w' :=
  (parse (str (digs l 32)) w).mono fun e w' ⟨⟨l', c, he, hl', hP⟩, hb⟩ => ⟨by
    rw [str_list] at hP
    rcases hP with ⟨rfl, _, hd⟩ | ⟨_, _, hn⟩
    · rw [he, digs_inj hl' hl hd]
    · exact absurd rfl (hn l), hb⟩
structure H1 (w wr : World) (A : Nat) (V : Array Value) : Prop where
  below : Below w.heap.size w wr
  a : Has wr A V 24
theorem H1.on {w wr w' : World} {A : Nat} {V : Array Value} (h : H1 w wr A V) (hb : Below wr.heap.size wr w') : H1 w w' A V := ⟨h.below.trans (hb.mono h.below.size), below_has hb h.a h.a.lt⟩
set_option maxRecDepth 100000 in
set_option maxHeartbeats 2000000 in
theorem shows_walk (l : List UInt8) (hl : l.length = 32) (w : World) (hT : Tab w) :
    Calls Tryd.prog 5 #[.agg (bytesV l)] w fun e w' => e = .returned (.bool true) ∧ Below w.heap.size w w' := by
  have c1 := show_ l hl
  rw [digsFrom_all] at c1
  have c2 := parse_digs l hl
  have c3 := ref_show l hl
  have q1 := eql_self l hl
  have hV : (bytesV l).size = 32 := by rw [bytesV_size, hl]
  have K1 := Lib.hid c1
  have K2 := Lib.hid c2
  have K3 := Lib.hid c3
  have HO := Lib.hid (bytesV_one l)
  clear c1 c2 c3 hl
  generalize str (digs l 32) = S at *
  generalize bytesV l = V at *
  go_enter Tryd.func5, Tryd.ntmps5
  go_upto_region 1 with fail
  generalize hw1 : World.alloc _ _ = w1
  have h0 : H1 w w1 w.heap.size V := by rw [← hw1]; exact ⟨(Below.refl _ _).alloc (Nat.le_refl _) _, Has.new _ _⟩
  clear hw1
  go_wp2_with fail
  refine (alive w1 (hT.below h0.below)).mono ?_
  rintro e w2 ⟨rfl, hb2⟩
  replace h0 := h0.on hb2
  clear hb2
  go_wp2_with (with_reducible refine h_load rfl _ rfl _ rfl V h0.a hV ?_)
  refine (K1.out _).mono ?_
  rintro e w3 ⟨rfl, hb3⟩
  replace h0 := h0.on hb3
  clear hb3
  go_wp2_with fail
  refine (K2.out _).mono ?_
  rintro e w4 ⟨rfl, hb4⟩
  replace h0 := h0.on hb4
  clear hb4
  have hz := hz32_new w4 24
  have h32 := hz32_size
  go_upto_region 5 with (with_reducible refine h_store rfl _ _ rfl _ _ V rfl rfl rfl hV HO.out hz32 hz h32 ?_)
  generalize hw5 : World.setRow _ _ _ = w5
  have hb5 : Below w4.heap.size w4 w5 := by rw [← hw5]; exact below_setRow ((Below.refl _ _).alloc (Nat.le_refl _) _) (Nat.le_refl _) _
  have hX : Has w5 w4.heap.size V 24 := by rw [← hw5]; exact hz.row _
  replace h0 := h0.on hb5
  clear hw5 hb5 hz h32
  generalize w4.heap.size = X at *
  go_wp2_with (first | fail | (with_reducible refine h_load rfl _ rfl _ rfl V h0.a hV ?_))
  refine (K3.out _).mono ?_
  rintro e w6 ⟨rfl, hb6⟩
  have hX2 := below_has hb6 hX hX.lt
  replace h0 := h0.on hb6
  clear hb6 hX
  go_wp2_with (first | (with_reducible refine h_load_g (by with_unfolding_all rfl) _ rfl _ rfl V hX2 hV ?_) | (with_reducible refine h_load_g (by with_unfolding_all rfl) _ rfl _ rfl V h0.a hV ?_) | (with_reducible refine eql_g (by with_unfolding_all rfl) _ _ _ rfl _ _ _ rfl rfl q1 ?_))
  go_ret
  exact ⟨rfl, h0.below⟩
end Go.Proofs.YteachheacllblaaDoor
