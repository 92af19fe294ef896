/-
  Texts of this seat, one behind the other.
-/
import Derived.Test.YteblphnpealefaaBunQ19
import Derived.Test.YteblphnpealefaaZSpOpen
/-
  Rows over what is ours, scripts of calls, picks: the arguments opened.
-/
namespace Go.Proofs.Yteblphnpealefaa.An
open Go.ChangeShapes Go.WideShapes Go.RowKit Go.Deep Mem Sc
set_option maxRecDepth 100000
theorem cellsMsgC : Try.prog.cellsOf 39 = 39 := by kernel_rfl
theorem cellsCall : Try.prog.cellsOf 41 = 42 := by kernel_rfl
theorem cellsOwn : Try.prog.cellsOf 23 = 4 := by kernel_rfl
theorem cellsBoolC : Try.prog.cellsOf 4 = 1 := by kernel_rfl
/-- a call of a script: what it is, the message, two numbers -/
structure Cl where
  kind : Int
  m : Mm
  n : Int
  now : Int
def clC (y : Cl) : List Value := .int .i64 y.kind :: (mmC y.m ++ [.int .i64 y.n, .int .i64 y.now])
theorem range_below {w w' : World} {b off : Nat} {cs : List Value} (h : w.rangeAt b off cs) (hb : Below w.heap.size w w') (hlt : b < w.heap.size) : w'.rangeAt b off cs := fun j u hu => (World.cell?_of_block (hb.block b hlt)).trans (h j u hu)
def CallsAt (w : World) (a : Option Addr) (cs : List Cl) : Prop :=
  0 < cs.length → ∃ ab ao, a = some ⟨ab, ao, none⟩ ∧ ab < w.heap.size ∧ ∀ i y, cs[i]? = some y → y.m.ok ∧ w.rangeAt ab (ao + i * 42) (clC y)
theorem CallsAt.below {w w' : World} {a : Option Addr} {cs : List Cl} (h : CallsAt w a cs) (hb : Below w.heap.size w w') : CallsAt w' a cs := fun h0 => by
  obtain ⟨ab, ao, ha, hl, hc⟩ := h h0
  exact ⟨ab, ao, ha, Nat.lt_of_lt_of_le hl hb.size, fun i y hi => ⟨(hc i y hi).1, range_below (hc i y hi).2 hb hl⟩⟩
/-- picks -/
def PicksAt (w : World) (a : Option Addr) (l : List Bool) : Prop :=
  0 < l.length → ∃ ab ao, a = some ⟨ab, ao, none⟩ ∧ ab < w.heap.size ∧ ∀ i y, l[i]? = some y → w.cell? ⟨ab, ao + i, none⟩ = some (.bool y)
theorem PicksAt.below {w w' : World} {a : Option Addr} {l : List Bool} (h : PicksAt w a l) (hb : Below w.heap.size w w') : PicksAt w' a l := fun h0 => by
  obtain ⟨ab, ao, ha, hl, hc⟩ := h h0
  exact ⟨ab, ao, ha, Nat.lt_of_lt_of_le hl hb.size, fun i y hi => (World.cell?_of_block (a := ⟨ab, ao + i, none⟩) (hb.block ab hl)).trans (hc i y hi)⟩
section
variable {H : Type} {enc : TypeId × Value → H} {W : World} {fuel : Nat} {cs : List Value}
theorem cells_any {t e : TypeId} {x : DataW H × List MemPlace} (ht : Try.prog.underlying t = some (.slice e)) (hf : DataW.trod enc Try.prog W 0 (fun _ => true) true fuel t cs = some x) : ∃ (a : Option Addr) (n c : Nat), cs = [.slice a n c] := by
  rcases open_slice ht hf with ⟨hcs, _⟩ | ⟨a, len, cap, _, _, _, _, hcs, _⟩
  · exact ⟨none, 0, 0, hcs⟩
  · exact ⟨some a, len, cap, hcs⟩
theorem cells_mm {d : DataW H} {p : List MemPlace} (hf : DataW.trod enc Try.prog W 0 (fun _ => true) true fuel 39 cs = some (d, p)) : ∃ m : Mm, cs = mmC m ∧ m.ok := by
  obtain ⟨xs, m, _, hd, hl, hxl, hel⟩ := DataW.trod_struct Try.underlying39 hf
  rw [cellsMsgC] at hl
  have hx8 : xs.length = 8 := hxl
  have f0 : DataW.trod enc Try.prog W 0 (fun _ => true) true m 3 ((cs.drop 0).take (Try.prog.cellsOf 3)) = xs[0]? := hel 0 _ rfl
  have f1 : DataW.trod enc Try.prog W 0 (fun _ => true) true m 3 ((cs.drop 1).take (Try.prog.cellsOf 3)) = xs[1]? := hel 1 _ rfl
  have f2 : DataW.trod enc Try.prog W 0 (fun _ => true) true m 3 ((cs.drop 2).take (Try.prog.cellsOf 3)) = xs[2]? := hel 2 _ rfl
  have f3 : DataW.trod enc Try.prog W 0 (fun _ => true) true m 3 ((cs.drop 3).take (Try.prog.cellsOf 3)) = xs[3]? := hel 3 _ rfl
  have f4 : DataW.trod enc Try.prog W 0 (fun _ => true) true m 3 ((cs.drop 4).take (Try.prog.cellsOf 3)) = xs[4]? := hel 4 _ rfl
  have f5 : DataW.trod enc Try.prog W 0 (fun _ => true) true m 34 ((cs.drop 5).take (Try.prog.cellsOf 34)) = xs[5]? := hel 5 _ rfl
  have f6 : DataW.trod enc Try.prog W 0 (fun _ => true) true m 36 ((cs.drop 6).take (Try.prog.cellsOf 36)) = xs[6]? := hel 6 _ rfl
  have f7 : DataW.trod enc Try.prog W 0 (fun _ => true) true m 37 ((cs.drop 38).take (Try.prog.cellsOf 37)) = xs[7]? := hel 7 _ rfl
  simp only [cellsInt, cellsHash, cellsHs, cellsHds] at f0 f1 f2 f3 f4 f5 f6 f7
  rw [List.getElem?_eq_getElem (by omega)] at f0 f1 f2 f3 f4 f5 f6 f7
  obtain ⟨k, e0, _, _⟩ := DataW.trod_int Try.underlying3 f0
  obtain ⟨ve, e1, _, _⟩ := DataW.trod_int Try.underlying3 f1
  obtain ⟨se, e2, _, _⟩ := DataW.trod_int Try.underlying3 f2
  obtain ⟨he, e3, _, _⟩ := DataW.trod_int Try.underlying3 f3
  obtain ⟨nb, e4, _, _⟩ := DataW.trod_int Try.underlying3 f4
  obtain ⟨na, nn, nc, e5⟩ := cells_any Try.underlying34 f5
  obtain ⟨st, hst, e6⟩ := cells_name f6 (by simp; omega)
  obtain ⟨ga, gn, gc, e7⟩ := cells_any Try.underlying37 f7
  refine ⟨⟨k, ve, se, he, nb, ⟨na, nn, nc⟩, st, ⟨ga, gn, gc⟩⟩, ?_, hst⟩
  have c0 := drop_cut cs 0 1
  have c1 := drop_cut cs 1 1
  have c2 := drop_cut cs 2 1
  have c3 := drop_cut cs 3 1
  have c4 := drop_cut cs 4 1
  have c5 := drop_cut cs 5 1
  have c6 := drop_cut cs 6 32
  have c7 := drop_cut cs 38 1
  have c8 : cs.drop 39 = [] := List.drop_eq_nil_of_le (by omega)
  rw [e7, c8] at c7
  rw [e6, c7] at c6
  rw [e5, c6] at c5
  rw [e4, c5] at c4
  rw [e3, c4] at c3
  rw [e2, c3] at c2
  rw [e1, c2] at c1
  rw [e0, c1, List.drop_zero] at c0
  rw [c0]
  rfl
theorem cells_call {d : DataW H} {p : List MemPlace} (hf : DataW.trod enc Try.prog W 0 (fun _ => true) true fuel 41 cs = some (d, p)) : ∃ y : Cl, cs = clC y ∧ y.m.ok := by
  obtain ⟨xs, m, _, hd, hl, hxl, hel⟩ := DataW.trod_struct Try.underlying41 hf
  rw [cellsCall] at hl
  have hx4 : xs.length = 4 := hxl
  have f0 : DataW.trod enc Try.prog W 0 (fun _ => true) true m 3 ((cs.drop 0).take (Try.prog.cellsOf 3)) = xs[0]? := hel 0 _ rfl
  have f1 : DataW.trod enc Try.prog W 0 (fun _ => true) true m 39 ((cs.drop 1).take (Try.prog.cellsOf 39)) = xs[1]? := hel 1 _ rfl
  have f2 : DataW.trod enc Try.prog W 0 (fun _ => true) true m 3 ((cs.drop 40).take (Try.prog.cellsOf 3)) = xs[2]? := hel 2 _ rfl
  have f3 : DataW.trod enc Try.prog W 0 (fun _ => true) true m 3 ((cs.drop 41).take (Try.prog.cellsOf 3)) = xs[3]? := hel 3 _ rfl
  simp only [cellsInt, cellsMsgC] at f0 f1 f2 f3
  rw [List.getElem?_eq_getElem (by omega)] at f0 f1 f2 f3
  obtain ⟨k, e0, _, _⟩ := DataW.trod_int Try.underlying3 f0
  obtain ⟨mm, e1, ho⟩ := cells_mm (d := (xs[1]'(by omega)).1) (p := (xs[1]'(by omega)).2) f1
  obtain ⟨n, e2, _, _⟩ := DataW.trod_int Try.underlying3 f2
  obtain ⟨now, e3, _, _⟩ := DataW.trod_int Try.underlying3 f3
  refine ⟨⟨k, mm, n, now⟩, ?_, ho⟩
  have c0 := drop_cut cs 0 1
  have c1 := drop_cut cs 1 39
  have c2 := drop_cut cs 40 1
  have c3 := drop_cut cs 41 1
  have c4 : cs.drop 42 = [] := List.drop_eq_nil_of_le (by omega)
  rw [e3, c4] at c3
  rw [e2, c3] at c2
  rw [e1, c2] at c1
  rw [e0, c1, List.drop_zero] at c0
  rw [c0]
  rfl
theorem open_calls {r : Reach} {b0 : Nat} {v : Value} {d : DataW H} {p : List MemPlace} (hv : Value.okWide Try.prog W r b0 24 v) (hd : DataW.Trod enc Try.prog W 0 (fun _ => true) true 24 v d p) :
    ∃ (a : Option Addr) (cs : List Cl) (n c : Nat), v = .slice a n c ∧ n = cs.length ∧ n < 9223372036854775808 ∧ CallsAt W a cs := by
  obtain ⟨a0, len, cap, rfl⟩ := okWide_slice Try.underlying24 hv
  obtain ⟨fuel, hf⟩ := hd
  rcases open_slice Try.underlying24 hf with ⟨hcs, hx⟩ | ⟨a, len', cap', m, q, D, Pl, hcs, _, hl, hcm, hm, hx, hel⟩
  · simp [Value.cells] at hcs
    obtain ⟨rfl, rfl, rfl⟩ := hcs
    exact ⟨none, [], 0, 0, rfl, rfl, by omega, fun h => absurd h (by simp)⟩
  · simp [Value.cells] at hcs
    obtain ⟨rfl, rfl, rfl⟩ := hcs
    simp only [if_true] at hm
    subst hm
    rw [cellsCall] at hel
    haveI : Inhabited Cl := ⟨⟨0, mmZ 0, 0, 0⟩⟩
    obtain ⟨f, hfn⟩ := choose_lt (n := len) (α := Cl) (p := fun i x => x.m.ok ∧ W.cells? 0 (a.add (i * 42)) 42 = some (clC x)) (fun i hi => by
      obtain ⟨cs', h2, h3⟩ := hel i (by omega)
      obtain ⟨x, rfl, hok⟩ := cells_call h3
      exact ⟨x, hok, h2⟩)
    refine ⟨some a, (List.range len).map f, len, _, rfl, by simp, by unfold maxLen at hcm; omega, fun h0 => ?_⟩
    have hlen : 0 < len := by simpa using h0
    obtain ⟨b, off, spot⟩ := a
    have hspot : spot = none := by simpa [Addr.add] using spot_of_cells (hfn 0 hlen).2 (by decide)
    subst hspot
    refine ⟨b, off, rfl, block_lt_of_cell (range_of_cells (hfn 0 hlen).2 0 _ (List.getElem?_eq_getElem (by show 0 < _ + 1; omega))), fun i y hi => ?_⟩
    have hi' : i < len := by simpa using (List.getElem?_eq_some_iff.1 hi).1
    rw [List.getElem?_map, List.getElem?_range hi'] at hi
    obtain rfl := Option.some.inj hi
    exact ⟨(hfn i hi').1, range_of_cells (by have := (hfn i hi').2; rw [add_plain] at this; exact this)⟩
theorem open_own {r : Reach} {b0 : Nat} {v : Value} {d : DataW H} {p : List MemPlace} (hv : Value.okWide Try.prog W r b0 23 v) (hd : DataW.Trod enc Try.prog W 0 (fun _ => true) true 23 v d p) :
    ∃ ve se he nb : Int, v = .agg #[.int .i64 ve, .int .i64 se, .int .i64 he, .int .i64 nb] := by
  obtain ⟨cs, rfl, _⟩ := okWide_struct Try.underlying23 hv
  obtain ⟨fuel, hf⟩ := hd
  have hf' : DataW.trod enc Try.prog W 0 (fun _ => true) true fuel 23 cs.toList = some (d, p) := hf
  obtain ⟨xs, m, _, _, hl, hxl, hel⟩ := DataW.trod_struct Try.underlying23 hf'
  rw [cellsOwn] at hl
  have hx4 : xs.length = 4 := hxl
  generalize hcl : cs.toList = cl at *
  have f0 : DataW.trod enc Try.prog W 0 (fun _ => true) true m 3 ((cl.drop 0).take (Try.prog.cellsOf 3)) = xs[0]? := hel 0 _ rfl
  have f1 : DataW.trod enc Try.prog W 0 (fun _ => true) true m 3 ((cl.drop 1).take (Try.prog.cellsOf 3)) = xs[1]? := hel 1 _ rfl
  have f2 : DataW.trod enc Try.prog W 0 (fun _ => true) true m 3 ((cl.drop 2).take (Try.prog.cellsOf 3)) = xs[2]? := hel 2 _ rfl
  have f3 : DataW.trod enc Try.prog W 0 (fun _ => true) true m 3 ((cl.drop 3).take (Try.prog.cellsOf 3)) = xs[3]? := hel 3 _ rfl
  simp only [cellsInt] at f0 f1 f2 f3
  rw [List.getElem?_eq_getElem (by omega)] at f0 f1 f2 f3
  obtain ⟨k0, e0, _, _⟩ := DataW.trod_int Try.underlying3 f0
  obtain ⟨k1, e1, _, _⟩ := DataW.trod_int Try.underlying3 f1
  obtain ⟨k2, e2, _, _⟩ := DataW.trod_int Try.underlying3 f2
  obtain ⟨k3, e3, _, _⟩ := DataW.trod_int Try.underlying3 f3
  refine ⟨k0, k1, k2, k3, ?_⟩
  have c0 := drop_cut cl 0 1
  have c1 := drop_cut cl 1 1
  have c2 := drop_cut cl 2 1
  have c3 := drop_cut cl 3 1
  have c4 : cl.drop 4 = [] := List.drop_eq_nil_of_le (by omega)
  rw [e3, c4] at c3
  rw [e2, c3] at c2
  rw [e1, c2] at c1
  rw [e0, c1, List.drop_zero] at c0
  congr 1
  apply Array.toList_inj.1
  rw [hcl, c0]
  rfl
theorem open_picks {r : Reach} {b0 : Nat} {v : Value} {d : DataW H} {p : List MemPlace} (hv : Value.okWide Try.prog W r b0 53 v) (hd : DataW.Trod enc Try.prog W 0 (fun _ => true) true 53 v d p) :
    ∃ (a : Option Addr) (l : List Bool) (n c : Nat), v = .slice a n c ∧ n = l.length ∧ n < 9223372036854775808 ∧ PicksAt W a l := by
  obtain ⟨a0, len, cap, rfl⟩ := okWide_slice Try.underlying53 hv
  obtain ⟨fuel, hf⟩ := hd
  rcases open_slice Try.underlying53 hf with ⟨hcs, hx⟩ | ⟨a, len', cap', m, q, D, Pl, hcs, _, hl, hcm, hm, hx, hel⟩
  · simp [Value.cells] at hcs
    obtain ⟨rfl, rfl, rfl⟩ := hcs
    exact ⟨none, [], 0, 0, rfl, rfl, by omega, fun h => absurd h (by simp)⟩
  · simp [Value.cells] at hcs
    obtain ⟨rfl, rfl, rfl⟩ := hcs
    simp only [if_true] at hm
    subst hm
    rw [cellsBoolC] at hel
    obtain ⟨f, hfn⟩ := choose_lt (n := len) (α := Bool) (p := fun i x => W.cells? 0 (a.add (i * 1)) 1 = some [.bool x]) (fun i hi => by
      obtain ⟨cs', h2, h3⟩ := hel i (by omega)
      obtain ⟨x, rfl, _⟩ := DataW.trod_bool Try.underlying4 h3
      exact ⟨x, h2⟩)
    refine ⟨some a, (List.range len).map f, len, _, rfl, by simp, by unfold maxLen at hcm; omega, fun h0 => ?_⟩
    have hlen : 0 < len := by simpa using h0
    obtain ⟨b, off, spot⟩ := a
    have hspot : spot = none := by simpa [Addr.add] using spot_of_cells (hfn 0 hlen) (by decide)
    subst hspot
    refine ⟨b, off, rfl, block_lt_of_cell (range_of_cells (hfn 0 hlen) 0 _ rfl), fun i y hi => ?_⟩
    have hi' : i < len := by simpa using (List.getElem?_eq_some_iff.1 hi).1
    rw [List.getElem?_map, List.getElem?_range hi'] at hi
    obtain rfl := Option.some.inj hi
    have := range_of_cells (W := W) (b := b) (o := off + i * 1) (n := 1) (cs := [.bool (f i)]) (by have := hfn i hi'; rw [add_plain] at this; exact this) 0 _ rfl
    simpa using this
end
end Go.Proofs.Yteblphnpealefaa.An
/-
  What the laws share: what the document tells is so; ShakeSilent.
-/
namespace Go.Proofs.Yteblphnpealefaa.An
open Go.RowKit Mem Sc Rg2
set_option maxRecDepth 100000
set_option maxHeartbeats 4000000 in
theorem alive21 (w : World) : Calls Try.prog 7 #[] w fun e w' => e = .returned (.bool true) ∧ Below w.heap.size w w' := by
  have K := Lib.hid (open_out 70016 0 0 5 1 w)
  have hb := mo_built3 1 70016 6
  go_enter Try.func7, Try.ntmps7
  go_wp2_with fail
  refine (K.out).mono ?_
  rintro e w1 ⟨b, v, rfl, hbw, hT, hr, ho, hB⟩
  obtain ⟨p, c, rfl, hl⟩ := hr.lie
  obtain ⟨g, off, rfl, hg, hc⟩ := hl (by decide)
  have r0 := hc 0 _ rfl
  have c0 : w1.cell? ⟨g, off, none⟩ = some (.int .i64 1) := by
    have h : w1.cell? ⟨g, off + 0 * 39 + 0, none⟩ = some (.int .i64 1) := r0 0 _ rfl
    simpa using h
  have HT := Lib.hid hT
  have KI := in_at hT (Mo.m ⟨1, 70016, 0, 0, 6⟩) (Mo.ok _)
  rw [show (Tk.new 70016 0 0 5 false 1).inn (Mo.m ⟨1, 70016, 0, 0, 6⟩) = ({ Tk.new 70016 0 0 5 false 1 with far := 1 }, [mo1 2 0], 0) from rfl] at KI
  have KI := Lib.hid KI
  have hF : ∀ i, i = b → w.heap.size ≤ i := fun i hi => hi ▸ hbw
  clear hl hc r0 ho hr hT K
  go_wp2_with (first
    | (with_reducible refine mo_make rfl _ rfl _ (by with_unfolding_all rfl) _ hb ?_))
  refine (KI.out).mono ?_
  rintro e w2 ⟨v, rfl, hT2, hr2, ho2, hk2⟩
  obtain ⟨p, c, rfl, hl⟩ := hr2.lie
  obtain ⟨g2, off2, rfl, hg2, hc⟩ := hl (by show 0 < 1; decide)
  have r0 := hc 0 _ rfl
  have d0 : w2.cell? ⟨g2, off2, none⟩ = some (.int .i64 2) := by
    have h : w2.cell? ⟨g2, off2 + 0 * 39 + 0, none⟩ = some (.int .i64 2) := r0 0 _ rfl
    simpa using h
  have hB2 := hB.trans (hk2.below hF hB.size)
  clear hl hc r0 ho2 hr2 hT2 hk2 KI hB HT c0
  go_wp2_with fail
  go_ret
  exact ⟨rfl, hB2⟩
set_option maxHeartbeats 4000000 in
theorem ssil_walk (ve se he nb : Int) (g : Bool) (since more : Int) (W : World) : Calls Try.prog 5 #[.agg #[.int .i64 ve, .int .i64 se, .int .i64 he, .int .i64 nb], .bool g, .int .i64 since, .int .i64 more] W fun e w' => e = .returned (.bool true) ∧ Below W.heap.size W w' := by
  have KA := Lib.hid (fun w => alive21 w)
  obtain ⟨g1, hg1⟩ : ∃ g1, decide (since < 0) = g1 := ⟨_, rfl⟩
  obtain ⟨g2, hg2⟩ : ∃ g2, decide ((1099511627776 : Int) < since) = g2 := ⟨_, rfl⟩
  obtain ⟨g3, hg3⟩ : ∃ g3, decide (more < 0) = g3 := ⟨_, rfl⟩
  obtain ⟨g4, hg4⟩ : ∃ g4, decide ((1099511627776 : Int) < more) = g4 := ⟨_, rfl⟩
  have hO : Has (W.alloc (.cells #[.int .i64 ve, .int .i64 se, .int .i64 he, .int .i64 nb] 23)) W.heap.size #[.int .i64 ve, .int .i64 se, .int .i64 he, .int .i64 nb] 23 := Has.new _ _
  have hB := below_box W (.cells #[.int .i64 ve, .int .i64 se, .int .i64 he, .int .i64 nb] 23)
  go_enter Try.func5, Try.ntmps5
  go_upto_region 1 with fail
  generalize World.alloc _ _ = w1 at *
  obtain ⟨P, hP⟩ : ∃ P, P = W.heap.size := ⟨_, rfl⟩
  rw [← hP] at hO ⊢
  clear hP
  go_wp2_with fail
  refine (KA.out _).mono ?_
  rintro e w2 ⟨rfl, hb⟩
  have hB2 := hB.trans (hb.mono hB.size)
  have hO2 : Has w2 P #[.int .i64 ve, .int .i64 se, .int .i64 he, .int .i64 nb] 23 := (hb.block P hO.lt).trans hO
  have c0 : w2.cell? ⟨P, 0, none⟩ = some (.int .i64 ve) := hO2.cell 0
  have c1 : w2.cell? ⟨P, 1, none⟩ = some (.int .i64 se) := hO2.cell 1
  have c2 : w2.cell? ⟨P, 2, none⟩ = some (.int .i64 he) := hO2.cell 2
  have c3 : w2.cell? ⟨P, 3, none⟩ = some (.int .i64 nb) := hO2.cell 3
  clear hO hO2 hB hb KA
  obtain rfl | rfl : g1 = true ∨ g1 = false := by cases g1 <;> simp
  · go_wp2_with fail
    go_ret
    exact ⟨rfl, hB2⟩
  obtain rfl | rfl : g2 = true ∨ g2 = false := by cases g2 <;> simp
  · go_wp2_with fail
    go_ret
    exact ⟨rfl, hB2⟩
  obtain rfl | rfl : g3 = true ∨ g3 = false := by cases g3 <;> simp
  · go_wp2_with fail
    go_ret
    exact ⟨rfl, hB2⟩
  obtain rfl | rfl : g4 = true ∨ g4 = false := by cases g4 <;> simp
  · go_wp2_with fail
    go_ret
    exact ⟨rfl, hB2⟩
  have b1 : ¬ since < 0 := of_decide_eq_false hg1
  have b2 : ¬ (1099511627776 : Int) < since := of_decide_eq_false hg2
  have b3 : ¬ more < 0 := of_decide_eq_false hg3
  have b4 : ¬ (1099511627776 : Int) < more := of_decide_eq_false hg4
  obtain ⟨z1, hz1⟩ : ∃ z1, z1 = since + 60 := ⟨_, rfl⟩
  obtain ⟨z2, hz2⟩ : ∃ z2, z2 = since + 61 := ⟨_, rfl⟩
  obtain ⟨z3, hz3⟩ : ∃ z3, z3 = since + 61 + more := ⟨_, rfl⟩
  have q1 : IntKind.i64.wrap (since + 60) = z1 := by rw [IntWalk.i64_in _ (by omega), hz1]
  have q2 : IntKind.i64.wrap (z1 + 1) = z2 := by rw [IntWalk.i64_in _ (by omega)]; omega
  have q3 : IntKind.i64.wrap (z2 + more) = z3 := by rw [IntWalk.i64_in _ (by omega)]; omega
  have l1 : (Tk.new ve se he nb g since).late z1 = false := by
    show (if (0 : Int) ≠ 2 then decide (60 < IntKind.i64.wrap (z1 - since)) else _) = false
    rw [if_pos (by decide), IntWalk.i64_in _ (by omega)]
    simp; omega
  have l3 : (Tk.new ve se he nb g since).late z3 = true := by
    show (if (0 : Int) ≠ 2 then decide (60 < IntKind.i64.wrap (z3 - since)) else _) = true
    rw [if_pos (by decide), IntWalk.i64_in _ (by omega)]
    simp; omega
  have K := Lib.hid (open_at ve se he nb since g w2)
  clear b1 b2 b3 b4 hz1 hz2 hz3
  go_wp2_with fail
  refine (K.out).mono ?_
  rintro e w3 ⟨b, v, rfl, hbw, hT, hr, ho, hB3⟩
  obtain ⟨p, c, rfl, _⟩ := hr.slice
  have K1 := Lib.hid (tick_on hT (by show (0 : Int) ≠ 3; decide) z1 l1)
  have K2 := gone_at hT
  rw [show decide ((Tk.new ve se he nb g since).far = 3) = false from rfl] at K2
  have K2 := Lib.hid K2
  have K3 := Lib.hid (tick_late hT (by show (0 : Int) ≠ 3; decide) z3 l3)
  have hF : ∀ i, i = b → W.heap.size ≤ i := fun i hi => hi ▸ Nat.le_trans hB2.size hbw
  have hB4 := hB2.trans (hB3.mono hB2.size)
  clear K c0 c1 c2 c3 l1 l3 hT ho hr hbw hB3 hB2
  go_wp2_with fail
  refine (K1.out).mono ?_
  rintro e w4 ⟨rfl, rfl⟩
  go_wp2_with fail
  refine (K2.out).mono ?_
  rintro e w5 ⟨rfl, rfl⟩
  go_wp2_with fail
  refine (K3.out).mono ?_
  rintro e w6 ⟨rfl, hT6, hk6⟩
  have K4 := gone_at hT6
  rw [show decide ((Tk.new ve se he nb g since).over.far = 3) = true from rfl] at K4
  have K4 := Lib.hid K4
  have hB6 := hB4.trans (hk6.below hF hB4.size)
  clear hT6 hk6 hB4 K3 K2 K1
  go_wp2_with fail
  refine (K4.out).mono ?_
  rintro e w7 ⟨rfl, rfl⟩
  go_wp2_with fail
  go_ret
  exact ⟨rfl, hB6⟩
end Go.Proofs.Yteblphnpealefaa.An
/-
  A script's call in a box of its own; a message of a row, or of a box, loaded.
-/
namespace Go.Proofs.Yteblphnpealefaa.An
open Go.RowKit Mem Sc Rg2
set_option maxRecDepth 100000
def clA (y : Cl) : Array Value := (clC y).toArray
def clZ : Cl := ⟨0, mmZ 0, 0, 0⟩
def ClAt (w : World) (b : Nat) (y : Cl) : Prop := Has w b (clA y) 41
theorem clinfo : (Try.prog.info? 41).map (·.size) = some 42 := by kernel_rfl
theorem clC_length {y : Cl} (h : y.m.ok) : (clC y).length = 42 := by simp [clC, mmC_length h]
theorem clA_size {y : Cl} (h : (clC y).length = 42) : (clA y).size = 42 := by show (clC y).toArray.size = 42; rw [List.size_toArray, h]
theorem cl_one (y : Cl) : (clA y).all (·.oneCell') = true := all_oneCell_toArray fun v hv => by
  simp only [clC, List.mem_cons, List.mem_append] at hv
  rcases hv with rfl | hv | rfl | rfl | hv
  · rfl
  · exact mmC_one _ v hv
  · rfl
  · rfl
  · cases hv
section
variable {w w' : World} {b : Nat} {y : Cl}
theorem ClAt.on (h : ClAt w b y) (hb : Below w.heap.size w w') : ClAt w' b y := (hb.block b (Has.lt h)).trans h
theorem ClAt.keep (h : ClAt w b y) {F : Nat → Prop} (hk : Kp F w w') (hn : ¬ F b) : ClAt w' b y := hk.has h hn
theorem ClAt.c0 (h : ClAt w b y) : w.cell? ⟨b, 0, none⟩ = some (.int .i64 y.kind) := Has.cell h 0
theorem ClAt.k (h : ClAt w b y) : w.cell? ⟨b, 1, none⟩ = some (.int .i64 y.m.kind) := Has.cell h 1
theorem ClAt.nb (h : ClAt w b y) : w.cell? ⟨b, 5, none⟩ = some (.int .i64 y.m.nb) := Has.cell h 5
theorem ClAt.m (h : ClAt w b y) : w.rangeAt b 1 (mmC y.m) := fun j u hu => by
  rw [Has.cell h (1 + j)]
  show (clC y).toArray[1 + j]? = some u
  rw [List.getElem?_toArray, Nat.add_comm]
  show (mmC y.m ++ _)[j]? = some u
  rw [List.getElem?_append_left (List.getElem?_eq_some_iff.1 hu).1]
  exact hu
theorem ClAt.n (h : ClAt w b y) (ho : y.m.ok) : w.cell? ⟨b, 40, none⟩ = some (.int .i64 y.n) := by
  rw [Has.cell h 40]
  show (clC y).toArray[40]? = _
  rw [List.getElem?_toArray]
  show (mmC y.m ++ _)[39]? = _
  rw [List.getElem?_append_right (by rw [mmC_length ho]; omega), mmC_length ho]
  rfl
theorem ClAt.now (h : ClAt w b y) (ho : y.m.ok) : w.cell? ⟨b, 41, none⟩ = some (.int .i64 y.now) := by
  rw [Has.cell h 41]
  show (clC y).toArray[41]? = _
  rw [List.getElem?_toArray]
  show (mmC y.m ++ _)[40]? = _
  rw [List.getElem?_append_right (by rw [mmC_length ho]; omega), mmC_length ho]
  rfl
end
section
variable {w : World} {ops : Array Oper} {rest : List Oper} {o : Oper} {a : Act} {Q : Exit → Act → World → Prop}
theorem cl_load_mid (hgd : o.guard = none) (x : Operand) (ho : o.op = .load 41 x) (g off : Nat) (hx : a.eval x = .pointer (some ⟨g, off, none⟩)) (y : Cl) (hg : w.rangeAt g off (clC y)) (hs : (clC y).length = 42)
    (hk : wpList Try.prog ops Q rest (a.put o.dst (.agg (clA y))) w) : wpList Try.prog ops Q (o :: rest) a w :=
  wpList_load_mid hgd 41 x ho g off hx (clC y) _ hg Try.underlying41 rfl (clinfo.trans (by rw [hs])) hk
theorem ex_alloc_cl {ρ : Operand → Value} (ho : o.op = .alloc 41) : (execOp ρ o).run Try.prog w = .ok (.value (.pointer (some ⟨w.heap.size, 0, none⟩))) (w.alloc (.cells (clA clZ) 41)) := by
  unfold execOp
  simp only [ho]
  kernel_rfl
theorem cl_alloc (hgd : o.guard = none) (ho : o.op = .alloc 41)
    (hk : wpList Try.prog ops Q rest (a.put o.dst (.pointer (some ⟨w.heap.size, 0, none⟩))) (w.alloc (.cells (clA clZ) 41))) : wpList Try.prog ops Q (o :: rest) a w :=
  wpList_plain hgd fun _ hK => by
    unfold Oper.wp
    rw [ex_alloc_cl ho]
    exact hK _ _ hk
theorem cl_store (hgd : o.guard = none) (x z : Operand) (ho : o.op = .store 41 x z) (g : Nat) (y : Cl) (hx : a.eval x = .pointer (some ⟨g, 0, none⟩)) (hz : a.eval z = .agg (clA y)) (hy : (clC y).length = 42) (cs : Array Value) (hg : Has w g cs 41) (hs : cs.size = 42)
    (hk : wpList Try.prog ops Q rest (a.put o.dst undef) (w.setRow g (clA y))) : wpList Try.prog ops Q (o :: rest) a w :=
  wpList_store_row hgd 41 x z ho g (clA y) hx hz 41 cs hg.out (clinfo.trans (by rw [clA_size hy])) (by rw [clA_size hy, hs]) (cl_one y) hk
/-- a message is loaded out of a row, or of a box -/
theorem mm_load_mid (hgd : o.guard = none) (x : Operand) (ho : o.op = .load 39 x) (g off : Nat) (hx : a.eval x = .pointer (some ⟨g, off, none⟩)) (m : Mm) (hg : w.rangeAt g off (mmC m)) (hs : (mmC m).length = 39)
    (hk : wpList Try.prog ops Q rest (a.put o.dst (.agg (mmA m))) w) : wpList Try.prog ops Q (o :: rest) a w :=
  wpList_load_mid hgd 39 x ho g off hx (mmC m) _ hg Try.underlying39 rfl (mminfo.trans (by rw [hs])) hk
end
theorem cl_new (w : World) (y : Cl) : ClAt ((w.alloc (.cells (clA clZ) 41)).setRow w.heap.size (clA y)) w.heap.size y := (Has.new (w := w) (clA clZ) 41).row _
theorem cl_bel (w : World) (y : Cl) : Below w.heap.size w ((w.alloc (.cells (clA clZ) 41)).setRow w.heap.size (clA y)) :=
  gb_toBelow (gb_setRow (gb_below (below_box w (.cells (clA clZ) 41)) (some w.heap.size)) (clA y)) (Nat.le_refl _) (Nat.le_refl _)
/-- the ping that is waited for stays so while no pong comes -/
theorem Tk.inn_ping (x : Tk) (m : Mm) (h : m.kind ≠ 7) : (x.inn m).1.ping = x.ping := by
  unfold Tk.inn Tk.meet Tk.agree Tk.hear
  repeat' split
  all_goals first | rfl | (exact absurd (by assumption) h)
end Go.Proofs.Yteblphnpealefaa.An
/-
  Program's talk and the document's beside one another: what a deed on one of them leaves; operations of drawn regions.
-/
namespace Go.Proofs.Yteblphnpealefaa.An
open Go.RowKit Mem Sc Rg2
set_option maxRecDepth 100000
/-! ### what is said -/
theorem Tk.inn_own (x : Tk) (m : Mm) : (x.inn m).1.hello = x.hello := by
  unfold Tk.inn Tk.meet Tk.agree Tk.hear
  repeat' split
  all_goals rfl
theorem Tk.tick_own (x : Tk) (now : Int) : (x.tick now).1.hello = x.hello := by
  unfold Tk.tick
  repeat' split
  all_goals rfl
/-- each message that is said -/
theorem Tk.said (x : Tk) (m : Mm) (o : Mo) (h : o ∈ (x.inn m).2.1) : o = x.hello ∨ o = mo1 2 0 ∨ o = mo1 7 m.nb ∨ o = mo1 8 0 := by
  unfold Tk.inn Tk.meet Tk.agree Tk.hear at h
  split at h
  · cases h
  split at h
  · split at h
    · cases h
    split at h
    · cases h
    simp only at h
    split at h
    · simp only [List.mem_cons, List.not_mem_nil, or_false] at h
      exact h.imp id .inl
    · simp only [List.mem_cons, List.not_mem_nil, or_false] at h
      exact .inr (.inl h)
  split at h
  · split at h
    · cases h
    · simp only [List.mem_cons, List.not_mem_nil, or_false] at h
      exact .inr (.inr (.inr h))
  split at h
  · cases h
  split at h
  · simp only [List.mem_cons, List.not_mem_nil, or_false] at h
    exact .inr (.inr (.inl h))
  split at h
  · split at h <;> cases h
  split at h <;> cases h
theorem Tk.said_few (x : Tk) (m : Mm) : (x.inn m).2.1.length ≤ 2 := by
  unfold Tk.inn Tk.meet Tk.agree Tk.hear
  repeat' split
  all_goals first
    | exact Nat.zero_le _
    | (show (if x.inb = true then _ else _ : List Mo).length ≤ 2; split <;> simp)
    | simp
def Tk.pinged (x : Tk) (n now : Int) : Tk := if x.pings n then { x with ping := n, since := now } else x
theorem Tk.pinged_ok {x : Tk} (h : x.Ok) (n now : Int) : (x.pinged n now).Ok := by
  unfold Tk.pinged
  split
  · exact Tk.ping_ok h n now (by assumption)
  · exact h
theorem Tk.pinged_own (x : Tk) (n now : Int) : (x.pinged n now).hello = x.hello := by
  unfold Tk.pinged
  split <;> rfl
theorem ping_any {w : World} {b : Nat} {x : Tk} (h : TkAt w b x) (n now : Int) (g : Bool) (hg : decide (x.pings n) = g) : Calls Try.prog 12 #[.pointer (some ⟨b, 0, none⟩), .int .i64 n, .int .i64 now] w fun e w' => ∃ v, e = .returned v ∧ TkAt w' b (x.pinged n now) ∧ RowM w' v (bif g then [mo1 6 n] else []) ∧ (∀ k, v.ownBlock = some k → w.heap.size ≤ k) ∧ Kp (fun k => k = b) w w' := by
  unfold Tk.pinged
  subst hg
  by_cases hp : x.pings n
  · rw [if_pos hp, decide_eq_true hp]
    exact (ping_yes h n now hp).mono fun e w' ⟨g, h1, h2, h3, h4, h5⟩ => ⟨_, h1, h2, h3, fun k e => by cases e; exact h4, h5⟩
  · rw [if_neg hp, decide_eq_false hp]
    exact (ping_no h n now hp).mono fun e w' ⟨h1, h2⟩ => by subst h2; exact ⟨_, h1, h, RowM.nil _, fun k e => (by cases e), Kp.refl _ _⟩
theorem rping_any {w : World} {b : Nat} {x : Tk} (h : RkAt w b x) (n now : Int) (g : Bool) (hg : decide (x.pings n) = g) : Calls Try.prog 13 #[.pointer (some ⟨b, 0, none⟩), .int .i64 n, .int .i64 now] w fun e w' => e = .returned (.bool g) ∧ RkAt w' b (x.pinged n now) ∧ Kp (fun k => k = b) w w' := by
  unfold Tk.pinged
  subst hg
  by_cases hp : x.pings n
  · rw [if_pos hp, decide_eq_true hp]
    exact rping_yes h n now hp
  · rw [if_neg hp, decide_eq_false hp]
    exact (rping_no h n now hp).mono fun e w' ⟨h1, h2⟩ => by subst h2; exact ⟨h1, h, Kp.refl _ _⟩
/-! ### the two -/
structure St (W : World) (P b r : Nat) (o : Mo) (w : World) (x z : Tk) : Prop where
  t : TkAt w b x
  r : RkAt w r z
  own : Has w P #[.int .i64 o.v, .int .i64 o.s, .int .i64 o.h, .int .i64 o.n] 23
  xo : x.hello = o
  zk : z.Ok
  bel : Below W.heap.size W w
/-- apart, and new -/
structure Ap (W : World) (P b r : Nat) : Prop where
  pb : P ≠ b
  pr : P ≠ r
  br : b ≠ r
  p : W.heap.size ≤ P
  b : W.heap.size ≤ b
  r : W.heap.size ≤ r
section
variable {W w w' : World} {P b r : Nat} {o : Mo} {x z : Tk}
theorem St.rest (h : St W P b r o w x z) (hb : Below w.heap.size w w') : St W P b r o w' x z :=
  ⟨h.t.on hb, h.r.on hb, (hb.block P h.own.lt).trans h.own, h.xo, h.zk, h.bel.trans (hb.mono h.bel.size)⟩
theorem St.actB (h : St W P b r o w x z) (a : Ap W P b r) {x' : Tk} (hk : Kp (fun k => k = b) w w') (ht : TkAt w' b x') (ho : x'.hello = o) : St W P b r o w' x' z :=
  ⟨ht, hk.has h.r (fun e => a.br e.symm), hk.has h.own a.pb, ho, h.zk, h.bel.trans (hk.below (fun i hi => by rw [hi]; exact a.b) h.bel.size)⟩
theorem St.actR (h : St W P b r o w x z) (a : Ap W P b r) {z' : Tk} (hk : Kp (fun k => k = r) w w') (ht : RkAt w' r z') (hz : z'.Ok) : St W P b r o w' x z' :=
  ⟨hk.has h.t a.br, ht, hk.has h.own a.pr, h.xo, hz, h.bel.trans (hk.below (fun i hi => by rw [hi]; exact a.r) h.bel.size)⟩
end
/-! ### operations -/
section
variable {ρ : Operand → Value} {o : Oper} {w : World} {p : Addr} {z : Int} {g : Bool}
theorem ld_i (h : w.cell? p = some (.int .i64 z)) : (loadVar 3 p).run Try.prog w = .ok (.int .i64 z) w := by go_simp
theorem ld_b (h : w.cell? p = some (.bool g)) : (loadVar 4 p).run Try.prog w = .ok (.bool g) w := by go_simp
theorem ex_eqi {x y : Operand} {a b : Int} {g : Bool} (ho : o.op = .binOp .eql 3 x y 3) (hx : ρ x = .int .i64 a) (hy : ρ y = .int .i64 b) (h : (a == b) = g) : (execOp ρ o).run Try.prog w = .ok (.value (.bool g)) w := by
  unfold execOp
  subst h
  simp only [ho, hx, hy]
  kernel_rfl
theorem ex_neqi {x y : Operand} {a b : Int} {g : Bool} (ho : o.op = .binOp .neq 3 x y 3) (hx : ρ x = .int .i64 a) (hy : ρ y = .int .i64 b) (h : (a != b) = g) : (execOp ρ o).run Try.prog w = .ok (.value (.bool g)) w := by
  unfold execOp
  subst h
  simp only [ho, hx, hy]
  kernel_rfl
theorem ex_neqb {x y : Operand} {a b g : Bool} (ho : o.op = .binOp .neq 4 x y 4) (hx : ρ x = .bool a) (hy : ρ y = .bool b) (h : (a != b) = g) : (execOp ρ o).run Try.prog w = .ok (.value (.bool g)) w := by
  unfold execOp
  subst h
  simp only [ho, hx, hy]
  kernel_rfl
theorem ld_msg {b off : Nat} {m : Mm} (h : w.rangeAt b off (mmC m)) (hs : (mmC m).length = 39) : (loadVar 39 ⟨b, off, none⟩).run Try.prog w = .ok (.agg (mmA m)) w :=
  run_loadVar_mid w b off 39 (mmC m) _ h Try.underlying39 rfl (mminfo.trans (by rw [hs]))
theorem ld_ownP {b : Nat} {c0 c1 c2 c3 : Int} (h : Has w b #[.int .i64 c0, .int .i64 c1, .int .i64 c2, .int .i64 c3] 23) : (loadVar 23 ⟨b, 0, none⟩).run Try.prog w = .ok (.agg #[.int .i64 c0, .int .i64 c1, .int .i64 c2, .int .i64 c3]) w :=
  run_loadVar_mid w b 0 23 [.int .i64 c0, .int .i64 c1, .int .i64 c2, .int .i64 c3] _ (fun j u hu => by rw [Nat.zero_add, Has.cell h j]; simpa using hu) Try.underlying23 rfl (by kernel_rfl)
theorem ex_idx {T : TypeId} {x y : Operand} {g j f m : Nat} {n c : Nat} (ho : o.op = .indexAddr T x y) (hx : ρ x = .slice (some ⟨g, f, none⟩) n c) (hy : ρ y = .int .i64 (j : Int)) (hf : (Instr.indexAt T (.slice (some ⟨g, f, none⟩) n c) (.int .i64 (j : Int))).run Try.prog w = .ok (.pointer (some ⟨g, m, none⟩)) w) : (execOp ρ o).run Try.prog w = .ok (.value (.pointer (some ⟨g, m, none⟩))) w := by
  unfold execOp
  simp only [ho, hx, hy, Sem.run_bind, hf, Result.andThen_ok]
  rfl
theorem idx_ints (w : World) (g f j n c : Nat) (hj : j < n) : (Instr.indexAt 45 (.slice (some ⟨g, f, none⟩) n c) (.int .i64 (j : Int))).run Try.prog w = .ok (.pointer (some ⟨g, f + j, none⟩)) w := by
  go_simp
end
end Go.Proofs.Yteblphnpealefaa.An
