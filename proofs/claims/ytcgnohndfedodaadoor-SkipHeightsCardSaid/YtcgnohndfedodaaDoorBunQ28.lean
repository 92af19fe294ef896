/-
  Texts of this seat, one behind the other.
-/
import Derived.Test.YtcgnohndfedodaaDoorBunQ24
import Derived.Test.YtcgnohndfedodaaDoorBunQ27
import Derived.Test.YtcgnohndfedodaaDoorBunQ21
import Derived.Test.YtcgnohndfedodaaDoorBunQ20
import Derived.Test.YtcgnohndfedodaaDoorBunQ25
import Derived.Test.YtcgnohndfedodaaDoorBunQ23
/-
  pace: scaled.
-/
namespace Go.Proofs.YtcgnohndfedodaaDoor.NN
open Go.RowKit Rg2
/-- block O holds x till operation k, which lays y there -/
def Turned (k O x y : Nat) (l : Array Bool) (w : World) : Prop := (l.getD k false = false → Has w O (numC x) 33) ∧ (l.getD k false = true → Has w O (numC y) 33)
theorem Turned.now {k O x y i : Nat} {l : Array Bool} {w : World} (h : Turned k O x y l w) (hi : i < l.size) (hik : i ≠ k) (ha : (l.setIfInBounds i true).getD k false = false) : Has w O (numC x) 33 :=
  h.1 (by rw [getD_set _ _ _ hi, if_neg hik] at ha; exact ha)
theorem Turned.pre {k O x y i : Nat} {l : Array Bool} {w w' : World} (h : Turned k O x y l w) (hi : i < l.size) (hik : i ≠ k) (ha : (l.setIfInBounds i true).getD k false = false) (hw : Has w O (numC x) 33 → Has w' O (numC x) 33) : Turned k O x y (l.setIfInBounds i true) w' :=
  ⟨fun _ => hw (h.now hi hik ha), fun hk => by rw [ha] at hk; cases hk⟩
theorem Turned.keep {k O x y i : Nat} {l : Array Bool} {w : World} (h : Turned k O x y l w) (hi : i < l.size) (hik : i ≠ k) : Turned k O x y (l.setIfInBounds i true) w :=
  ⟨fun hk => h.1 (by rw [getD_set _ _ _ hi, if_neg hik] at hk; exact hk), fun hk => h.2 (by rw [getD_set _ _ _ hi, if_neg hik] at hk; exact hk)⟩
theorem frame_back (a : Act) (n : Nat) (u : Nat → Value) (hs : a.tmps.size = n) (hd : a.defers = []) (hu : ∀ t, u t = a.eval (.tmp t)) : a = ⟨((List.range n).map u).toArray, []⟩ := by
  obtain ⟨tm, df⟩ := a
  obtain rfl : df = [] := hd
  congr 1
  apply Array.ext
  · simpa using hs
  · intro i h1 h2
    simp only [List.getElem_toArray, List.getElem_map, List.getElem_range, hu]
    simp [Act.eval, Array.getD_eq_getD_getElem?, h1]
/-- the result's box, while the region runs -/
structure ScC (w wr : World) (R : Nat) : Prop where
  below : Below w.heap.size w wr
  r : Has wr R (numC 0) 33
theorem ScC.on {w wr w' : World} {R : Nat} (h : ScC w wr R) (hb : Below wr.heap.size wr w') : ScC w w' R := ⟨h.below.trans (hb.mono h.below.size), h.r.on hb⟩
def scR (o1 r a m1 b m s : Nat) (g2 : Bool) : Nat → Value → Prop
  | 0, v => v = .agg (numC o1)
  | 1, v => v = .int .u64 (r : Int)
  | 2, v => v = .int .u64 (a : Int)
  | 3, v => v = .int .u64 (m1 : Int)
  | 4, v => v = .int .u64 (b : Int)
  | 5, v => v = .int .u64 (m : Int)
  | 6, v => v = .agg (numC m)
  | 7, v => v = .tuple #[.agg (numC s), .bool g2]
  | 8, v => v = .tuple #[.agg (numC s), .bool g2]
  | 9, v => v = .agg (numC s)
  | 10, v => v = .bool g2
  | 12, v => v = .bool g2
  | _, _ => True
end Go.Proofs.YtcgnohndfedodaaDoor.NN
/-
  pace: Retarget.
-/
namespace Go.Proofs.YtcgnohndfedodaaDoor.NN
open Go.RowKit
/-- what is set anew -/
def Pr.should (p : Pr) : Nat := (p.ivl * p.spc).toNat
def Pr.anew (p : Pr) (b d : Int) : Nat := Go.Proofs.YtcgnohndfedodaaDoor.NN.anew (tg b b) p.should d
def rt (p : Pr) (b d : Int) : Int := if (tok b b && p.good) = true then (if tg p.lim p.lim < p.anew b d then p.lim else (Nm.enc (max 1 (p.anew b d)) : Nat)) else p.lim
theorem good_parts {p : Pr} (h : p.good = true) : tok p.lim p.lim = true ∧ 2 ≤ p.ivl ∧ p.ivl ≤ 64 ∧ 1 ≤ p.spc ∧ p.spc ≤ 10000 ∧ 0 ≤ p.fut ∧ p.fut < 4294967296 := by
  unfold Pr.good at h
  simp only [Bool.and_eq_true, decide_eq_true_eq] at h
  obtain ⟨⟨⟨⟨⟨⟨h0, h1⟩, h2⟩, h3⟩, h4⟩, h5⟩, h6⟩ := h
  exact ⟨h0, h1, h2, h3, h4, h5, h6⟩
theorem should_le {p : Pr} (h : p.good = true) : 0 < p.should ∧ p.should ≤ 640000 ∧ (p.should : Int) = p.ivl * p.spc := by
  obtain ⟨_, h1, h2, h3, h4, _, _⟩ := good_parts h
  obtain ⟨i, hi⟩ := Int.eq_ofNat_of_zero_le (show 0 ≤ p.ivl by omega)
  obtain ⟨s, hs⟩ := Int.eq_ofNat_of_zero_le (show 0 ≤ p.spc by omega)
  have e : p.should = i * s := by unfold Pr.should; rw [hi, hs, ← Int.natCast_mul, Int.toNat_natCast]
  have hp : 0 < i * s := Nat.mul_pos (by omega) (by omega)
  have hle : i * s ≤ 64 * 10000 := Nat.mul_le_mul (by omega) (by omega)
  rw [e, hi, hs, ← Int.natCast_mul]
  exact ⟨hp, by omega, rfl⟩
end Go.Proofs.YtcgnohndfedodaaDoor.NN
/-
  pace: Starts, Next; a point in memory.
-/
namespace Go.Proofs.YtcgnohndfedodaaDoor.NN
open Go.RowKit
/-- is a height the first one of a period? -/
def starts (i h : Int) : Bool := decide (0 < i) && (h.tmod i == 0)
theorem starts_yes (p : Pr) (h i m : Int) (e1 : Hid (p.ivl = i)) (t1 : decide (0 < i) = true) (hne : ¬ i = 0) (hm : h.tmod i = m) (w : World) :
    Calls Tryd.prog 38 #[.agg (prA p), .int .i64 h] w fun e w' => e = .returned (.bool (m == 0)) ∧ Below w.heap.size w w' := by
  have hP := pr_new w p
  have hbel : Below w.heap.size w (w.alloc (.cells (prA p) 39)) := (Below.refl _ _).alloc (Nat.le_refl _) _
  have c1 := hP.c1 e1
  go_enter Tryd.func38, Tryd.ntmps38
  go_wp2_with fail
  go_ret
  exact ⟨rfl, hbel⟩
theorem starts_no (p : Pr) (h i : Int) (e1 : Hid (p.ivl = i)) (t1 : decide (0 < i) = false) (w : World) :
    Calls Tryd.prog 38 #[.agg (prA p), .int .i64 h] w fun e w' => e = .returned (.bool false) ∧ Below w.heap.size w w' := by
  have hP := pr_new w p
  have hbel : Below w.heap.size w (w.alloc (.cells (prA p) 39)) := (Below.refl _ _).alloc (Nat.le_refl _) _
  have c1 := hP.c1 e1
  go_enter Tryd.func38, Tryd.ntmps38
  go_wp2_with fail
  go_ret
  exact ⟨rfl, hbel⟩
theorem starts_at (p : Pr) (h : Int) (g : Bool) (hg : starts p.ivl h = g) (w : World) :
    Calls Tryd.prog 38 #[.agg (prA p), .int .i64 h] w fun e w' => e = .returned (.bool g) ∧ Below w.heap.size w w' := by
  by_cases h0 : 0 < p.ivl
  · rw [← hg, starts, decide_eq_true h0, Bool.true_and]
    exact starts_yes p h _ _ (Lib.hid rfl) (decide_eq_true h0) (by omega) rfl w
  · rw [← hg, starts, decide_eq_false h0, Bool.false_and]
    exact starts_no p h _ (Lib.hid rfl) (decide_eq_false h0) w
/-- where the next block stands -/
structure Pt where
  h : Int
  b : Int
  t : Int
  f : Int
  r : Int
def ptA (x : Pt) : Array Value := #[.int .i64 x.h, .int .i64 x.b, .int .i64 x.t, .int .i64 x.f, .int .i64 x.r]
theorem ptinfo : (Tryd.prog.info? 62).map (·.size) = some 5 := by kernel_rfl
def PtAt (w : World) (k : Nat) (x : Pt) : Prop := Has w k (ptA x) 62
section
variable {w w' : World} {k : Nat} {x : Pt}
theorem PtAt.on (h : PtAt w k x) (hb : Below w.heap.size w w') : PtAt w' k x := Has.on h hb
theorem PtAt.c0 (h : PtAt w k x) {z : Int} (e : Hid (x.h = z)) : w.cell? ⟨k, 0, none⟩ = some (.int .i64 z) := (Has.cell h 0).trans (by rw [← e.out]; rfl)
theorem PtAt.c1 (h : PtAt w k x) {z : Int} (e : Hid (x.b = z)) : w.cell? ⟨k, 1, none⟩ = some (.int .i64 z) := (Has.cell h 1).trans (by rw [← e.out]; rfl)
theorem PtAt.c2 (h : PtAt w k x) {z : Int} (e : Hid (x.t = z)) : w.cell? ⟨k, 2, none⟩ = some (.int .i64 z) := (Has.cell h 2).trans (by rw [← e.out]; rfl)
theorem PtAt.c3 (h : PtAt w k x) {z : Int} (e : Hid (x.f = z)) : w.cell? ⟨k, 3, none⟩ = some (.int .i64 z) := (Has.cell h 3).trans (by rw [← e.out]; rfl)
theorem PtAt.c4 (h : PtAt w k x) {z : Int} (e : Hid (x.r = z)) : w.cell? ⟨k, 4, none⟩ = some (.int .i64 z) := (Has.cell h 4).trans (by rw [← e.out]; rfl)
variable {ops : Array Oper} {rest : List Oper} {o : Oper} {a : Act} {Q : Exit → Act → World → Prop}
theorem pt_load (hgd : o.guard = none) (y : Operand) (ho : o.op = .load 62 y) (g : Nat) (hx : a.eval y = .pointer (some ⟨g, 0, none⟩)) (hg : PtAt w g x)
    (hk : wpList Tryd.prog ops Q rest (a.put o.dst (.agg (ptA x))) w) : wpList Tryd.prog ops Q (o :: rest) a w :=
  wpList_load_row hgd 62 y ho g hx 62 (ptA x) (0, 0) _ (Has.out hg) Tryd.underlying62 rfl ptinfo hk
end
/-- the bits that the next block must have -/
def nx (p : Pr) (x : Pt) (own : Int) : Int :=
  if x.h ≤ 0 then p.lim else if starts p.ivl x.h = true then rt p x.b (IntKind.i64.wrap (x.t - x.f)) else if p.easy = false then x.b else if IntKind.i64.wrap (2 * p.spc) < IntKind.i64.wrap (own - x.t) then p.lim else x.r
end Go.Proofs.YtcgnohndfedodaaDoor.NN
/-
  Layer 10's laws: what the document tells, first.
-/
namespace Go.Proofs.YtcgnohndfedodaaDoor.NN
open Go.RowKit
/-- the other cells of rules of which they are not told -/
def tlZ : List Value := .slice none 0 0 :: .slice none 0 0 :: (List.replicate 8 (.int .u64 0) ++ (.int .i64 0 :: (List.replicate 64 (.int .u8 0) ++ [.int .i64 0, .int .i64 0, .int .i64 0])))
def prZ : Pr := ⟨0, 0, 0, 0, false, tlZ⟩
def prL : Pr := ⟨545259519, 4, 10, 0, false, tlZ⟩
theorem tlZ_ok (a b c d : Int) (e : Bool) : Pr.ok ⟨a, b, c, d, e, tlZ⟩ := show tlZ.length = 78 from by decide
theorem tlZ_one (a b c d : Int) (e : Bool) : Pr.one ⟨a, b, c, d, e, tlZ⟩ := by
  intro v hv
  simp only [tlZ, List.mem_cons, List.mem_append, List.mem_replicate, List.not_mem_nil, or_false] at hv
  rcases hv with rfl | rfl | ⟨_, rfl⟩ | rfl | ⟨_, rfl⟩ | rfl | rfl | rfl <;> rfl
theorem built_pr : Tryd.prog.built 39 [(0, .int .i64 545259519), (1, .int .i64 4), (2, .int .i64 10)] = some (prA prL) := by kernel_rfl
theorem ex_alloc_pr {ρ : Operand → Value} {o : Oper} {w : World} (ho : o.op = .alloc 39) : (execOp ρ o).run Tryd.prog w = .ok (.value (.pointer (some ⟨w.heap.size, 0, none⟩))) (w.alloc (.cells (prA prZ) 39)) := by
  unfold execOp
  simp only [ho]
  kernel_rfl
section
variable {w : World} {ops : Array Oper} {rest : List Oper} {o o2 o3 : Oper} {a : Act} {Q : Exit → Act → World → Prop}
theorem pr_build (hgd : o.guard = none) (ho : o.op = .build 39 #[(0, .const (.int .i64 545259519)), (1, .const (.int .i64 4)), (2, .const (.int .i64 10))])
    (hk : wpList Tryd.prog ops Q rest (a.put o.dst (.agg (prA prL))) w) : wpList Tryd.prog ops Q (o :: rest) a w :=
  wpList_plain hgd fun _ hK => by
    unfold Oper.wp execOp
    simp only [ho, Sem.run_bind]
    rw [show (#[(0, .const (.int .i64 545259519)), (1, .const (.int .i64 4)), (2, .const (.int .i64 10))] : Array (Nat × Operand)).map (fun (i, x) => (i, a.eval x)) = #[(0, .int .i64 545259519), (1, .int .i64 4), (2, .int .i64 10)] by simp [Act.eval], run_build w 39 _ _ built_pr]
    exact hK _ _ hk
theorem pr_alloc (hgd : o.guard = none) (ho : o.op = .alloc 39)
    (hk : wpList Tryd.prog ops Q rest (a.put o.dst (.pointer (some ⟨w.heap.size, 0, none⟩))) (w.alloc (.cells (prA prZ) 39))) : wpList Tryd.prog ops Q (o :: rest) a w :=
  wpList_plain hgd fun _ hK => by
    unfold Oper.wp
    rw [ex_alloc_pr ho]
    exact hK _ _ hk
theorem pr_store {p p' : Pr} (hgd : o.guard = none) (x y : Operand) (ho : o.op = .store 39 x y) (g : Nat) (hx : a.eval x = .pointer (some ⟨g, 0, none⟩)) (hy : a.eval y = .agg (prA p')) (hs' : p'.ok) (hone : p'.one) (hg : PrAt w g p) (hs : p.ok)
    (hk : wpList Tryd.prog ops Q rest (a.put o.dst undef) (w.setRow g (prA p'))) : wpList Tryd.prog ops Q (o :: rest) a w :=
  wpList_store_row hgd 39 x y ho g (prA p') hx hy 39 (prA p) (Has.out hg) (prinfo.trans (by rw [prA_size hs'])) (by rw [prA_size hs, prA_size hs']) (prA_one hone) hk
/-- the rules that the document tells of, in a box of their own -/
theorem pr_make (h1 : o.guard = none) (b1 : o.op = .build 39 #[(0, .const (.int .i64 545259519)), (1, .const (.int .i64 4)), (2, .const (.int .i64 10))]) (h2 : o2.guard = none) (b2 : o2.op = .alloc 39) (h3 : o3.guard = none) (y z : Operand) (b3 : o3.op = .store 39 y z)
    (X : Nat) (hX : w.heap.size = X)
    (hy : ((a.put o.dst (.agg (prA prL))).put o2.dst (.pointer (some ⟨X, 0, none⟩))).eval y = .pointer (some ⟨X, 0, none⟩)) (hz : ((a.put o.dst (.agg (prA prL))).put o2.dst (.pointer (some ⟨X, 0, none⟩))).eval z = .agg (prA prL))
    (hk : ∀ w', PrAt w' X prL → Below w.heap.size w w' → wpList Tryd.prog ops Q rest (((a.put o.dst (.agg (prA prL))).put o2.dst (.pointer (some ⟨X, 0, none⟩))).put o3.dst undef) w') : wpList Tryd.prog ops Q (o :: o2 :: o3 :: rest) a w := by
  subst hX
  refine pr_build h1 b1 (pr_alloc h2 b2 ?_)
  have hn := pr_new w prZ
  exact pr_store h3 y z b3 w.heap.size hy hz (tlZ_ok _ _ _ _ _) (tlZ_one _ _ _ _ _) hn (tlZ_ok _ _ _ _ _) (hk _ (Has.row hn _) (below_setRow ((Below.refl _ _).alloc (Nat.le_refl _) _) (Nat.le_refl _) _))
end
end Go.Proofs.YtcgnohndfedodaaDoor.NN
namespace Go.Proofs.YtcgnohndfedodaaDoor.NN
open Go.RowKit
theorem build3 (x y z : Nat) (w : World) : (Instr.buildSlice 117 3 #[(0, .agg (numC x)), (1, .agg (numC y)), (2, .agg (numC z))]).run Tryd.prog w = .ok (.slice (some ⟨w.heap.size, 0, none⟩) 3 3) (w.alloc (.cells (numRow [x, y, z]) 33)) := by kernel_rfl
theorem build_num3 {ops : Array Oper} {rest : List Oper} {o : Oper} {a : Act} {w : World} {Q : Exit → Act → World → Prop} (hgd : o.guard = none) (p0 p1 p2 : Operand) (ho : o.op = .buildSlice 117 3 #[(0, p0), (1, p1), (2, p2)]) (x y z : Nat) (h0 : a.eval p0 = .agg (numC x)) (h1 : a.eval p1 = .agg (numC y)) (h2 : a.eval p2 = .agg (numC z))
    (h : wpList Tryd.prog ops Q rest (a.put o.dst (.slice (some ⟨w.heap.size, 0, none⟩) 3 3)) (w.alloc (.cells (numRow [x, y, z]) 33))) : wpList Tryd.prog ops Q (o :: rest) a w :=
  wpList_plain hgd fun _ hK => by
    have := build3 x y z w
    have he : (execOp a.eval o).run Tryd.prog w = .ok (.value (.slice (some ⟨w.heap.size, 0, none⟩) 3 3)) (w.alloc (.cells (numRow [x, y, z]) 33)) := by
      unfold execOp
      simp only [ho, Sem.run_bind]
      rw [show (#[(0, p0), (1, p1), (2, p2)] : Array (Nat × Operand)).map (fun (i, x) => (i, a.eval x)) = #[(0, .agg (numC x)), (1, .agg (numC y)), (2, .agg (numC z))] by simp [h0, h1, h2]]
      rw [this]; rfl
    unfold Oper.wp
    rw [he]
    exact hK _ _ h
theorem sum3 (x y z : Nat) (hx : x < Nm.big) : sumTo [x, y, z] 3 = ((x + y) % Nm.big + z) % Nm.big := by
  simp [sumTo, item, Nat.mod_eq_of_lt hx]
theorem over3 (x y z : Nat) (hx : x < Nm.big) : overTo [x, y, z] 3 = (decide (Nm.big ≤ x + y) || decide (Nm.big ≤ (x + y) % Nm.big + z)) := by
  have h : ¬ Nm.big ≤ x := by omega
  simp [overTo, sumTo, item, Nat.mod_eq_of_lt hx, h]
theorem eql_same (z : Nat) (w : World) : (binOp .eql 33 (.agg (numC z)) (.agg (numC z))).run Tryd.prog w = .ok (.bool true) w := by
  rw [numC_wds, run_eql_ints w .u64 33 31 4 Tryd.underlying33 Tryd.underlying31 wordSize _ _ rfl rfl]; simp
theorem back_sum {x y : Nat} (hx : x < Nm.big) (hy : y < Nm.big) : ((x + y) % Nm.big + Nm.big - y) % Nm.big = x := by
  rcases Nat.lt_or_ge (x + y) Nm.big with h | h
  · rw [Nat.mod_eq_of_lt h, show x + y + Nm.big - y = x + Nm.big by omega, Nat.add_mod_right, Nat.mod_eq_of_lt hx]
  · have e : (x + y) % Nm.big = x + y - Nm.big := by rw [Nat.mod_eq_sub_mod h, Nat.mod_eq_of_lt (by omega)]
    rw [e, show x + y - Nm.big + Nm.big - y = x by omega, Nat.mod_eq_of_lt hx]
end Go.Proofs.YtcgnohndfedodaaDoor.NN
