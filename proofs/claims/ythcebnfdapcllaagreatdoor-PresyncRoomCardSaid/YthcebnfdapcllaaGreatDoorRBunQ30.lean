import Derived.Test.YthcebnfdapcllaaGreatDoorRBunQ28
import Derived.Test.YthcebnfdapcllaaGreatDoorRBunQ29
namespace Go.Proofs.YthcebnfdapcllaaGreatDoor.NN
open Go.RowKit
structure Pr where
  lim : Int
  ivl : Int
  spc : Int
  fut : Int
  easy : Bool
  tl : List Value
def Pr.ok (p : Pr) : Prop := p.tl.length = 78
def Pr.one (p : Pr) : Prop := ∀ v ∈ p.tl, v.oneCell' = true
def prC (p : Pr) : List Value := .int .i64 p.lim :: .int .i64 p.ivl :: .int .i64 p.spc :: .int .i64 p.fut :: .bool p.easy :: p.tl
def prA (p : Pr) : Array Value := (prC p).toArray
theorem prA_size {p : Pr} (h : p.ok) : (prA p).size = 83 := by show (prC p).toArray.size = 83; rw [List.size_toArray]; simp [prC, show p.tl.length = 78 from h]
theorem prC_one {p : Pr} (h : p.one) : ∀ v ∈ prC p, v.oneCell' = true := by
  intro v hv
  simp only [prC, List.mem_cons] at hv
  rcases hv with rfl | rfl | rfl | rfl | rfl | hv
  · rfl
  · rfl
  · rfl
  · rfl
  · rfl
  · exact h v hv
theorem prinfo : (Tryz.prog.info? 32).map (·.size) = some 83 := by kernel_rfl
def PrAt (w : World) (k : Nat) (p : Pr) : Prop := Has w k (prA p) 32
variable {w w' : World} {k : Nat} {p : Pr}
theorem PrAt.lt (h : PrAt w k p) : k < w.heap.size := Has.lt h
theorem PrAt.on (h : PrAt w k p) (hb : Below w.heap.size w w') : PrAt w' k p := Has.on h hb
theorem PrAt.c0 (h : PrAt w k p) {x : Int} (e : Hid (p.lim = x)) : w.cell? ⟨k, 0, none⟩ = some (.int .i64 x) := (Has.cell h 0).trans (by rw [← e.out]; simp [prA, prC])
theorem PrAt.c1 (h : PrAt w k p) {x : Int} (e : Hid (p.ivl = x)) : w.cell? ⟨k, 1, none⟩ = some (.int .i64 x) := (Has.cell h 1).trans (by rw [← e.out]; simp [prA, prC])
theorem PrAt.c2 (h : PrAt w k p) {x : Int} (e : Hid (p.spc = x)) : w.cell? ⟨k, 2, none⟩ = some (.int .i64 x) := (Has.cell h 2).trans (by rw [← e.out]; simp [prA, prC])
theorem PrAt.c3 (h : PrAt w k p) {x : Int} (e : Hid (p.fut = x)) : w.cell? ⟨k, 3, none⟩ = some (.int .i64 x) := (Has.cell h 3).trans (by rw [← e.out]; simp [prA, prC])
theorem PrAt.c4 (h : PrAt w k p) {x : Bool} (e : Hid (p.easy = x)) : w.cell? ⟨k, 4, none⟩ = some (.bool x) := (Has.cell h 4).trans (by rw [← e.out]; simp [prA, prC])
theorem PrAt.free (h : PrAt w k p) (j : Nat) : w.frozen? ⟨k, j, none⟩ = false := Has.free h j
theorem pr_new (w : World) (p : Pr) : PrAt (w.alloc (.cells (prA p) 32)) w.heap.size p := Has.new _ _
theorem PrAt.cls (h : PrAt w k p) : ∀ w', (∃ r : Regrown, w' = Sort.grow (redrawn w r.d) r.os) → PrAt w' k p := Has.cls h
section
variable {ops : Array Oper} {rest : List Oper} {o : Oper} {a : Act} {Q : Exit → Act → World → Prop}
theorem pr_load (hgd : o.guard = none) (x : Operand) (ho : o.op = .load 32 x) (g : Nat) (hx : a.eval x = .pointer (some ⟨g, 0, none⟩)) (hg : PrAt w g p) (hs : (prA p).size = 83)
    (hk : wpList Tryz.prog ops Q rest (a.put o.dst (.agg (prA p))) w) : wpList Tryz.prog ops Q (o :: rest) a w :=
  wpList_load_row hgd 32 x ho g hx 32 (prA p) (0, 0) _ (Has.out hg) Tryz.underlying32 rfl (prinfo.trans (by rw [hs])) hk
theorem pr_load_g (hw : Region.wanted o (yielded ops a.tmps) = true) (x : Operand) (ho : o.op = .load 32 x) (g : Nat) (hx : a.eval x = .pointer (some ⟨g, 0, none⟩)) (hg : PrAt w g p) (hs : (prA p).size = 83)
    (hk : wpList Tryz.prog ops Q rest (a.put o.dst (.agg (prA p))) w) : wpList Tryz.prog ops Q (o :: rest) a w :=
  BigFrame.wpList_want hw fun _ hK => wp_load_row 32 x ho g hx 32 (prA p) (0, 0) _ (Has.out hg) Tryz.underlying32 rfl (prinfo.trans (by rw [hs])) (hK _ _ hk)
theorem ex_load_pr {ρ : Operand → Value} {x : Operand} {g : Nat} (ho : o.op = .load 32 x) (hx : ρ x = .pointer (some ⟨g, 0, none⟩)) (hg : PrAt w g p) (hs : (prA p).size = 83) : (execOp ρ o).run Tryz.prog w = .ok (.value (.agg (prA p))) w := by
  have hl : (loadVar 32 ⟨g, 0, none⟩).run Tryz.prog w = .ok (.agg (prA p)) w := run_loadVar_row w g 32 32 (prA p) (0, 0) _ (Has.out hg) Tryz.underlying32 rfl (prinfo.trans (by rw [hs]))
  unfold execOp
  simp only [ho, hx, Instr.loadAt, Instr.sureAddr, Sem.run_bind, Sem.run_pure, Result.andThen_ok, hl]
theorem quiet_load_pr {C : World → Prop} {K : Act → Prop} (x : Operand) (ho : o.op = .load 32 x) (g : Nat) (hx : a.eval x = .pointer (some ⟨g, 0, none⟩)) (hs : (prA p).size = 83) (hC : ∀ w', C w' → PrAt w' g p)
    (hk : K (a.put o.dst (.agg (prA p)))) : o.quiet Tryz.prog a C K :=
  ⟨_, fun w' hw' => by
    unfold Oper.quietAt
    rw [ex_load_pr ho hx (hC w' hw') hs]
    exact ⟨rfl, rfl⟩, hk⟩
theorem load_int {p : Addr} {z : Int} (hc : w.cell? p = some (.int .i64 z)) : (loadVar 3 p).run Tryz.prog w = .ok (.int .i64 z) w := by
  go_simp
theorem ex_load_int {ρ : Operand → Value} {x : Operand} {p : Addr} {z : Int} (ho : o.op = .load 3 x) (hx : ρ x = .pointer (some p)) (hc : w.cell? p = some (.int .i64 z)) : (execOp ρ o).run Tryz.prog w = .ok (.value (.int .i64 z)) w := by
  unfold execOp
  simp only [ho, hx, Instr.loadAt, Instr.sureAddr, Sem.run_bind, Sem.run_pure, Result.andThen_ok, load_int hc]
theorem ex_mul64 {ρ : Operand → Value} {x y : Operand} {a b : Int} (ho : o.op = .binOp .mul 24 x y 24) (hx : ρ x = .int .u64 a) (hy : ρ y = .int .u64 b) (m : Int) (hm : IntKind.u64.wrap (a * b) = m) : (execOp ρ o).run Tryz.prog w = .ok (.value (.int .u64 m)) w := by
  refine Rg2.ex_bin ho (by decide) (by decide) ?_
  rw [hx, hy]
  subst hm
  go_simp
theorem ex_quo64 {ρ : Operand → Value} {x y : Operand} {a b : Nat} (ho : o.op = .binOp .quo 24 x y 24) (hx : ρ x = .int .u64 (a : Int)) (hy : ρ y = .int .u64 (b : Int)) (hb : (b : Int) ≠ 0) (m : Int) (hm : IntKind.u64.wrap ((a : Int) / (b : Int)) = m) : (execOp ρ o).run Tryz.prog w = .ok (.value (.int .u64 m)) w := by
  refine Rg2.ex_bin ho (by decide) (by decide) ?_
  have hb' : ¬ b = 0 := by omega
  rw [hx, hy]
  go_simp
end
theorem max_is {P : Program} (x y m : Int) (h : m = max x y) (ts : Array TypeId) (t : TypeId) (w : World) : (Builtin.max_ ts t #[.int .i64 x, .int .i64 y]).run P w = .ok (.int .i64 m) w := by
  rw [run_max_int2, show (if y > x then y else x) = m by split <;> omega]
theorem min_is {P : Program} (x y m : Int) (h : m = min x y) (ts : Array TypeId) (t : TypeId) (w : World) : (Builtin.min_ ts t #[.int .i64 x, .int .i64 y]).run P w = .ok (.int .i64 m) w := by
  rw [run_min_int2, show (if y < x then y else x) = m by split <;> omega]
end Go.Proofs.YthcebnfdapcllaaGreatDoor.NN
namespace Go.Proofs.YthcebnfdapcllaaGreatDoor.NN
open Go.RowKit
def Pr.good (p : Pr) : Bool := tok p.lim p.lim && decide (2 ≤ p.ivl) && decide (p.ivl ≤ 64) && decide (1 ≤ p.spc) && decide (p.spc ≤ 10000) && decide (0 ≤ p.fut) && decide (p.fut < 4294967296)
set_option maxRecDepth 100000 in
set_option maxHeartbeats 2000000 in
theorem pgood_w (p : Pr) (z : Nat) (lim ivl spc fut : Int) (o g1 g2 g3 g4 g5 g6 : Bool) (e0 : Hid (p.lim = lim)) (e1 : Hid (p.ivl = ivl)) (e2 : Hid (p.spc = spc)) (e3 : Hid (p.fut = fut)) (t1 : decide ((2 : Int) ≤ ivl) = g1) (t2 : decide (ivl ≤ (64 : Int)) = g2) (t3 : decide ((1 : Int) ≤ spc) = g3) (t4 : decide (spc ≤ (10000 : Int)) = g4) (t5 : decide ((0 : Int) ≤ fut) = g5) (t6 : decide (fut < (4294967296 : Int)) = g6)
    (KT : Hid (∀ w, Calls Tryz.prog 60 #[.int .i64 lim, .int .i64 lim] w fun e w' => e = .returned (.tuple #[.agg (numC z), .bool o]) ∧ Below w.heap.size w w')) (w : World) :
    Calls Tryz.prog 40 #[.agg (prA p)] w fun e w' => e = .returned (.bool (o && g1 && g2 && g3 && g4 && g5 && g6)) ∧ Below w.heap.size w w' := by
  have hP := pr_new w p
  have hbel : Below w.heap.size w (w.alloc (.cells (prA p) 32)) := (Below.refl _ _).alloc (Nat.le_refl _) _
  have c0 := hP.c0 e0
  go_enter Tryz.func40, Tryz.ntmps40
  go_upto_region 1 with fail
  generalize World.alloc _ _ = v0 at *
  generalize w.heap.size = b_hP at hP c0 ⊢
  go_wp2_with fail
  refine (KT.out _).mono ?_
  rintro e v1 ⟨rfl, hb1⟩
  replace hP := hP.on hb1
  replace hbel := hbel.trans (hb1.mono hbel.size)
  clear c0 hb1
  go_upto_region 2 with (with_reducible refine num_store rfl _ _ rfl _ _ rfl rfl _ (Has.newz _) rfl ?_)
  generalize hw2 : World.setRow _ _ _ = v2
  have hb2 : Below v1.heap.size v1 v2 := by rw [← hw2]; exact below_setRow ((Below.refl _ _).alloc (Nat.le_refl _) _) (Nat.le_refl _) _
  replace hP := hP.on hb2
  replace hbel := hbel.trans (hb2.mono hbel.size)
  clear hw2 hb2
  have c1 := hP.c1 e1
  have c2 := hP.c2 e2
  have c3 := hP.c3 e3
  cases o
  case' true =>
    cases g1
    case' true =>
      cases g2
      case' true =>
        cases g3
        case' true =>
          cases g4
          case' true =>
            cases g5
            case' true =>
              cases g6
  all_goals
    go_wp2_with fail
    go_ret
    exact ⟨rfl, hbel⟩
theorem pgood_at (p : Pr) (w : World) : Calls Tryz.prog 40 #[.agg (prA p)] w fun e w' => e = .returned (.bool p.good) ∧ Below w.heap.size w w' :=
  pgood_w p _ _ _ _ _ _ _ _ _ _ _ _ (Lib.hid rfl) (Lib.hid rfl) (Lib.hid rfl) (Lib.hid rfl) rfl rfl rfl rfl rfl rfl (Lib.hid fun w => tgt_at p.lim p.lim w) w
set_option maxRecDepth 100000 in
set_option maxHeartbeats 2000000 in
theorem rgood_w (p : Pr) (z : Nat) (lim ivl spc fut : Int) (o g1 g2 g3 g4 g5 g6 : Bool) (e0 : Hid (p.lim = lim)) (e1 : Hid (p.ivl = ivl)) (e2 : Hid (p.spc = spc)) (e3 : Hid (p.fut = fut)) (t1 : decide ((2 : Int) ≤ ivl) = g1) (t2 : decide (ivl ≤ (64 : Int)) = g2) (t3 : decide ((1 : Int) ≤ spc) = g3) (t4 : decide (spc ≤ (10000 : Int)) = g4) (t5 : decide ((0 : Int) ≤ fut) = g5) (t6 : decide (fut < (4294967296 : Int)) = g6)
    (KT : Hid (∀ w, Calls Tryz.prog 45 #[.int .i64 lim, .int .i64 lim] w fun e w' => e = .returned (.tuple #[.agg (numC z), .bool o]) ∧ Below w.heap.size w w')) (w : World) :
    Calls Tryz.prog 31 #[.agg (prA p)] w fun e w' => e = .returned (.bool (o && g1 && g2 && g3 && g4 && g5 && g6)) ∧ Below w.heap.size w w' := by
  have hP := pr_new w p
  have hbel : Below w.heap.size w (w.alloc (.cells (prA p) 32)) := (Below.refl _ _).alloc (Nat.le_refl _) _
  have c0 := hP.c0 e0
  go_enter Tryz.func31, Tryz.ntmps31
  go_upto_region 1 with fail
  generalize World.alloc _ _ = v0 at *
  generalize w.heap.size = b_hP at hP c0 ⊢
  go_wp2_with fail
  refine (KT.out _).mono ?_
  rintro e v1 ⟨rfl, hb1⟩
  replace hP := hP.on hb1
  replace hbel := hbel.trans (hb1.mono hbel.size)
  clear c0 hb1
  go_upto_region 2 with (with_reducible refine num_store rfl _ _ rfl _ _ rfl rfl _ (Has.newz _) rfl ?_)
  generalize hw2 : World.setRow _ _ _ = v2
  have hb2 : Below v1.heap.size v1 v2 := by rw [← hw2]; exact below_setRow ((Below.refl _ _).alloc (Nat.le_refl _) _) (Nat.le_refl _) _
  replace hP := hP.on hb2
  replace hbel := hbel.trans (hb2.mono hbel.size)
  clear hw2 hb2
  have c1 := hP.c1 e1
  have c2 := hP.c2 e2
  have c3 := hP.c3 e3
  cases o
  case' true =>
    cases g1
    case' true =>
      cases g2
      case' true =>
        cases g3
        case' true =>
          cases g4
          case' true =>
            cases g5
            case' true =>
              cases g6
  all_goals
    go_wp2_with fail
    go_ret
    exact ⟨rfl, hbel⟩
theorem rgood_at (p : Pr) (w : World) : Calls Tryz.prog 31 #[.agg (prA p)] w fun e w' => e = .returned (.bool p.good) ∧ Below w.heap.size w w' :=
  rgood_w p _ _ _ _ _ _ _ _ _ _ _ _ (Lib.hid rfl) (Lib.hid rfl) (Lib.hid rfl) (Lib.hid rfl) rfl rfl rfl rfl rfl rfl (Lib.hid fun w => rtgt_at p.lim p.lim w) w
end Go.Proofs.YthcebnfdapcllaaGreatDoor.NN
