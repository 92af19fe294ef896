import Derived.Test.YthcebnfdapcllaaGreatDoorRBunQ14
import Derived.Test.YthcebnfdapcllaaGreatDoorRHashMem
import Derived.Test.YthcebnfdapcllaaGreatDoorRPgMath
import Derived.Deep.DeepCutAuto
import Derived.Deep.CutBlock
namespace Go.Proofs.YthcebnfdapcllaaGreatDoor.An
open Go.RowKit Mem Sc NN.Rg2
open Pg (Pl pbit gv Ws)
set_option maxRecDepth 100000
def plA (x : Pl) : Array Value := #[.int .i64 x.s, .int .i64 x.p, .int .i64 x.o]
def PlAt (w : World) (b : Nat) (x : Pl) : Prop := Has w b (plA x) 35
theorem PlAt.c0 {w : World} {b : Nat} {x : Pl} (h : PlAt w b x) : w.cell? ⟨b, 0, none⟩ = some (.int .i64 x.s) := Has.cell h 0
theorem PlAt.c1 {w : World} {b : Nat} {x : Pl} (h : PlAt w b x) : w.cell? ⟨b, 1, none⟩ = some (.int .i64 x.p) := Has.cell h 1
theorem PlAt.c2 {w : World} {b : Nat} {x : Pl} (h : PlAt w b x) : w.cell? ⟨b, 2, none⟩ = some (.int .i64 x.o) := Has.cell h 2
theorem PlAt.on {w w' : World} {b B : Nat} {x : Pl} (h : PlAt w b x) (hb : Below B w w') (hB : b < B) : PlAt w' b x := below_has hb h hB
theorem PlAt.range {w : World} {b : Nat} {x : Pl} (h : PlAt w b x) : w.rangeAt b 0 (plA x).toList := fun j u hu => by
  rw [Has.cell h (0 + j), Nat.zero_add, ← Array.getElem?_toList]
  exact hu
theorem plinfo : (Tryz.prog.info? 35).map (·.size) = some 3 := by kernel_rfl
section
variable {w : World} {p : Addr} {q a : Option Addr} {n c : Nat} {z : Int} {b : Bool} {u : Value}
theorem ld_i (h : w.cell? p = some (.int .i64 z)) : (loadVar 3 p).run Tryz.prog w = .ok (.int .i64 z) w := by go_simp
theorem ld_u (h : w.cell? p = some (.int .u64 z)) : (loadVar 24 p).run Tryz.prog w = .ok (.int .u64 z) w := by go_simp
theorem ld_ws (h : w.cell? p = some (.slice a n c)) : (loadVar 99 p).run Tryz.prog w = .ok (.slice a n c) w := by go_simp
theorem sv_i (hf : w.frozen? p = false) (hc : w.cell? p = some u) : (storeVar 3 p (.int .i64 z)).run Tryz.prog w = .ok () (w.setCell p (.int .i64 z)) := by go_simp
theorem sv_u (hf : w.frozen? p = false) (hc : w.cell? p = some u) : (storeVar 24 p (.int .u64 z)).run Tryz.prog w = .ok () (w.setCell p (.int .u64 z)) := by go_simp
end
section
variable {ρ : Operand → Value} {o : Oper} {w w' : World} {g : Nat}
theorem ex_load_of {T : TypeId} {x : Operand} {p : Addr} {u : Value} (ho : o.op = .load T x) (hx : ρ x = .pointer (some p)) (hl : (loadVar T p).run Tryz.prog w = .ok u w) : (execOp ρ o).run Tryz.prog w = .ok (.value u) w := by
  unfold execOp
  simp only [ho, hx, Instr.loadAt, Instr.sureAddr, Sem.run_bind, Sem.run_pure, Result.andThen_ok, hl]
theorem ex_store_of {T : TypeId} {x y : Operand} {p : Addr} {u : Value} (ho : o.op = .store T x y) (hx : ρ x = .pointer (some p)) (hy : ρ y = u) (hl : (storeVar T p u).run Tryz.prog w = .ok () w') : (execOp ρ o).run Tryz.prog w = .ok .skip w' := by
  unfold execOp
  simp only [ho, hx, hy, Instr.storeAt, Instr.sureAddr, Sem.run_bind, Sem.run_pure, Result.andThen_ok, hl]
theorem pex_mid {T : TypeId} {x : Operand} (ho : o.op = .load T x) {g off : Nat} (hx : ρ x = .pointer (some ⟨g, off, none⟩)) {cs : List Value} {d : TypeDesc} (hu : Tryz.prog.underlying T = some d) (hd : d.isRow = true) (hi : (Tryz.prog.info? T).map (·.size) = some cs.length) (hg : w.rangeAt g off cs) :
    (execOp ρ o).run Tryz.prog w = .ok (.value (.agg cs.toArray)) w := by
  unfold execOp
  simp only [ho, hx, Sem.run_bind, run_loadAt_mid w g off T cs d hg hu hd hi, Result.andThen_ok]
  rfl
theorem ex_load_pl {x : Operand} {g : Nat} {y : Pl} (ho : o.op = .load 35 x) (hx : ρ x = .pointer (some ⟨g, 0, none⟩)) (hg : w.rangeAt g 0 (plA y).toList) : (execOp ρ o).run Tryz.prog w = .ok (.value (.agg (plA y))) w :=
  pex_mid ho hx Tryz.underlying35 rfl plinfo hg
theorem pex_load_hl {x : Operand} {g off : Nat} {l : List UInt8} (ho : o.op = .load 28 x) (hx : ρ x = .pointer (some ⟨g, off, none⟩)) (hg : w.rangeAt g off (Lib.byteCells l)) (hs : l.length = 32) : (execOp ρ o).run Tryz.prog w = .ok (.value (.agg (bytesV l))) w := by
  have := pex_mid ho hx Tryz.underlying28 rfl (hinfo.trans (by rw [Lib.byteCells_length, hs])) hg
  rwa [← bytesV_list, Array.toArray_toList] at this
theorem ex_eqi {U : TypeId} {x y : Operand} {a b : Int} {g : Bool} (ho : o.op = .binOp .eql 3 x y U) (hx : ρ x = .int .i64 a) (hy : ρ y = .int .i64 b) (h : (a == b) = g) : (execOp ρ o).run Tryz.prog w = .ok (.value (.bool g)) w := by
  unfold execOp
  subst h
  simp only [ho, hx, hy]
  kernel_rfl
theorem ex_neqb {x y : Operand} {a b g : Bool} (ho : o.op = .binOp .neq 4 x y 4) (hx : ρ x = .bool a) (hy : ρ y = .bool b) (h : (a != b) = g) : (execOp ρ o).run Tryz.prog w = .ok (.value (.bool g)) w := by
  unfold execOp
  subst h
  simp only [ho, hx, hy]
  kernel_rfl
theorem ex_geqi {x y : Operand} {a b : Int} {g : Bool} (ho : o.op = .binOp .geq 3 x y 3) (hx : ρ x = .int .i64 a) (hy : ρ y = .int .i64 b) (h : decide (b ≤ a) = g) : (execOp ρ o).run Tryz.prog w = .ok (.value (.bool g)) w := by
  unfold execOp
  subst h
  simp only [ho, hx, hy]
  kernel_rfl
theorem ex_remi {x y : Operand} {a b t : Int} (ho : o.op = .binOp .rem 3 x y 3) (hx : ρ x = .int .i64 a) (hy : ρ y = .int .i64 b) (h0 : ¬ b = 0) (h : a.tmod b = t) : (execOp ρ o).run Tryz.prog w = .ok (.value (.int .i64 t)) w := by
  unfold execOp
  subst h
  simp only [ho, hx, hy]
  go_simp
theorem ex_subi {x y : Operand} {c d z : Int} (ho : o.op = .binOp .sub 3 x y 3) (hx : ρ x = .int .i64 c) (hy : ρ y = .int .i64 d) (hz : IntKind.i64.wrap (c - d) = z) : (execOp ρ o).run Tryz.prog w = .ok (.value (.int .i64 z)) w := by
  subst hz
  unfold execOp
  simp only [ho, hx, hy]
  kernel_rfl
theorem ex_addi {x y : Operand} {c d z : Int} (ho : o.op = .binOp .add 3 x y 3) (hx : ρ x = .int .i64 c) (hy : ρ y = .int .i64 d) (hz : IntKind.i64.wrap (c + d) = z) : (execOp ρ o).run Tryz.prog w = .ok (.value (.int .i64 z)) w := by
  subst hz
  unfold execOp
  simp only [ho, hx, hy]
  kernel_rfl
theorem ex_muli {x y : Operand} {c d z : Int} (ho : o.op = .binOp .mul 3 x y 3) (hx : ρ x = .int .i64 c) (hy : ρ y = .int .i64 d) (hz : IntKind.i64.wrap (c * d) = z) : (execOp ρ o).run Tryz.prog w = .ok (.value (.int .i64 z)) w := by
  subst hz
  unfold execOp
  simp only [ho, hx, hy]
  kernel_rfl
theorem ex_quoi {x y : Operand} {a b t : Int} (ho : o.op = .binOp .quo 3 x y 3) (hx : ρ x = .int .i64 a) (hy : ρ y = .int .i64 b) (h0 : ¬ b = 0) (h : a.tdiv b = t) (ht : IntKind.i64.wrap t = t) : (execOp ρ o).run Tryz.prog w = .ok (.value (.int .i64 t)) w := by
  unfold execOp
  simp only [ho, hx, hy]
  go_simp
theorem ex_oru {x y : Operand} {a b t : Int} (ho : o.op = .binOp .or 24 x y 24) (hx : ρ x = .int .u64 a) (hy : ρ y = .int .u64 b) (h : bits .or .u64 a b = t) : (execOp ρ o).run Tryz.prog w = .ok (.value (.int .u64 t)) w := by
  subst h
  unfold execOp
  simp only [ho, hx, hy]
  kernel_rfl
theorem ex_shlu {x y : Operand} {a t : Int} {k : Nat} (ho : o.op = .binOp .shl 24 x y 3) (hx : ρ x = .int .u64 a) (hy : ρ y = .int .i64 (k : Int)) (hk : k < 64) (h : IntKind.u64.wrap (a * 2 ^ k) = t) : (execOp ρ o).run Tryz.prog w = .ok (.value (.int .u64 t)) w := by
  unfold execOp
  simp only [ho, hx, hy]
  have h1 : ¬ ((k : Int) < 0) := by omega
  go_simp
theorem pex_idx {T : TypeId} {x y : Operand} {g j m : Nat} {n c : Nat} (ho : o.op = .indexAddr T x y) (hx : ρ x = .slice (some ⟨g, 0, none⟩) n c) (hy : ρ y = .int .i64 (j : Int)) (hf : (Instr.indexAt T (.slice (some ⟨g, 0, none⟩) n c) (.int .i64 (j : Int))).run Tryz.prog w = .ok (.pointer (some ⟨g, m, none⟩)) w) : (execOp ρ o).run Tryz.prog w = .ok (.value (.pointer (some ⟨g, m, none⟩))) w := by
  unfold execOp
  simp only [ho, hx, hy, Sem.run_bind, hf, Result.andThen_ok]
  rfl
theorem idx_words (w : World) (g j n c : Nat) (hj : j < n) : (Instr.indexAt 99 (.slice (some ⟨g, 0, none⟩) n c) (.int .i64 (j : Int))).run Tryz.prog w = .ok (.pointer (some ⟨g, j, none⟩)) w := by
  go_simp
theorem ff {P : Prop} {b : Bool} (h : b = false) (h2 : b = true) : P := by rw [h] at h2; cases h2
variable {b1 b2 : Bool} {D : List UInt8}
end
end Go.Proofs.YthcebnfdapcllaaGreatDoor.An
namespace Go.Proofs.YthcebnfdapcllaaGreatDoor.An
open Go.RowKit Mem Sc NN.Rg2
open Pg (Pl pbit gv Ws)
set_option maxRecDepth 100000
theorem pl_good (x : Pl) : x.good = (decide (1 ≤ x.p) && (decide (x.p ≤ 64) && (decide (0 ≤ x.o) && decide (x.o < x.p)))) := rfl
theorem good_at (x : Pl) (w : World) : Calls Tryz.prog 25 #[.agg (plA x)] w fun r w' => r = .returned (.bool x.good) ∧ Below w.heap.size w w' := by
  obtain ⟨s, p, o⟩ := x
  obtain ⟨b1, h1⟩ : ∃ b1, decide ((1 : Int) ≤ p) = b1 := ⟨_, rfl⟩
  obtain ⟨b2, h2⟩ : ∃ b2, decide (p ≤ (64 : Int)) = b2 := ⟨_, rfl⟩
  obtain ⟨b3, h3⟩ : ∃ b3, decide ((0 : Int) ≤ o) = b3 := ⟨_, rfl⟩
  obtain ⟨b4, h4⟩ : ∃ b4, decide (o < p) = b4 := ⟨_, rfl⟩
  have hg : (⟨s, p, o⟩ : Pl).good = (b1 && (b2 && (b3 && b4))) := by rw [pl_good, h1, h2, h3, h4]
  rw [hg]
  clear hg
  unfold plA
  go_enter Tryz.func25, Tryz.ntmps25
  have hB := (Below.refl w.heap.size w).alloc (Nat.le_refl _) (.cells #[.int .i64 s, .int .i64 p, .int .i64 o] 35)
  cases b1 with
  | false => go_wp2_with fail; go_ret; exact ⟨rfl, hB⟩
  | true =>
  cases b2 with
  | false => go_wp2_with fail; go_ret; exact ⟨rfl, hB⟩
  | true =>
  cases b3 with
  | false => go_wp2_with fail; go_ret; exact ⟨rfl, hB⟩
  | true =>
  cases b4 with
  | false => go_wp2_with fail; go_ret; exact ⟨rfl, hB⟩
  | true => go_wp2_with fail; go_ret; exact ⟨rfl, hB⟩
def BxP (bP : Nat) (x : Pl) (B : Nat) (w : World) : Bool → Bool → World → Prop := fun _ _ w' => Below B w w' ∧ PlAt w' bP x ∧ bP < w'.heap.size
theorem due_at (x : Pl) (h : Int) (w : World) : Calls Tryz.prog 70 #[.agg (plA x), .int .i64 h] w fun r w' => r = .returned (.bool (x.due h)) ∧ Below w.heap.size w w' := by
  have KG := Lib.hid (fun w' => good_at x w')
  obtain ⟨g, hg⟩ : ∃ g, x.good = g := ⟨_, rfl⟩
  rw [hg] at KG
  obtain ⟨b1, h1⟩ : ∃ b1, decide ((0 : Int) ≤ h) = b1 := ⟨_, rfl⟩
  obtain ⟨t, ht⟩ : ∃ t, h.tmod x.p = t := ⟨_, rfl⟩
  obtain ⟨b2, h2⟩ : ∃ b2, (t == x.o) = b2 := ⟨_, rfl⟩
  have hd : x.due h = (g && (b1 && b2)) := by
    unfold Pl.due; rw [hg, h1, ht, ← h2]; rfl
  rw [hd]
  have hp : g = true → ¬ x.p = 0 := fun e => by
    rw [e, pl_good] at hg
    simp only [Bool.and_eq_true, decide_eq_true_eq] at hg
    omega
  clear hd hg
  go_enter Tryz.func70, Tryz.ntmps70
  go_upto_region 1 with fail
  generalize hw0 : World.alloc _ _ = v0
  have hB : Below w.heap.size w v0 := by rw [← hw0]; exact (Below.refl _ _).alloc (Nat.le_refl _) _
  have hP : PlAt v0 w.heap.size x := by rw [← hw0]; exact Has.new _ _
  have hbl : w.heap.size < v0.heap.size := Has.lt hP
  clear hw0
  obtain ⟨bP, hbP⟩ : ∃ bP, bP = w.heap.size := ⟨_, rfl⟩
  rw [← hbP] at hP hbl
  rw [← hbP]
  obtain ⟨px, hpx⟩ : ∃ px, x.p = px := ⟨_, rfl⟩
  obtain ⟨ox, hox⟩ : ∃ ox, x.o = ox := ⟨_, rfl⟩
  rw [hpx] at ht hp
  rw [hox] at h2
  cases g with
  | false =>
    refine wp_tab (BxP bP x w.heap.size w) 99 98 [0, 1] [.agg (plA x), .bool false, .bool false, undef, undef, .bool false, .bool false, undef, undef, undef, undef, undef, undef, undef, .bool false, .bool false] ⟨hB.drew, hP, hbl⟩ ⟨fun _ _ w' _ _ hC => ?_, fun _ _ w' _ _ hC => ?_, trivial⟩ ?_
    · exact .val (ex_load_pl rfl rfl hC.2.1.range) hC
    · exact .call ((KG.out _).mono fun e w'' h => ⟨h.1, hC.1.trans (h.2.mono hC.1.size), hC.2.1.on h.2 hC.2.2, Nat.lt_of_lt_of_le hC.2.2 h.2.size⟩)
    · intro w' hJ
      have HJ := hJ.1
      clear hJ KG hB hP
      simp only [finT, List.set_cons_zero, List.set_cons_succ, List.tail_cons, List.headD_cons]
      go_wp2_with fail
      go_ret
      exact ⟨rfl, HJ⟩
  | true =>
    have hp0 := hp rfl
    cases b1 with
    | false =>
      refine wp_tab (BxP bP x w.heap.size w) 99 98 [0, 1, 4] [.agg (plA x), .bool true, .bool true, .int .i64 h, .bool false, .bool false, .bool false, undef, undef, undef, undef, undef, undef, undef, .bool false, .bool false] ⟨hB.drew, hP, hbl⟩ ⟨fun _ _ w' _ _ hC => ?_, fun _ _ w' _ _ hC => ?_, fun _ _ w' _ _ hC => ?_, trivial⟩ ?_
      · exact .val (ex_load_pl rfl rfl hC.2.1.range) hC
      · exact .call ((KG.out _).mono fun e w'' h => ⟨h.1, hC.1.trans (h.2.mono hC.1.size), hC.2.1.on h.2 hC.2.2, Nat.lt_of_lt_of_le hC.2.2 h.2.size⟩)
      · exact .val (ex_geqi rfl rfl rfl h1) hC
      · intro w' hJ
        have HJ := hJ.1
        clear hJ KG hB hP
        simp only [finT, List.set_cons_zero, List.set_cons_succ, List.tail_cons, List.headD_cons]
        go_wp2_with fail
        go_ret
        exact ⟨rfl, HJ⟩
    | true =>
      refine wp_tab (BxP bP x w.heap.size w) 99 98 [0, 1, 4, 9, 10, 12, 13] [.agg (plA x), .bool true, .bool true, .int .i64 h, .bool true, .bool true, .bool true, .int .i64 h, .pointer (some ⟨bP, 1, none⟩), .int .i64 px, .int .i64 t, .pointer (some ⟨bP, 2, none⟩), .int .i64 ox, .bool b2, .bool b2, .bool b2] ⟨hB.drew, hP, hbl⟩ ⟨fun _ _ w' _ _ hC => ?_, fun _ _ w' _ _ hC => ?_, fun _ _ w' _ _ hC => ?_, fun _ _ w' _ _ hC => ?_, fun _ _ w' _ _ hC => ?_, fun _ _ w' _ _ hC => ?_, fun _ _ w' _ _ hC => ?_, trivial⟩ ?_
      · exact .val (ex_load_pl rfl rfl hC.2.1.range) hC
      · exact .call ((KG.out _).mono fun e w'' h => ⟨h.1, hC.1.trans (h.2.mono hC.1.size), hC.2.1.on h.2 hC.2.2, Nat.lt_of_lt_of_le hC.2.2 h.2.size⟩)
      · exact .val (ex_geqi rfl rfl rfl h1) hC
      · exact .val (ex_load_of rfl rfl (ld_i (hpx ▸ hC.2.1.c1))) hC
      · exact .val (ex_remi rfl rfl rfl hp0 ht) hC
      · exact .val (ex_load_of rfl rfl (ld_i (hox ▸ hC.2.1.c2))) hC
      · exact .val (ex_eqi rfl rfl rfl h2) hC
      · intro w' hJ
        have HJ := hJ.1
        clear hJ KG hB hP
        simp only [finT, List.set_cons_zero, List.set_cons_succ, List.tail_cons, List.headD_cons]
        go_wp2_with fail
        go_ret
        exact ⟨rfl, HJ⟩
end Go.Proofs.YthcebnfdapcllaaGreatDoor.An
