/-
  Regions that draw their order, make numbers' blocks and write them.
-/
import Derived.Test.YtpophaejeklaoaaGreatDoorZRegionInv2
import Derived.Test.YtpophaejeklaoaaGreatDoorBunQ20
namespace Go.Proofs.YtpophaejeklaoaaGreatDoor.NN
open Go.RowKit Rg2

/-- blocks of numbers from B on stay blocks of numbers -/
def NumStep (B : Nat) (w w' : World) : Prop := ∀ b cs, B ≤ b → Has w b cs 26 → cs.size = 4 → ∃ cs', Has w' b cs' 26 ∧ cs'.size = 4
theorem NumStep.refl (B : Nat) (w : World) : NumStep B w w := fun _ cs _ h hs => ⟨cs, h, hs⟩
theorem NumStep.below {B : Nat} {w w' : World} (h : Below w.heap.size w w') : NumStep B w w' := fun _ cs _ h' hs => ⟨cs, h'.on h, hs⟩
theorem NumStep.row {B g z : Nat} {cs : Array Value} {w : World} (hg : Has w g cs 26) : NumStep B w (w.setRow g (numC z)) := fun b cs' _ h hs => by
  by_cases e : b = g
  · subst e; exact ⟨_, hg.row _, rfl⟩
  · exact ⟨cs', h.otherRow _ _ e, hs⟩
/-- what a slot holds: a value; a new block of a number; whatever -/
inductive Slot where
  | val (v : Value)
  | ptr
  | any
def Slot.holds (B : Nat) : Slot → Value → World → Prop
  | .val x, v, _ => v = x
  | .ptr, v, w => ∃ b cs, B ≤ b ∧ v = .pointer (some ⟨b, 0, none⟩) ∧ Has w b cs 26 ∧ cs.size = 4
  | .any, _, _ => True
theorem Slot.stays {B : Nat} (sp : Slot) (v : Value) (w w' : World) (hs : NumStep B w w') (h : sp.holds B v w) : sp.holds B v w' := by
  cases sp with
  | val x => exact h
  | ptr =>
    obtain ⟨b, cs, h1, h2, h3, h4⟩ := h
    obtain ⟨cs', h5, h6⟩ := hs b cs h1 h3 h4
    exact ⟨b, cs', h1, h2, h5, h6⟩
  | any => trivial
/-- store k into the block of slot p is done: it holds z -/
def Done (k : Nat) (p : Tmp) (B z : Nat) (listed : Array Bool) (a : Act) (w : World) : Prop := listed.getD k false = true → ∃ b, B ≤ b ∧ a.eval (.tmp p) = .pointer (some ⟨b, 0, none⟩) ∧ Has w b (numC z) 26
theorem Done.keep {k i : Nat} {p : Tmp} {B z : Nat} {listed : Array Bool} {a : Act} {w w' : World} {d : Option Tmp} {v : Value} (h : Done k p B z listed a w) (hi : i < listed.size) (hik : i ≠ k) (hd : d ≠ some p) (hw : ∀ b, Has w b (numC z) 26 → Has w' b (numC z) 26) : Done k p B z (listed.setIfInBounds i true) (a.put d v) w' := fun hl => by
  rw [getD_set _ _ _ hi, if_neg hik] at hl
  obtain ⟨b, hb, he, hh⟩ := h hl
  exact ⟨b, hb, by rw [Act.eval_put (fun d' hdd e => hd (by rw [hdd]; cases e; rfl))]; exact he, hw b hh⟩
theorem Done.pre {k i : Nat} {p : Tmp} {B z : Nat} {listed : Array Bool} {a : Act} {w : World} (h : (listed.setIfInBounds i true).getD k false = false) : Done k p B z (listed.setIfInBounds i true) a w := fun hl => by rw [h] at hl; cases hl
section
variable {ρ : Operand → Value} {o : Oper} {w : World}
theorem ex_load_num {x : Operand} {g z : Nat} (ho : o.op = .load 26 x) (hx : ρ x = .pointer (some ⟨g, 0, none⟩)) (hg : Has w g (numC z) 26) : (execOp ρ o).run Tryz.prog w = .ok (.value (.agg (numC z))) w := by
  have hl : (loadVar 26 ⟨g, 0, none⟩).run Tryz.prog w = .ok (.agg (numC z)) w := run_loadVar_row w g 26 26 (numC z) (0, 0) _ hg.out Tryz.underlying26 rfl infoNum
  unfold execOp
  simp only [ho, hx, Instr.loadAt, Instr.sureAddr, Sem.run_bind, Sem.run_pure, Result.andThen_ok, hl]
theorem ex_store_num {x y : Operand} {g z : Nat} {cs : Array Value} (ho : o.op = .store 26 x y) (hx : ρ x = .pointer (some ⟨g, 0, none⟩)) (hy : ρ y = .agg (numC z)) (hg : Has w g cs 26) (hs : cs.size = 4) : (execOp ρ o).run Tryz.prog w = .ok .skip (w.setRow g (numC z)) := by
  unfold execOp
  simp only [ho, hx, hy, Instr.storeAt, Instr.sureAddr, Sem.run_bind, Sem.run_pure, Result.andThen_ok, run_storeVar_row w g 26 26 cs (numC z) hg.out infoNum hs (numC_one z)]
theorem ex_alloc_num (ho : o.op = .alloc 26) : (execOp ρ o).run Tryz.prog w = .ok (.value (.pointer (some ⟨w.heap.size, 0, none⟩))) (w.alloc (.cells (numC 0) 26)) := by
  unfold execOp
  simp only [ho]
  kernel_rfl
theorem ex_move {x : Operand} (ho : o.op = .move x) : (execOp ρ o).run Tryz.prog w = .ok (.value (ρ x)) w := by
  unfold execOp; simp only [ho]; rfl
theorem ex_assign {x : Operand} (ho : o.op = .assign x) : (execOp ρ o).run Tryz.prog w = .ok (.value (ρ x)) w := by
  unfold execOp; simp only [ho]; rfl
theorem ex_extract {x : Operand} {n : Nat} {vs : Array Value} {v : Value} (ho : o.op = .extract x n) (hx : ρ x = .tuple vs) (hv : vs[n]? = some v) : (execOp ρ o).run Tryz.prog w = .ok (.value v) w := by
  unfold execOp; simp only [ho, hx]
  simp [Instr.extract, hv]
end
end Go.Proofs.YtpophaejeklaoaaGreatDoor.NN
