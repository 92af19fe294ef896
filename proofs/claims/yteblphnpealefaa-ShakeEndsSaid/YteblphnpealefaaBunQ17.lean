/-
  Texts of this seat, one behind the other.
-/
import Derived.Test.YteblphnpealefaaZEvMath
import Derived.Test.YteblphnpealefaaBunQ10
import Derived.Laws.StructEq
/-
  Envelopes in memory: blocks that hold one, loads and stores; envelope: goodByte, goodWord, Good; the reference's Word; the laws' good.
-/
namespace Go.Proofs.Yteblphnpealefaa
open Go.RowKit Mem Sc
section
def evC (v : Ev) : List Value := [.string v.w, .string v.p]
def evA (v : Ev) : Array Value := #[.string v.w, .string v.p]
theorem evA_size (v : Ev) : (evA v).size = 2 := rfl
theorem evA_one (v : Ev) : (evA v).all (·.oneCell') = true := by simp [evA, Value.oneCell']
variable {w w' : World} {k : Nat} {v : Ev}
section
variable {ops : Array Oper} {rest : List Oper} {o : Oper} {a : Act} {Q : Exit → Act → World → Prop}
end
theorem results_cell_two {fn : Func} {p u v : Tmp} {ty : TypeId} (h : fn.results = #[.cell p ty, .tmp u, .tmp v]) (tmps : Array Value) (P : Program) (w : World) :
    (results fn tmps).run P w =
      ((asAddr (tmps.getD p undef)).run P w).andThen fun a w₁ => ((loadVar ty a).run P w₁).andThen fun x w₂ => .ok (.tuple #[x, tmps.getD u undef, tmps.getD v undef]) w₂ := by
  simp only [results, h]
  simp [Sem.run_bind, Result.andThen]
/-! ### equality -/
theorem part_str (cs : Array Value) (o : Nat) (v : Value) (h : cs[o]? = some v) (w : World) : (part 9 cs o).run Try.prog w = .ok v w := by
  simp [part, h]
instance evEqDec (a b : Ev) : Decidable (a = b) := decidable_of_iff _ (ev_ext a b).symm
theorem ba_beq (a b : ByteArray) : (a.toList == b.toList) = decide (a = b) := by
  rw [Bool.eq_iff_iff, beq_iff_eq, decide_eq_true_iff]
  constructor
  · intro h
    refine ba_ext ?_
    rw [← ByteArray.toList_eq, ← ByteArray.toList_eq]; exact h
  · rintro rfl; rfl
end
theorem all_take_succ (l : List UInt8) (k : Nat) (h : k < l.length) (ha : (l.take k).all gb = true) : (l.take (k + 1)).all gb = gb l[k] := by
  rw [List.take_succ_eq_append_getElem h, List.all_append, ha]
  simp
theorem not_all (l : List UInt8) (k : Nat) (h : k < l.length) (ha : gb l[k] = false) : l.all gb = false := by
  rw [← Bool.not_eq_true]
  intro h2
  rw [List.all_eq_true.1 h2 _ (List.getElem_mem h)] at ha
  cases ha
/-- how the tests of one byte may go -/
theorem gb_ways (n : Nat) : (decide ((97 : Int) ≤ (n : Int)) = true ∧ decide ((n : Int) ≤ 122) = true ∧ 97 ≤ n ∧ n ≤ 122) ∨
    (decide ((97 : Int) ≤ (n : Int)) = true ∧ decide ((n : Int) ≤ 122) = false ∧ decide ((48 : Int) ≤ (n : Int)) = true ∧ decide ((n : Int) ≤ 57) = false ∧ 122 < n) ∨
    (decide ((97 : Int) ≤ (n : Int)) = false ∧ decide ((48 : Int) ≤ (n : Int)) = true ∧ decide ((n : Int) ≤ 57) = true ∧ 48 ≤ n ∧ n ≤ 57) ∨
    (decide ((97 : Int) ≤ (n : Int)) = false ∧ decide ((48 : Int) ≤ (n : Int)) = true ∧ decide ((n : Int) ≤ 57) = false ∧ 57 < n ∧ n < 97) ∨
    (decide ((97 : Int) ≤ (n : Int)) = false ∧ decide ((48 : Int) ≤ (n : Int)) = false ∧ n < 48) := by
  simp only [decide_eq_true_eq, decide_eq_false_iff_not]
  omega
theorem gb_is (b : UInt8) : gb b = true ↔ (97 ≤ b.toNat ∧ b.toNat ≤ 122) ∨ (48 ≤ b.toNat ∧ b.toNat ≤ 57) := by
  unfold gb
  simp only [Bool.or_eq_true, Bool.and_eq_true, decide_eq_true_eq]
theorem gb_no (b : UInt8) (h : ¬ ((97 ≤ b.toNat ∧ b.toNat ≤ 122) ∨ (48 ≤ b.toNat ∧ b.toNat ≤ 57))) : gb b = false := by
  rw [← Bool.not_eq_true, gb_is]; exact h
theorem P_cases (v : Ev) : decide v.P = (goodW v.w.data.toList && decide (v.p.size ≤ 16384)) := by
  rw [Bool.eq_iff_iff]
  simp only [decide_eq_true_eq, Bool.and_eq_true]
  exact Iff.rfl
end Go.Proofs.Yteblphnpealefaa
/-
  speech: Word, Kind; the reference's Word, Kind; the table of words.
-/
namespace Go.Proofs.Yteblphnpealefaa
open Go.RowKit Mem Sc
def wds : List (List UInt8) := [[], [118, 101, 114, 115, 105, 111, 110], [118, 101, 114, 97, 99, 107], [103, 101, 116, 104, 101, 97, 100, 101, 114, 115], [104, 101, 97, 100, 101, 114, 115], [105, 110, 118], [112, 105, 110, 103], [112, 111, 110, 103], [115, 101, 110, 100, 104, 101, 97, 100, 101, 114, 115]]
def wd (i : Nat) : ByteArray := txt (wds.getD i [])
/-- a kind's word -/
def wordK (k : Int) : ByteArray := if 0 ≤ k ∧ k < 9 then wd k.toNat else E0
def kindOf (s : ByteArray) : Nat :=
  if s = wd 1 then 1 else if s = wd 2 then 2 else if s = wd 3 then 3 else if s = wd 4 then 4 else if s = wd 5 then 5 else if s = wd 6 then 6 else if s = wd 7 then 7 else if s = wd 8 then 8 else 0
theorem wd_0 : wd 0 = E0 := rfl
theorem kindOf_hit (s : ByteArray) (k : Nat) (hk : k < 9) (h : wd k = s) : kindOf s = k := by
  subst h
  obtain rfl | rfl | rfl | rfl | rfl | rfl | rfl | rfl | rfl : k = 0 ∨ k = 1 ∨ k = 2 ∨ k = 3 ∨ k = 4 ∨ k = 5 ∨ k = 6 ∨ k = 7 ∨ k = 8 := by omega
  all_goals decide +kernel
theorem kindOf_none (s : ByteArray) (h : ∀ j, 1 ≤ j → j < 9 → wd j ≠ s) : kindOf s = 0 := by
  unfold kindOf
  rw [if_neg (fun e => h 1 (by omega) (by omega) e.symm), if_neg (fun e => h 2 (by omega) (by omega) e.symm), if_neg (fun e => h 3 (by omega) (by omega) e.symm), if_neg (fun e => h 4 (by omega) (by omega) e.symm),
    if_neg (fun e => h 5 (by omega) (by omega) e.symm), if_neg (fun e => h 6 (by omega) (by omega) e.symm), if_neg (fun e => h 7 (by omega) (by omega) e.symm), if_neg (fun e => h 8 (by omega) (by omega) e.symm)]
theorem kindOf_lt (s : ByteArray) : kindOf s < 9 := by
  unfold kindOf
  repeat' split
  all_goals omega
theorem wd_kind (s : ByteArray) (h : kindOf s ≠ 0) : wd (kindOf s) = s := by
  unfold kindOf at *
  repeat' split
  all_goals first | (rename_i e; exact e.symm) | skip
  exact absurd (by repeat' split <;> first | rfl | contradiction) h
theorem wordK_nat (k : Nat) (h : k < 9) : wordK (k : Int) = wd k := by
  unfold wordK
  rw [if_pos (by omega), Int.toNat_natCast]
theorem wordK_no (k : Int) (h : ¬ (0 ≤ k ∧ k < 9)) : wordK k = E0 := if_neg h
theorem wordK_P {m : Ms} (h : m.P) : wordK m.kind ≠ E0 ∧ goodW (wordK m.kind).data.toList = true ∧ kindOf (wordK m.kind) = m.kind.toNat := by
  obtain ⟨h1, h2⟩ := P_kind h
  obtain ⟨k, hk⟩ := Int.eq_ofNat_of_zero_le (show 0 ≤ m.kind by omega)
  rw [hk, wordK_nat k (by omega), Int.toNat_natCast]
  have hk1 : 1 ≤ k := by omega
  have hk2 : k < 9 := by omega
  clear hk h1 h2
  obtain rfl | rfl | rfl | rfl | rfl | rfl | rfl | rfl : k = 1 ∨ k = 2 ∨ k = 3 ∨ k = 4 ∨ k = 5 ∨ k = 6 ∨ k = 7 ∨ k = 8 := by omega
  all_goals decide +kernel
def wdA : Array Value := (wds.map fun l => Value.string (txt l)).toArray
end Go.Proofs.Yteblphnpealefaa
