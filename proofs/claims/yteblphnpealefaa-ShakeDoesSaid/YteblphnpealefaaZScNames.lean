/-
  scroll's Eye: Names.
-/
import Derived.Test.YteblphnpealefaaZScName
import Derived.Great.BuildSlice
import Derived.Maps.AppendAt
import Derived.Deep.AppendLies
namespace Go.Proofs.Yteblphnpealefaa
open Go.RowKit Mem Sc
/-! ### a slice of one name is made -/
theorem foldl_set (o : Nat) : ∀ (l : List Value) (k : Nat) (b : Array Value) (j : Nat),
    ((l.zipIdx k).foldl (fun (cs : Array Value) (x : Value × Nat) => match x with | (c, j) => cs.setIfInBounds (o + j) c) b)[j]? = if o + k ≤ j ∧ j < o + k + l.length ∧ j < b.size then l[j - (o + k)]? else b[j]?
  | [], k, b, j => by simp; omega
  | x :: l, k, b, j => by
    rw [List.zipIdx_cons, List.foldl_cons, foldl_set o l (k + 1), Array.size_setIfInBounds, List.length_cons]
    by_cases h1 : j = o + k
    · subst h1
      rw [if_neg (by omega)]
      by_cases h2 : o + k < b.size
      · rw [if_pos (by omega)]; simp [h2]
      · rw [if_neg (by omega)]; simp [h2]
    · by_cases h2 : o + (k + 1) ≤ j ∧ j < o + (k + 1) + l.length ∧ j < b.size
      · rw [if_pos h2, if_pos (by omega), show j - (o + k) = (j - (o + (k + 1))) + 1 by omega, List.getElem?_cons_succ]
      · rw [if_neg h2, if_neg (by omega), Array.getElem?_setIfInBounds, if_neg (by omega)]
theorem fill_one (n : Nat) (z cs : Array Value) (hz : z.size = n) (hc : cs.size = n) : Instr.fill (fun i => some (i * n, n)) z [(0, .agg cs)] = some cs := by
  have hsz : (Value.agg cs).cells.size = n := hc
  unfold Instr.fill
  simp only [hsz, Nat.zero_mul, Nat.zero_add, hz]
  rw [if_neg (by simp)]
  unfold Instr.fill
  congr 1
  apply Array.ext_getElem?
  intro j
  rw [← Array.foldl_toList, Array.toList_zipIdx]
  have h := foldl_set 0 cs.toList 0 z j
  simp only [Nat.zero_add] at h
  show (List.foldl _ z (cs.toList.zipIdx 0))[j]? = _
  refine h.trans ?_
  rw [Array.length_toList, hc, hz]
  by_cases hj : j < n
  · rw [if_pos ⟨by omega, hj, hj⟩]; simp
  · rw [if_neg (by omega), Array.getElem?_eq_none (by omega), Array.getElem?_eq_none (by omega)]
theorem hzero : ((Try.prog.info? 36).bind (·.zero)).map (·.cells.size) = some 32 := by kernel_rfl
theorem hbytes32 : (Try.prog.info? 36).map (·.bytes) = some 32 := by kernel_rfl
theorem hash_info : ∃ i z, Try.prog.info? 36 = some i ∧ i.zero = some z ∧ i.size = 32 ∧ i.bytes = 32 ∧ z.cells.size = 32 := by
  have h1 := hinfo
  have h2 := hzero
  have h3 := hbytes32
  cases hi : Try.prog.info? 36 with
  | none => rw [hi] at h1; cases h1
  | some i =>
    rw [hi] at h1 h2 h3
    simp only [Option.map_some, Option.some.injEq, Option.bind_some] at h1 h2 h3
    cases hz : i.zero with
    | none => rw [hz] at h2; cases h2
    | some z =>
      rw [hz] at h2
      simp only [Option.map_some, Option.some.injEq] at h2
      exact ⟨i, z, rfl, hz, h1, h3, h2⟩
theorem build_name (cs : Array Value) (h : cs.size = 32) (w : World) : (Instr.buildSlice 34 1 #[(0, .agg cs)]).run Try.prog w = .ok (.slice (some ⟨w.heap.size, 0, none⟩) 1 1) (w.alloc (.cells cs 36)) := by
  obtain ⟨i, z, hi, hz, h1, h2, h3⟩ := hash_info
  refine run_buildSlice w 34 36 1 _ cs i z Try.underlying34 hi hz (by rw [h1]; decide) (by rw [h1]; decide) ?_
  rw [h1]
  exact fill_one 32 _ cs (by simp) h
theorem build_hl {ops : Array Oper} {rest : List Oper} {o : Oper} {a : Act} {w : World} {Q : Exit → Act → World → Prop} (hgd : o.guard = none) (p : Operand) (ho : o.op = .buildSlice 34 1 #[(0, p)]) (cs : Array Value) (hp : a.eval p = .agg cs) (hs : cs.size = 32)
    (h : wpList Try.prog ops Q rest (a.put o.dst (.slice (some ⟨w.heap.size, 0, none⟩) 1 1)) (w.alloc (.cells cs 36))) : wpList Try.prog ops Q (o :: rest) a w :=
  wpList_plain hgd fun _ hK => by
    unfold Oper.wp execOp
    simp only [ho, Sem.run_bind]
    rw [show (#[(0, p)] : Array (Nat × Operand)).map (fun (i, x) => (i, a.eval x)) = #[(0, .agg cs)] by simp [hp]]
    rw [build_name cs hs w]
    exact hK _ _ h
theorem news_bytes (w : World) (l : List UInt8) (t : TypeId) : ∀ j u, (Lib.byteCells l)[j]? = some u → (w.alloc (.cells (bytesV l) t)).cell? ((⟨w.heap.size, 0, none⟩ : Addr).add j) = some u := by
  rw [← bytesV_list]
  exact World.news_of_block (heap_alloc_new w _)
/-! ### names that are read -/
def namesC (ls : List (List UInt8)) : List Value := ls.flatMap Lib.byteCells
def Sc.Ey.nameTo (e : Ey) : Nat → List (List UInt8) × Ey
  | 0 => ([], e)
  | k + 1 => ((e.nameTo k).1 ++ [(e.nameTo k).2.name.1], (e.nameTo k).2.name.2)
def Sc.Ey.names (e : Ey) (n : Int) : List (List UInt8) × Ey := if (e.s.size : Int) / 32 < n then ([], dark) else e.nameTo n.toNat
theorem nmTo_length (e : Ey) (k : Nat) : (e.nameTo k).1.length = k := by
  induction k with
  | zero => rfl
  | succ k ih => simp [Ey.nameTo, ih]
end Go.Proofs.Yteblphnpealefaa
