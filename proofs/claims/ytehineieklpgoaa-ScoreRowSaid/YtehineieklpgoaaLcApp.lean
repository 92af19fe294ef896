/-
  One element more behind a row that the call owns.
-/
import Derived.Test.YtehineieklpgoaaMem
import Derived.Laws.AppendOwn
import Derived.Test.YtehineieklpgoaaProg
namespace Go.Proofs.Ytehineieklpgoaa.An
open Go.RowKit Mem
theorem own_block {w : World} {base : Nat} {T : TypeId} {size n : Nat} {v : Value} {xs : List Value} (h : w.ownsRow base T size v n xs) : ∀ k, v.ownBlock = some k → base ≤ k ∧ k < w.heap.size := by
  intro k hk
  rcases h.2 with ⟨rfl, _⟩ | ⟨g, c, cur, rfl, hb, hg, _⟩
  · cases hk
  · have e : g = k := Option.some.inj hk
    subst e
    exact ⟨hb, (Array.getElem?_eq_some_iff.1 hg).1⟩
theorem row_below {w w' : World} {base B : Nat} {T : TypeId} {size n : Nat} {v : Value} {xs : List Value} (h : w.ownsRow base T size v n xs) (hb : Below B w w') (hB : w.heap.size ≤ B) : w'.ownsRow base T size v n xs := by
  refine ⟨h.1, h.2.elim .inl ?_⟩
  rintro ⟨g, c, cur, rfl, h1, h2, h3⟩
  exact .inr ⟨g, c, cur, rfl, h1, (hb.block g (Nat.lt_of_lt_of_le (Array.getElem?_eq_some_iff.1 h2).1 hB)).trans h2, h3⟩
theorem app_el {Ts T : TypeId} {size bytes : Nat} (hu : Try.prog.underlying Ts = some (.slice T)) (hinf : ∃ i z, Try.prog.info? T = some i ∧ i.zero = some z ∧ i.size = size ∧ i.bytes = bytes ∧ z.cells.size = size) (h4 : 1001 * bytes ≤ 140737488355328) (h5 : 0 < size)
    {w : World} {ops : Array Oper} {rest : List Oper} {o : Oper} {a : Act} {Q : Exit → Act → World → Prop} (hgd : o.guard = none) (s x : Operand) (ho : o.op = .call { callee := .builtin .append, args := #[s, x], argTypes := #[Ts, Ts] })
    (base : Nat) (v : Value) (n : Nat) (xs cs : List Value) (hs : a.eval s = v) (hown : w.ownsRow base T size v n xs) (g : Nat) (hx : a.eval x = .slice (some ⟨g, 0, none⟩) 1 1) (hg : w.rangeAt g 0 cs) (hcs : cs.length = size) (hone : ∀ u ∈ cs, u.oneCell' = true) (hn : n ≤ 1000) (hbase : base ≤ w.heap.size)
    (h : ∀ v' w', w'.ownsRow base T size v' (n + 1) (xs ++ cs) → Below base w w' → wpList Try.prog ops Q rest (a.put o.dst v') w') : wpList Try.prog ops Q (o :: rest) a w := by
  obtain ⟨i, y, hi, hz, h1, h2, h3⟩ := hinf
  refine wpList_append_own _ hgd s x Ts ho base T i y size bytes hu hi hz h1 h2 h3 h5 v n _ hs hown ⟨g, 0, none⟩ 1 1 cs hx (by omega) (fun j u hj => ?_) hone (by unfold maxLen; omega) (Nat.le_trans (Nat.mul_le_mul_right _ (by omega)) h4) hbase (fun v' w' q1 q2 _ => h v' w' q1 ((Below.refl base w).grown q2 hbase fun k hk => (own_block hown k hk).1))
  rw [Addr.add_lit]
  exact hg j u hj
theorem int_inf : ∃ i z, Try.prog.info? 3 = some i ∧ i.zero = some z ∧ i.size = 1 ∧ i.bytes = 8 ∧ z.cells.size = 1 := by
  have h1 : (Try.prog.info? 3).map (·.size) = some 1 := by kernel_rfl
  have h2 : ((Try.prog.info? 3).bind (·.zero)) = some (.int .i64 0) := by kernel_rfl
  have h3 : (Try.prog.info? 3).map (·.bytes) = some 8 := by kernel_rfl
  cases hi : Try.prog.info? 3 with
  | none => rw [hi] at h1; cases h1
  | some i =>
    rw [hi] at h1 h2 h3
    exact ⟨i, .int .i64 0, rfl, by simpa using h2, by simpa using h1, by simpa using h3, rfl⟩
/-- the cells of a row of numbers -/
def natC (l : List Nat) : List Value := l.map fun (x : Nat) => Value.int .i64 (x : Int)
theorem natC_snoc (l : List Nat) (x : Nat) : natC (l ++ [x]) = natC l ++ [Value.int .i64 (x : Int)] := by simp [natC]
theorem app_nat {w : World} {ops : Array Oper} {rest : List Oper} {o : Oper} {a : Act} {Q : Exit → Act → World → Prop} (hgd : o.guard = none) (s x : Operand) (ho : o.op = .call { callee := .builtin .append, args := #[s, x], argTypes := #[28, 28] })
    (base : Nat) (v : Value) (n : Nat) (l : List Nat) (hs : a.eval s = v) (hown : w.ownsRow base 3 1 v n (natC l)) (g z : Nat) (hx : a.eval x = .slice (some ⟨g, 0, none⟩) 1 1) (hg : w.cell? ⟨g, 0, none⟩ = some (.int .i64 (z : Int))) (hn : n ≤ 1000) (hbase : base ≤ w.heap.size)
    (h : ∀ v' w', w'.ownsRow base 3 1 v' (n + 1) (natC (l ++ [z])) → Below base w w' → wpList Try.prog ops Q rest (a.put o.dst v') w') : wpList Try.prog ops Q (o :: rest) a w :=
  app_el Try.underlying28 int_inf (by decide) (by decide) hgd s x ho base v n _ [.int .i64 (z : Int)] hs hown g hx (fun j u hj => by
    match j, hj with
    | 0, hj => rw [Nat.zero_add, hg]; exact hj
    | j + 1, hj => simp at hj) rfl (fun u hu => by
    obtain rfl : u = .int .i64 (z : Int) := by simpa using hu
    rfl) hn hbase fun v' w' q1 q2 => h v' w' (by rw [natC_snoc]; exact q1) q2
/-- an element of a row of numbers -/
theorem nat_at {w : World} {v : Value} {l : List Nat} {base n : Nat} (h : w.ownsRow base 3 1 v n (natC l)) {k x : Nat} (hx : l[k]? = some x) : ∃ g c, v = .slice (some ⟨g, 0, none⟩) n c ∧ base ≤ g ∧ w.cell? ⟨g, k, none⟩ = some (.int .i64 (x : Int)) := by
  have hk := (List.getElem?_eq_some_iff.1 hx).1
  obtain ⟨hlen, ⟨rfl, hm0⟩ | ⟨g2, c, cur, rfl, q1, q2, q3, q4, q5, q6⟩⟩ := h
  · simp [natC] at hlen; omega
  · refine ⟨g2, c, rfl, q1, ?_⟩
    have e : (cur.toList.take (n * 1))[k]? = some (Value.int .i64 (x : Int)) := by rw [q6]; unfold natC; rw [List.getElem?_map, hx]; rfl
    rw [Has.cell (show Has w g2 cur 3 from q2), ← Array.getElem?_toList]
    rw [List.getElem?_take] at e
    split at e
    · exact e
    · cases e
theorem own_slice {w : World} {base : Nat} {T : TypeId} {size n : Nat} {v : Value} {xs : List Value} (h : w.ownsRow base T size v n xs) : ∃ p c, v = .slice p n c ∧ n ≤ c := by
  rcases h.2 with ⟨rfl, rfl⟩ | ⟨g, c, cur, rfl, _, _, h3, _⟩
  · exact ⟨none, 0, rfl, Nat.le_refl _⟩
  · exact ⟨_, c, rfl, h3⟩
theorem build_nat (w : World) (z : Int) : (Instr.buildSlice 28 1 #[(0, .int .i64 z)]).run Try.prog w = .ok (.slice (some ⟨w.heap.size, 0, none⟩) 1 1) (w.alloc (.cells #[.int .i64 z] 3)) := by kernel_rfl
end Go.Proofs.Ytehineieklpgoaa.An
