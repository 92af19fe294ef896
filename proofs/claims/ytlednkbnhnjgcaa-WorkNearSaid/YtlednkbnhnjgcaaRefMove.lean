import Derived.Test.YtlednkbnhnjgcaaWDown
import Derived.Test.YtlednkbnhnjgcaaMoveMath2
namespace Go.Proofs.Ytlednkbnhnjgcaa
open Go.RowKit

theorem num_store_eq {ops : Array Oper} {rest : List Oper} {o : Oper} {a : Act} {w : World} {Q : Exit → Act → World → Prop} (hgd : o.guard = none) (x y : Operand) (ho : o.op = .store 24 x y) (g : Nat) (z : Nat) (cz : Array Value) (hx : a.eval x = .pointer (some ⟨g, 0, none⟩)) (hy : a.eval y = .agg cz) (e : cz = numC z) (cs : Array Value) (hg : Has w g cs 24) (hs : cs.size = 4)
    (h : wpList Try.prog ops Q rest (a.put o.dst undef) (w.setRow g (numC z))) : wpList Try.prog ops Q (o :: rest) a w := by
  subst e; exact num_store hgd x y ho g z hx hy cs hg hs h
theorem up64_cells (y : Nat) : (#[.int .u64 0, .int .u64 (Nm.wd y 0 : Nat), .int .u64 (Nm.wd y 1 : Nat), .int .u64 (Nm.wd y 2 : Nat)] : Array Value) = numC (Nm.up y 64) := by
  obtain ⟨h0, h1, h2, h3⟩ := Nm.wd_up64 y
  unfold numC cells4
  rw [h0, h1, h2, h3]; rfl
theorem down64_cells {y : Nat} (hy : y < Nm.big) : (#[.int .u64 (Nm.wd y 1 : Nat), .int .u64 (Nm.wd y 2 : Nat), .int .u64 (Nm.wd y 3 : Nat), .int .u64 0] : Array Value) = numC (Nm.down y 64) := by
  obtain ⟨h0, h1, h2, h3⟩ := Nm.wd_down64 hy
  unfold numC cells4
  rw [h0, h1, h2, h3]; rfl
/-- a number that is moved, a result, a number that grows -/
structure Mv (w wr : World) (A R O y : Nat) (cs : Array Value) : Prop where
  below : Below w.heap.size w wr
  a : Has wr A (numC y) 24
  r : Has wr R (numC 0) 24
  o : Has wr O cs 24
theorem Mv.put {w wr : World} {A R O y : Nat} {cs : Array Value} (h : Mv w wr A R O y cs) (y' : Nat) (hR : R ≠ A) (hO : O ≠ A) (hA : w.heap.size ≤ A) : Mv w (wr.setRow A (numC y')) A R O y' cs :=
  ⟨below_setRow h.below hA _, h.a.row _, h.r.otherRow _ _ hR, h.o.otherRow _ _ hO⟩
theorem Mv.set {w wr : World} {A R O y : Nat} {g : Nat → Nat} (h : Mv w wr A R O y (cells4 g)) (i v : Nat) (hi : i < 4) (hA : A ≠ O) (hR : R ≠ O) (hO : w.heap.size ≤ O) : Mv w (wr.setCell ⟨O, i, none⟩ (.int .u64 (v : Nat))) A R O y (cells4 (upd g i v)) :=
  ⟨h.below.setCell hO _, h.a.other _ _ hA, h.r.other _ _ hR, by rw [← cells4_set g i v hi]; exact h.o.set _⟩
theorem Mv.drew {w wr : World} {A R O y : Nat} {cs : Array Value} (h : Mv w wr A R O y cs) : Mv w wr.drew A R O y cs := ⟨h.below.drew, h.a, h.r, h.o⟩
theorem Mv.start (w : World) (x : Nat) : Mv w (((w.alloc (.cells (numC x) 24)).alloc (.cells (numC 0) 24)).alloc (.cells (cells4 fun _ => 0) 24)) w.heap.size (w.heap.size + 1) (w.heap.size + 1 + 1) x (cells4 fun _ => 0) :=
  ⟨(((Below.refl _ _).alloc (Nat.le_refl _) _).alloc (by simp) _).alloc (by simp; omega) _, ((Has.new _ _).alloc _).alloc _, (Has.new1 _ _ _).alloc _, Has.new2 _ _ _ _⟩
theorem upSum (a b m : Nat) (hm : m ≤ 64) (hb : b < 18446744073709551616) : IntKind.u64.wrap (((a <<< m % 18446744073709551616 : Nat) : Int) + ((b >>> (64 - m) : Nat) : Int)) = ((a <<< m % 18446744073709551616 ||| b >>> (64 - m) : Nat) : Int) := by
  have h := Nm.add_up a b m hm hb
  have h2 := Nm.or_lt64 (a := a <<< m % 18446744073709551616) (b := b >>> (64 - m)) (Nat.mod_lt _ (by decide)) (by rw [Nat.shiftRight_eq_div_pow]; exact Nat.lt_of_le_of_lt (Nat.div_le_self _ _) hb)
  rw [← h] at h2 ⊢
  rw [IntKind.wrap_u64]; omega
theorem downSum (a b m : Nat) (hm : m ≤ 64) (ha : a < 18446744073709551616) : IntKind.u64.wrap (((a >>> m : Nat) : Int) + ((b <<< (64 - m) % 18446744073709551616 : Nat) : Int)) = ((a >>> m ||| b <<< (64 - m) % 18446744073709551616 : Nat) : Int) := by
  have h := Nm.add_down a b m hm ha
  have h2 := Nm.or_lt64 (a := a >>> m) (b := b <<< (64 - m) % 18446744073709551616) (by rw [Nat.shiftRight_eq_div_pow]; exact Nat.lt_of_le_of_lt (Nat.div_le_self _ _) ha) (Nat.mod_lt _ (by decide))
  rw [← h] at h2 ⊢
  rw [IntKind.wrap_u64]; omega
/-- words filled from the lowest on, of whatever number -/
def Filled (z k : Nat) (g : Nat → Nat) : Prop := ∀ j, j < k → g j = Nm.wd z j
theorem Filled.next {z k : Nat} {g : Nat → Nat} (h : Hid (Filled z k g)) : Hid (Filled z (k + 1) (upd g k (Nm.wd z k))) := Lib.hid fun j h1 => by
    unfold upd
    split
    · rename_i e; rw [e]
    · exact h.out j (by omega)
end Go.Proofs.Ytlednkbnhnjgcaa
