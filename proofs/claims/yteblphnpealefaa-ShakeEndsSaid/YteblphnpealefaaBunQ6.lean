/-
  Texts of this seat, one behind the other.
-/
import Derived.Test.YteblphnpealefaaZHashMem
import Derived.Test.YteblphnpealefaaBunQ5
import Derived.Deep.AppendLies
import Derived.Lib.AppendStr
import Derived.Deep.RegionHeld3
/-
  scroll's Pen: what it holds in memory; Put.
-/
namespace Go.Proofs.Yteblphnpealefaa
open Go.RowKit Mem Sc
/-- what a call that writes leaves: all blocks but the pen's and its bytes'; the bytes lie where they lay, or in a new block -/
structure PenStep (w w' : World) (b : Nat) (v v' : Value) : Prop where
  os : w'.os = w.os
  tape : w'.tape = w.tape
  output : w'.output = w.output
  size : w.heap.size ≤ w'.heap.size
  block : ∀ k, k < w.heap.size → k ≠ b → v.ownBlock ≠ some k → w'.heap[k]? = w.heap[k]?
  lies : ∀ k, v'.ownBlock = some k → v.ownBlock = some k ∨ w.heap.size ≤ k
variable {w w1 w2 w' : World} {b : Nat} {v v1 v2 v' : Value} {l : List UInt8}
theorem PenStep.refl (w : World) (b : Nat) (v : Value) : PenStep w w b v v := ⟨rfl, rfl, rfl, Nat.le_refl _, fun _ _ _ _ => rfl, fun _ h => .inl h⟩
theorem PenStep.trans (h : PenStep w w1 b v v1) (h2 : PenStep w1 w2 b v1 v2) : PenStep w w2 b v v2 :=
  ⟨h2.os.trans h.os, h2.tape.trans h.tape, h2.output.trans h.output, Nat.le_trans h.size h2.size,
    fun k hk hb hv => (h2.block k (Nat.lt_of_lt_of_le hk h.size) hb (fun e => by
      rcases h.lies k e with e | e
      · exact hv e
      · omega)).trans (h.block k hk hb hv),
    fun k hk => by
      rcases h2.lies k hk with e | e
      · exact h.lies k e
      · exact .inr (Nat.le_trans h.size e)⟩
/-- memory is made, or an order drawn, ahead of it -/
theorem PenStep.below (h : Below w.heap.size w w1) (h2 : PenStep w1 w2 b v v1) : PenStep w w2 b v v1 :=
  ⟨h2.os.trans h.os, h2.tape.trans h.tape, h2.output.trans h.output, Nat.le_trans h.size h2.size,
    fun k hk hb hv => (h2.block k (Nat.lt_of_lt_of_le hk h.size) hb hv).trans (h.block k hk),
    fun k hk => by
      rcases h2.lies k hk with e | e
      · exact .inl e
      · exact .inr (Nat.le_trans h.size e)⟩
theorem PenStep.has (h : PenStep w w' b v v') {g : Nat} {cs : Array Value} {t : TypeId} (hg : Has w g cs t) (hb : g ≠ b) (hv : v.ownBlock ≠ some g) : Has w' g cs t := (h.block g hg.lt hb hv).trans hg
theorem PenStep.cell (h : PenStep w w' b v v') {a : Addr} (hlt : a.block < w.heap.size) (hb : a.block ≠ b) (hv : v.ownBlock ≠ some a.block) : w'.cell? a = w.cell? a :=
  World.cell?_of_block (h.block a.block hlt hb hv)
theorem byte_info : ∃ i z, Try.prog.info? 5 = some i ∧ i.zero = some z ∧ i.size = 1 ∧ i.bytes = 1 ∧ z.cells.size = 1 := by
  have h2 : ((Try.prog.info? 5).bind (·.zero)).map (·.cells.size) = some 1 := by kernel_rfl
  have h3 : (Try.prog.info? 5).map (·.bytes) = some 1 := by kernel_rfl
  have h1 := hinfo8
  cases hi : Try.prog.info? 5 with
  | none => rw [hi] at h1; cases h1
  | some i =>
    rw [hi] at h1 h2 h3
    simp only [Option.map_some, Option.some.injEq, Option.bind_some] at h1 h2 h3
    cases hz : i.zero with
    | none => rw [hz] at h2; cases h2
    | some z =>
      rw [hz] at h2
      simp only [Option.map_some, Option.some.injEq] at h2
      exact ⟨i, z, rfl, hz, h1, h3, h2⟩
end Go.Proofs.Yteblphnpealefaa
/-
  scroll's Pen: Put.
-/
namespace Go.Proofs.Yteblphnpealefaa
open Go.RowKit Mem Sc
/-- whole numbers lie where a slice says, apart from a pen -/
def IntsAt (w : World) (b : Nat) (v : Value) (a : Option Addr) (ns : List Int) : Prop :=
  0 < ns.length → ∃ ab ao, a = some ⟨ab, ao, none⟩ ∧ ab ≠ b ∧ v.ownBlock ≠ some ab ∧ ab < w.heap.size ∧ ∀ i (hi : i < ns.length), w.cell? ⟨ab, ao + i, none⟩ = some (.int .i64 ns[i])
def nums (k : Nat) (ns : List Int) : List UInt8 := ns.flatMap (num k)
theorem nums_next (m : Nat) (ns : List Int) (k : Nat) (hk : k < ns.length) : nums m (ns.take (k + 1)) = nums m (ns.take k) ++ num m ns[k] := by
  unfold nums
  rw [List.take_succ_eq_append_getElem hk, List.flatMap_append]
  simp
theorem nums_length (m : Nat) (ns : List Int) : (nums m ns).length = m * ns.length := by
  induction ns with
  | nil => rfl
  | cons x ns ih =>
    show (num m x ++ nums m ns).length = _
    rw [List.length_append, ih, num_length, List.length_cons, Nat.mul_succ]; omega
end Go.Proofs.Yteblphnpealefaa
