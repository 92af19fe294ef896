/-
  scroll's Pen: what it holds in memory; Put.
-/
import Derived.Test.YtggnnlefalcplaaDoorHashMem
import Derived.Test.YtggnnlefalcplaaDoorScRaw
import Derived.Deep.AppendLies
import Derived.Lib.AppendStr
namespace Go.Proofs.YtggnnlefalcplaaDoor
open Go.RowKit Mem Sc
/-- block b is a pen that has written l; v: the slice of its bytes -/
structure PenAt (w : World) (b : Nat) (v : Value) (l : List UInt8) : Prop where
  cell : Has w b #[v] 45
  own : w.ownsRow (b + 1) 5 1 v l.length (Lib.byteCells l)
/-- what a call that writes leaves: all blocks but the pen's and its bytes'; the bytes lie where they lay, or in a new block -/
structure PenStep (w w' : World) (b : Nat) (v v' : Value) : Prop where
  os : w'.os = w.os
  tape : w'.tape = w.tape
  output : w'.output = w.output
  size : w.heap.size ≤ w'.heap.size
  block : ∀ k, k < w.heap.size → k ≠ b → v.ownBlock ≠ some k → w'.heap[k]? = w.heap[k]?
  lies : ∀ k, v'.ownBlock = some k → v.ownBlock = some k ∨ w.heap.size ≤ k
variable {w w1 w2 w' : World} {b : Nat} {v v1 v2 v' : Value} {l : List UInt8}
theorem PenAt.lt (h : PenAt w b v l) : b < w.heap.size := h.cell.lt
theorem PenAt.ownLt (h : PenAt w b v l) {k : Nat} (hk : v.ownBlock = some k) : b + 1 ≤ k ∧ k < w.heap.size := h.own.lt k hk
theorem PenAt.c0 (h : PenAt w b v l) : w.cell? ⟨b, 0, none⟩ = some v := h.cell.cell 0
theorem PenStep.refl (w : World) (b : Nat) (v : Value) : PenStep w w b v v := ⟨rfl, rfl, rfl, Nat.le_refl _, fun _ _ _ _ => rfl, fun _ h => .inl h⟩
theorem PenStep.trans (h : PenStep w w1 b v v1) (h2 : PenStep w1 w2 b v1 v2) : PenStep w w2 b v v2 :=
  ⟨h2.os.trans h.os, h2.tape.trans h.tape, h2.output.trans h.output, Nat.le_trans h.size h2.size,
    fun k hk hb hv => (h2.block k (Nat.lt_of_lt_of_le hk h.size) hb (fun e => by
      rcases h.lies k e with e | e
      · exact hv e
      · omega)).trans (h.block k hk hb hv),
    fun k hk => by
      rcases h2.lies k hk with e | e
      · exact h.lies k e
      · exact .inr (Nat.le_trans h.size e)⟩
/-- memory is made, or an order drawn, ahead of it -/
theorem PenStep.below (h : Below w.heap.size w w1) (h2 : PenStep w1 w2 b v v1) : PenStep w w2 b v v1 :=
  ⟨h2.os.trans h.os, h2.tape.trans h.tape, h2.output.trans h.output, Nat.le_trans h.size h2.size,
    fun k hk hb hv => (h2.block k (Nat.lt_of_lt_of_le hk h.size) hb hv).trans (h.block k hk),
    fun k hk => by
      rcases h2.lies k hk with e | e
      · exact .inl e
      · exact .inr (Nat.le_trans h.size e)⟩
theorem PenAt.below (h : PenAt w b v l) (hb : Below w.heap.size w w') : PenAt w' b v l :=
  ⟨below_has hb h.cell h.lt, h.own.kept (gb_below hb none) (by cases hv : v.ownBlock <;> simp)⟩
theorem PenStep.has (h : PenStep w w' b v v') {g : Nat} {cs : Array Value} {t : TypeId} (hg : Has w g cs t) (hb : g ≠ b) (hv : v.ownBlock ≠ some g) : Has w' g cs t := (h.block g hg.lt hb hv).trans hg
theorem PenStep.toBelow (h : PenStep w w' b v v') (hp : PenAt w b v l) : Below b w w' :=
  ⟨h.os, h.tape, h.output, h.size, fun k hk => h.block k (by have := hp.lt; omega) (by omega) (fun e => by have := (hp.ownLt e).1; omega)⟩
theorem PenStep.cell (h : PenStep w w' b v v') {a : Addr} (hlt : a.block < w.heap.size) (hb : a.block ≠ b) (hv : v.ownBlock ≠ some a.block) : w'.cell? a = w.cell? a :=
  World.cell?_of_block (h.block a.block hlt hb hv)
/-- what a new pen is -/
theorem pen_new (w : World) : PenAt (w.alloc (.cells #[.slice none 0 0] 45)) w.heap.size (.slice none 0 0) [] := ⟨Has.new _ _, World.ownsRow_nil _ _ _ _⟩
def PenPost (w : World) (b : Nat) (v : Value) (l : List UInt8) (r : Ending) (w' : World) : Prop := ∃ v', r = .returned (.tuple #[]) ∧ PenAt w' b v' l ∧ PenStep w w' b v v'
theorem byte_info : ∃ i z, Tryd.prog.info? 5 = some i ∧ i.zero = some z ∧ i.size = 1 ∧ i.bytes = 1 ∧ z.cells.size = 1 := by
  have h2 : ((Tryd.prog.info? 5).bind (·.zero)).map (·.cells.size) = some 1 := by kernel_rfl
  have h3 : (Tryd.prog.info? 5).map (·.bytes) = some 1 := by kernel_rfl
  have h1 := hinfo8
  cases hi : Tryd.prog.info? 5 with
  | none => rw [hi] at h1; cases h1
  | some i =>
    rw [hi] at h1 h2 h3
    simp only [Option.map_some, Option.some.injEq, Option.bind_some] at h1 h2 h3
    cases hz : i.zero with
    | none => rw [hz] at h2; cases h2
    | some z =>
      rw [hz] at h2
      simp only [Option.map_some, Option.some.injEq] at h2
      exact ⟨i, z, rfl, hz, h1, h3, h2⟩
/-- bytes are appended to the pen's, and the new slice is stored -/
theorem PenAt.put (h : PenAt w b v l) {x : List UInt8} {w3 w4 : World} (hb : Below w.heap.size w w3) (hown : w4.ownsRow (b + 1) 5 1 v' (l.length + x.length) (Lib.byteCells l ++ Lib.byteCells x)) (hg : w3.grownBy w4 v.ownBlock)
    (hat : ∀ k, v'.ownBlock = some k → v.ownBlock = some k ∨ w.heap.size ≤ k) :
    PenAt (w4.setCell ⟨b, 0, none⟩ v') b v' (l ++ x) ∧ PenStep w (w4.setCell ⟨b, 0, none⟩ v') b v v' := by
  have hlt := h.lt
  have hc3 := below_has hb h.cell hlt
  have hc4 : Has w4 b #[v] 45 := gb_has hg hc3 (fun e => by have := (h.ownLt e.symm).1; omega)
  have h3 := hb.size
  have h4 := hg.size
  refine ⟨⟨hc4.set (i := 0) v', ?_⟩, hg.os.trans hb.os, hg.tape.trans hb.tape, hg.output.trans hb.output, by simp only [World.setCell, Array.size_modify]; omega, fun k hk hkb hkv => ?_, hat⟩
  · rw [List.length_append, Lib.byteCells_append]
    refine hown.kept (row := some b) ⟨rfl, rfl, rfl, by simp [World.setCell], fun k _ hn => Below.heap_setCell _ _ _ _ (fun e => hn (by rw [e]))⟩ ?_
    refine .inr (fun e => ?_)
    have := (hown.lt b e).1
    omega
  · exact (Below.heap_setCell _ _ _ _ (by simpa using hkb)).trans ((hg.block k (by omega) (fun e => hkv e.symm)).trans (hb.block k hk))
end Go.Proofs.YtggnnlefalcplaaDoor
