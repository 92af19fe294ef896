import Derived.Test.YtlednkbnhnjgcaaRefAdd
import Derived.Test.YtlednkbnhnjgcaaRefNot
import Derived.Test.YtlednkbnhnjgcaaRefLess
import Derived.Test.YtlednkbnhnjgcaaNumRegion
namespace Go.Proofs.Ytlednkbnhnjgcaa
open Go.RowKit Rg2
structure Three (w wr : World) (A B R x y : Nat) : Prop where
  below : Below w.heap.size w wr
  a : Has wr A (numC x) 24
  b : Has wr B (numC y) 24
  r : Has wr R (numC 0) 24
theorem Three.on {w wr w' : World} {A B R x y : Nat} (h : Three w wr A B R x y) (hb : Below wr.heap.size wr w') : Three w w' A B R x y :=
  ⟨h.below.trans (hb.mono h.below.size), h.a.on hb, h.b.on hb, h.r.on hb⟩
theorem Three.row {w wr : World} {A B R x y : Nat} (h : Three w wr A B R x y) (hA : A < w.heap.size) (hB : B < w.heap.size) (hR : R < w.heap.size) {b : Nat} (hb : w.heap.size ≤ b) (cs : Array Value) : Three w (wr.setRow b cs) A B R x y :=
  ⟨below_setRow h.below hb _, h.a.otherRow _ _ (by omega), h.b.otherRow _ _ (by omega), h.r.otherRow _ _ (by omega)⟩
theorem frame_of (a : Act) (n : Nat) (u : Nat → Value) (hs : a.tmps.size = n) (hd : a.defers = []) (hu : ∀ t, u t = a.eval (.tmp t)) : a = ⟨((List.range n).map u).toArray, []⟩ := by
  obtain ⟨tm, df⟩ := a
  obtain rfl : df = [] := hd
  congr 1
  apply Array.ext
  · simpa using hs
  · intro i h1 h2
    simp only [List.getElem_toArray, List.getElem_map, List.getElem_range, hu]
    simp [Act.eval, Array.getD_eq_getD_getElem?, h1]
structure Four (w wr : World) (A B O R x y z : Nat) : Prop where
  below : Below w.heap.size w wr
  a : Has wr A (numC x) 24
  b : Has wr B (numC y) 24
  o : Has wr O (numC z) 24
  r : ∃ cs, Has wr R cs 24 ∧ cs.size = 4
theorem Four.on {w wr w' : World} {A B O R x y z : Nat} (h : Four w wr A B O R x y z) (hb : Below wr.heap.size wr w') : Four w w' A B O R x y z :=
  ⟨h.below.trans (hb.mono h.below.size), h.a.on hb, h.b.on hb, h.o.on hb, let ⟨cs, h1, h2⟩ := h.r; ⟨cs, h1.on hb, h2⟩⟩
theorem Four.row {w wr : World} {A B O R x y z : Nat} (h : Four w wr A B O R x y z) (hA : A ≠ R) (hB : B ≠ R) (hO : O ≠ R) (hR : w.heap.size ≤ R) (v : Nat) : Four w (wr.setRow R (numC v)) A B O R x y z :=
  ⟨below_setRow h.below hR _, h.a.otherRow _ _ hA, h.b.otherRow _ _ hB, h.o.otherRow _ _ hO, let ⟨_, h1, _⟩ := h.r; ⟨_, h1.row _, rfl⟩⟩
def subTab2 (x y z : Nat) (c : Bool) : Nat → Slot
  | 0 => .val (.agg (numC z)) | 1 => .val (.agg (numC x)) | 2 => .val (.agg (numC y)) | 3 => .val (.bool c) | 4 => .any | _ => .val (.bool c)
theorem ref_add_one (z s : Nat) (c : Bool) (hz : z < Nm.big) (hs : s = (z + 1) % Nm.big) (hc : c = decide (Nm.big ≤ z + 1)) (w : World) :
    Calls Try.prog 6 #[.agg (numC z), .agg #[.int .u64 1, .int .u64 0, .int .u64 0, .int .u64 0]] w fun e w' => e = .returned (.tuple #[.agg (numC s), .bool c]) ∧ Below w.heap.size w w' := by
  subst hs; subst hc; exact ref_add z 1 hz (by decide) w
def subTab (x y z : Nat) (c : Bool) : Nat → Slot
  | 0 => .val (.agg (numC x)) | 1 => .val (.agg (numC y)) | 2 => .val (.agg (numC (Nm.big - 1 - y))) | 3 => .val (.tuple #[.agg (numC z), .bool c]) | 4 => .val (.tuple #[.agg (numC z), .bool c]) | 5 => .val (.agg (numC z))
  | 6 => .val (.bool c) | 7 => .ptr | 8 => .any | _ => .val (.bool c)
theorem ref_add_z (x y : Nat) (hx : x < Nm.big) (hy : y < Nm.big) (z : Nat) (c : Bool) (hz : z = (x + y) % Nm.big) (hc : c = decide (Nm.big ≤ x + y)) (w : World) :
    Calls Try.prog 6 #[.agg (numC x), .agg (numC y)] w fun e w' => e = .returned (.tuple #[.agg (numC z), .bool c]) ∧ Below w.heap.size w w' := by
  subst hz; subst hc; exact ref_add x y hx hy w
end Go.Proofs.Ytlednkbnhnjgcaa
