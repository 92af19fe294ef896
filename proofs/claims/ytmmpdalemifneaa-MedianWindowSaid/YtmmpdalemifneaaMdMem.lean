/-
  Slices of numbers in memory: where they lie, how they are cut, what the library's Clone and Sort leave.
-/
import Derived.Test.YtmmpdalemifneaaMem
import Derived.Test.YtmmpdalemifneaaMdMath
import Derived.Test.YtmmpdalemifneaaShelf
import Derived.Sort.OwnSortedInts
import Derived.Lib.OwnBridge
namespace Go.Proofs.Ytmmpdalemifneaa
open Go.RowKit Mem Md
theorem max_is {P : Program} (x y m : Int) (h : m = max x y) (ts : Array TypeId) (t : TypeId) (w : World) : (Builtin.max_ ts t #[.int .i64 x, .int .i64 y]).run P w = .ok (.int .i64 m) w := by
  rw [run_max_int2, show (if y > x then y else x) = m by split <;> omega]
theorem min_is {P : Program} (x y m : Int) (h : m = min x y) (ts : Array TypeId) (t : TypeId) (w : World) : (Builtin.min_ ts t #[.int .i64 x, .int .i64 y]).run P w = .ok (.int .i64 m) w := by
  rw [run_min_int2, show (if y < x then y else x) = m by split <;> omega]
/-- a slice's address leads to these numbers, in a block from lo on and below hi -/
def Lie (w : World) (lo hi : Nat) (p : Option Addr) (l : List Int) : Prop :=
  0 < l.length → ∃ b off, p = some ⟨b, off, none⟩ ∧ lo ≤ b ∧ b < hi ∧ ∀ j, j < l.length → w.cell? ⟨b, off + j, none⟩ = some (.int .i64 (l.getD j 0))
variable {w w' : World} {lo hi n cap k r B : Nat} {p : Option Addr} {l : List Int}
theorem Lie.on (h : Lie w lo hi p l) (hs : ∀ k, lo ≤ k → k < hi → w'.heap[k]? = w.heap[k]?) : Lie w' lo hi p l := fun h0 => by
  obtain ⟨b, off, e, h1, h2, hc⟩ := h h0
  exact ⟨b, off, e, h1, h2, fun j hj => (World.cell?_of_block (w := w) (a := ⟨b, off + j, none⟩) (hs b h1 h2)).trans (hc j hj)⟩
theorem Lie.below (h : Lie w lo hi p l) (hb : Below B w w') (hB : hi ≤ B) : Lie w' lo hi p l := h.on fun k _ hk => hb.block k (by omega)
theorem Lie.grown (h : Lie w lo hi p l) (hg : w.grownBy w' (some r)) (hh : hi ≤ w.heap.size) (hr : r < lo ∨ hi ≤ r) : Lie w' lo hi p l := h.on fun k h1 h2 => hg.block k (by omega) (by intro e; cases e; omega)
theorem Lie.wide {lo' hi' : Nat} (h : Lie w lo hi p l) (h1 : lo' ≤ lo) (h2 : hi ≤ hi') : Lie w lo' hi' p l := fun h0 => by
  obtain ⟨b, off, e, h3, h4, hc⟩ := h h0
  exact ⟨b, off, e, by omega, by omega, hc⟩
theorem Lie.none : Lie w lo hi p [] := fun h => by simp at h
theorem add_at (b off j : Nat) : (⟨b, off, none⟩ : Addr).add j = ⟨b, off + j, none⟩ := by unfold Addr.add; by_cases h : j = 0 <;> simp [h]
/-- the first k of a slice -/
theorem cut_take (hl : l.length = n) (hk : k ≤ n) (hc : n ≤ cap) (h : Lie w lo hi p l) :
    ∃ p', (∀ w' : World, (Instr.sliceAt 22 (.slice p n cap) none (some (.int .i64 (k : Int))) none).run Try.prog w' = .ok (.slice p' k cap) w') ∧ Lie w lo hi p' (l.take k) := by
  refine ⟨if cap = 0 then p else p.map (·.add 0), fun w' => ?_, fun h0 => ?_⟩
  · rw [run_sliceAt_slice w' 22 _ _ _ _ (by kernel_rfl), run_slice_h w' 22 p n cap (by kernel_rfl) .i64 k (by omega) (by omega)]
    rw [show Try.prog.elem 22 = 3 by kernel_rfl]
    simp [sliced, Try.sizeOf3]
  · have h1 : 0 < k ∧ 0 < n := by simp at h0; omega
    obtain ⟨b, off, rfl, h2, h3, hcl⟩ := h (by omega)
    refine ⟨b, off, by rw [if_neg (by omega)]; simp [add_at], h2, h3, fun j hj => ?_⟩
    rw [hcl j (by simp at hj; omega)]
    congr 2
    simp at hj
    simp [List.getD_eq_getElem?_getD, show j < k by omega]
/-- a slice from place k on -/
theorem cut_drop (hl : l.length = n) (hk : k ≤ n) (hc : n ≤ cap) (h : Lie w lo hi p l) :
    ∃ p', (∀ w' : World, (Instr.sliceAt 22 (.slice p n cap) (some (.int .i64 (k : Int))) none none).run Try.prog w' = .ok (.slice p' (n - k) (cap - k)) w') ∧ Lie w lo hi p' (l.drop k) := by
  refine ⟨if cap = k then p else p.map (·.add k), fun w' => ?_, fun h0 => ?_⟩
  · rw [run_sliceAt_slice w' 22 _ _ _ _ (by kernel_rfl), run_slice_l w' 22 p n cap (by kernel_rfl) .i64 k (by omega) (by omega)]
    rw [show Try.prog.elem 22 = 3 by kernel_rfl]
    simp [sliced, Try.sizeOf3]
  · have h1 : k < n := by simp at h0; omega
    obtain ⟨b, off, rfl, h2, h3, hcl⟩ := h (by omega)
    refine ⟨b, off + k, by rw [if_neg (by omega)]; simp [add_at], h2, h3, fun j hj => ?_⟩
    simp at hj
    rw [Nat.add_assoc, hcl (k + j) (by omega)]
    simp [List.getD_eq_getElem?_getD]
/-- what the call made itself -/
theorem lie_of_owns {base : Nat} {v : Value} (h : w.ownsRow base 3 1 v n (l.map (Value.int .i64))) : ∃ p cap, v = .slice p n cap ∧ n ≤ cap ∧ l.length = n ∧ Lie w base w.heap.size p l := by
  have hl : l.length = n := by simpa using h.1
  by_cases hv : v = .slice none 0 0
  · subst hv
    rcases h.2 with ⟨_, rfl⟩ | ⟨g, c, cur, e, _⟩
    · exact ⟨none, 0, rfl, Nat.le_refl _, hl, fun h0 => by omega⟩
    · cases e
  · obtain ⟨g, c, rfl, h1, h2, h3, _, h5, hH⟩ := Lib.holds_of_ownsRow h hv
    refine ⟨some ⟨g, 0, none⟩, c, rfl, h3, hl, fun h0 => ⟨g, 0, rfl, h1, h2, fun j hj => ?_⟩⟩
    have := (hH j (by simpa using hj)).1
    rw [this]
    congr 1
    simp [List.getD_eq_getElem?_getD, hj]
theorem owns_blk {base : Nat} {v : Value} {e size : Nat} {xs : List Value} (h : w.ownsRow base e size v n xs) (hb : Below B w w') (hB : w.heap.size ≤ B) : w'.ownsRow base e size v n xs := by
  refine ⟨h.1, ?_⟩
  rcases h.2 with h | ⟨g, c, cur, e1, h1, h2, h3⟩
  · exact .inl h
  · have hg : g < w.heap.size := (Array.getElem?_eq_some_iff.1 h2).1
    exact .inr ⟨g, c, cur, e1, h1, (hb.block g (by omega)).trans h2, h3⟩
end Go.Proofs.Ytmmpdalemifneaa
