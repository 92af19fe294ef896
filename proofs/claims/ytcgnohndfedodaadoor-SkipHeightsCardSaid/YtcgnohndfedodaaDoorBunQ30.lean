/-
  Texts of this seat, one behind the other.
-/
import Derived.Test.YtcgnohndfedodaaDoorZMem
import Derived.Test.YtcgnohndfedodaaDoorZMdMath
import Derived.Test.YtcgnohndfedodaaDoorZShelf
import Derived.Sort.OwnSortedInts
import Derived.Lib.OwnBridge
/-
  Slices of numbers in memory: where they lie, how they are cut, what the library's Clone and Sort leave.
-/
namespace Go.Proofs.YtcgnohndfedodaaDoor.MM
open Go.RowKit Mem Md
theorem max_is {P : Program} (x y m : Int) (h : m = max x y) (ts : Array TypeId) (t : TypeId) (w : World) : (Builtin.max_ ts t #[.int .i64 x, .int .i64 y]).run P w = .ok (.int .i64 m) w := by
  rw [run_max_int2, show (if y > x then y else x) = m by split <;> omega]
theorem min_is {P : Program} (x y m : Int) (h : m = min x y) (ts : Array TypeId) (t : TypeId) (w : World) : (Builtin.min_ ts t #[.int .i64 x, .int .i64 y]).run P w = .ok (.int .i64 m) w := by
  rw [run_min_int2, show (if y < x then y else x) = m by split <;> omega]
/-- a slice's address leads to these numbers, in a block from lo on and below hi -/
def Lie (w : World) (lo hi : Nat) (p : Option Addr) (l : List Int) : Prop :=
  0 < l.length → ∃ b off, p = some ⟨b, off, none⟩ ∧ lo ≤ b ∧ b < hi ∧ ∀ j, j < l.length → w.cell? ⟨b, off + j, none⟩ = some (.int .i64 (l.getD j 0))
variable {w w' : World} {lo hi n cap k r B : Nat} {p : Option Addr} {l : List Int}
theorem Lie.on (h : Lie w lo hi p l) (hs : ∀ k, lo ≤ k → k < hi → w'.heap[k]? = w.heap[k]?) : Lie w' lo hi p l := fun h0 => by
  obtain ⟨b, off, e, h1, h2, hc⟩ := h h0
  exact ⟨b, off, e, h1, h2, fun j hj => (World.cell?_of_block (w := w) (a := ⟨b, off + j, none⟩) (hs b h1 h2)).trans (hc j hj)⟩
theorem Lie.below (h : Lie w lo hi p l) (hb : Below B w w') (hB : hi ≤ B) : Lie w' lo hi p l := h.on fun k _ hk => hb.block k (by omega)
theorem Lie.grown (h : Lie w lo hi p l) (hg : w.grownBy w' (some r)) (hh : hi ≤ w.heap.size) (hr : r < lo ∨ hi ≤ r) : Lie w' lo hi p l := h.on fun k h1 h2 => hg.block k (by omega) (by intro e; cases e; omega)
theorem Lie.wide {lo' hi' : Nat} (h : Lie w lo hi p l) (h1 : lo' ≤ lo) (h2 : hi ≤ hi') : Lie w lo' hi' p l := fun h0 => by
  obtain ⟨b, off, e, h3, h4, hc⟩ := h h0
  exact ⟨b, off, e, by omega, by omega, hc⟩
theorem Lie.none : Lie w lo hi p [] := fun h => by simp at h
theorem add_at (b off j : Nat) : (⟨b, off, none⟩ : Addr).add j = ⟨b, off + j, none⟩ := by unfold Addr.add; by_cases h : j = 0 <;> simp [h]
/-- the first k of a slice -/
theorem cut_take (hl : l.length = n) (hk : k ≤ n) (hc : n ≤ cap) (h : Lie w lo hi p l) :
    ∃ p', (∀ w' : World, (Instr.sliceAt 45 (.slice p n cap) none (some (.int .i64 (k : Int))) none).run Tryd.prog w' = .ok (.slice p' k cap) w') ∧ Lie w lo hi p' (l.take k) := by
  refine ⟨if cap = 0 then p else p.map (·.add 0), fun w' => ?_, fun h0 => ?_⟩
  · rw [run_sliceAt_slice w' 45 _ _ _ _ (by kernel_rfl), run_slice_h w' 45 p n cap (by kernel_rfl) .i64 k (by omega) (by omega)]
    rw [show Tryd.prog.elem 45 = 3 by kernel_rfl]
    simp [sliced, Tryd.sizeOf3]
  · have h1 : 0 < k ∧ 0 < n := by simp at h0; omega
    obtain ⟨b, off, rfl, h2, h3, hcl⟩ := h (by omega)
    refine ⟨b, off, by rw [if_neg (by omega)]; simp [add_at], h2, h3, fun j hj => ?_⟩
    rw [hcl j (by simp at hj; omega)]
    congr 2
    simp at hj
    simp [List.getD_eq_getElem?_getD, show j < k by omega]
/-- a slice from place k on -/
theorem cut_drop (hl : l.length = n) (hk : k ≤ n) (hc : n ≤ cap) (h : Lie w lo hi p l) :
    ∃ p', (∀ w' : World, (Instr.sliceAt 45 (.slice p n cap) (some (.int .i64 (k : Int))) none none).run Tryd.prog w' = .ok (.slice p' (n - k) (cap - k)) w') ∧ Lie w lo hi p' (l.drop k) := by
  refine ⟨if cap = k then p else p.map (·.add k), fun w' => ?_, fun h0 => ?_⟩
  · rw [run_sliceAt_slice w' 45 _ _ _ _ (by kernel_rfl), run_slice_l w' 45 p n cap (by kernel_rfl) .i64 k (by omega) (by omega)]
    rw [show Tryd.prog.elem 45 = 3 by kernel_rfl]
    simp [sliced, Tryd.sizeOf3]
  · have h1 : k < n := by simp at h0; omega
    obtain ⟨b, off, rfl, h2, h3, hcl⟩ := h (by omega)
    refine ⟨b, off + k, by rw [if_neg (by omega)]; simp [add_at], h2, h3, fun j hj => ?_⟩
    simp at hj
    rw [Nat.add_assoc, hcl (k + j) (by omega)]
    simp [List.getD_eq_getElem?_getD]
/-- what the call made itself -/
theorem lie_of_owns {base : Nat} {v : Value} (h : w.ownsRow base 3 1 v n (l.map (Value.int .i64))) : ∃ p cap, v = .slice p n cap ∧ n ≤ cap ∧ l.length = n ∧ Lie w base w.heap.size p l := by
  have hl : l.length = n := by simpa using h.1
  by_cases hv : v = .slice none 0 0
  · subst hv
    rcases h.2 with ⟨_, rfl⟩ | ⟨g, c, cur, e, _⟩
    · exact ⟨none, 0, rfl, Nat.le_refl _, hl, fun h0 => by omega⟩
    · cases e
  · obtain ⟨g, c, rfl, h1, h2, h3, _, h5, hH⟩ := Lib.holds_of_ownsRow h hv
    refine ⟨some ⟨g, 0, none⟩, c, rfl, h3, hl, fun h0 => ⟨g, 0, rfl, h1, h2, fun j hj => ?_⟩⟩
    have := (hH j (by simpa using hj)).1
    rw [this]
    congr 1
    simp [List.getD_eq_getElem?_getD, hj]
theorem owns_blk {base : Nat} {v : Value} {e size : Nat} {xs : List Value} (h : w.ownsRow base e size v n xs) (hb : Below B w w') (hB : w.heap.size ≤ B) : w'.ownsRow base e size v n xs := by
  refine ⟨h.1, ?_⟩
  rcases h.2 with h | ⟨g, c, cur, e1, h1, h2, h3⟩
  · exact .inl h
  · have hg : g < w.heap.size := (Array.getElem?_eq_some_iff.1 h2).1
    exact .inr ⟨g, c, cur, e1, h1, (hb.block g (by omega)).trans h2, h3⟩
end Go.Proofs.YtcgnohndfedodaaDoor.MM
/-
  median.Of: its contract.
-/
namespace Go.Proofs.YtcgnohndfedodaaDoor.MM
open Go.RowKit Mem Md
variable {lo hi : Nat} {p : Option Addr}
theorem take_min {l : List Int} {k : Nat} (hk : k = min l.length 11) : l.take k = l.take 11 := by
  subst hk
  by_cases h : l.length ≤ 11
  · rw [Nat.min_eq_left h, List.take_length, List.take_of_length_le h]
  · rw [Nat.min_eq_right (by omega)]
/-- what Sort leaves of a slice that is the call's own -/
theorem sorted_cell {w : World} {g n : Nat} {os : Array Obj} {l : List Int} (hH : Sort.Holds (Value.int .i64) w g 0 l.toArray) (hg : g < w.heap.size) (m : Nat) (hm : m < l.length) :
    (Sort.grow (Sort.putRow (Value.int .i64) (Sort.ahead w n) g 0 (l.mergeSort fun x y => decide (x ≤ y)).toArray) os).cell? ⟨g, m, none⟩ = some (.int .i64 ((srt l).getD m 0)) := by
  have h2 := Sort.holds_grow (Value.int .i64) _ os g 0 (l.mergeSort fun x y => decide (x ≤ y)).toArray (by simpa [Sort.putRow, Sort.mapBlock, Sort.ahead] using hg)
    (Sort.holds_putRow (Value.int .i64) _ g 0 _ _ (Sort.holds_ahead (Value.int .i64) w n g 0 _ hH) (by simp))
  have h3 := (h2 m (by simpa using hm)).1
  rw [Nat.zero_add] at h3
  rw [h3]
  simp [srt, List.getD_eq_getElem?_getD, hm]
theorem sorted_below {w : World} {g n : Nat} {os : Array Obj} (d : Array Int) (B : Nat) (hB : B ≤ g) (hs : B ≤ w.heap.size) : Below B w (Sort.grow (Sort.putRow (Value.int .i64) (Sort.ahead w n) g 0 d) os) :=
  gb_toBelow (grownBy_sortedI d) hB hs
end Go.Proofs.YtcgnohndfedodaaDoor.MM
/-
  The window: its twelve cells, Push, Times, Mid.
-/
namespace Go.Proofs.YtcgnohndfedodaaDoor.MM
open Go.RowKit Mem Md
/-- eleven numbers and how many of them there are -/
def cellsW (a : List Int) (s : Int) : List Value := a.map (Value.int .i64) ++ [Value.int .i64 s]
/-- the eleven of a window that was told these times, the newest first -/
def elev (h : List Int) : List Int := (h ++ List.replicate 11 0).take 11
theorem elev_length (h : List Int) : (elev h).length = 11 := by simp [elev]
def winC (h : List Int) : Array Value := (cellsW (elev h) (min h.length 11 : Nat)).toArray
theorem elev_cons (x : Int) (h : List Int) : elev (x :: h) = x :: (elev h).take 10 := by simp [elev, List.take_take]
theorem elev_take (h : List Int) : (elev h).take (min h.length 11) = h.take 11 := by
  unfold elev
  rw [List.take_take]
  by_cases h1 : h.length ≤ 11
  · rw [show min (min h.length 11) 11 = h.length by omega, List.take_left' rfl, List.take_of_length_le h1]
  · rw [show min (min h.length 11) 11 = 11 by omega, List.take_append_of_le_length (by omega)]
theorem win_congr {h g : List Int} (e : h.take 11 = g.take 11) : winC h = winC g := by
  have hl := congrArg List.length e
  simp only [List.length_take] at hl
  have e2 : elev h = elev g := by
    unfold elev
    by_cases h1 : h.length < 11
    · have h2 : h = g := by
        rw [List.take_of_length_le (by omega), List.take_of_length_le (by omega)] at e
        exact e
      rw [h2]
    · rw [List.take_append_of_le_length (by omega), List.take_append_of_le_length (by omega), e]
  unfold winC
  rw [e2, show min h.length 11 = min g.length 11 by omega]
theorem cellsW_get (a : List Int) (s : Int) (j : Nat) (hj : j < a.length) : (cellsW a s).toArray[j]? = some (.int .i64 (a.getD j 0)) := by
  simp [cellsW, List.getElem?_append, hj]
theorem cellsW_last (a : List Int) (s : Int) (h : a.length = 11) : (cellsW a s).toArray[11]? = some (.int .i64 s) := by
  simp [cellsW, h]
theorem cellsW_set0 (y x : Int) (a : List Int) (s : Int) : (cellsW (y :: a) s).toArray.setIfInBounds 0 (.int .i64 x) = (cellsW (x :: a) s).toArray := by
  simp [cellsW]
theorem cellsW_set11 (a : List Int) (s t : Int) (h : a.length = 11) : (cellsW a s).toArray.setIfInBounds 11 (.int .i64 t) = (cellsW a t).toArray := by
  simp [cellsW, h]
theorem cellsW_move (a : List Int) (s : Int) (h : a.length = 11) :
    ((cellsW a s).take 1 ++ (cellsW a s).take 10 ++ (cellsW a s).drop 11) = cellsW (a.headD 0 :: a.take 10) s := by
  match a, h with
  | [a0, a1, a2, a3, a4, a5, a6, a7, a8, a9, a10], _ => rfl
/-- copy within a row, as one step of a drawn region -/
theorem step_copy_row {P : Program} {ops : Array Oper} {o : Oper} {a : Act} {w : World} {K : Act → World → Prop} {Q : Exit → Act → World → Prop} {E : Prop} (hgd : o.guard = none) (d s : Operand) (dT sT : TypeId)
    (ho : o.op = .call { callee := .builtin .copy, args := #[d, s], argTypes := #[dT, sT] }) (elem : TypeId) (hu : P.underlying dT = some (.slice elem)) (hsz : (P.info? elem).map (·.size) = some 1)
    (g off dLen dCap : Nat) (ad : Addr) (sLen sCap : Nat) (hd : a.eval d = .slice (some ⟨g, off, none⟩) dLen dCap) (hs : a.eval s = .slice (some ad) sLen sCap)
    (cur : Array Value) (t : TypeId) (hg : w.heap[g]? = some (.cells cur t (0, 0))) (cs : List Value) (hn : cs.length = Nat.min sLen dLen)
    (hsrc : ∀ j v, cs[j]? = some v → w.cell? (ad.add j) = some v) (hfit : off + cs.length ≤ cur.size) (h1 : ∀ v ∈ cs, v.oneCell' = true)
    (hK : K (a.put o.dst (goInt cs.length)) (w.setRow g (cur.toList.take off ++ (cs ++ cur.toList.drop (off + cs.length))).toArray)) :
    if Region.wanted o (yielded ops a.tmps) = true then Oper.wp P o a w K Q else E := by
  have hw : Region.wanted o (yielded ops a.tmps) = true := by simp [Region.wanted, hgd]
  rw [if_pos hw]
  have hrun := run_copy_row (P := P) w dT sT o.type elem g off dLen dCap ad sLen sCap cur t cs hu hsz hg hn hsrc hfit h1
  unfold Oper.wp
  simp [execOp, ho, resolve, invoke, builtin, hd, hs, hrun, Result.andThen]
  exact hK
theorem infoInt : (Tryd.prog.info? 3).map (·.size) = some 1 := by kernel_rfl
theorem sizeInt : ∀ w, (sizeOf 3).run Tryd.prog w = .ok 1 w := Tryd.sizeOf3
theorem last_take (l h : List Int) : ((l.drop (l.length - 11)).reverse ++ h).take 11 = (l.reverse ++ h).take 11 := by
  by_cases h1 : l.length ≤ 11
  · rw [show l.length - 11 = 0 by omega, List.drop_zero]
  · have e : l.reverse = (l.drop (l.length - 11)).reverse ++ (l.take (l.length - 11)).reverse := by
      rw [← List.reverse_append, List.take_append_drop]
    have hl : (l.drop (l.length - 11)).reverse.length = 11 := by simp; omega
    rw [e, List.append_assoc, List.take_left' hl, List.take_left' hl]
/-- the head of an array that lies at the head of a block, one cell an element -/
theorem arr_slice_h {P : Program} (k : IntKind) (t e n b h : Nat) (hu : P.underlying t = some (.array n e)) (hc : ∀ w, (sizeOf e).run P w = .ok 1 w) (h2 : h ≤ n) (w : World) :
    (Instr.sliceAt t (.pointer (some ⟨b, 0, none⟩)) none (some (.int k (h : Int))) none).run P w = .ok (.slice (some ⟨b, 0, none⟩) h n) w := by
  have ha : P.arrayLen t = n := by simp [Program.arrayLen, hu]
  have he : P.elem t = e := by simp [Program.elem, hu]
  rw [run_sliceAt_array_h w t ⟨b, 0, none⟩ (by rw [ha, he]; exact hu) k h (by omega) (by rw [ha]; omega), he, hc]
  simp [Result.andThen_ok, ha, slicedAt, Addr.add]
/-- whether a time is late -/
def late (t : Int) (l : List Int) : Bool := l.isEmpty || decide (mid l < t)
end Go.Proofs.YtcgnohndfedodaaDoor.MM
