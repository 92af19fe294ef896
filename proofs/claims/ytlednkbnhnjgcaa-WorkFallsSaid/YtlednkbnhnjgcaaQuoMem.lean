import Derived.Test.YtlednkbnhnjgcaaQuoMath
import Derived.Test.YtlednkbnhnjgcaaNumRegion
namespace Go.Proofs.Ytlednkbnhnjgcaa
open Go.RowKit Rg2
/-- two numbers that are read, two results, a quotient and a rest that grow and fall -/
structure Qs (w wr : World) (A B R S O T a b out rest : Nat) : Prop where
  below : Below w.heap.size w wr
  a : Has wr A (numC a) 24
  b : Has wr B (numC b) 24
  r : ∃ cs, Has wr R cs 24 ∧ cs.size = 4
  s : ∃ cs, Has wr S cs 24 ∧ cs.size = 4
  o : Has wr O (numC out) 24
  t : Has wr T (numC rest) 24
def Apart (w : World) (A B R S O T : Nat) : Prop := w.heap.size ≤ A ∧ A < B ∧ B < R ∧ R < S ∧ S < O ∧ O < T
section
variable {w wr w' : World} {A B R S O T a b out rest : Nat}
theorem Qs.on (h : Qs w wr A B R S O T a b out rest) (hb : Below wr.heap.size wr w') : Qs w w' A B R S O T a b out rest :=
  ⟨h.below.trans (hb.mono h.below.size), h.a.on hb, h.b.on hb, let ⟨cs, h1, h2⟩ := h.r; ⟨cs, h1.on hb, h2⟩, let ⟨cs, h1, h2⟩ := h.s; ⟨cs, h1.on hb, h2⟩, h.o.on hb, h.t.on hb⟩
theorem Qs.row (h : Qs w wr A B R S O T a b out rest) (hw : w.heap.size ≤ A) {g : Nat} (hg : T < g) (cs : Array Value) (hd : Apart w A B R S O T) : Qs w (wr.setRow g cs) A B R S O T a b out rest := by
  obtain ⟨_, d2, d3, d4, d5, d6⟩ := hd
  exact ⟨below_setRow h.below (by omega) _, h.a.otherRow _ _ (by omega), h.b.otherRow _ _ (by omega), let ⟨cs, h1, h2⟩ := h.r; ⟨cs, h1.otherRow _ _ (by omega), h2⟩, let ⟨cs, h1, h2⟩ := h.s; ⟨cs, h1.otherRow _ _ (by omega), h2⟩, h.o.otherRow _ _ (by omega), h.t.otherRow _ _ (by omega)⟩
theorem Qs.putT (h : Qs w wr A B R S O T a b out rest) (hd : Apart w A B R S O T) (v : Nat) : Qs w (wr.setRow T (numC v)) A B R S O T a b out v := by
  obtain ⟨d1, d2, d3, d4, d5, d6⟩ := hd
  exact ⟨below_setRow h.below (by omega) _, h.a.otherRow _ _ (by omega), h.b.otherRow _ _ (by omega), let ⟨cs, h1, h2⟩ := h.r; ⟨cs, h1.otherRow _ _ (by omega), h2⟩, let ⟨cs, h1, h2⟩ := h.s; ⟨cs, h1.otherRow _ _ (by omega), h2⟩, h.o.otherRow _ _ (by omega), h.t.row _⟩
theorem Qs.putO (h : Qs w wr A B R S O T a b out rest) (hd : Apart w A B R S O T) (v : Nat) : Qs w (wr.setRow O (numC v)) A B R S O T a b v rest := by
  obtain ⟨d1, d2, d3, d4, d5, d6⟩ := hd
  exact ⟨below_setRow h.below (by omega) _, h.a.otherRow _ _ (by omega), h.b.otherRow _ _ (by omega), let ⟨cs, h1, h2⟩ := h.r; ⟨cs, h1.otherRow _ _ (by omega), h2⟩, let ⟨cs, h1, h2⟩ := h.s; ⟨cs, h1.otherRow _ _ (by omega), h2⟩, h.o.row _, h.t.otherRow _ _ (by omega)⟩
theorem Qs.setO (h : Qs w wr A B R S O T a b out rest) (hd : Apart w A B R S O T) (i : Nat) (v : Value) (out' : Nat) (e : (numC out).setIfInBounds i v = numC out') : Qs w (wr.setCell ⟨O, i, none⟩ v).drew A B R S O T a b out' rest := by
  obtain ⟨d1, d2, d3, d4, d5, d6⟩ := hd
  exact ⟨(h.below.setCell (by simp; omega) _).drew, (h.a.other _ _ (by simp; omega)).drew, (h.b.other _ _ (by simp; omega)).drew, let ⟨cs, h1, h2⟩ := h.r; ⟨cs, (h1.other _ _ (by simp; omega)).drew, h2⟩, let ⟨cs, h1, h2⟩ := h.s; ⟨cs, (h1.other _ _ (by simp; omega)).drew, h2⟩, by rw [← e]; exact (h.o.set _).drew, (h.t.other _ _ (by simp; omega)).drew⟩
theorem Qs.putR (h : Qs w wr A B R S O T a b out rest) (hd : Apart w A B R S O T) (v : Nat) : Qs w (wr.setRow R (numC v)) A B R S O T a b out rest := by
  obtain ⟨d1, d2, d3, d4, d5, d6⟩ := hd
  exact ⟨below_setRow h.below (by omega) _, h.a.otherRow _ _ (by omega), h.b.otherRow _ _ (by omega), let ⟨_, h1, _⟩ := h.r; ⟨_, h1.row _, rfl⟩, let ⟨cs, h1, h2⟩ := h.s; ⟨cs, h1.otherRow _ _ (by omega), h2⟩, h.o.otherRow _ _ (by omega), h.t.otherRow _ _ (by omega)⟩
theorem Qs.putS (h : Qs w wr A B R S O T a b out rest) (hd : Apart w A B R S O T) (v : Nat) : Qs w (wr.setRow S (numC v)) A B R S O T a b out rest := by
  obtain ⟨d1, d2, d3, d4, d5, d6⟩ := hd
  exact ⟨below_setRow h.below (by omega) _, h.a.otherRow _ _ (by omega), h.b.otherRow _ _ (by omega), let ⟨cs, h1, h2⟩ := h.r; ⟨cs, h1.otherRow _ _ (by omega), h2⟩, let ⟨_, h1, _⟩ := h.s; ⟨_, h1.row _, rfl⟩, h.o.otherRow _ _ (by omega), h.t.otherRow _ _ (by omega)⟩
end
/-- two results that lie in blocks of their own -/
theorem num_results_cc {w : World} {fn : Func} {p q : Tmp} (h : fn.results = #[.cell p 24, .cell q 24]) (tmps : Array Value) (g k x y : Nat) (hp : tmps.getD p undef = .pointer (some ⟨g, 0, none⟩)) (hq : tmps.getD q undef = .pointer (some ⟨k, 0, none⟩)) (hg : Has w g (numC x) 24) (hk : Has w k (numC y) 24) :
    (results fn tmps).run Try.prog w = .ok (.tuple #[.agg (numC x), .agg (numC y)]) w := by
  have h1 : (loadVar 24 ⟨g, 0, none⟩).run Try.prog w = .ok (.agg (numC x)) w := run_loadVar_row w g 24 24 (numC x) (0, 0) _ hg.out Try.underlying24 rfl infoNum
  have h2 : (loadVar 24 ⟨k, 0, none⟩).run Try.prog w = .ok (.agg (numC y)) w := run_loadVar_row w k 24 24 (numC y) (0, 0) _ hk.out Try.underlying24 rfl infoNum
  have hp' : tmps[p]?.getD undef = .pointer (some ⟨g, 0, none⟩) := by simpa using hp
  have hq' : tmps[q]?.getD undef = .pointer (some ⟨k, 0, none⟩) := by simpa using hq
  simp [results, h, hp', hq', asAddr, h1, h2]
/-- store k into block R is done: it holds z -/
def DoneAt (k R z : Nat) (listed : Array Bool) (w : World) : Prop := listed.getD k false = true → Has w R (numC z) 24
theorem DoneAt.pre {k i R z : Nat} {listed : Array Bool} {w : World} (h : (listed.setIfInBounds i true).getD k false = false) : DoneAt k R z (listed.setIfInBounds i true) w := fun hl => by rw [h] at hl; cases hl
theorem DoneAt.keep {k i R z : Nat} {listed : Array Bool} {w w' : World} (h : DoneAt k R z listed w) (hi : i < listed.size) (hik : i ≠ k) (hw : Has w R (numC z) 24 → Has w' R (numC z) 24) : DoneAt k R z (listed.setIfInBounds i true) w' := fun hl => by
  rw [getD_set _ _ _ hi, if_neg hik] at hl
  exact hw (h hl)
theorem frame_quo (a : Act) (n : Nat) (u : Nat → Value) (hs : a.tmps.size = n) (hd : a.defers = []) (hu : ∀ t, u t = a.eval (.tmp t)) : a = ⟨((List.range n).map u).toArray, []⟩ := by
  obtain ⟨tm, df⟩ := a
  obtain rfl : df = [] := hd
  congr 1
  apply Array.ext
  · simpa using hs
  · intro i h1 h2
    simp only [List.getElem_toArray, List.getElem_map, List.getElem_range, hu]
    simp [Act.eval, Array.getD_eq_getD_getElem?, h1]
def endTab (out rest : Nat) : Nat → Slot
  | 0 => .val (.agg (numC out)) | 1 => .val (.agg (numC rest)) | _ => .any
end Go.Proofs.Ytlednkbnhnjgcaa
