/-
  Lists of headers: in memory; whether each hangs on the one ahead of it.
-/
import Derived.Test.YtcgnohndfedodaaDoorBunQ16
import Derived.Test.YtcgnohndfedodaaDoorZHdEq
namespace Go.Proofs.YtcgnohndfedodaaDoor
open Go.RowKit Mem Sc
/-! ### plain mathematics -/
def fol (hs : List Hd) : Nat → Bool
  | 0 => true
  | 1 => true
  | k + 2 => fol hs (k + 1) && ((hs.getD (k + 1) hdZ).prev == (hs.getD k hdZ).id)
theorem fol_more (hs : List Hd) (k : Nat) (h : fol hs k = false) : ∀ d, fol hs (k + d) = false
  | 0 => h
  | d + 1 => by
    have ih := fol_more hs k h d
    generalize hm : k + d = m at ih
    rw [show k + (d + 1) = m + 1 by omega]
    cases m with
    | zero => cases ih
    | succ m => show (fol hs (m + 1) && _) = false; rw [ih]; rfl
theorem fol_next (hs : List Hd) (k : Nat) : fol hs (k + 2) = (fol hs (k + 1) && ((hs.getD (k + 1) hdZ).prev == (hs.getD k hdZ).id)) := rfl
theorem getD_lt {hs : List Hd} {k : Nat} (h : k < hs.length) : hs.getD k hdZ = hs[k] := by
  rw [List.getD_eq_getElem?_getD, List.getElem?_eq_getElem h]; rfl
theorem getD_app (l : List Hd) (x : Hd) (k : Nat) (h : k < l.length) : (l ++ [x]).getD k hdZ = l.getD k hdZ := by
  rw [List.getD_eq_getElem?_getD, List.getD_eq_getElem?_getD, List.getElem?_append_left h]
theorem getD_last (l : List Hd) (x : Hd) (k : Nat) (h : l.length = k) : (l ++ [x]).getD k hdZ = x := by
  rw [List.getD_eq_getElem?_getD, List.getElem?_append_right (by omega), h, Nat.sub_self]; rfl
theorem fol_app (l : List Hd) (x : Hd) : ∀ k, k ≤ l.length → fol (l ++ [x]) k = fol l k
  | 0, _ => rfl
  | 1, _ => rfl
  | k + 2, h => by rw [fol_next, fol_next, fol_app l x (k + 1) (by omega), getD_app l x _ (by omega), getD_app l x _ (by omega)]
/-- the headers, each tied to the one ahead of it -/
def tied (hs : List Hd) : Nat → List Hd
  | 0 => []
  | 1 => [hs.getD 0 hdZ]
  | k + 2 => tied hs (k + 1) ++ [{ hs.getD (k + 1) hdZ with prev := ((tied hs (k + 1)).getD k hdZ).id }]
theorem tied_length (hs : List Hd) : ∀ k, (tied hs k).length = k
  | 0 => rfl
  | 1 => rfl
  | k + 2 => by unfold tied; rw [List.length_append, tied_length hs (k + 1)]; rfl
theorem getD_ok {hs : List Hd} (h : ∀ x ∈ hs, x.ok) (k : Nat) : (hs.getD k hdZ).ok := by
  by_cases hk : k < hs.length
  · rw [getD_lt hk]; exact h _ (List.getElem_mem hk)
  · rw [List.getD_eq_getElem?_getD, List.getElem?_eq_none (by omega)]; exact hdZ_ok
theorem tied_ok {hs : List Hd} (h : ∀ x ∈ hs, x.ok) : ∀ k, ∀ x ∈ tied hs k, x.ok
  | 0, x, hx => by simp [tied] at hx
  | 1, x, hx => by
    simp only [tied, List.mem_singleton] at hx
    subst hx; exact getD_ok h 0
  | k + 2, x, hx => by
    unfold tied at hx
    rcases List.mem_append.1 hx with hx | hx
    · exact tied_ok h (k + 1) x hx
    · simp only [List.mem_singleton] at hx
      subst hx
      exact ⟨id_length _, (getD_ok h (k + 1)).2⟩
theorem fol_tied (hs : List Hd) : ∀ k, fol (tied hs k) k = true
  | 0 => rfl
  | 1 => rfl
  | k + 2 => by
    have hl := tied_length hs (k + 1)
    have e : tied hs (k + 2) = tied hs (k + 1) ++ [{ hs.getD (k + 1) hdZ with prev := ((tied hs (k + 1)).getD k hdZ).id }] := rfl
    rw [fol_next, e, fol_app _ _ _ (by omega), fol_tied hs (k + 1), getD_last _ _ _ hl, getD_app _ _ _ (by omega)]
    simp
/-! ### in memory -/
/-- headers lie where a slice says -/
def HeadersAt (w : World) (a : Option Addr) (hs : List Hd) : Prop :=
  0 < hs.length → ∃ ab ao, a = some ⟨ab, ao, none⟩ ∧ ab < w.heap.size ∧ ∀ i (hi : i < hs.length), hs[i].ok ∧ w.rangeAt ab (ao + i * 68) (hdC hs[i])
theorem hdC_pos (h : Hd) : 0 < (hdC h).length := by simp [hdC]
theorem HeadersAt.below {w w' : World} {a : Option Addr} {hs : List Hd} (h : HeadersAt w a hs) (hb : Below w.heap.size w w') : HeadersAt w' a hs := fun h0 => by
  obtain ⟨ab, ao, ha, hlt, hc⟩ := h h0
  exact ⟨ab, ao, ha, Nat.lt_of_lt_of_le hlt hb.size, fun i hi => ⟨(hc i hi).1, range_below (hc i hi).2 hb (hdC_pos _)⟩⟩
theorem range_prev {w : World} {g o : Nat} {h : Hd} (hr : w.rangeAt g o (hdC h)) : w.rangeAt g (o + 1) (Lib.byteCells h.prev) := fun j u hu => by
  have := hr (1 + j) u (hdC_prev j u hu)
  rwa [show o + (1 + j) = o + 1 + j by omega] at this
def headersC (hs : List Hd) : List Value := hs.flatMap hdC
theorem headersC_get (hs : List Hd) (h : ∀ x ∈ hs, x.ok) (i j : Nat) (hi : i < hs.length) (hj : j < 68) : (headersC hs)[i * 68 + j]? = (hdC hs[i])[j]? := by
  induction hs generalizing i with
  | nil => simp at hi
  | cons x hs ih =>
    have hx : (hdC x).length = 68 := hdC_length (h x (by simp))
    show (hdC x ++ headersC hs)[i * 68 + j]? = _
    cases i with
    | zero => rw [List.getElem?_append_left (by omega)]; simp
    | succ i =>
      rw [List.getElem?_append_right (by omega), hx, show (i + 1) * 68 + j - 68 = i * 68 + j by omega, ih (fun y hy => h y (by simp [hy])) i (by simpa using hi)]
      rfl
theorem owns_headers {w : World} {base : Nat} {v : Value} {n : Nat} {hs : List Hd} (h : w.ownsRow base 37 68 v n (headersC hs)) (hn : n = hs.length) (hok : ∀ x ∈ hs, x.ok) :
    ∃ a c, v = .slice a n c ∧ HeadersAt w a hs := by
  rcases h.2 with ⟨rfl, rfl⟩ | ⟨g, cap, cur, rfl, hb, hg, hc, hm, hcs, ht⟩
  · exact ⟨none, 0, rfl, fun h0 => by omega⟩
  · refine ⟨_, _, rfl, fun h0 => ⟨g, 0, rfl, Has.lt hg, fun i hi => ⟨hok _ (List.getElem_mem hi), fun j u hu => ?_⟩⟩⟩
    have hj : j < 68 := by
      have := (List.getElem?_eq_some_iff.1 hu).1
      rwa [hdC_length (hok _ (List.getElem_mem hi))] at this
    rw [← headersC_get hs hok i j hi hj] at hu
    have hH : Has w g cur 37 := hg
    rw [Nat.zero_add, hH.cell, ← hu, ← ht, List.getElem?_take_of_lt (by omega), Array.getElem?_toList]
theorem hd_zero : ((Tryd.prog.info? 37).bind (·.zero)).map (·.cells.size) = some 68 := by kernel_rfl
theorem hd_bytes : (Tryd.prog.info? 37).map (·.bytes) = some 96 := by kernel_rfl
theorem hd_info : ∃ i z, Tryd.prog.info? 37 = some i ∧ i.zero = some z ∧ i.size = 68 ∧ i.bytes = 96 ∧ z.cells.size = 68 := by
  have h1 := hdinfo
  have h2 := hd_zero
  have h3 := hd_bytes
  cases hi : Tryd.prog.info? 37 with
  | none => rw [hi] at h1; cases h1
  | some i =>
    rw [hi] at h1 h2 h3
    simp only [Option.map_some, Option.some.injEq, Option.bind_some] at h1 h2 h3
    cases hz : i.zero with
    | none => rw [hz] at h2; cases h2
    | some z =>
      rw [hz] at h2
      simp only [Option.map_some, Option.some.injEq] at h2
      exact ⟨i, z, rfl, hz, h1, h3, h2⟩
theorem news_hd (w : World) (h : Hd) : ∀ j u, (hdC h)[j]? = some u → (w.alloc (.cells (hdA h) 37)).cell? ((⟨w.heap.size, 0, none⟩ : Addr).add j) = some u := by
  have := World.news_of_block (heap_alloc_new w (.cells (hdA h) 37))
  exact this
end Go.Proofs.YtcgnohndfedodaaDoor
