/-
  A locator's heights, as plain mathematics.
-/
import Derived.WalkKit
namespace Go.Proofs.Ytfpolfokebklhaa.Ht
/-- from the height h on, where n stand already; f: so many steps at most -/
def hgo : Nat → Nat → Nat → List Nat
  | 0, _, _ => [0]
  | f + 1, n, h => if h = 0 then [0] else h :: hgo f (n + 1) (h - 2 ^ (n + 1 - 10))
def hts (n h : Nat) : List Nat := hgo h n h
theorem step_pos (n : Nat) : 0 < 2 ^ (n + 1 - 10) := Nat.pow_pos (by decide)
theorem hgo_fuel : ∀ (f f' n h : Nat), h ≤ f → h ≤ f' → hgo f n h = hgo f' n h := by
  intro f
  induction f with
  | zero =>
    intro f' n h h1 h2
    obtain rfl : h = 0 := by omega
    cases f' with
    | zero => rfl
    | succ f' => unfold hgo; rw [if_pos rfl]
  | succ f ih =>
    intro f' n h h1 h2
    cases f' with
    | zero =>
      obtain rfl : h = 0 := by omega
      unfold hgo
      rw [if_pos rfl]
    | succ f' =>
      unfold hgo
      by_cases h0 : h = 0
      · rw [if_pos h0, if_pos h0]
      · rw [if_neg h0, if_neg h0]
        have := step_pos n
        rw [ih f' (n + 1) (h - 2 ^ (n + 1 - 10)) (by omega) (by omega)]
theorem hts_zero (n : Nat) : hts n 0 = [0] := rfl
theorem hts_next (n h : Nat) (h0 : 0 < h) : hts n h = h :: hts (n + 1) (h - 2 ^ (n + 1 - 10)) := by
  have := step_pos n
  unfold hts
  rw [hgo_fuel h ((h - 1) + 1) n h (Nat.le_refl _) (by omega)]
  show (if h = 0 then [0] else h :: hgo (h - 1) (n + 1) (h - 2 ^ (n + 1 - 10))) = _
  rw [if_neg (by omega), hgo_fuel (h - 1) (h - 2 ^ (n + 1 - 10)) (n + 1) _ (by omega) (Nat.le_refl _)]
theorem hts_all (P : Nat → Nat → List Nat → Prop) (h0 : ∀ n, P n 0 [0]) (h1 : ∀ n h l, 0 < h → P (n + 1) (h - 2 ^ (n + 1 - 10)) l → P n h (h :: l)) : ∀ (f n h : Nat), h ≤ f → P n h (hts n h) := by
  intro f
  induction f with
  | zero =>
    intro n h hf
    obtain rfl : h = 0 := by omega
    exact h0 n
  | succ f ih =>
    intro n h hf
    by_cases hz : 0 < h
    · rw [hts_next n h hz]
      have := step_pos n
      exact h1 n h _ hz (ih (n + 1) _ (by omega))
    · obtain rfl : h = 0 := by omega
      exact h0 n
theorem hts_pos (n h : Nat) : 0 < (hts n h).length := hts_all (fun _ _ l => 0 < l.length) (fun _ => by decide) (fun _ _ _ _ _ => Nat.succ_pos _) h n h (Nat.le_refl _)
theorem hts_first (n h : Nat) : (hts n h)[0]? = some h := hts_all (fun _ h l => l[0]? = some h) (fun _ => rfl) (fun _ _ _ _ _ => rfl) h n h (Nat.le_refl _)
theorem hts_le (n h : Nat) : ∀ x ∈ hts n h, x ≤ h := hts_all (fun _ h l => ∀ x ∈ l, x ≤ h) (fun _ x hx => by simp at hx; omega) (fun _ _ _ _ h1 x hx => by
  rcases List.mem_cons.1 hx with rfl | hx
  · exact Nat.le_refl _
  · exact Nat.le_trans (h1 x hx) (Nat.sub_le _ _)) h n h (Nat.le_refl _)
theorem hts_last (n h : Nat) : (hts n h)[(hts n h).length - 1]? = some 0 := (hts_all (fun _ _ l => 0 < l.length ∧ l[l.length - 1]? = some 0) (fun _ => ⟨by decide, rfl⟩) (fun _ _ l _ h1 => ⟨Nat.succ_pos _, by
  rw [List.length_cons, Nat.add_sub_cancel]
  obtain ⟨k, hk⟩ : ∃ k, l.length = k + 1 := ⟨l.length - 1, by omega⟩
  have h2 := h1.2
  rw [hk, Nat.add_sub_cancel] at h2
  rw [hk, List.getElem?_cons_succ]
  exact h2⟩) h n h (Nat.le_refl _)).2
theorem hts_falls (n h : Nat) : (hts n h).Pairwise (· > ·) := (hts_all (fun _ h l => l.Pairwise (· > ·) ∧ ∀ x ∈ l, x ≤ h) (fun _ => ⟨List.pairwise_singleton _ _, fun x hx => by simp at hx; omega⟩) (fun n h l h0 h1 => by
  have := step_pos n
  refine ⟨List.pairwise_cons.2 ⟨fun x hx => ?_, h1.1⟩, fun x hx => ?_⟩
  · have := h1.2 x hx; show x < h; omega
  · rcases List.mem_cons.1 hx with rfl | hx
    · omega
    · have := h1.2 x hx; omega) h n h (Nat.le_refl _)).1
theorem hts_down (n h k x y : Nat) (hx : (hts n h)[k]? = some x) (hy : (hts n h)[k + 1]? = some y) : y < x := by
  obtain ⟨a1, a2⟩ := List.getElem?_eq_some_iff.1 hx
  obtain ⟨b1, b2⟩ := List.getElem?_eq_some_iff.1 hy
  have := List.pairwise_iff_getElem.1 (hts_falls n h) k (k + 1) a1 b1 (by omega)
  omega
theorem hts_len (n h : Nat) : (hts n h).length ≤ h + 1 := hts_all (fun _ h l => l.length ≤ h + 1) (fun _ => Nat.le_refl _) (fun n h l h0 h1 => by
  have := step_pos n
  rw [List.length_cons]
  omega) h n h (Nat.le_refl _)
/-- few: from a height of up to 511 no more than MaxLocator -/
theorem hts_few : ∀ h, h ≤ 511 → (hts 0 h).length ≤ 32 := by
  have : ∀ h, h < 512 → (hts 0 h).length ≤ 32 := by decide +kernel
  exact fun h hh => this h (by omega)
/-- the loop: what stands already (n of them), the height that is next (it may be below 0), the last step -/
structure Lo (from_ : Nat) (P : List Nat) (n : Nat) (hh : Int) (s : Nat) : Prop where
  len : P.length = n
  all : P ++ hts n hh.toNat = hts 0 from_
  step : s = 2 ^ (n - 10)
  room : (s : Int) + hh ≤ (from_ : Int) + 1
  low : hh ≤ (from_ : Int)
theorem Lo.start (f : Nat) : Lo f [] 0 (f : Int) 1 := ⟨rfl, by rw [Int.toNat_natCast]; rfl, rfl, by omega, Int.le_refl _⟩
theorem Lo.small {f : Nat} {P : List Nat} {n : Nat} {hh : Int} {s : Nat} (h : Lo f P n hh s) (h0 : 0 < hh) (hf : f ≤ 1099511627776) : n ≤ 50 ∧ s ≤ 1099511627776 := by
  have h1 := h.room
  refine ⟨Nat.le_of_not_lt fun hn => ?_, by omega⟩
  have h2 : 2 ^ 41 ≤ 2 ^ (n - 10) := Nat.pow_le_pow_right (by decide) (by omega)
  have h3 : (2 : Nat) ^ 41 = 2199023255552 := by decide
  have := h.step
  omega
theorem two_pow (n : Nat) (h : 11 ≤ n + 1) : 2 ^ (n + 1 - 10) = 2 ^ (n - 10) * 2 := by
  rw [show n + 1 - 10 = (n - 10) + 1 by omega, Nat.pow_succ]
/-- a round more; the step that it takes is t -/
theorem Lo.next {f : Nat} {P : List Nat} {n : Nat} {hh : Int} {s t : Nat} (h : Lo f P n hh s) (h0 : 0 < hh) (ht : t = if 11 ≤ n + 1 then s * 2 else s) : Lo f (P ++ [hh.toNat]) (n + 1) (hh - (t : Int)) t := by
  have hs := h.step
  have et : t = 2 ^ (n + 1 - 10) := by
    by_cases hn : 11 ≤ n + 1
    · rw [ht, if_pos hn, hs, two_pow n hn]
    · rw [ht, if_neg hn, hs, show n - 10 = 0 by omega, show n + 1 - 10 = 0 by omega]
  have hp := step_pos n
  have h1 := h.room
  have h2 := h.low
  refine ⟨by rw [List.length_append, h.len]; rfl, ?_, et, by omega, by omega⟩
  rw [List.append_assoc, ← h.all, hts_next n hh.toNat (by omega), ← et, show (hh - (t : Int)).toNat = hh.toNat - t by omega]
  rfl
theorem Lo.done {f : Nat} {P : List Nat} {n : Nat} {hh : Int} {s : Nat} (h : Lo f P n hh s) (h0 : hh ≤ 0) : P ++ [0] = hts 0 f := by
  have := h.all
  rw [show hh.toNat = 0 by omega] at this
  exact this
theorem Lo.zero {f : Nat} {P : List Nat} {n : Nat} {s : Nat} (h : Lo f P n 0 s) : P ++ [0] = hts 0 f := h.done (Int.le_refl _)
end Go.Proofs.Ytfpolfokebklhaa.Ht
