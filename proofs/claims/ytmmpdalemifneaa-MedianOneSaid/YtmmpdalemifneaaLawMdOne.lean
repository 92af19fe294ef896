/-
  MedianOne: the walk.
-/
import Derived.Test.YtmmpdalemifneaaMdAlive
namespace Go.Proofs.Ytmmpdalemifneaa
open Go.RowKit Mem Md
variable {lo hi : Nat}
theorem win_new (w : World) : Has (w.alloc (.cells #[.int .i64 0, .int .i64 0, .int .i64 0, .int .i64 0, .int .i64 0, .int .i64 0, .int .i64 0, .int .i64 0, .int .i64 0, .int .i64 0, .int .i64 0, .int .i64 0] 32)) w.heap.size (winC []) 32 := Has.new (winC []) _
theorem below_new (w : World) (o : Obj) : Below w.heap.size w (w.alloc o) := (Below.refl _ w).alloc (Nat.le_refl _) o
theorem pushed {B : Nat} {a b c : World} {g : Nat} (h : Below B a b) (hg : b.grownBy c (some g)) (hB : B ≤ g) (hs : B ≤ b.heap.size) : Below B a c := h.trans (gb_toBelow hg hB hs)
set_option maxRecDepth 100000 in
set_option maxHeartbeats 1000000 in
theorem one_out (t : Int) (p : Option Addr) (n cap : Nat) (h : 60 < n) (w : World) :
    Calls Try.prog 8 #[.slice p n cap, .int .i64 t] w fun r w' => r = .returned (.bool true) ∧ Below w.heap.size w w' := by
  have hd : decide ((60 : Int) < (n : Int)) = true := decide_eq_true (by omega)
  clear h
  go_enter Try.func8, Try.ntmps8
  go_wp2_with fail
  refine (alive9 w).mono ?_
  rintro r w1 ⟨rfl, hB⟩
  go_wp2_with fail
  go_ret
  exact ⟨rfl, hB⟩
set_option maxRecDepth 100000 in
set_option maxHeartbeats 2000000 in
theorem one_in (t : Int) (p : Option Addr) (n cap : Nat) (l : List Int) (hl : l.length = n) (hc : n ≤ cap) (h60 : n ≤ 60) (w : World) (h : Lie w lo hi p l) (hh : hi ≤ w.heap.size) :
    Calls Try.prog 8 #[.slice p n cap, .int .i64 t] w fun r w' => r = .returned (.bool true) ∧ Below w.heap.size w w' := by
  have hd : decide ((60 : Int) < (n : Int)) = false := decide_eq_false (by omega)
  have HL := Lib.hid (fun w' (hb : Below w.heap.size w w') => h.below hb hh)
  clear h
  go_enter Try.func8, Try.ntmps8
  go_wp2_with fail
  refine (alive9 w).mono ?_
  rintro r w1 ⟨rfl, hB⟩
  go_wp2_with fail
  have hg0 : w.heap.size ≤ w1.heap.size := hB.size
  have hW1 := win_new w1
  have hB1 : Below w.heap.size w (w1.alloc (.cells #[.int .i64 0, .int .i64 0, .int .i64 0, .int .i64 0, .int .i64 0, .int .i64 0, .int .i64 0, .int .i64 0, .int .i64 0, .int .i64 0, .int .i64 0, .int .i64 0] 32)) := hB.alloc hB.size _
  have hS1 : w.heap.size ≤ (w1.alloc (.cells #[.int .i64 0, .int .i64 0, .int .i64 0, .int .i64 0, .int .i64 0, .int .i64 0, .int .i64 0, .int .i64 0, .int .i64 0, .int .i64 0, .int .i64 0, .int .i64 0] 32)).heap.size := hB1.size
  generalize World.alloc w1 _ = W1 at *
  generalize w1.heap.size = g at *
  refine (push_at g n cap lo hi p l [] hl hc (by omega) W1 (HL.out W1 hB1) (.inr (by omega)) (by omega) hW1).mono ?_
  rintro r w2 ⟨rfl, hg2, hW2⟩
  rw [List.append_nil] at hW2
  have hB2 := pushed hB1 hg2 hg0 hS1
  have hlr : l.reverse.length = n := by simp [hl]
  generalize l.reverse = H at *
  clear hW1 hB1 hS1 hg2 hB HL hl hc
  obtain ⟨s1, hs1⟩ : ∃ s1, s1 = min H.length 11 := ⟨_, rfl⟩
  obtain ⟨s2, hs2⟩ : ∃ s2, s2 = min (t :: H).length 11 := ⟨_, rfl⟩
  have KT1 := Lib.hid (times_at g H w2 hW2)
  have KT2 := Lib.hid (fun w hW => times_at g (t :: H) w hW)
  rw [← hs1] at KT1
  rw [← hs2] at KT2
  have HT1 : Hid ((H.take 11).length = s1) := Lib.hid (by rw [hs1]; simp; omega)
  have HT2 : Hid (((t :: H).take 11).length = s2) := Lib.hid (by rw [hs2]; simp; omega)
  have HE0 : Hid (((t :: H).take 11).getD 0 0 = t) := Lib.hid (by simp)
  have HEi : Hid (∀ i, 1 ≤ i → i < s2 → ((t :: H).take 11).getD i 0 = (H.take 11).getD (i - 1) 0) := Lib.hid (fun i h1 h2 => by
    obtain ⟨j, rfl⟩ : ∃ j, i = j + 1 := ⟨i - 1, by omega⟩
    simp [List.getD_eq_getElem?_getD, show j < 11 by omega, show j < 10 by omega])
  simp only [List.length_cons] at hs2
  have hmn := min_is (P := Try.prog) ((s1 : Int) + 1) 11 (s2 : Int) (by omega)
  have hs11 : s1 ≤ 11 := by omega
  have hs21 : s2 ≤ 11 := by omega
  have hs20 : 0 < s2 := by omega
  have hs12 : s2 ≤ s1 + 1 := by omega
  clear hs1 hs2 hlr
  go_wp2_with fail
  refine KT1.out.mono ?_
  rintro r w3 ⟨p3, c3, rfl, hc3, hL3, hb3⟩
  have hW3 := below_has hb3 hW2 hW2.lt
  have hg3 : g < w2.heap.size := hW2.lt
  have hL4 := hL3.below (below_new w3 (.cells #[.int .i64 t] 3)) (Nat.le_refl _)
  have hW4 := below_has (below_new w3 (.cells #[.int .i64 t] 3)) hW3 hW3.lt
  have hN4 : Lie (w3.alloc (.cells #[.int .i64 t] 3)) w3.heap.size (w3.heap.size + 1) (some ⟨w3.heap.size, 0, none⟩) [t] := lie_new w3 [t]
  have hB3 : Below w.heap.size w w3 := hB2.trans (hb3.mono hB2.size)
  have hB4 : Below w.heap.size w (w3.alloc (.cells #[.int .i64 t] 3)) := hB3.alloc hB3.size _
  have hz4 : (w3.alloc (.cells #[.int .i64 t] 3)).heap.size = w3.heap.size + 1 := World.size_alloc _ _
  have hs3 := hb3.size
  clear hW2 hb3 hL3 hW3 hB2 hB3 KT1
  go_wp2_with fail
  generalize World.alloc w3 _ = W4 at *
  refine (push_at g 1 1 w3.heap.size (w3.heap.size + 1) (some ⟨w3.heap.size, 0, none⟩) [t] H rfl (by omega) (by omega) W4 hN4 (.inl (by omega)) (by omega) hW4).mono ?_
  rintro r w5 ⟨rfl, hg5, hW5⟩
  have hW5' : Has w5 g (winC (t :: H)) 32 := hW5
  have hL5 := hL4.grown hg5 (by omega) (.inl hg3)
  have hB5 := pushed hB4 hg5 hg0 hB4.size
  have hs5 := hg5.size
  clear hW5 hL4 hB4 hg5 hN4 hW4
  go_wp2_with fail
  refine (KT2.out w5 hW5').mono ?_
  rintro r w6 ⟨p6, c6, rfl, hc6, hL6, hb6⟩
  have hL7 := hL5.below hb6 (by omega)
  have hB6 : Below w.heap.size w w6 := hB5.trans (hb6.mono hB5.size)
  obtain ⟨b6, off6, rfl, _, hq6, hcell6⟩ := hL6 (by rw [HT2.out]; exact hs20)
  have c0 : w6.cell? ⟨b6, off6, none⟩ = some (.int .i64 t) := by
    have := hcell6 0 (by rw [HT2.out]; exact hs20)
    rw [HE0.out] at this
    simpa using this
  have HC6 := Lib.hid hcell6
  have HL7 := Lib.hid hL7
  have HB6 := Lib.hid hB6
  have hs6 := hb6.size
  clear hL5 hb6 hL6 hcell6 hL7 hW5' hB5 KT2 hB6
  go_wp2_with fail
  go_loopw [8] (fun q wr => ∃ i : Nat, 1 ≤ i ∧ i ≤ s2 ∧ q = .int .i64 i ∧ Below w6.heap.size w6 wr) (fun q _ => s2 - (intOf q).toNat)
  case atStart => exact ⟨1, by omega, by omega, rfl, Below.refl _ _⟩
  case round =>
    obtain ⟨i, hi1, hi2, rfl, hb⟩ := hrel
    by_cases hlt : i < s2
    · obtain ⟨j, hj⟩ : ∃ j, j = i - 1 := ⟨_, rfl⟩
      obtain ⟨b3, off3, rfl, _, hq3, hcell3⟩ := HL7.out (by rw [HT1.out]; omega)
      have c3' : wr.cell? ⟨b3, off3 + j, none⟩ = some (.int .i64 ((H.take 11).getD j 0)) := by
        rw [hb.cell (p := ⟨b3, off3 + j, none⟩) (show b3 < _ by omega)]
        exact hcell3 j (by rw [HT1.out]; omega)
      have c6' : wr.cell? ⟨b6, off6 + i, none⟩ = some (.int .i64 ((H.take 11).getD j 0)) := by
        rw [hb.cell (p := ⟨b6, off6 + i, none⟩) (show b6 < _ by omega), hj, ← HEi.out i hi1 hlt]
        exact HC6.out i (by rw [HT2.out]; omega)
      have hw1 : IntKind.i64.wrap ((i : Int) - 1) = (j : Int) := by rw [IntKind.wrap_i64]; omega
      have hjs : j < s1 := by omega
      generalize (H.take 11).getD j 0 = x at *
      have HBD := Lib.hid hb.drew
      clear hj hcell3 hb
      go_wp2_with fail
      go_region
      go_wp2_with fail
      go_roundw
      case rel => exact ⟨i + 1, by omega, by omega, by go_num, HBD.out⟩
      case measure => simp [intOf]; omega
    · obtain rfl : i = s2 := by omega
      have HBD := Lib.hid hb
      clear hb
      go_wp2_with fail
      go_ret
      exact ⟨rfl, HB6.out.trans (HBD.out.mono HB6.out.size)⟩
theorem law_one (t : Int) (p : Option Addr) (n cap : Nat) (l : List Int) (hl : l.length = n) (hc : n ≤ cap) (w : World) (h : Lie w lo hi p l) (hh : hi ≤ w.heap.size) :
    Calls Try.prog 8 #[.slice p n cap, .int .i64 t] w fun r w' => r = .returned (.bool true) ∧ Below w.heap.size w w' := by
  by_cases h1 : 60 < n
  · exact one_out t p n cap h1 w
  · exact one_in t p n cap l hl hc (by omega) w h hh
end Go.Proofs.Ytmmpdalemifneaa
