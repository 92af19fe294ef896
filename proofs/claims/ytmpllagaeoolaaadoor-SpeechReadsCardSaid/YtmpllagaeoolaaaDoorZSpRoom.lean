/-
  speech: hasRoom, mostNames, goodHeaders.
-/
import Derived.Test.YtmpllagaeoolaaaDoorZSpBare
import Derived.Test.YtmpllagaeoolaaaDoorZHdGood
import Derived.Test.YtmpllagaeoolaaaDoorZHdList
namespace Go.Proofs.YtmpllagaeoolaaaDoor
open Go.RowKit Mem Sc
/-- a box of two ints -/
def two (x y : Int) : Array Value := #[.int .i64 x, .int .i64 y]
set_option maxHeartbeats 1000000 in
theorem room4_xn (b : Nat) (x y : Int) (hx : x < 0) (w : World) (hb : Has w b (two x y) 3) : Calls Tryd.prog 28 #[.int .i64 4, .slice (some ⟨b, 0, none⟩) 2 2] w fun e w' => e = .returned (.bool false) ∧ w = w' := by
  have c0 : w.cell? ⟨b, 0, none⟩ = some (.int .i64 x) := hb.cell 0
  have c1 : w.cell? ⟨b, 1, none⟩ = some (.int .i64 y) := hb.cell 1
  have tx1 : decide (x < 0) = true := decide_eq_true hx
  clear hx
  clear hb
  go_enter Tryd.func28, Tryd.ntmps28
  go_wp2_with fail
  go_loop [9] (fun i => ∃ k : Nat, k ≤ 0 ∧ i = .int .i64 k) (fun i => 3 - (intOf i).toNat)
  case atStart => exact ⟨0, by omega, rfl⟩
  case round =>
    obtain ⟨k, hk, rfl⟩ := hrel
    obtain rfl : k = 0 := by omega
    · go_wp2_with fail
      go_ret
      exact ⟨rfl, rfl⟩
set_option maxHeartbeats 1000000 in
theorem room4_xb (b : Nat) (x y : Int) (hx : (4294967296 : Int) ≤ x) (w : World) (hb : Has w b (two x y) 3) : Calls Tryd.prog 28 #[.int .i64 4, .slice (some ⟨b, 0, none⟩) 2 2] w fun e w' => e = .returned (.bool false) ∧ w = w' := by
  have c0 : w.cell? ⟨b, 0, none⟩ = some (.int .i64 x) := hb.cell 0
  have c1 : w.cell? ⟨b, 1, none⟩ = some (.int .i64 y) := hb.cell 1
  have tx1 : decide (x < 0) = false := decide_eq_false (by omega)
  have tx2 : decide ((4294967296 : Int) ≤ x) = true := decide_eq_true hx
  clear hx
  clear hb
  go_enter Tryd.func28, Tryd.ntmps28
  go_wp2_with fail
  go_loop [9] (fun i => ∃ k : Nat, k ≤ 0 ∧ i = .int .i64 k) (fun i => 3 - (intOf i).toNat)
  case atStart => exact ⟨0, by omega, rfl⟩
  case round =>
    obtain ⟨k, hk, rfl⟩ := hrel
    obtain rfl : k = 0 := by omega
    · go_wp2_with fail
      go_ret
      exact ⟨rfl, rfl⟩
set_option maxHeartbeats 1000000 in
theorem room4_yn (b : Nat) (x y : Int) (hx : in4 x) (hy : y < 0) (w : World) (hb : Has w b (two x y) 3) : Calls Tryd.prog 28 #[.int .i64 4, .slice (some ⟨b, 0, none⟩) 2 2] w fun e w' => e = .returned (.bool false) ∧ w = w' := by
  have c0 : w.cell? ⟨b, 0, none⟩ = some (.int .i64 x) := hb.cell 0
  have c1 : w.cell? ⟨b, 1, none⟩ = some (.int .i64 y) := hb.cell 1
  have tx1 : decide (x < 0) = false := decide_eq_false (by have := hx.1; omega)
  have tx2 : decide ((4294967296 : Int) ≤ x) = false := decide_eq_false (by have := hx.2; omega)
  clear hx
  have ty1 : decide (y < 0) = true := decide_eq_true hy
  clear hy
  clear hb
  go_enter Tryd.func28, Tryd.ntmps28
  go_wp2_with fail
  go_loop [9] (fun i => ∃ k : Nat, k ≤ 1 ∧ i = .int .i64 k) (fun i => 3 - (intOf i).toNat)
  case atStart => exact ⟨0, by omega, rfl⟩
  case round =>
    obtain ⟨k, hk, rfl⟩ := hrel
    obtain rfl | rfl : k = 0 ∨ k = 1 := by omega
    · go_wp2_with fail
      exact ⟨⟨1, by omega, rfl⟩, by simp [intOf]⟩
    · go_wp2_with fail
      go_ret
      exact ⟨rfl, rfl⟩
set_option maxHeartbeats 1000000 in
theorem room4_yb (b : Nat) (x y : Int) (hx : in4 x) (hy : (4294967296 : Int) ≤ y) (w : World) (hb : Has w b (two x y) 3) : Calls Tryd.prog 28 #[.int .i64 4, .slice (some ⟨b, 0, none⟩) 2 2] w fun e w' => e = .returned (.bool false) ∧ w = w' := by
  have c0 : w.cell? ⟨b, 0, none⟩ = some (.int .i64 x) := hb.cell 0
  have c1 : w.cell? ⟨b, 1, none⟩ = some (.int .i64 y) := hb.cell 1
  have tx1 : decide (x < 0) = false := decide_eq_false (by have := hx.1; omega)
  have tx2 : decide ((4294967296 : Int) ≤ x) = false := decide_eq_false (by have := hx.2; omega)
  clear hx
  have ty1 : decide (y < 0) = false := decide_eq_false (by omega)
  have ty2 : decide ((4294967296 : Int) ≤ y) = true := decide_eq_true hy
  clear hy
  clear hb
  go_enter Tryd.func28, Tryd.ntmps28
  go_wp2_with fail
  go_loop [9] (fun i => ∃ k : Nat, k ≤ 1 ∧ i = .int .i64 k) (fun i => 3 - (intOf i).toNat)
  case atStart => exact ⟨0, by omega, rfl⟩
  case round =>
    obtain ⟨k, hk, rfl⟩ := hrel
    obtain rfl | rfl : k = 0 ∨ k = 1 := by omega
    · go_wp2_with fail
      exact ⟨⟨1, by omega, rfl⟩, by simp [intOf]⟩
    · go_wp2_with fail
      go_ret
      exact ⟨rfl, rfl⟩
set_option maxHeartbeats 1000000 in
theorem room4_yes (b : Nat) (x y : Int) (hx : in4 x) (hy : in4 y) (w : World) (hb : Has w b (two x y) 3) : Calls Tryd.prog 28 #[.int .i64 4, .slice (some ⟨b, 0, none⟩) 2 2] w fun e w' => e = .returned (.bool true) ∧ w = w' := by
  have c0 : w.cell? ⟨b, 0, none⟩ = some (.int .i64 x) := hb.cell 0
  have c1 : w.cell? ⟨b, 1, none⟩ = some (.int .i64 y) := hb.cell 1
  have tx1 : decide (x < 0) = false := decide_eq_false (by have := hx.1; omega)
  have tx2 : decide ((4294967296 : Int) ≤ x) = false := decide_eq_false (by have := hx.2; omega)
  clear hx
  have ty1 : decide (y < 0) = false := decide_eq_false (by have := hy.1; omega)
  have ty2 : decide ((4294967296 : Int) ≤ y) = false := decide_eq_false (by have := hy.2; omega)
  clear hy
  clear hb
  go_enter Tryd.func28, Tryd.ntmps28
  go_wp2_with fail
  go_loop [9] (fun i => ∃ k : Nat, k ≤ 2 ∧ i = .int .i64 k) (fun i => 3 - (intOf i).toNat)
  case atStart => exact ⟨0, by omega, rfl⟩
  case round =>
    obtain ⟨k, hk, rfl⟩ := hrel
    obtain rfl | rfl | rfl : k = 0 ∨ k = 1 ∨ k = 2 := by omega
    · go_wp2_with fail
      exact ⟨⟨1, by omega, rfl⟩, by simp [intOf]⟩
    · go_wp2_with fail
      exact ⟨⟨2, by omega, rfl⟩, by simp [intOf]⟩
    · go_wp2_with fail
      go_ret
      exact ⟨rfl, rfl⟩
theorem room4_at (b : Nat) (x y : Int) (g : Bool) (hg : decide (in4 x ∧ in4 y) = g) (w : World) (hb : Has w b (two x y) 3) : Calls Tryd.prog 28 #[.int .i64 4, .slice (some ⟨b, 0, none⟩) 2 2] w fun e w' => e = .returned (.bool g) ∧ w = w' := by
  subst hg
  by_cases hx0 : x < 0
  · rw [decide_eq_false (fun h => by have := h.1.1; omega)]; exact room4_xn b x y hx0 w hb
  by_cases hx1 : (4294967296 : Int) ≤ x
  · rw [decide_eq_false (fun h => by have := h.1.2; omega)]; exact room4_xb b x y hx1 w hb
  have hx : in4 x := ⟨by omega, by omega⟩
  by_cases hy0 : y < 0
  · rw [decide_eq_false (fun h => by have := h.2.1; omega)]; exact room4_yn b x y hx hy0 w hb
  by_cases hy1 : (4294967296 : Int) ≤ y
  · rw [decide_eq_false (fun h => by have := h.2.2; omega)]; exact room4_yb b x y hx hy1 w hb
  have hy : in4 y := ⟨by omega, by omega⟩
  rw [decide_eq_true ⟨hx, hy⟩]; exact room4_yes b x y hx hy w hb
set_option maxHeartbeats 1000000 in
theorem room7_xn (b : Nat) (x y : Int) (hx : x < 0) (w : World) (hb : Has w b (two x y) 3) : Calls Tryd.prog 28 #[.int .i64 7, .slice (some ⟨b, 0, none⟩) 2 2] w fun e w' => e = .returned (.bool false) ∧ w = w' := by
  have c0 : w.cell? ⟨b, 0, none⟩ = some (.int .i64 x) := hb.cell 0
  have c1 : w.cell? ⟨b, 1, none⟩ = some (.int .i64 y) := hb.cell 1
  have tx1 : decide (x < 0) = true := decide_eq_true hx
  clear hx
  clear hb
  go_enter Tryd.func28, Tryd.ntmps28
  go_wp2_with fail
  go_loop [9] (fun i => ∃ k : Nat, k ≤ 0 ∧ i = .int .i64 k) (fun i => 3 - (intOf i).toNat)
  case atStart => exact ⟨0, by omega, rfl⟩
  case round =>
    obtain ⟨k, hk, rfl⟩ := hrel
    obtain rfl : k = 0 := by omega
    · go_wp2_with fail
      go_ret
      exact ⟨rfl, rfl⟩
set_option maxHeartbeats 1000000 in
theorem room7_xb (b : Nat) (x y : Int) (hx : (72057594037927936 : Int) ≤ x) (w : World) (hb : Has w b (two x y) 3) : Calls Tryd.prog 28 #[.int .i64 7, .slice (some ⟨b, 0, none⟩) 2 2] w fun e w' => e = .returned (.bool false) ∧ w = w' := by
  have c0 : w.cell? ⟨b, 0, none⟩ = some (.int .i64 x) := hb.cell 0
  have c1 : w.cell? ⟨b, 1, none⟩ = some (.int .i64 y) := hb.cell 1
  have tx1 : decide (x < 0) = false := decide_eq_false (by omega)
  have tx2 : decide ((72057594037927936 : Int) ≤ x) = true := decide_eq_true hx
  clear hx
  clear hb
  go_enter Tryd.func28, Tryd.ntmps28
  go_wp2_with fail
  go_loop [9] (fun i => ∃ k : Nat, k ≤ 0 ∧ i = .int .i64 k) (fun i => 3 - (intOf i).toNat)
  case atStart => exact ⟨0, by omega, rfl⟩
  case round =>
    obtain ⟨k, hk, rfl⟩ := hrel
    obtain rfl : k = 0 := by omega
    · go_wp2_with fail
      go_ret
      exact ⟨rfl, rfl⟩
set_option maxHeartbeats 1000000 in
theorem room7_yn (b : Nat) (x y : Int) (hx : in7 x) (hy : y < 0) (w : World) (hb : Has w b (two x y) 3) : Calls Tryd.prog 28 #[.int .i64 7, .slice (some ⟨b, 0, none⟩) 2 2] w fun e w' => e = .returned (.bool false) ∧ w = w' := by
  have c0 : w.cell? ⟨b, 0, none⟩ = some (.int .i64 x) := hb.cell 0
  have c1 : w.cell? ⟨b, 1, none⟩ = some (.int .i64 y) := hb.cell 1
  have tx1 : decide (x < 0) = false := decide_eq_false (by have := hx.1; omega)
  have tx2 : decide ((72057594037927936 : Int) ≤ x) = false := decide_eq_false (by have := hx.2; omega)
  clear hx
  have ty1 : decide (y < 0) = true := decide_eq_true hy
  clear hy
  clear hb
  go_enter Tryd.func28, Tryd.ntmps28
  go_wp2_with fail
  go_loop [9] (fun i => ∃ k : Nat, k ≤ 1 ∧ i = .int .i64 k) (fun i => 3 - (intOf i).toNat)
  case atStart => exact ⟨0, by omega, rfl⟩
  case round =>
    obtain ⟨k, hk, rfl⟩ := hrel
    obtain rfl | rfl : k = 0 ∨ k = 1 := by omega
    · go_wp2_with fail
      exact ⟨⟨1, by omega, rfl⟩, by simp [intOf]⟩
    · go_wp2_with fail
      go_ret
      exact ⟨rfl, rfl⟩
set_option maxHeartbeats 1000000 in
theorem room7_yb (b : Nat) (x y : Int) (hx : in7 x) (hy : (72057594037927936 : Int) ≤ y) (w : World) (hb : Has w b (two x y) 3) : Calls Tryd.prog 28 #[.int .i64 7, .slice (some ⟨b, 0, none⟩) 2 2] w fun e w' => e = .returned (.bool false) ∧ w = w' := by
  have c0 : w.cell? ⟨b, 0, none⟩ = some (.int .i64 x) := hb.cell 0
  have c1 : w.cell? ⟨b, 1, none⟩ = some (.int .i64 y) := hb.cell 1
  have tx1 : decide (x < 0) = false := decide_eq_false (by have := hx.1; omega)
  have tx2 : decide ((72057594037927936 : Int) ≤ x) = false := decide_eq_false (by have := hx.2; omega)
  clear hx
  have ty1 : decide (y < 0) = false := decide_eq_false (by omega)
  have ty2 : decide ((72057594037927936 : Int) ≤ y) = true := decide_eq_true hy
  clear hy
  clear hb
  go_enter Tryd.func28, Tryd.ntmps28
  go_wp2_with fail
  go_loop [9] (fun i => ∃ k : Nat, k ≤ 1 ∧ i = .int .i64 k) (fun i => 3 - (intOf i).toNat)
  case atStart => exact ⟨0, by omega, rfl⟩
  case round =>
    obtain ⟨k, hk, rfl⟩ := hrel
    obtain rfl | rfl : k = 0 ∨ k = 1 := by omega
    · go_wp2_with fail
      exact ⟨⟨1, by omega, rfl⟩, by simp [intOf]⟩
    · go_wp2_with fail
      go_ret
      exact ⟨rfl, rfl⟩
set_option maxHeartbeats 1000000 in
theorem room7_yes (b : Nat) (x y : Int) (hx : in7 x) (hy : in7 y) (w : World) (hb : Has w b (two x y) 3) : Calls Tryd.prog 28 #[.int .i64 7, .slice (some ⟨b, 0, none⟩) 2 2] w fun e w' => e = .returned (.bool true) ∧ w = w' := by
  have c0 : w.cell? ⟨b, 0, none⟩ = some (.int .i64 x) := hb.cell 0
  have c1 : w.cell? ⟨b, 1, none⟩ = some (.int .i64 y) := hb.cell 1
  have tx1 : decide (x < 0) = false := decide_eq_false (by have := hx.1; omega)
  have tx2 : decide ((72057594037927936 : Int) ≤ x) = false := decide_eq_false (by have := hx.2; omega)
  clear hx
  have ty1 : decide (y < 0) = false := decide_eq_false (by have := hy.1; omega)
  have ty2 : decide ((72057594037927936 : Int) ≤ y) = false := decide_eq_false (by have := hy.2; omega)
  clear hy
  clear hb
  go_enter Tryd.func28, Tryd.ntmps28
  go_wp2_with fail
  go_loop [9] (fun i => ∃ k : Nat, k ≤ 2 ∧ i = .int .i64 k) (fun i => 3 - (intOf i).toNat)
  case atStart => exact ⟨0, by omega, rfl⟩
  case round =>
    obtain ⟨k, hk, rfl⟩ := hrel
    obtain rfl | rfl | rfl : k = 0 ∨ k = 1 ∨ k = 2 := by omega
    · go_wp2_with fail
      exact ⟨⟨1, by omega, rfl⟩, by simp [intOf]⟩
    · go_wp2_with fail
      exact ⟨⟨2, by omega, rfl⟩, by simp [intOf]⟩
    · go_wp2_with fail
      go_ret
      exact ⟨rfl, rfl⟩
theorem room7_at (b : Nat) (x y : Int) (g : Bool) (hg : decide (in7 x ∧ in7 y) = g) (w : World) (hb : Has w b (two x y) 3) : Calls Tryd.prog 28 #[.int .i64 7, .slice (some ⟨b, 0, none⟩) 2 2] w fun e w' => e = .returned (.bool g) ∧ w = w' := by
  subst hg
  by_cases hx0 : x < 0
  · rw [decide_eq_false (fun h => by have := h.1.1; omega)]; exact room7_xn b x y hx0 w hb
  by_cases hx1 : (72057594037927936 : Int) ≤ x
  · rw [decide_eq_false (fun h => by have := h.1.2; omega)]; exact room7_xb b x y hx1 w hb
  have hx : in7 x := ⟨by omega, by omega⟩
  by_cases hy0 : y < 0
  · rw [decide_eq_false (fun h => by have := h.2.1; omega)]; exact room7_yn b x y hx hy0 w hb
  by_cases hy1 : (72057594037927936 : Int) ≤ y
  · rw [decide_eq_false (fun h => by have := h.2.2; omega)]; exact room7_yb b x y hx hy1 w hb
  have hy : in7 y := ⟨by omega, by omega⟩
  rw [decide_eq_true ⟨hx, hy⟩]; exact room7_yes b x y hx hy w hb
def mostOf (k : Int) : Nat := if k = 3 ∨ k = 5 then 32 else 0
theorem most_at (k : Int) (w : World) : Calls Tryd.prog 29 #[.int .i64 k] w fun e w' => e = .returned (.int .i64 (mostOf k : Nat)) ∧ w = w' := by
  by_cases h3 : k = 3
  · subst h3
    go_enter Tryd.func29, Tryd.ntmps29
    go_wp2_with fail
    go_ret
    exact ⟨rfl, rfl⟩
  by_cases h5 : k = 5
  · subst h5
    go_enter Tryd.func29, Tryd.ntmps29
    go_wp2_with fail
    go_ret
    exact ⟨rfl, rfl⟩
  have hm : mostOf k = 0 := if_neg (by omega)
  rw [hm]
  have t3 : (k == 3) = false := beq_eq_false_iff_ne.2 h3
  have t5 : (k == 5) = false := beq_eq_false_iff_ne.2 h5
  clear h3 h5 hm
  go_enter Tryd.func29, Tryd.ntmps29
  go_wp2_with fail
  go_ret
  exact ⟨rfl, rfl⟩
set_option maxRecDepth 100000 in
set_option maxHeartbeats 1000000 in
theorem notgood_at (h : Hd) (ho : h.ok) (g : Bool) (hg : (!decide h.P) = g) (w : World) : Calls Tryd.prog 50 #[.agg (hdA h)] w fun e w' => e = .returned (.bool g) ∧ Below w.heap.size w w' := by
  have KG := Lib.hid (good_at h ho)
  have hz := hdA_size ho
  have hH := hd_new w h
  have hB : Below w.heap.size w (w.alloc (.cells (hdA h) 48)) := (Below.refl _ _).alloc (Nat.le_refl _) _
  cases hp : decide h.P
  · rw [hp] at KG hg
    subst hg
    clear hp
    go_enter Tryd.func50, Tryd.ntmps50
    go_upto_region 1 with fail
    generalize World.alloc _ _ = w1 at *
    go_wp2_with (with_reducible refine hd_load rfl _ rfl _ rfl hH hz ?_)
    refine (KG.out _).mono ?_
    rintro r w2 ⟨rfl, hb2⟩
    go_wp2_with fail
    go_ret
    exact ⟨rfl, hB.trans (hb2.mono hB.size)⟩
  · rw [hp] at KG hg
    subst hg
    clear hp
    go_enter Tryd.func50, Tryd.ntmps50
    go_upto_region 1 with fail
    generalize World.alloc _ _ = w1 at *
    go_wp2_with (with_reducible refine hd_load rfl _ rfl _ rfl hH hz ?_)
    refine (KG.out _).mono ?_
    rintro r w2 ⟨rfl, hb2⟩
    go_wp2_with fail
    go_ret
    exact ⟨rfl, hB.trans (hb2.mono hB.size)⟩
set_option maxRecDepth 100000 in
set_option maxHeartbeats 2000000 in
theorem index_all (a : Option Addr) (hs : List Hd) (n c : Nat) (hn : n = hs.length) (hl : n ≤ 4611686018427387904) (w : World) (hA : HeadersAt w a hs) (hP : ∀ x ∈ hs, x.P) :
    Calls Tryd.prog 70 #[.slice a n c, .func (.func 50) #[] #[]] w fun r w' => r = .returned (.int .i64 (-1)) ∧ Below w.heap.size w w' := by
  have HN := Lib.hid hn
  have HA := Lib.hid hA
  have HP := Lib.hid hP
  clear hn hA hP
  go_enter Tryd.func70, Tryd.ntmps70
  go_wp2_with fail
  go_loopw [8] (fun i wr => ∃ k : Nat, k ≤ n ∧ i = .int .i64 k ∧ Below w.heap.size w wr) (fun i _ => n - (intOf i).toNat)
  case atStart => exact ⟨0, by omega, rfl, Below.refl _ _⟩
  case round =>
    obtain ⟨k, hk, rfl, hB⟩ := hrel
    by_cases hlt : k < n
    · have hkl : k < hs.length := by rw [← HN.out]; exact hlt
      obtain ⟨ab, ao, rfl, habl, hc⟩ := (HA.out.below hB) (by omega)
      have h1 := hc k hkl
      have KG := Lib.hid (notgood_at hs[k] h1.1 false (by rw [decide_eq_true (HP.out _ (List.getElem_mem hkl))]; rfl))
      have s2 := hdC_length h1.1
      have q2 := h1.2
      generalize hs[k] = x at *
      clear h1 hc hkl
      go_wp2_with (with_reducible refine hd_load_mid rfl _ rfl ab (ao + k * 68) rfl x q2 s2 ?_)
      refine (KG.out _).mono ?_
      rintro r w2 ⟨rfl, hb2⟩
      clear q2 s2 KG
      have hB2 := hB.trans (hb2.mono hB.size)
      go_wp2_with fail
      go_roundw
      case rel => exact ⟨k + 1, hlt, by go_num, hB2⟩
      case measure => simp [intOf]; omega
    · obtain rfl : k = n := by omega
      go_wp2_with fail
      go_ret
      exact ⟨rfl, hB⟩
set_option maxRecDepth 100000 in
set_option maxHeartbeats 2000000 in
theorem index_bad (a : Option Addr) (hs : List Hd) (n c j : Nat) (hn : n = hs.length) (hl : n ≤ 4611686018427387904) (w : World) (hA : HeadersAt w a hs) (hj : j < hs.length) (hP : ∀ i (h : i < hs.length), i < j → hs[i].P) (hbad : ¬ hs[j].P) :
    Calls Tryd.prog 70 #[.slice a n c, .func (.func 50) #[] #[]] w fun r w' => r = .returned (.int .i64 (j : Nat)) ∧ Below w.heap.size w w' := by
  have HN := Lib.hid hn
  have HA := Lib.hid hA
  have HP := Lib.hid hP
  have HJ := Lib.hid hj
  have HBd := Lib.hid hbad
  have hjn : j < n := by omega
  clear hn hA hP hbad
  go_enter Tryd.func70, Tryd.ntmps70
  go_wp2_with fail
  go_loopw [8] (fun i wr => ∃ k : Nat, k ≤ j ∧ i = .int .i64 k ∧ Below w.heap.size w wr) (fun i _ => n - (intOf i).toNat)
  case atStart => exact ⟨0, by omega, rfl, Below.refl _ _⟩
  case round =>
    obtain ⟨k, hk, rfl, hB⟩ := hrel
    have hlt : k < n := by omega
    have hkl : k < hs.length := by rw [← HN.out]; exact hlt
    obtain ⟨ab, ao, rfl, habl, hc⟩ := (HA.out.below hB) (by omega)
    have h1 := hc k hkl
    by_cases hkj : k < j
    · have KG := Lib.hid (notgood_at hs[k] h1.1 false (by rw [decide_eq_true (HP.out k hkl hkj)]; rfl))
      have s2 := hdC_length h1.1
      have q2 := h1.2
      generalize hs[k] = x at *
      clear h1 hc hkl
      go_wp2_with (with_reducible refine hd_load_mid rfl _ rfl ab (ao + k * 68) rfl x q2 s2 ?_)
      refine (KG.out _).mono ?_
      rintro r w2 ⟨rfl, hb2⟩
      clear q2 s2 KG
      have hB2 := hB.trans (hb2.mono hB.size)
      go_wp2_with fail
      go_roundw
      case rel => exact ⟨k + 1, hkj, by go_num, hB2⟩
      case measure => simp [intOf]; omega
    · obtain rfl : k = j := by omega
      have KG := Lib.hid (notgood_at hs[k] h1.1 true (by rw [Bool.not_eq_true']; exact decide_eq_false HBd.out))
      have s2 := hdC_length h1.1
      have q2 := h1.2
      generalize hs[k] = x at *
      clear h1 hc hkl
      go_wp2_with (with_reducible refine hd_load_mid rfl _ rfl ab (ao + k * 68) rfl x q2 s2 ?_)
      refine (KG.out _).mono ?_
      rintro r w2 ⟨rfl, hb2⟩
      clear q2 s2 KG
      have hB2 := hB.trans (hb2.mono hB.size)
      go_wp2_with fail
      go_ret
      exact ⟨rfl, hB2⟩
theorem first_bad : ∀ (hs : List Hd), ¬ (∀ x ∈ hs, x.P) → ∃ (j : Nat) (hj : j < hs.length), (∀ i (h : i < hs.length), i < j → hs[i].P) ∧ ¬ hs[j].P
  | [], h => absurd (fun _ hx => by cases hx) h
  | x :: hs, h => by
    by_cases hx : x.P
    · obtain ⟨j, hj, h1, h2⟩ := first_bad hs (fun hall => h (fun y hy => by
        rcases List.mem_cons.1 hy with rfl | hy
        · exact hx
        · exact hall y hy))
      refine ⟨j + 1, by simpa using hj, fun i hi hij => ?_, by simpa using h2⟩
      cases i with
      | zero => exact hx
      | succ i => simpa using h1 i (by simpa using hi) (by omega)
    · exact ⟨0, by simp, fun i _ hi => by omega, hx⟩
def headsG (hs : List Hd) : Prop := hs.length ≤ 64 ∧ ∀ x ∈ hs, x.P
instance headsDec (hs : List Hd) : Decidable (headsG hs) := by unfold headsG; exact inferInstance
set_option maxHeartbeats 1000000 in
theorem contains_all (a : Option Addr) (hs : List Hd) (n c : Nat) (hn : n = hs.length) (hl : n ≤ 4611686018427387904) (w : World) (hA : HeadersAt w a hs) (hP : ∀ x ∈ hs, x.P) :
    Calls Tryd.prog 49 #[.slice a n c, .func (.func 50) #[] #[]] w fun r w' => r = .returned (.bool false) ∧ Below w.heap.size w w' := by
  have K := Lib.hid ((fun w hA => index_all a hs n c hn hl w hA hP) w hA)
  clear hn hA hP
  go_enter Tryd.func49, Tryd.ntmps49
  go_wp2_with fail
  refine K.out.mono ?_
  rintro r w2 ⟨rfl, hb2⟩
  go_wp2_with fail
  go_ret
  exact ⟨rfl, hb2⟩
set_option maxHeartbeats 1000000 in
theorem contains_bad (a : Option Addr) (hs : List Hd) (n c : Nat) (hn : n = hs.length) (hl : n ≤ 4611686018427387904) (w : World) (hA : HeadersAt w a hs) (hP : ¬ ∀ x ∈ hs, x.P) :
    Calls Tryd.prog 49 #[.slice a n c, .func (.func 50) #[] #[]] w fun r w' => r = .returned (.bool true) ∧ Below w.heap.size w w' := by
  obtain ⟨j, hj, h1, h2⟩ := first_bad hs hP
  have K := Lib.hid ((fun w hA => index_bad a hs n c j hn hl w hA hj h1 h2) w hA)
  clear hn hA hP h1 h2 hj
  go_enter Tryd.func49, Tryd.ntmps49
  go_wp2_with fail
  refine K.out.mono ?_
  rintro r w2 ⟨rfl, hb2⟩
  go_wp2_with fail
  go_ret
  exact ⟨rfl, hb2⟩
set_option maxHeartbeats 1000000 in
theorem heads_at (a : Option Addr) (hs : List Hd) (n c : Nat) (hn : n = hs.length) (hl : n ≤ 4611686018427387904) (g : Bool) (hg : decide (headsG hs) = g) (w : World) (hA : HeadersAt w a hs) :
    Calls Tryd.prog 30 #[.slice a n c] w fun r w' => r = .returned (.bool g) ∧ Below w.heap.size w w' := by
  by_cases h64 : n ≤ 64
  · have t1 : decide ((n : Int) ≤ 64) = true := decide_eq_true (by omega)
    by_cases hP : ∀ x ∈ hs, x.P
    · rw [decide_eq_true (show headsG hs from ⟨by omega, hP⟩)] at hg
      subst hg
      have K := Lib.hid (contains_all a hs n c hn hl w hA hP)
      clear hn hA hP h64
      go_enter Tryd.func30, Tryd.ntmps30
      go_wp2_with fail
      refine K.out.mono ?_
      rintro r w2 ⟨rfl, hb2⟩
      go_wp2_with fail
      go_ret
      exact ⟨rfl, hb2⟩
    · rw [decide_eq_false (fun h => hP h.2)] at hg
      subst hg
      have K := Lib.hid (contains_bad a hs n c hn hl w hA hP)
      clear hn hA hP h64
      go_enter Tryd.func30, Tryd.ntmps30
      go_wp2_with fail
      refine K.out.mono ?_
      rintro r w2 ⟨rfl, hb2⟩
      go_wp2_with fail
      go_ret
      exact ⟨rfl, hb2⟩
  · have t1 : decide ((n : Int) ≤ 64) = false := decide_eq_false (by omega)
    rw [decide_eq_false (fun h => by have := h.1; omega)] at hg
    subst hg
    clear hn hA h64
    go_enter Tryd.func30, Tryd.ntmps30
    go_wp2_with fail
    go_ret
    exact ⟨rfl, Below.refl _ _⟩
end Go.Proofs.YtmpllagaeoolaaaDoor
