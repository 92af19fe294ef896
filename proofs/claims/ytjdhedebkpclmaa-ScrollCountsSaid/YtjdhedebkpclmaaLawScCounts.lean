/-
  ScrollCounts: the walk.
-/
import Derived.Test.YtjdhedebkpclmaaScMath2
namespace Go.Proofs.Ytjdhedebkpclmaa
open Go.RowKit Mem Sc
theorem eqlb (b : Bool) (w : World) : (binOp .eql 4 (.bool b) (.bool b)).run Try.prog w = .ok (.bool true) w := by
  cases b <;> kernel_rfl
set_option maxRecDepth 100000 in
set_option maxHeartbeats 1000000 in
theorem counts_long (s : ByteArray) (most n : Int) (hs : 100 < s.size) (w : World) : Calls Try.prog 5 #[.string s, .int .i64 most, .int .i64 n] w fun r w' => r = .returned (.bool true) ∧ Below w.heap.size w w' := by
  have hd : decide ((100 : Int) < (s.size : Int)) = true := decide_eq_true (by omega)
  clear hs
  go_enter Try.func5, Try.ntmps5
  go_wp2_with fail
  refine (salive w).mono ?_
  rintro r w1 ⟨rfl, hB⟩
  go_wp2_with fail
  go_ret
  exact ⟨rfl, hB⟩
set_option maxRecDepth 100000 in
set_option maxHeartbeats 1000000 in
theorem counts_none_neg (s : ByteArray) (most : Int) (n : Int) (hn : n < 0) (hs : ¬ 100 < s.size) (hE : Ey.count ⟨s, false⟩ most = (0, dark)) (hC : counted s.data.toList most = (0, 0)) (w : World) :
    Calls Try.prog 5 #[.string s, .int .i64 most, .int .i64 n] w fun r w' => r = .returned (.bool true) ∧ Below w.heap.size w w' := by
  have hd : decide ((100 : Int) < (s.size : Int)) = false := decide_eq_false (by omega)
  have hF : Ey.count ⟨txt (cnt n), false⟩ 0 = (0, ⟨txt [], false⟩) := by
    have := count_txt n (by omega) [] 0 (by omega)
    rw [List.append_nil] at this
    rw [this]
    congr 1
    omega
  have t1 : n < 0 := hn
  have hs2 : s.size ≤ 100 := by omega
  have HE := Lib.hid hE
  have KC := Lib.hid (rcounted s most)
  rw [hC] at KC
  have HF := Lib.hid hF
  clear hs hE hC hF hn
  go_enter Try.func5, Try.ntmps5
  go_wp2_with fail
  refine (salive w).mono ?_
  rintro r w1 ⟨rfl, hB⟩
  go_wp2_with fail
  refine (on_ s _).mono ?_
  rintro r w2 ⟨rfl, hE2, hb2⟩
  have hR : w.heap.size ≤ w1.heap.size := hB.size
  replace hB := hB.trans (hb2.mono hB.size)
  have hlt := hE2.lt
  clear hb2
  generalize w1.heap.size = E at *
  have C := Lib.hid (count_at E _ (fun h => by cases h) most _ hE2)
  rw [HE.out] at C
  go_wp2_with fail
  refine C.out.mono ?_
  rintro r w3 ⟨rfl, hE3, hg3⟩
  replace hB := hB.trans (gb_toBelow hg3 (by omega) hB.size)
  have hlt3 := hE3.lt
  clear C hg3 hE2 hlt HE
  go_wp2_with fail
  refine (KC.out _).mono ?_
  rintro r w4 ⟨rfl, hb4⟩
  have hE4 := hE3.on hb4
  replace hB := hB.trans (hb4.mono hB.size)
  have hlt4 := hE4.lt
  clear hE3 hb4 KC hlt3
  have hN := pen_new w4
  have hR4 : w.heap.size ≤ w4.heap.size := hB.size
  replace hB : Below w.heap.size w (w4.alloc (.cells #[.slice none 0 0] 48)) := hB.alloc hB.size _
  have hE5 : EyeAt (w4.alloc (.cells #[.slice none 0 0] 48)) E _ := Has.alloc hE4 _
  clear hE4
  have CP := Lib.hid (pcount_at _ _ _ n _ hN (by simp))
  go_wp2_with fail
  refine CP.out.mono ?_
  rintro r w5 ⟨v5, rfl, hP5, hS5⟩
  have hE6 := hE5.below (hS5.toBelow hN) hlt4
  replace hB := pen_below hB hR4 hN hS5
  rw [List.nil_append] at hP5
  clear CP hN hS5 hE5
  go_wp2_with fail
  refine (text_txt _ _ _ _ hP5).mono ?_
  rintro r w6 ⟨rfl, rfl⟩
  generalize txt (cnt n) = T at *
  clear hP5
  go_wp2_with fail
  refine (on_ T _).mono ?_
  rintro r w7 ⟨rfl, hF7, hb7⟩
  have hE7 := hE6.on hb7
  have hne : E ≠ w5.heap.size := by have := hE6.lt; omega
  have hR7 : w.heap.size ≤ w5.heap.size := hB.size
  replace hB := hB.trans (hb7.mono hB.size)
  clear hE6 hb7 hlt4 hR4
  generalize w5.heap.size = F at *
  have C := Lib.hid (count_at F _ (fun h => by cases h) 0 _ hF7)
  rw [HF.out] at C
  clear HF
  go_wp2_with fail
  refine C.out.mono ?_
  rintro r w8 ⟨rfl, hF8, hg8⟩
  have hE8 := hE7.grown hg8 (by simpa using hne)
  replace hB := hB.trans (gb_toBelow hg8 (by omega) hB.size)
  clear C hg8 hF7 hE7
  have hq := eqlb
  go_wp2_with fail
  refine (bad_at E _ _ hE8).mono ?_
  rintro r w9 ⟨rfl, rfl⟩
  go_wp2_with fail
  refine (done_at F _ _ hF8 true rfl).mono ?_
  rintro r w9 ⟨rfl, rfl⟩
  go_wp2_with fail
  go_ret
  exact ⟨rfl, hB⟩
set_option maxRecDepth 100000 in
set_option maxHeartbeats 1000000 in
theorem counts_none_pos (s : ByteArray) (most : Int) (n : Nat) (hn : n < 9223372036854775808) (hs : ¬ 100 < s.size) (hE : Ey.count ⟨s, false⟩ most = (0, dark)) (hC : counted s.data.toList most = (0, 0)) (w : World) :
    Calls Try.prog 5 #[.string s, .int .i64 most, .int .i64 (n : Int)] w fun r w' => r = .returned (.bool true) ∧ Below w.heap.size w w' := by
  have hd : decide ((100 : Int) < (s.size : Int)) = false := decide_eq_false (by omega)
  have hF : Ey.count ⟨txt (cnt (n : Int)), false⟩ (n : Int) = (n, ⟨txt [], false⟩) := by
    have := count_txt (n : Int) (by omega) [] (n : Int) (by omega)
    rw [List.append_nil] at this
    rw [this]
    congr 1
    omega
  have t1 : ¬ ((n : Int) < 0) := by omega
  have hs2 : s.size ≤ 100 := by omega
  have HE := Lib.hid hE
  have KC := Lib.hid (rcounted s most)
  rw [hC] at KC
  have HF := Lib.hid hF
  clear hs hE hC hF
  go_enter Try.func5, Try.ntmps5
  go_wp2_with fail
  refine (salive w).mono ?_
  rintro r w1 ⟨rfl, hB⟩
  go_wp2_with fail
  refine (on_ s _).mono ?_
  rintro r w2 ⟨rfl, hE2, hb2⟩
  have hR : w.heap.size ≤ w1.heap.size := hB.size
  replace hB := hB.trans (hb2.mono hB.size)
  have hlt := hE2.lt
  clear hb2
  generalize w1.heap.size = E at *
  have C := Lib.hid (count_at E _ (fun h => by cases h) most _ hE2)
  rw [HE.out] at C
  go_wp2_with fail
  refine C.out.mono ?_
  rintro r w3 ⟨rfl, hE3, hg3⟩
  replace hB := hB.trans (gb_toBelow hg3 (by omega) hB.size)
  have hlt3 := hE3.lt
  clear C hg3 hE2 hlt HE
  go_wp2_with fail
  refine (KC.out _).mono ?_
  rintro r w4 ⟨rfl, hb4⟩
  have hE4 := hE3.on hb4
  replace hB := hB.trans (hb4.mono hB.size)
  have hlt4 := hE4.lt
  clear hE3 hb4 KC hlt3
  have hN := pen_new w4
  have hR4 : w.heap.size ≤ w4.heap.size := hB.size
  replace hB : Below w.heap.size w (w4.alloc (.cells #[.slice none 0 0] 48)) := hB.alloc hB.size _
  have hE5 : EyeAt (w4.alloc (.cells #[.slice none 0 0] 48)) E _ := Has.alloc hE4 _
  clear hE4
  have CP := Lib.hid (pcount_at _ _ _ (n : Int) _ hN (by simp))
  go_wp2_with fail
  refine CP.out.mono ?_
  rintro r w5 ⟨v5, rfl, hP5, hS5⟩
  have hE6 := hE5.below (hS5.toBelow hN) hlt4
  replace hB := pen_below hB hR4 hN hS5
  rw [List.nil_append] at hP5
  clear CP hN hS5 hE5
  go_wp2_with fail
  refine (text_txt _ _ _ _ hP5).mono ?_
  rintro r w6 ⟨rfl, rfl⟩
  generalize txt (cnt (n : Int)) = T at *
  clear hP5
  go_wp2_with fail
  refine (on_ T _).mono ?_
  rintro r w7 ⟨rfl, hF7, hb7⟩
  have hE7 := hE6.on hb7
  have hne : E ≠ w5.heap.size := by have := hE6.lt; omega
  have hR7 : w.heap.size ≤ w5.heap.size := hB.size
  replace hB := hB.trans (hb7.mono hB.size)
  clear hE6 hb7 hlt4 hR4
  generalize w5.heap.size = F at *
  have C := Lib.hid (count_at F _ (fun h => by cases h) (n : Int) _ hF7)
  rw [HF.out] at C
  clear HF
  go_wp2_with fail
  refine C.out.mono ?_
  rintro r w8 ⟨rfl, hF8, hg8⟩
  have hE8 := hE7.grown hg8 (by simpa using hne)
  replace hB := hB.trans (gb_toBelow hg8 (by omega) hB.size)
  clear C hg8 hF7 hE7
  have hq := eqlb
  go_wp2_with fail
  refine (bad_at E _ _ hE8).mono ?_
  rintro r w9 ⟨rfl, rfl⟩
  go_wp2_with fail
  refine (done_at F _ _ hF8 true rfl).mono ?_
  rintro r w9 ⟨rfl, rfl⟩
  go_wp2_with fail
  go_ret
  exact ⟨rfl, hB⟩
set_option maxRecDepth 100000 in
set_option maxHeartbeats 1000000 in
theorem counts_some_neg (s : ByteArray) (most : Int) (n : Int) (hn : n < 0) (hs : ¬ 100 < s.size) (v u : Nat) (X : ByteArray) (hu : 0 < u) (hus : u ≤ s.size) (hX : X.size = s.size - u) (hE : Ey.count ⟨s, false⟩ most = (v, ⟨X, false⟩)) (hC : counted s.data.toList most = (v, u)) (w : World) :
    Calls Try.prog 5 #[.string s, .int .i64 most, .int .i64 n] w fun r w' => r = .returned (.bool true) ∧ Below w.heap.size w w' := by
  have hd : decide ((100 : Int) < (s.size : Int)) = false := decide_eq_false (by omega)
  have hF : Ey.count ⟨txt (cnt n), false⟩ 0 = (0, ⟨txt [], false⟩) := by
    have := count_txt n (by omega) [] 0 (by omega)
    rw [List.append_nil] at this
    rw [this]
    congr 1
    omega
  have t1 : n < 0 := hn
  have t2 : ((u : Int) == 0) = false := by rw [beq_eq_false_iff_ne]; omega
  have t3 : ((X.size : Int) == (s.size : Int) - (u : Int)) = true := by rw [beq_iff_eq]; omega
  have hs2 : s.size ≤ 100 := by omega
  clear hX hu
  have HE := Lib.hid hE
  have KC := Lib.hid (rcounted s most)
  rw [hC] at KC
  have HF := Lib.hid hF
  clear hs hE hC hF hn
  go_enter Try.func5, Try.ntmps5
  go_wp2_with fail
  refine (salive w).mono ?_
  rintro r w1 ⟨rfl, hB⟩
  go_wp2_with fail
  refine (on_ s _).mono ?_
  rintro r w2 ⟨rfl, hE2, hb2⟩
  have hR : w.heap.size ≤ w1.heap.size := hB.size
  replace hB := hB.trans (hb2.mono hB.size)
  have hlt := hE2.lt
  clear hb2
  generalize w1.heap.size = E at *
  have C := Lib.hid (count_at E _ (fun h => by cases h) most _ hE2)
  rw [HE.out] at C
  go_wp2_with fail
  refine C.out.mono ?_
  rintro r w3 ⟨rfl, hE3, hg3⟩
  replace hB := hB.trans (gb_toBelow hg3 (by omega) hB.size)
  have hlt3 := hE3.lt
  clear C hg3 hE2 hlt HE
  go_wp2_with fail
  refine (KC.out _).mono ?_
  rintro r w4 ⟨rfl, hb4⟩
  have hE4 := hE3.on hb4
  replace hB := hB.trans (hb4.mono hB.size)
  have hlt4 := hE4.lt
  clear hE3 hb4 KC hlt3
  have hN := pen_new w4
  have hR4 : w.heap.size ≤ w4.heap.size := hB.size
  replace hB : Below w.heap.size w (w4.alloc (.cells #[.slice none 0 0] 48)) := hB.alloc hB.size _
  have hE5 : EyeAt (w4.alloc (.cells #[.slice none 0 0] 48)) E _ := Has.alloc hE4 _
  clear hE4
  have CP := Lib.hid (pcount_at _ _ _ n _ hN (by simp))
  go_wp2_with fail
  refine CP.out.mono ?_
  rintro r w5 ⟨v5, rfl, hP5, hS5⟩
  have hE6 := hE5.below (hS5.toBelow hN) hlt4
  replace hB := pen_below hB hR4 hN hS5
  rw [List.nil_append] at hP5
  clear CP hN hS5 hE5
  go_wp2_with fail
  refine (text_txt _ _ _ _ hP5).mono ?_
  rintro r w6 ⟨rfl, rfl⟩
  generalize txt (cnt n) = T at *
  clear hP5
  go_wp2_with fail
  refine (on_ T _).mono ?_
  rintro r w7 ⟨rfl, hF7, hb7⟩
  have hE7 := hE6.on hb7
  have hne : E ≠ w5.heap.size := by have := hE6.lt; omega
  have hR7 : w.heap.size ≤ w5.heap.size := hB.size
  replace hB := hB.trans (hb7.mono hB.size)
  clear hE6 hb7 hlt4 hR4
  generalize w5.heap.size = F at *
  have C := Lib.hid (count_at F _ (fun h => by cases h) 0 _ hF7)
  rw [HF.out] at C
  clear HF
  go_wp2_with fail
  refine C.out.mono ?_
  rintro r w8 ⟨rfl, hF8, hg8⟩
  have hE8 := hE7.grown hg8 (by simpa using hne)
  replace hB := hB.trans (gb_toBelow hg8 (by omega) hB.size)
  clear C hg8 hF7 hE7
  have hq := eqlb
  go_wp2_with fail
  refine (bad_at E _ _ hE8).mono ?_
  rintro r w9 ⟨rfl, rfl⟩
  go_wp2_with fail
  refine (left_at E _ _ hE8).mono ?_
  rintro r w9 ⟨rfl, rfl⟩
  go_wp2_with fail
  refine (done_at F _ _ hF8 true rfl).mono ?_
  rintro r w9 ⟨rfl, rfl⟩
  go_wp2_with fail
  go_ret
  exact ⟨rfl, hB⟩
set_option maxRecDepth 100000 in
set_option maxHeartbeats 1000000 in
theorem counts_some_pos (s : ByteArray) (most : Int) (n : Nat) (hn : n < 9223372036854775808) (hs : ¬ 100 < s.size) (v u : Nat) (X : ByteArray) (hu : 0 < u) (hus : u ≤ s.size) (hX : X.size = s.size - u) (hE : Ey.count ⟨s, false⟩ most = (v, ⟨X, false⟩)) (hC : counted s.data.toList most = (v, u)) (w : World) :
    Calls Try.prog 5 #[.string s, .int .i64 most, .int .i64 (n : Int)] w fun r w' => r = .returned (.bool true) ∧ Below w.heap.size w w' := by
  have hd : decide ((100 : Int) < (s.size : Int)) = false := decide_eq_false (by omega)
  have hF : Ey.count ⟨txt (cnt (n : Int)), false⟩ (n : Int) = (n, ⟨txt [], false⟩) := by
    have := count_txt (n : Int) (by omega) [] (n : Int) (by omega)
    rw [List.append_nil] at this
    rw [this]
    congr 1
    omega
  have t1 : ¬ ((n : Int) < 0) := by omega
  have t2 : ((u : Int) == 0) = false := by rw [beq_eq_false_iff_ne]; omega
  have t3 : ((X.size : Int) == (s.size : Int) - (u : Int)) = true := by rw [beq_iff_eq]; omega
  have hs2 : s.size ≤ 100 := by omega
  clear hX hu
  have HE := Lib.hid hE
  have KC := Lib.hid (rcounted s most)
  rw [hC] at KC
  have HF := Lib.hid hF
  clear hs hE hC hF
  go_enter Try.func5, Try.ntmps5
  go_wp2_with fail
  refine (salive w).mono ?_
  rintro r w1 ⟨rfl, hB⟩
  go_wp2_with fail
  refine (on_ s _).mono ?_
  rintro r w2 ⟨rfl, hE2, hb2⟩
  have hR : w.heap.size ≤ w1.heap.size := hB.size
  replace hB := hB.trans (hb2.mono hB.size)
  have hlt := hE2.lt
  clear hb2
  generalize w1.heap.size = E at *
  have C := Lib.hid (count_at E _ (fun h => by cases h) most _ hE2)
  rw [HE.out] at C
  go_wp2_with fail
  refine C.out.mono ?_
  rintro r w3 ⟨rfl, hE3, hg3⟩
  replace hB := hB.trans (gb_toBelow hg3 (by omega) hB.size)
  have hlt3 := hE3.lt
  clear C hg3 hE2 hlt HE
  go_wp2_with fail
  refine (KC.out _).mono ?_
  rintro r w4 ⟨rfl, hb4⟩
  have hE4 := hE3.on hb4
  replace hB := hB.trans (hb4.mono hB.size)
  have hlt4 := hE4.lt
  clear hE3 hb4 KC hlt3
  have hN := pen_new w4
  have hR4 : w.heap.size ≤ w4.heap.size := hB.size
  replace hB : Below w.heap.size w (w4.alloc (.cells #[.slice none 0 0] 48)) := hB.alloc hB.size _
  have hE5 : EyeAt (w4.alloc (.cells #[.slice none 0 0] 48)) E _ := Has.alloc hE4 _
  clear hE4
  have CP := Lib.hid (pcount_at _ _ _ (n : Int) _ hN (by simp))
  go_wp2_with fail
  refine CP.out.mono ?_
  rintro r w5 ⟨v5, rfl, hP5, hS5⟩
  have hE6 := hE5.below (hS5.toBelow hN) hlt4
  replace hB := pen_below hB hR4 hN hS5
  rw [List.nil_append] at hP5
  clear CP hN hS5 hE5
  go_wp2_with fail
  refine (text_txt _ _ _ _ hP5).mono ?_
  rintro r w6 ⟨rfl, rfl⟩
  generalize txt (cnt (n : Int)) = T at *
  clear hP5
  go_wp2_with fail
  refine (on_ T _).mono ?_
  rintro r w7 ⟨rfl, hF7, hb7⟩
  have hE7 := hE6.on hb7
  have hne : E ≠ w5.heap.size := by have := hE6.lt; omega
  have hR7 : w.heap.size ≤ w5.heap.size := hB.size
  replace hB := hB.trans (hb7.mono hB.size)
  clear hE6 hb7 hlt4 hR4
  generalize w5.heap.size = F at *
  have C := Lib.hid (count_at F _ (fun h => by cases h) (n : Int) _ hF7)
  rw [HF.out] at C
  clear HF
  go_wp2_with fail
  refine C.out.mono ?_
  rintro r w8 ⟨rfl, hF8, hg8⟩
  have hE8 := hE7.grown hg8 (by simpa using hne)
  replace hB := hB.trans (gb_toBelow hg8 (by omega) hB.size)
  clear C hg8 hF7 hE7
  have hq := eqlb
  go_wp2_with fail
  refine (bad_at E _ _ hE8).mono ?_
  rintro r w9 ⟨rfl, rfl⟩
  go_wp2_with fail
  refine (left_at E _ _ hE8).mono ?_
  rintro r w9 ⟨rfl, rfl⟩
  go_wp2_with fail
  refine (done_at F _ _ hF8 true rfl).mono ?_
  rintro r w9 ⟨rfl, rfl⟩
  go_wp2_with fail
  go_ret
  exact ⟨rfl, hB⟩
theorem counts_walk (s : ByteArray) (most n : Int) (hn : n < 9223372036854775808) (w : World) : Calls Try.prog 5 #[.string s, .int .i64 most, .int .i64 n] w fun r w' => r = .returned (.bool true) ∧ Below w.heap.size w w' := by
  by_cases hs : 100 < s.size
  · exact counts_long s most n hs w
  · have hlen := counted_len s.data.toList most
    have hnone := counted_none s.data.toList most
    have hE : Ey.count ⟨s, false⟩ most = behind s (counted s.data.toList most) := rfl
    rcases hc : counted s.data.toList most with ⟨v, u⟩
    rw [hc] at hlen hnone hE
    rw [← Lib.size_eq] at hlen
    by_cases hu : u = 0
    · subst hu
      obtain rfl : v = 0 := hnone rfl
      rw [behind_none] at hE
      by_cases h0 : n < 0
      · exact counts_none_neg s most n h0 hs hE hc w
      · obtain ⟨k, rfl⟩ := Int.eq_ofNat_of_zero_le (show 0 ≤ n by omega)
        exact counts_none_pos s most k (by omega) hs hE hc w
    · have hb : behind s (v, u) = (v, ⟨s.extract u s.size, false⟩) := by unfold behind; rw [if_neg hu]
      rw [hb] at hE
      have hX : (s.extract u s.size).size = s.size - u := by rw [Lib.size_eq, Lib.extract_to_end, List.length_drop, ← Lib.size_eq]
      by_cases h0 : n < 0
      · exact counts_some_neg s most n h0 hs v u _ (by omega) hlen hX hE hc w
      · obtain ⟨k, rfl⟩ := Int.eq_ofNat_of_zero_le (show 0 ≤ n by omega)
        exact counts_some_pos s most k (by omega) hs v u _ (by omega) hlen hX hE hc w
end Go.Proofs.Ytjdhedebkpclmaa
