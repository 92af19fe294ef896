/-
  ScrollWide: the walk.
-/
import Derived.Test.YtjdhedebkpclmaaScAlive
namespace Go.Proofs.Ytjdhedebkpclmaa
open Go.RowKit Mem Sc
theorem wide_of {k : Nat} (n : Int) (m : List UInt8) (hk : k = u64 n) :
    Ey.wide ⟨txt (num 8 n ++ m), false⟩ = if 9223372036854775808 ≤ k then (0, dark) else (k, ⟨txt m, false⟩) := by
  have hsz : (txt (num 8 n ++ m)).size = 8 + m.length := by rw [txt_size, List.length_append, num_length]
  have h1 : (txt (num 8 n ++ m)).extract 0 8 = txt (num 8 n) := by
    apply ba_ext
    rw [Lib.extract_data, txt_list, txt_list]
    exact List.take_left' (num_length 8 n)
  have h2 : (txt (num 8 n ++ m)).extract 8 (txt (num 8 n ++ m)).size = txt m := by
    apply ba_ext
    rw [Lib.extract_to_end, txt_list, txt_list]
    exact List.drop_left' (num_length 8 n)
  have e8 : Ey.raw ⟨txt (num 8 n ++ m), false⟩ 8 = (txt (num 8 n), ⟨txt m, false⟩) := by
    have := raw_yes (e := ⟨txt (num 8 n ++ m), false⟩) rfl (n := 8) (by show 8 ≤ (txt _).size; omega)
    rw [h1, h2] at this
    exact this
  unfold Ey.wide
  rw [e8]
  simp only [txt_list, val_num8, ← hk]
set_option maxRecDepth 100000 in
set_option maxHeartbeats 1000000 in
theorem wide_long (n : Int) (s : ByteArray) (hs : 100 < s.size) (w : World) : Calls Try.prog 8 #[.int .i64 n, .string s] w fun r w' => r = .returned (.bool true) ∧ Below w.heap.size w w' := by
  have hd : decide ((100 : Int) < (s.size : Int)) = true := decide_eq_true (by omega)
  clear hs
  go_enter Try.func8, Try.ntmps8
  go_wp2_with fail
  refine (salive w).mono ?_
  rintro r w1 ⟨rfl, hB⟩
  go_wp2_with fail
  go_ret
  exact ⟨rfl, hB⟩
set_option maxRecDepth 100000 in
set_option maxHeartbeats 1000000 in
theorem wide_neg (n : Int) (s : ByteArray) (hs : ¬ 100 < s.size) (hn : n < 0) (h63 : -9223372036854775808 ≤ n) (w : World) : Calls Try.prog 8 #[.int .i64 n, .string s] w fun r w' => r = .returned (.bool true) ∧ Below w.heap.size w w' := by
  have hd : decide ((100 : Int) < (s.size : Int)) = false := decide_eq_false (by omega)
  have hW := wide_of n s.data.toList rfl
  rw [if_pos (by unfold u64; omega)] at hW
  have t1 : decide (n < 0) = true := decide_eq_true hn
  have HW := Lib.hid hW
  have hs2 : s.size ≤ 100 := by omega
  clear hW hs hn h63
  go_enter Try.func8, Try.ntmps8
  go_wp2_with fail
  refine (salive w).mono ?_
  rintro r w1 ⟨rfl, hB⟩
  have hN := pen_new w1
  have hR : w.heap.size ≤ w1.heap.size := hB.size
  replace hB : Below w.heap.size w (w1.alloc (.cells #[.slice none 0 0] 48)) := hB.alloc hB.size _
  go_wp2_with fail
  refine (put1_at _ _ _ 8 8 rfl n _ (w1.heap.size + 1) (World.size_alloc _ _) hN (by simp)).mono ?_
  rintro r w2 ⟨v2, rfl, hP2, hS2⟩
  replace hB := pen_below hB hR hN hS2
  clear hN hS2
  go_wp2_with fail
  refine (praw_at _ _ _ s _ hP2 (by rw [List.nil_append, num_length]; omega)).mono ?_
  rintro r w3 ⟨v3, rfl, hP3, hS3⟩
  replace hB := pen_below hB hR hP2 hS3
  clear hP2 hS3
  rw [List.nil_append] at hP3
  go_wp2_with fail
  refine (text_txt _ _ _ _ hP3).mono ?_
  rintro r w4 ⟨rfl, rfl⟩
  clear hP3
  generalize txt (num 8 n ++ s.data.toList) = T at *
  go_wp2_with fail
  refine (on_ T _).mono ?_
  rintro r w5 ⟨rfl, hE5, hb5⟩
  have hR5 : w.heap.size ≤ w3.heap.size := hB.size
  replace hB := hB.trans (hb5.mono hB.size)
  clear hb5
  generalize w3.heap.size = E at *
  have C := Lib.hid (wide_at E _ _ hE5)
  rw [HW.out] at C
  clear hE5 HW
  go_wp2_with fail
  refine C.out.mono ?_
  rintro r w6 ⟨rfl, hE6, hg6⟩
  replace hB := hB.trans (gb_toBelow hg6 (by omega) hB.size)
  clear hg6 C
  go_wp2_with fail
  refine (bad_at E _ _ hE6).mono ?_
  rintro r w7 ⟨rfl, rfl⟩
  go_wp2_with fail
  refine (left_at E _ _ hE6).mono ?_
  rintro r w8 ⟨rfl, rfl⟩
  go_wp2_with fail
  go_ret
  exact ⟨rfl, hB⟩
set_option maxRecDepth 100000 in
set_option maxHeartbeats 1000000 in
theorem wide_pos (n : Int) (s : ByteArray) (hs : ¬ 100 < s.size) (hn : 0 ≤ n) (h63 : n < 9223372036854775808) (w : World) : Calls Try.prog 8 #[.int .i64 n, .string s] w fun r w' => r = .returned (.bool true) ∧ Below w.heap.size w w' := by
  have hd : decide ((100 : Int) < (s.size : Int)) = false := decide_eq_false (by omega)
  have hW := wide_of n s.data.toList rfl
  rw [if_neg (by unfold u64; omega), txt_of] at hW
  have hnk : (n : Int) = (u64 n : Nat) := by unfold u64; omega
  have t1 : decide (n < 0) = false := decide_eq_false (by omega)
  have t2 : (((u64 n : Nat) : Int) == n) = true := by rw [beq_iff_eq]; omega
  have HW := Lib.hid hW
  have hs2 : s.size ≤ 100 := by omega
  clear hW hs hn h63 hnk
  go_enter Try.func8, Try.ntmps8
  go_wp2_with fail
  refine (salive w).mono ?_
  rintro r w1 ⟨rfl, hB⟩
  have hN := pen_new w1
  have hR : w.heap.size ≤ w1.heap.size := hB.size
  replace hB : Below w.heap.size w (w1.alloc (.cells #[.slice none 0 0] 48)) := hB.alloc hB.size _
  go_wp2_with fail
  refine (put1_at _ _ _ 8 8 rfl n _ (w1.heap.size + 1) (World.size_alloc _ _) hN (by simp)).mono ?_
  rintro r w2 ⟨v2, rfl, hP2, hS2⟩
  replace hB := pen_below hB hR hN hS2
  clear hN hS2
  go_wp2_with fail
  refine (praw_at _ _ _ s _ hP2 (by rw [List.nil_append, num_length]; omega)).mono ?_
  rintro r w3 ⟨v3, rfl, hP3, hS3⟩
  replace hB := pen_below hB hR hP2 hS3
  clear hP2 hS3
  rw [List.nil_append] at hP3
  go_wp2_with fail
  refine (text_txt _ _ _ _ hP3).mono ?_
  rintro r w4 ⟨rfl, rfl⟩
  clear hP3
  generalize txt (num 8 n ++ s.data.toList) = T at *
  go_wp2_with fail
  refine (on_ T _).mono ?_
  rintro r w5 ⟨rfl, hE5, hb5⟩
  have hR5 : w.heap.size ≤ w3.heap.size := hB.size
  replace hB := hB.trans (hb5.mono hB.size)
  clear hb5
  generalize w3.heap.size = E at *
  have C := Lib.hid (wide_at E _ _ hE5)
  rw [HW.out] at C
  clear hE5 HW
  go_wp2_with fail
  refine C.out.mono ?_
  rintro r w6 ⟨rfl, hE6, hg6⟩
  replace hB := hB.trans (gb_toBelow hg6 (by omega) hB.size)
  clear hg6 C
  go_wp2_with fail
  refine (bad_at E _ _ hE6).mono ?_
  rintro r w7 ⟨rfl, rfl⟩
  go_wp2_with fail
  refine (left_at E _ _ hE6).mono ?_
  rintro r w8 ⟨rfl, rfl⟩
  go_wp2_with fail
  go_ret
  exact ⟨rfl, hB⟩
theorem wide_walk (n : Int) (s : ByteArray) (h1 : -9223372036854775808 ≤ n) (h2 : n < 9223372036854775808) (w : World) : Calls Try.prog 8 #[.int .i64 n, .string s] w fun r w' => r = .returned (.bool true) ∧ Below w.heap.size w w' := by
  by_cases hs : 100 < s.size
  · exact wide_long n s hs w
  · by_cases hn : n < 0
    · exact wide_neg n s hs hn h1 w
    · exact wide_pos n s hs (by omega) h2 w
end Go.Proofs.Ytjdhedebkpclmaa
