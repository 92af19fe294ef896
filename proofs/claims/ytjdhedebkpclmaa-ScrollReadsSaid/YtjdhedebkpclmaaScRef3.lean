/-
  The reference of layer 5: Counted.
-/
import Derived.Test.YtjdhedebkpclmaaScRef2
namespace Go.Proofs.Ytjdhedebkpclmaa
open Go.RowKit Mem Sc
theorem head_byte {s : ByteArray} {b : UInt8} {r : List UInt8} (hs : s.data.toList = b :: r) (h : 0 < s.size) : s[0] = b := by
  have this : s.data.toList[0]? = some b := by rw [hs]; rfl
  have hd : 0 < s.data.size := h
  rw [Array.getElem?_toList, Array.getElem?_eq_getElem hd] at this
  exact Option.some.inj this
theorem ba_eq_list (a b : ByteArray) : (a.toList == b.toList) = decide (a.data.toList = b.data.toList) := by
  rw [ByteArray.toList_eq, ByteArray.toList_eq, Bool.eq_iff_iff]; simp
set_option maxRecDepth 100000 in
set_option maxHeartbeats 1000000 in
theorem rc_nil (s : ByteArray) (most : Int) (hs : s.data.toList = []) (w : World) : Calls Try.prog 22 #[.string s, .int .i64 most] w fun r w' => r = .returned (.tuple #[.int .i64 0, .int .i64 0]) ∧ Below w.heap.size w w' := by
  have h0 : s.size = 0 := by rw [Lib.size_eq, hs]; rfl
  clear hs
  go_enter Try.func22, Try.ntmps22
  go_wp2_with fail
  go_ret2
  exact ⟨rfl, Below.refl _ _⟩
set_option maxRecDepth 100000 in
set_option maxHeartbeats 1000000 in
theorem rc_few_over (s : ByteArray) (most : Int) (b : UInt8) (r : List UInt8) (hs : s.data.toList = b :: r) (hb : b.toNat < 253) (hm : most < (b.toNat : Int)) (w : World) :
    Calls Try.prog 22 #[.string s, .int .i64 most] w fun r w' => r = .returned (.tuple #[.int .i64 0, .int .i64 0]) ∧ Below w.heap.size w w' := by
  have h0 : s.size = r.length + 1 := by rw [Lib.size_eq, hs]; rfl
  have hpos : 0 < s.size := by omega
  have hne : ((s.size : Int) == 0) = false := by rw [beq_eq_false_iff_ne]; omega
  have hx := congrArg UInt8.toNat (head_byte hs hpos)
  generalize b.toNat = x at *
  have t1 : ((x : Int) == 253) = false := by rw [beq_eq_false_iff_ne]; omega
  have t2 : ((x : Int) == 254) = false := by rw [beq_eq_false_iff_ne]; omega
  have t3 : ((x : Int) == 255) = false := by rw [beq_eq_false_iff_ne]; omega
  have t4 : decide (most < (x : Int)) = true := decide_eq_true hm
  clear hs h0 hm
  go_enter Try.func22, Try.ntmps22
  go_wp2_with fail
  refine wp_region_quiet_below (by kernel_rfl) (by kernel_rfl) ?_
  repeat (go_big_quiet_step (fail))
  refine wpQuiet_nil ?_
  intro _ hw'
  obtain ⟨p, hw''⟩ := hw'
  subst hw''
  go_wp2_with fail
  go_ret2
  exact ⟨rfl, below_regrown _ _ _⟩
set_option maxRecDepth 100000 in
set_option maxHeartbeats 1000000 in
theorem rc_few_good (s : ByteArray) (most : Int) (b : UInt8) (r : List UInt8) (hs : s.data.toList = b :: r) (hb : b.toNat < 253) (hm : ¬ most < (b.toNat : Int)) (hc : cnt (b.toNat : Int) = b :: r.take 0) (w : World) :
    Calls Try.prog 22 #[.string s, .int .i64 most] w fun r w' => r = .returned (.tuple #[.int .i64 (b.toNat : Nat), .int .i64 1]) ∧ Below w.heap.size w w' := by
  have h0 : s.size = r.length + 1 := by rw [Lib.size_eq, hs]; rfl
  have hpos : 0 < s.size := by omega
  have hne : ((s.size : Int) == 0) = false := by rw [beq_eq_false_iff_ne]; omega
  have hx := congrArg UInt8.toNat (head_byte hs hpos)
  have hH : (s.extract 0 1).data.toList = b :: r.take 0 := by rw [Lib.extract_data, hs]; rfl
  have hsz : 1 ≤ s.size := by omega
  have hq : ((txt (cnt (b.toNat : Int))).toList == (s.extract 0 1).toList) = true := by rw [ba_eq_list, txt_list, hH]; exact decide_eq_true hc
  have KC := Lib.hid (rcount (b.toNat : Int))
  generalize txt (cnt (b.toNat : Int)) = C at *
  generalize b.toNat = x at *
  have t1 : ((x : Int) == 253) = false := by rw [beq_eq_false_iff_ne]; omega
  have t2 : ((x : Int) == 254) = false := by rw [beq_eq_false_iff_ne]; omega
  have t3 : ((x : Int) == 255) = false := by rw [beq_eq_false_iff_ne]; omega
  have t4 : decide (most < (x : Int)) = false := decide_eq_false hm
  clear hs h0 hm hc hH
  go_enter Try.func22, Try.ntmps22
  go_wp2_with fail
  refine wp_region_quiet_below (by kernel_rfl) (by kernel_rfl) ?_
  repeat (go_big_quiet_step ((go_at_call 32; exact Calls.regrown_of (KC.out _))))
  refine wpQuiet_nil ?_
  intro _ hw'
  obtain ⟨p, hw''⟩ := hw'
  subst hw''
  go_wp2_with fail
  go_ret2
  exact ⟨rfl, below_regrown _ _ _⟩
set_option maxRecDepth 100000 in
set_option maxHeartbeats 1000000 in
theorem rc_253_short (s : ByteArray) (most : Int) (b : UInt8) (r : List UInt8) (hs : s.data.toList = b :: r) (hb : b.toNat = 253) (hl : r.length < 2) (w : World) :
    Calls Try.prog 22 #[.string s, .int .i64 most] w fun r w' => r = .returned (.tuple #[.int .i64 0, .int .i64 0]) ∧ Below w.heap.size w w' := by
  have h0 : s.size = r.length + 1 := by rw [Lib.size_eq, hs]; rfl
  have hpos : 0 < s.size := by omega
  have hne : ((s.size : Int) == 0) = false := by rw [beq_eq_false_iff_ne]; omega
  have hx := congrArg UInt8.toNat (head_byte hs hpos)
  have hlt : decide ((s.size : Int) < 3) = true := decide_eq_true (by omega)
  generalize b.toNat = x at *
  subst hb
  clear hs h0 hl
  go_enter Try.func22, Try.ntmps22
  go_wp2_with fail
  go_ret2
  exact ⟨rfl, Below.refl _ _⟩
set_option maxRecDepth 100000 in
set_option maxHeartbeats 1000000 in
theorem rc_253_great (s : ByteArray) (most : Int) (b : UInt8) (r : List UInt8) (hs : s.data.toList = b :: r) (hb : b.toNat = 253) (hl : ¬ r.length < 2) (v : Nat) (hv : v = val (r.take 2)) (hg : 9223372036854775808 ≤ v) (w : World) :
    Calls Try.prog 22 #[.string s, .int .i64 most] w fun r w' => r = .returned (.tuple #[.int .i64 0, .int .i64 0]) ∧ Below w.heap.size w w' := by
  have h0 : s.size = r.length + 1 := by rw [Lib.size_eq, hs]; rfl
  have hpos : 0 < s.size := by omega
  have hne : ((s.size : Int) == 0) = false := by rw [beq_eq_false_iff_ne]; omega
  have hx := congrArg UInt8.toNat (head_byte hs hpos)
  have hsz : 3 ≤ s.size := by omega
  have hlt : decide ((s.size : Int) < 3) = false := decide_eq_false (by omega)
  have hT : (s.extract 1 3).data.toList = r.take 2 := by rw [Lib.extract_data, hs]; rfl
  have hTs : (s.extract 1 3).size ≤ 8 := by rw [Lib.size_eq, hT, List.length_take]; omega
  rw [← hT] at hv
  obtain ⟨z, hz⟩ : ∃ z, z = IntKind.i64.wrap (val (s.extract 1 3).data.toList : Nat) := ⟨_, rfl⟩
  have KB := Lib.hid (rback (s.extract 1 3) hTs z hz false (by rw [decide_eq_false]; rw [← hv]; omega))
  clear hz
  generalize b.toNat = x at *
  subst hb
  clear hs h0 hv hl hT hTs hg
  go_enter Try.func22, Try.ntmps22
  go_wp2_with fail
  refine (KB.out _).mono ?_
  rintro e w' ⟨rfl, rfl⟩
  go_wp2_with fail
  go_ret2
  exact ⟨rfl, Below.refl _ _⟩
set_option maxRecDepth 100000 in
set_option maxHeartbeats 1000000 in
theorem rc_253_over (s : ByteArray) (most : Int) (b : UInt8) (r : List UInt8) (hs : s.data.toList = b :: r) (hb : b.toNat = 253) (hl : ¬ r.length < 2) (v : Nat) (hv : v = val (r.take 2)) (hg : v < 9223372036854775808) (hm : most < (v : Int)) (w : World) :
    Calls Try.prog 22 #[.string s, .int .i64 most] w fun r w' => r = .returned (.tuple #[.int .i64 0, .int .i64 0]) ∧ Below w.heap.size w w' := by
  have h0 : s.size = r.length + 1 := by rw [Lib.size_eq, hs]; rfl
  have hpos : 0 < s.size := by omega
  have hne : ((s.size : Int) == 0) = false := by rw [beq_eq_false_iff_ne]; omega
  have hx := congrArg UInt8.toNat (head_byte hs hpos)
  have hsz : 3 ≤ s.size := by omega
  have hlt : decide ((s.size : Int) < 3) = false := decide_eq_false (by omega)
  have hT : (s.extract 1 3).data.toList = r.take 2 := by rw [Lib.extract_data, hs]; rfl
  have hTs : (s.extract 1 3).size ≤ 8 := by rw [Lib.size_eq, hT, List.length_take]; omega
  rw [← hT] at hv
  have KB := Lib.hid (rback (s.extract 1 3) hTs (v : Int) (by rw [← hv]; exact (IntWalk.i64_in _ (by omega)).symm) true (by rw [decide_eq_true]; rw [← hv]; omega))
  generalize b.toNat = x at *
  subst hb
  have t4 : decide (most < (v : Int)) = true := decide_eq_true hm
  clear hs h0 hv hl hT hTs hg hm
  go_enter Try.func22, Try.ntmps22
  go_wp2_with fail
  refine (KB.out _).mono ?_
  rintro e w' ⟨rfl, rfl⟩
  go_wp2_with fail
  refine wp_region_quiet_below (by kernel_rfl) (by kernel_rfl) ?_
  repeat (go_big_quiet_step (fail))
  refine wpQuiet_nil ?_
  intro _ hw'
  obtain ⟨p, hw''⟩ := hw'
  subst hw''
  go_wp2_with fail
  go_ret2
  exact ⟨rfl, below_regrown _ _ _⟩
set_option maxRecDepth 100000 in
set_option maxHeartbeats 1000000 in
theorem rc_253_unlike (s : ByteArray) (most : Int) (b : UInt8) (r : List UInt8) (hs : s.data.toList = b :: r) (hb : b.toNat = 253) (hl : ¬ r.length < 2) (v : Nat) (hv : v = val (r.take 2)) (hg : v < 9223372036854775808) (hm : ¬ most < (v : Int)) (hc : ¬ cnt (v : Int) = b :: r.take 2) (w : World) :
    Calls Try.prog 22 #[.string s, .int .i64 most] w fun r w' => r = .returned (.tuple #[.int .i64 0, .int .i64 0]) ∧ Below w.heap.size w w' := by
  have h0 : s.size = r.length + 1 := by rw [Lib.size_eq, hs]; rfl
  have hpos : 0 < s.size := by omega
  have hne : ((s.size : Int) == 0) = false := by rw [beq_eq_false_iff_ne]; omega
  have hx := congrArg UInt8.toNat (head_byte hs hpos)
  have hsz : 3 ≤ s.size := by omega
  have hlt : decide ((s.size : Int) < 3) = false := decide_eq_false (by omega)
  have hT : (s.extract 1 3).data.toList = r.take 2 := by rw [Lib.extract_data, hs]; rfl
  have hTs : (s.extract 1 3).size ≤ 8 := by rw [Lib.size_eq, hT, List.length_take]; omega
  rw [← hT] at hv
  have KB := Lib.hid (rback (s.extract 1 3) hTs (v : Int) (by rw [← hv]; exact (IntWalk.i64_in _ (by omega)).symm) true (by rw [decide_eq_true]; rw [← hv]; omega))
  have hH : (s.extract 0 3).data.toList = b :: r.take 2 := by rw [Lib.extract_data, hs]; rfl
  have hq : ((txt (cnt (v : Int))).toList == (s.extract 0 3).toList) = false := by rw [ba_eq_list, txt_list, hH]; exact decide_eq_false hc
  have KC := Lib.hid (rcount (v : Int))
  generalize txt (cnt (v : Int)) = C at *
  generalize b.toNat = x at *
  subst hb
  have t4 : decide (most < (v : Int)) = false := decide_eq_false hm
  clear hs h0 hv hl hT hTs hg hm hc hH
  go_enter Try.func22, Try.ntmps22
  go_wp2_with fail
  refine (KB.out _).mono ?_
  rintro e w' ⟨rfl, rfl⟩
  go_wp2_with fail
  refine wp_region_quiet_below (by kernel_rfl) (by kernel_rfl) ?_
  repeat (go_big_quiet_step ((go_at_call 32; exact Calls.regrown_of (KC.out _))))
  refine wpQuiet_nil ?_
  intro _ hw'
  obtain ⟨p, hw''⟩ := hw'
  subst hw''
  go_wp2_with fail
  go_ret2
  exact ⟨rfl, below_regrown _ _ _⟩
set_option maxRecDepth 100000 in
set_option maxHeartbeats 1000000 in
theorem rc_253_good (s : ByteArray) (most : Int) (b : UInt8) (r : List UInt8) (hs : s.data.toList = b :: r) (hb : b.toNat = 253) (hl : ¬ r.length < 2) (v : Nat) (hv : v = val (r.take 2)) (hg : v < 9223372036854775808) (hm : ¬ most < (v : Int)) (hc : cnt (v : Int) = b :: r.take 2) (w : World) :
    Calls Try.prog 22 #[.string s, .int .i64 most] w fun r w' => r = .returned (.tuple #[.int .i64 (v : Nat), .int .i64 3]) ∧ Below w.heap.size w w' := by
  have h0 : s.size = r.length + 1 := by rw [Lib.size_eq, hs]; rfl
  have hpos : 0 < s.size := by omega
  have hne : ((s.size : Int) == 0) = false := by rw [beq_eq_false_iff_ne]; omega
  have hx := congrArg UInt8.toNat (head_byte hs hpos)
  have hsz : 3 ≤ s.size := by omega
  have hlt : decide ((s.size : Int) < 3) = false := decide_eq_false (by omega)
  have hT : (s.extract 1 3).data.toList = r.take 2 := by rw [Lib.extract_data, hs]; rfl
  have hTs : (s.extract 1 3).size ≤ 8 := by rw [Lib.size_eq, hT, List.length_take]; omega
  rw [← hT] at hv
  have KB := Lib.hid (rback (s.extract 1 3) hTs (v : Int) (by rw [← hv]; exact (IntWalk.i64_in _ (by omega)).symm) true (by rw [decide_eq_true]; rw [← hv]; omega))
  have hH : (s.extract 0 3).data.toList = b :: r.take 2 := by rw [Lib.extract_data, hs]; rfl
  have hq : ((txt (cnt (v : Int))).toList == (s.extract 0 3).toList) = true := by rw [ba_eq_list, txt_list, hH]; exact decide_eq_true hc
  have KC := Lib.hid (rcount (v : Int))
  generalize txt (cnt (v : Int)) = C at *
  generalize b.toNat = x at *
  subst hb
  have t4 : decide (most < (v : Int)) = false := decide_eq_false hm
  clear hs h0 hv hl hT hTs hg hm hc hH
  go_enter Try.func22, Try.ntmps22
  go_wp2_with fail
  refine (KB.out _).mono ?_
  rintro e w' ⟨rfl, rfl⟩
  go_wp2_with fail
  refine wp_region_quiet_below (by kernel_rfl) (by kernel_rfl) ?_
  repeat (go_big_quiet_step ((go_at_call 32; exact Calls.regrown_of (KC.out _))))
  refine wpQuiet_nil ?_
  intro _ hw'
  obtain ⟨p, hw''⟩ := hw'
  subst hw''
  go_wp2_with fail
  go_ret2
  exact ⟨rfl, below_regrown _ _ _⟩
set_option maxRecDepth 100000 in
set_option maxHeartbeats 1000000 in
theorem rc_254_short (s : ByteArray) (most : Int) (b : UInt8) (r : List UInt8) (hs : s.data.toList = b :: r) (hb : b.toNat = 254) (hl : r.length < 4) (w : World) :
    Calls Try.prog 22 #[.string s, .int .i64 most] w fun r w' => r = .returned (.tuple #[.int .i64 0, .int .i64 0]) ∧ Below w.heap.size w w' := by
  have h0 : s.size = r.length + 1 := by rw [Lib.size_eq, hs]; rfl
  have hpos : 0 < s.size := by omega
  have hne : ((s.size : Int) == 0) = false := by rw [beq_eq_false_iff_ne]; omega
  have hx := congrArg UInt8.toNat (head_byte hs hpos)
  have hlt : decide ((s.size : Int) < 5) = true := decide_eq_true (by omega)
  generalize b.toNat = x at *
  subst hb
  clear hs h0 hl
  go_enter Try.func22, Try.ntmps22
  go_wp2_with fail
  go_ret2
  exact ⟨rfl, Below.refl _ _⟩
set_option maxRecDepth 100000 in
set_option maxHeartbeats 1000000 in
theorem rc_254_great (s : ByteArray) (most : Int) (b : UInt8) (r : List UInt8) (hs : s.data.toList = b :: r) (hb : b.toNat = 254) (hl : ¬ r.length < 4) (v : Nat) (hv : v = val (r.take 4)) (hg : 9223372036854775808 ≤ v) (w : World) :
    Calls Try.prog 22 #[.string s, .int .i64 most] w fun r w' => r = .returned (.tuple #[.int .i64 0, .int .i64 0]) ∧ Below w.heap.size w w' := by
  have h0 : s.size = r.length + 1 := by rw [Lib.size_eq, hs]; rfl
  have hpos : 0 < s.size := by omega
  have hne : ((s.size : Int) == 0) = false := by rw [beq_eq_false_iff_ne]; omega
  have hx := congrArg UInt8.toNat (head_byte hs hpos)
  have hsz : 5 ≤ s.size := by omega
  have hlt : decide ((s.size : Int) < 5) = false := decide_eq_false (by omega)
  have hT : (s.extract 1 5).data.toList = r.take 4 := by rw [Lib.extract_data, hs]; rfl
  have hTs : (s.extract 1 5).size ≤ 8 := by rw [Lib.size_eq, hT, List.length_take]; omega
  rw [← hT] at hv
  obtain ⟨z, hz⟩ : ∃ z, z = IntKind.i64.wrap (val (s.extract 1 5).data.toList : Nat) := ⟨_, rfl⟩
  have KB := Lib.hid (rback (s.extract 1 5) hTs z hz false (by rw [decide_eq_false]; rw [← hv]; omega))
  clear hz
  generalize b.toNat = x at *
  subst hb
  clear hs h0 hv hl hT hTs hg
  go_enter Try.func22, Try.ntmps22
  go_wp2_with fail
  refine (KB.out _).mono ?_
  rintro e w' ⟨rfl, rfl⟩
  go_wp2_with fail
  go_ret2
  exact ⟨rfl, Below.refl _ _⟩
set_option maxRecDepth 100000 in
set_option maxHeartbeats 1000000 in
theorem rc_254_over (s : ByteArray) (most : Int) (b : UInt8) (r : List UInt8) (hs : s.data.toList = b :: r) (hb : b.toNat = 254) (hl : ¬ r.length < 4) (v : Nat) (hv : v = val (r.take 4)) (hg : v < 9223372036854775808) (hm : most < (v : Int)) (w : World) :
    Calls Try.prog 22 #[.string s, .int .i64 most] w fun r w' => r = .returned (.tuple #[.int .i64 0, .int .i64 0]) ∧ Below w.heap.size w w' := by
  have h0 : s.size = r.length + 1 := by rw [Lib.size_eq, hs]; rfl
  have hpos : 0 < s.size := by omega
  have hne : ((s.size : Int) == 0) = false := by rw [beq_eq_false_iff_ne]; omega
  have hx := congrArg UInt8.toNat (head_byte hs hpos)
  have hsz : 5 ≤ s.size := by omega
  have hlt : decide ((s.size : Int) < 5) = false := decide_eq_false (by omega)
  have hT : (s.extract 1 5).data.toList = r.take 4 := by rw [Lib.extract_data, hs]; rfl
  have hTs : (s.extract 1 5).size ≤ 8 := by rw [Lib.size_eq, hT, List.length_take]; omega
  rw [← hT] at hv
  have KB := Lib.hid (rback (s.extract 1 5) hTs (v : Int) (by rw [← hv]; exact (IntWalk.i64_in _ (by omega)).symm) true (by rw [decide_eq_true]; rw [← hv]; omega))
  generalize b.toNat = x at *
  subst hb
  have t4 : decide (most < (v : Int)) = true := decide_eq_true hm
  clear hs h0 hv hl hT hTs hg hm
  go_enter Try.func22, Try.ntmps22
  go_wp2_with fail
  refine (KB.out _).mono ?_
  rintro e w' ⟨rfl, rfl⟩
  go_wp2_with fail
  refine wp_region_quiet_below (by kernel_rfl) (by kernel_rfl) ?_
  repeat (go_big_quiet_step (fail))
  refine wpQuiet_nil ?_
  intro _ hw'
  obtain ⟨p, hw''⟩ := hw'
  subst hw''
  go_wp2_with fail
  go_ret2
  exact ⟨rfl, below_regrown _ _ _⟩
set_option maxRecDepth 100000 in
set_option maxHeartbeats 1000000 in
theorem rc_254_unlike (s : ByteArray) (most : Int) (b : UInt8) (r : List UInt8) (hs : s.data.toList = b :: r) (hb : b.toNat = 254) (hl : ¬ r.length < 4) (v : Nat) (hv : v = val (r.take 4)) (hg : v < 9223372036854775808) (hm : ¬ most < (v : Int)) (hc : ¬ cnt (v : Int) = b :: r.take 4) (w : World) :
    Calls Try.prog 22 #[.string s, .int .i64 most] w fun r w' => r = .returned (.tuple #[.int .i64 0, .int .i64 0]) ∧ Below w.heap.size w w' := by
  have h0 : s.size = r.length + 1 := by rw [Lib.size_eq, hs]; rfl
  have hpos : 0 < s.size := by omega
  have hne : ((s.size : Int) == 0) = false := by rw [beq_eq_false_iff_ne]; omega
  have hx := congrArg UInt8.toNat (head_byte hs hpos)
  have hsz : 5 ≤ s.size := by omega
  have hlt : decide ((s.size : Int) < 5) = false := decide_eq_false (by omega)
  have hT : (s.extract 1 5).data.toList = r.take 4 := by rw [Lib.extract_data, hs]; rfl
  have hTs : (s.extract 1 5).size ≤ 8 := by rw [Lib.size_eq, hT, List.length_take]; omega
  rw [← hT] at hv
  have KB := Lib.hid (rback (s.extract 1 5) hTs (v : Int) (by rw [← hv]; exact (IntWalk.i64_in _ (by omega)).symm) true (by rw [decide_eq_true]; rw [← hv]; omega))
  have hH : (s.extract 0 5).data.toList = b :: r.take 4 := by rw [Lib.extract_data, hs]; rfl
  have hq : ((txt (cnt (v : Int))).toList == (s.extract 0 5).toList) = false := by rw [ba_eq_list, txt_list, hH]; exact decide_eq_false hc
  have KC := Lib.hid (rcount (v : Int))
  generalize txt (cnt (v : Int)) = C at *
  generalize b.toNat = x at *
  subst hb
  have t4 : decide (most < (v : Int)) = false := decide_eq_false hm
  clear hs h0 hv hl hT hTs hg hm hc hH
  go_enter Try.func22, Try.ntmps22
  go_wp2_with fail
  refine (KB.out _).mono ?_
  rintro e w' ⟨rfl, rfl⟩
  go_wp2_with fail
  refine wp_region_quiet_below (by kernel_rfl) (by kernel_rfl) ?_
  repeat (go_big_quiet_step ((go_at_call 32; exact Calls.regrown_of (KC.out _))))
  refine wpQuiet_nil ?_
  intro _ hw'
  obtain ⟨p, hw''⟩ := hw'
  subst hw''
  go_wp2_with fail
  go_ret2
  exact ⟨rfl, below_regrown _ _ _⟩
set_option maxRecDepth 100000 in
set_option maxHeartbeats 1000000 in
theorem rc_254_good (s : ByteArray) (most : Int) (b : UInt8) (r : List UInt8) (hs : s.data.toList = b :: r) (hb : b.toNat = 254) (hl : ¬ r.length < 4) (v : Nat) (hv : v = val (r.take 4)) (hg : v < 9223372036854775808) (hm : ¬ most < (v : Int)) (hc : cnt (v : Int) = b :: r.take 4) (w : World) :
    Calls Try.prog 22 #[.string s, .int .i64 most] w fun r w' => r = .returned (.tuple #[.int .i64 (v : Nat), .int .i64 5]) ∧ Below w.heap.size w w' := by
  have h0 : s.size = r.length + 1 := by rw [Lib.size_eq, hs]; rfl
  have hpos : 0 < s.size := by omega
  have hne : ((s.size : Int) == 0) = false := by rw [beq_eq_false_iff_ne]; omega
  have hx := congrArg UInt8.toNat (head_byte hs hpos)
  have hsz : 5 ≤ s.size := by omega
  have hlt : decide ((s.size : Int) < 5) = false := decide_eq_false (by omega)
  have hT : (s.extract 1 5).data.toList = r.take 4 := by rw [Lib.extract_data, hs]; rfl
  have hTs : (s.extract 1 5).size ≤ 8 := by rw [Lib.size_eq, hT, List.length_take]; omega
  rw [← hT] at hv
  have KB := Lib.hid (rback (s.extract 1 5) hTs (v : Int) (by rw [← hv]; exact (IntWalk.i64_in _ (by omega)).symm) true (by rw [decide_eq_true]; rw [← hv]; omega))
  have hH : (s.extract 0 5).data.toList = b :: r.take 4 := by rw [Lib.extract_data, hs]; rfl
  have hq : ((txt (cnt (v : Int))).toList == (s.extract 0 5).toList) = true := by rw [ba_eq_list, txt_list, hH]; exact decide_eq_true hc
  have KC := Lib.hid (rcount (v : Int))
  generalize txt (cnt (v : Int)) = C at *
  generalize b.toNat = x at *
  subst hb
  have t4 : decide (most < (v : Int)) = false := decide_eq_false hm
  clear hs h0 hv hl hT hTs hg hm hc hH
  go_enter Try.func22, Try.ntmps22
  go_wp2_with fail
  refine (KB.out _).mono ?_
  rintro e w' ⟨rfl, rfl⟩
  go_wp2_with fail
  refine wp_region_quiet_below (by kernel_rfl) (by kernel_rfl) ?_
  repeat (go_big_quiet_step ((go_at_call 32; exact Calls.regrown_of (KC.out _))))
  refine wpQuiet_nil ?_
  intro _ hw'
  obtain ⟨p, hw''⟩ := hw'
  subst hw''
  go_wp2_with fail
  go_ret2
  exact ⟨rfl, below_regrown _ _ _⟩
set_option maxRecDepth 100000 in
set_option maxHeartbeats 1000000 in
theorem rc_255_short (s : ByteArray) (most : Int) (b : UInt8) (r : List UInt8) (hs : s.data.toList = b :: r) (hb : b.toNat = 255) (hl : r.length < 8) (w : World) :
    Calls Try.prog 22 #[.string s, .int .i64 most] w fun r w' => r = .returned (.tuple #[.int .i64 0, .int .i64 0]) ∧ Below w.heap.size w w' := by
  have h0 : s.size = r.length + 1 := by rw [Lib.size_eq, hs]; rfl
  have hpos : 0 < s.size := by omega
  have hne : ((s.size : Int) == 0) = false := by rw [beq_eq_false_iff_ne]; omega
  have hx := congrArg UInt8.toNat (head_byte hs hpos)
  have hlt : decide ((s.size : Int) < 9) = true := decide_eq_true (by omega)
  generalize b.toNat = x at *
  subst hb
  clear hs h0 hl
  go_enter Try.func22, Try.ntmps22
  go_wp2_with fail
  go_ret2
  exact ⟨rfl, Below.refl _ _⟩
set_option maxRecDepth 100000 in
set_option maxHeartbeats 1000000 in
theorem rc_255_great (s : ByteArray) (most : Int) (b : UInt8) (r : List UInt8) (hs : s.data.toList = b :: r) (hb : b.toNat = 255) (hl : ¬ r.length < 8) (v : Nat) (hv : v = val (r.take 8)) (hg : 9223372036854775808 ≤ v) (w : World) :
    Calls Try.prog 22 #[.string s, .int .i64 most] w fun r w' => r = .returned (.tuple #[.int .i64 0, .int .i64 0]) ∧ Below w.heap.size w w' := by
  have h0 : s.size = r.length + 1 := by rw [Lib.size_eq, hs]; rfl
  have hpos : 0 < s.size := by omega
  have hne : ((s.size : Int) == 0) = false := by rw [beq_eq_false_iff_ne]; omega
  have hx := congrArg UInt8.toNat (head_byte hs hpos)
  have hsz : 9 ≤ s.size := by omega
  have hlt : decide ((s.size : Int) < 9) = false := decide_eq_false (by omega)
  have hT : (s.extract 1 9).data.toList = r.take 8 := by rw [Lib.extract_data, hs]; rfl
  have hTs : (s.extract 1 9).size ≤ 8 := by rw [Lib.size_eq, hT, List.length_take]; omega
  rw [← hT] at hv
  obtain ⟨z, hz⟩ : ∃ z, z = IntKind.i64.wrap (val (s.extract 1 9).data.toList : Nat) := ⟨_, rfl⟩
  have KB := Lib.hid (rback (s.extract 1 9) hTs z hz false (by rw [decide_eq_false]; rw [← hv]; omega))
  clear hz
  generalize b.toNat = x at *
  subst hb
  clear hs h0 hv hl hT hTs hg
  go_enter Try.func22, Try.ntmps22
  go_wp2_with fail
  refine (KB.out _).mono ?_
  rintro e w' ⟨rfl, rfl⟩
  go_wp2_with fail
  go_ret2
  exact ⟨rfl, Below.refl _ _⟩
set_option maxRecDepth 100000 in
set_option maxHeartbeats 1000000 in
theorem rc_255_over (s : ByteArray) (most : Int) (b : UInt8) (r : List UInt8) (hs : s.data.toList = b :: r) (hb : b.toNat = 255) (hl : ¬ r.length < 8) (v : Nat) (hv : v = val (r.take 8)) (hg : v < 9223372036854775808) (hm : most < (v : Int)) (w : World) :
    Calls Try.prog 22 #[.string s, .int .i64 most] w fun r w' => r = .returned (.tuple #[.int .i64 0, .int .i64 0]) ∧ Below w.heap.size w w' := by
  have h0 : s.size = r.length + 1 := by rw [Lib.size_eq, hs]; rfl
  have hpos : 0 < s.size := by omega
  have hne : ((s.size : Int) == 0) = false := by rw [beq_eq_false_iff_ne]; omega
  have hx := congrArg UInt8.toNat (head_byte hs hpos)
  have hsz : 9 ≤ s.size := by omega
  have hlt : decide ((s.size : Int) < 9) = false := decide_eq_false (by omega)
  have hT : (s.extract 1 9).data.toList = r.take 8 := by rw [Lib.extract_data, hs]; rfl
  have hTs : (s.extract 1 9).size ≤ 8 := by rw [Lib.size_eq, hT, List.length_take]; omega
  rw [← hT] at hv
  have KB := Lib.hid (rback (s.extract 1 9) hTs (v : Int) (by rw [← hv]; exact (IntWalk.i64_in _ (by omega)).symm) true (by rw [decide_eq_true]; rw [← hv]; omega))
  generalize b.toNat = x at *
  subst hb
  have t4 : decide (most < (v : Int)) = true := decide_eq_true hm
  clear hs h0 hv hl hT hTs hg hm
  go_enter Try.func22, Try.ntmps22
  go_wp2_with fail
  refine (KB.out _).mono ?_
  rintro e w' ⟨rfl, rfl⟩
  go_wp2_with fail
  refine wp_region_quiet_below (by kernel_rfl) (by kernel_rfl) ?_
  repeat (go_big_quiet_step (fail))
  refine wpQuiet_nil ?_
  intro _ hw'
  obtain ⟨p, hw''⟩ := hw'
  subst hw''
  go_wp2_with fail
  go_ret2
  exact ⟨rfl, below_regrown _ _ _⟩
set_option maxRecDepth 100000 in
set_option maxHeartbeats 1000000 in
theorem rc_255_unlike (s : ByteArray) (most : Int) (b : UInt8) (r : List UInt8) (hs : s.data.toList = b :: r) (hb : b.toNat = 255) (hl : ¬ r.length < 8) (v : Nat) (hv : v = val (r.take 8)) (hg : v < 9223372036854775808) (hm : ¬ most < (v : Int)) (hc : ¬ cnt (v : Int) = b :: r.take 8) (w : World) :
    Calls Try.prog 22 #[.string s, .int .i64 most] w fun r w' => r = .returned (.tuple #[.int .i64 0, .int .i64 0]) ∧ Below w.heap.size w w' := by
  have h0 : s.size = r.length + 1 := by rw [Lib.size_eq, hs]; rfl
  have hpos : 0 < s.size := by omega
  have hne : ((s.size : Int) == 0) = false := by rw [beq_eq_false_iff_ne]; omega
  have hx := congrArg UInt8.toNat (head_byte hs hpos)
  have hsz : 9 ≤ s.size := by omega
  have hlt : decide ((s.size : Int) < 9) = false := decide_eq_false (by omega)
  have hT : (s.extract 1 9).data.toList = r.take 8 := by rw [Lib.extract_data, hs]; rfl
  have hTs : (s.extract 1 9).size ≤ 8 := by rw [Lib.size_eq, hT, List.length_take]; omega
  rw [← hT] at hv
  have KB := Lib.hid (rback (s.extract 1 9) hTs (v : Int) (by rw [← hv]; exact (IntWalk.i64_in _ (by omega)).symm) true (by rw [decide_eq_true]; rw [← hv]; omega))
  have hH : (s.extract 0 9).data.toList = b :: r.take 8 := by rw [Lib.extract_data, hs]; rfl
  have hq : ((txt (cnt (v : Int))).toList == (s.extract 0 9).toList) = false := by rw [ba_eq_list, txt_list, hH]; exact decide_eq_false hc
  have KC := Lib.hid (rcount (v : Int))
  generalize txt (cnt (v : Int)) = C at *
  generalize b.toNat = x at *
  subst hb
  have t4 : decide (most < (v : Int)) = false := decide_eq_false hm
  clear hs h0 hv hl hT hTs hg hm hc hH
  go_enter Try.func22, Try.ntmps22
  go_wp2_with fail
  refine (KB.out _).mono ?_
  rintro e w' ⟨rfl, rfl⟩
  go_wp2_with fail
  refine wp_region_quiet_below (by kernel_rfl) (by kernel_rfl) ?_
  repeat (go_big_quiet_step ((go_at_call 32; exact Calls.regrown_of (KC.out _))))
  refine wpQuiet_nil ?_
  intro _ hw'
  obtain ⟨p, hw''⟩ := hw'
  subst hw''
  go_wp2_with fail
  go_ret2
  exact ⟨rfl, below_regrown _ _ _⟩
set_option maxRecDepth 100000 in
set_option maxHeartbeats 1000000 in
theorem rc_255_good (s : ByteArray) (most : Int) (b : UInt8) (r : List UInt8) (hs : s.data.toList = b :: r) (hb : b.toNat = 255) (hl : ¬ r.length < 8) (v : Nat) (hv : v = val (r.take 8)) (hg : v < 9223372036854775808) (hm : ¬ most < (v : Int)) (hc : cnt (v : Int) = b :: r.take 8) (w : World) :
    Calls Try.prog 22 #[.string s, .int .i64 most] w fun r w' => r = .returned (.tuple #[.int .i64 (v : Nat), .int .i64 9]) ∧ Below w.heap.size w w' := by
  have h0 : s.size = r.length + 1 := by rw [Lib.size_eq, hs]; rfl
  have hpos : 0 < s.size := by omega
  have hne : ((s.size : Int) == 0) = false := by rw [beq_eq_false_iff_ne]; omega
  have hx := congrArg UInt8.toNat (head_byte hs hpos)
  have hsz : 9 ≤ s.size := by omega
  have hlt : decide ((s.size : Int) < 9) = false := decide_eq_false (by omega)
  have hT : (s.extract 1 9).data.toList = r.take 8 := by rw [Lib.extract_data, hs]; rfl
  have hTs : (s.extract 1 9).size ≤ 8 := by rw [Lib.size_eq, hT, List.length_take]; omega
  rw [← hT] at hv
  have KB := Lib.hid (rback (s.extract 1 9) hTs (v : Int) (by rw [← hv]; exact (IntWalk.i64_in _ (by omega)).symm) true (by rw [decide_eq_true]; rw [← hv]; omega))
  have hH : (s.extract 0 9).data.toList = b :: r.take 8 := by rw [Lib.extract_data, hs]; rfl
  have hq : ((txt (cnt (v : Int))).toList == (s.extract 0 9).toList) = true := by rw [ba_eq_list, txt_list, hH]; exact decide_eq_true hc
  have KC := Lib.hid (rcount (v : Int))
  generalize txt (cnt (v : Int)) = C at *
  generalize b.toNat = x at *
  subst hb
  have t4 : decide (most < (v : Int)) = false := decide_eq_false hm
  clear hs h0 hv hl hT hTs hg hm hc hH
  go_enter Try.func22, Try.ntmps22
  go_wp2_with fail
  refine (KB.out _).mono ?_
  rintro e w' ⟨rfl, rfl⟩
  go_wp2_with fail
  refine wp_region_quiet_below (by kernel_rfl) (by kernel_rfl) ?_
  repeat (go_big_quiet_step ((go_at_call 32; exact Calls.regrown_of (KC.out _))))
  refine wpQuiet_nil ?_
  intro _ hw'
  obtain ⟨p, hw''⟩ := hw'
  subst hw''
  go_wp2_with fail
  go_ret2
  exact ⟨rfl, below_regrown _ _ _⟩
theorem rcounted (s : ByteArray) (most : Int) (w : World) : Calls Try.prog 22 #[.string s, .int .i64 most] w fun r w' => r = .returned (.tuple #[.int .i64 ((counted s.data.toList most).1 : Nat), .int .i64 ((counted s.data.toList most).2 : Nat)]) ∧ Below w.heap.size w w' := by
  cases hs : s.data.toList with
  | nil => exact rc_nil s most hs w
  | cons b r =>
    rcases byte_cases b with hb | rfl | rfl | rfl
    · have h0 := szOf_other hb
      have e1 := told_few h0 r
      have e2 := least_few hb
      by_cases hq : most < (b.toNat : Int)
      · rw [counted_no (by omega) (.inr (by rw [e1]; exact hq))]
        exact rc_few_over s most b r hs hb hq w
      · rw [counted_yes (by omega) (by omega) (by omega) (by omega), h0, e1]
        exact rc_few_good s most b r hs hb hq (by rw [cnt_one hb]; rfl) w
    · have h0 := szOf_253
      have e1 : told 253 r = val (r.take 2) := told_many h0 (by omega) r
      by_cases hl : r.length < 2
      · rw [counted_short most (by omega)]
        exact rc_253_short s most _ r hs rfl hl w
      · by_cases hg : 9223372036854775808 ≤ val (r.take 2)
        · rw [counted_great most (by omega) (by omega)]
          exact rc_253_great s most _ r hs rfl hl _ rfl hg w
        · by_cases hm : most < (val (r.take 2) : Int)
          · rw [counted_no (by omega) (.inr (by rw [e1]; exact hm))]
            exact rc_253_over s most _ r hs rfl hl _ rfl (by omega) hm w
          · have hi := cnt_iff 253 r (told 253 r) (by omega) rfl
            rw [h0, e1] at hi
            by_cases hc : cnt (val (r.take 2) : Int) = 253 :: r.take 2
            · rw [counted_yes (by omega) (by omega) (by rw [e1]; exact hi.1 hc) (by omega), h0, e1]
              exact rc_253_good s most _ r hs rfl hl _ rfl (by omega) hm hc w
            · rw [counted_no (by omega) (.inl (by rw [e1]; exact Nat.lt_of_not_le (fun h => hc (hi.2 h))))]
              exact rc_253_unlike s most _ r hs rfl hl _ rfl (by omega) hm hc w
    · have h0 := szOf_254
      have e1 : told 254 r = val (r.take 4) := told_many h0 (by omega) r
      by_cases hl : r.length < 4
      · rw [counted_short most (by omega)]
        exact rc_254_short s most _ r hs rfl hl w
      · by_cases hg : 9223372036854775808 ≤ val (r.take 4)
        · rw [counted_great most (by omega) (by omega)]
          exact rc_254_great s most _ r hs rfl hl _ rfl hg w
        · by_cases hm : most < (val (r.take 4) : Int)
          · rw [counted_no (by omega) (.inr (by rw [e1]; exact hm))]
            exact rc_254_over s most _ r hs rfl hl _ rfl (by omega) hm w
          · have hi := cnt_iff 254 r (told 254 r) (by omega) rfl
            rw [h0, e1] at hi
            by_cases hc : cnt (val (r.take 4) : Int) = 254 :: r.take 4
            · rw [counted_yes (by omega) (by omega) (by rw [e1]; exact hi.1 hc) (by omega), h0, e1]
              exact rc_254_good s most _ r hs rfl hl _ rfl (by omega) hm hc w
            · rw [counted_no (by omega) (.inl (by rw [e1]; exact Nat.lt_of_not_le (fun h => hc (hi.2 h))))]
              exact rc_254_unlike s most _ r hs rfl hl _ rfl (by omega) hm hc w
    · have h0 := szOf_255
      have e1 : told 255 r = val (r.take 8) := told_many h0 (by omega) r
      by_cases hl : r.length < 8
      · rw [counted_short most (by omega)]
        exact rc_255_short s most _ r hs rfl hl w
      · by_cases hg : 9223372036854775808 ≤ val (r.take 8)
        · rw [counted_great most (by omega) (by omega)]
          exact rc_255_great s most _ r hs rfl hl _ rfl hg w
        · by_cases hm : most < (val (r.take 8) : Int)
          · rw [counted_no (by omega) (.inr (by rw [e1]; exact hm))]
            exact rc_255_over s most _ r hs rfl hl _ rfl (by omega) hm w
          · have hi := cnt_iff 255 r (told 255 r) (by omega) rfl
            rw [h0, e1] at hi
            by_cases hc : cnt (val (r.take 8) : Int) = 255 :: r.take 8
            · rw [counted_yes (by omega) (by omega) (by rw [e1]; exact hi.1 hc) (by omega), h0, e1]
              exact rc_255_good s most _ r hs rfl hl _ rfl (by omega) hm hc w
            · rw [counted_no (by omega) (.inl (by rw [e1]; exact Nat.lt_of_not_le (fun h => hc (hi.2 h))))]
              exact rc_255_unlike s most _ r hs rfl hl _ rfl (by omega) hm hc w
end Go.Proofs.Ytjdhedebkpclmaa
