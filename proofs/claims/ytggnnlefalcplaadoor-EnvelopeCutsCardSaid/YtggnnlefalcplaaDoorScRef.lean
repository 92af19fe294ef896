/-
  The reference of layer 5: Number, Count, Name, Back.
-/
import Derived.Test.YtggnnlefalcplaaDoorScPenNames
import Derived.Test.YtggnnlefalcplaaDoorScCount
namespace Go.Proofs.YtggnnlefalcplaaDoor
open Go.RowKit Mem Sc
/-- a text of bytes -/
def txt (l : List UInt8) : ByteArray := ⟨l.toArray⟩
theorem txt_size (l : List UInt8) : (txt l).size = l.length := by show l.toArray.size = _; simp
theorem txt_list (l : List UInt8) : (txt l).data.toList = l := rfl
theorem txt_of (s : ByteArray) : txt s.data.toList = s := ba_ext rfl
theorem txt_append (a b : List UInt8) : txt a ++ txt b = txt (a ++ b) := by
  apply ba_ext
  simp [txt]
/-- one byte, made and turned into a text -/
theorem conv_one (y : UInt8) (w : World) : (Go.convert 43 9 (.slice (some ⟨w.heap.size, 0, none⟩) 1 1)).run Tryd.prog (w.alloc (.cells #[.int .u8 (y.toNat : Int)] 5)) = .ok (.string (txt [y])) (w.alloc (.cells #[.int .u8 (y.toNat : Int)] 5)) := by
  refine run_convert_bytes_back (w.alloc (.cells #[.int .u8 (y.toNat : Int)] 5)) 43 9 5 ⟨w.heap.size, 0, none⟩ 1 [y] Tryd.underlying43 Tryd.underlying5 Tryd.underlying9 (fun j hj => ?_)
  obtain rfl : j = 0 := by simpa using hj
  simp [Addr.add]
theorem byte_u64 (u k : Nat) : (u / 256 ^ k) % 256 = (byteU u k).toNat := (byteU_toNat u k).symm
theorem three_ways (size : Int) : (size < 1 ∧ near size 8 = 1) ∨ (8 < size ∧ near size 8 = 8) ∨ ((size : Int) = (near size 8 : Nat) ∧ 1 ≤ size ∧ size ≤ 8) := by unfold near; omega
set_option maxRecDepth 100000 in
set_option maxHeartbeats 1000000 in
theorem rnumber (size n : Int) (w : World) : Calls Tryd.prog 30 #[.int .i64 size, .int .i64 n] w fun r w' => r = .returned (.string (txt (num (near size 8) n))) ∧ Below w.heap.size w w' := by
  have hm := near_le size 8 (by omega)
  have H3 := Lib.hid (three_ways size)
  have hu := u64_lt n
  have e0 : IntKind.u64.wrap n = (u64 n : Nat) := by rw [IntKind.wrap_u64]; unfold u64; omega
  generalize near size 8 = m at *
  unfold num
  generalize u64 n = u at *
  go_enter Tryd.func30, Tryd.ntmps30
  go_wp2_with fail
  clear e0
  go_loopw [5, 6, 7] (fun q s i wr => ∃ k q' : Nat, k ≤ m ∧ i = .int .i64 k ∧ Hid (q' = u / 256 ^ k) ∧ q = .int .u64 (q' : Int) ∧ s = .string (txt (le k u)) ∧ Below w.heap.size w wr) (fun _ _ i _ => m - (intOf i).toNat)
  case atStart => exact ⟨0, u, Nat.zero_le _, rfl, Lib.hid (by simp), rfl, rfl, Below.refl _ _⟩
  case round =>
    obtain ⟨k, q, hk, rfl, HQ, rfl, rfl, hb⟩ := hrel
    have hq : q < 18446744073709551616 := by rw [HQ.out]; exact Nat.lt_of_le_of_lt (Nat.div_le_self _ _) hu
    obtain ⟨q1, hq1⟩ : ∃ q1, q1 = q / 256 := ⟨_, rfl⟩
    have HQ1 : Hid (q1 = u / 256 ^ (k + 1)) := Lib.hid (by rw [hq1, HQ.out, Nat.pow_succ, Nat.div_div_eq_div_mul])
    have hy : (byteU u k).toNat = q % 256 := by rw [byteU_toNat, ← HQ.out]
    have hy2 := (byteU u k).toNat_lt
    have hs1 := txt_size (le k u)
    rw [le_length] at hs1
    have hs3 := txt_append (le k u) [byteU u k]
    rw [← le_succ k u] at hs3
    have hs4 : (txt [byteU u k]).size = 1 := txt_size _
    have HS3 := Lib.hid hs3
    have hcv := conv_one (byteU u k)
    have hb2 : ∀ cs t, Below w.heap.size w (wr.alloc (.cells cs t)) := fun cs t => hb.alloc hb.size _
    have HB2 := Lib.hid hb2
    generalize hyy : byteU u k = y at *
    generalize hss : txt (le k u) = s at *
    have f1 : (q : Int) % 256 = (y.toNat : Int) := by omega
    have f2 : (y.toNat : Int) % 256 = (y.toNat : Int) := by omega
    have f3 : (q : Int) / 256 = (q1 : Int) := by omega
    have f4 : (q : Int).tmod 256 = (y.toNat : Int) := by rw [Int.tmod_eq_emod_of_nonneg (by omega)]; exact f1
    have f5 : (q : Int).tdiv 256 = (q1 : Int) := by rw [Int.tdiv_eq_ediv_of_nonneg (by omega)]; exact f3
    have hq1l : q1 < 18446744073709551616 := by omega
    have hs5 : s.size ≤ 8 := by omega
    have hs6 : (txt [y]).size ≤ 1 := by omega
    have HSS := Lib.hid hss
    clear hq1 hy hs3 hb2 hs1 hs4 hyy hss
    have H3o := H3.out
    by_cases hlt : k < m
    · have hk7 : k ≤ 7 := by omega
      rcases H3o with ⟨h1, rfl⟩ | ⟨h1, rfl⟩ | ⟨h1, h2, h3⟩
      · obtain rfl : k = 0 := by omega
        clear hlt hk
        go_wp2_with fail
        exact ⟨⟨1, q1, by omega, rfl, HQ1, rfl, congrArg Value.string HS3.out, HB2.out _ _⟩, by simp [intOf]⟩
      · have h4 : ¬ size < 1 := by omega
        have h5 : decide ((k : Int) < 8) = true := decide_eq_true (by omega)
        clear hlt hk
        go_wp2_with fail
        exact ⟨⟨k + 1, q1, by omega, by go_num, HQ1, rfl, congrArg Value.string HS3.out, HB2.out _ _⟩, by simp [intOf]; omega⟩
      · have h4 : ¬ size < 1 := by omega
        have h5 : ¬ 8 < size := by omega
        subst h1
        have h6 : decide (k < m) = true := decide_eq_true hlt
        have hlt2 := Lib.hid hlt
        clear hlt hk
        go_wp2_with fail
        exact ⟨⟨k + 1, q1, hlt2.out, by go_num, HQ1, rfl, congrArg Value.string HS3.out, HB2.out _ _⟩, by have := hlt2.out; simp [intOf]; omega⟩
    · clear hcv HB2 HS3 HQ1 HQ f1 f2 f3 f4 f5
      rcases H3o with ⟨h1, rfl⟩ | ⟨h1, rfl⟩ | ⟨h1, h2, h3⟩
      · obtain rfl : k = 1 := by omega
        go_wp2_with fail
        go_ret
        exact ⟨congrArg (fun s => Ending.returned (.string s)) HSS.out.symm, hb⟩
      · obtain rfl : k = 8 := by omega
        have h4 : ¬ size < 1 := by omega
        go_wp2_with fail
        go_ret
        exact ⟨congrArg (fun s => Ending.returned (.string s)) HSS.out.symm, hb⟩
      · obtain rfl : k = m := by omega
        have h4 : ¬ size < 1 := by omega
        have h5 : ¬ 8 < size := by omega
        subst h1
        clear hlt hk
        go_wp2_with fail
        go_ret
        exact ⟨congrArg (fun s => Ending.returned (.string s)) HSS.out.symm, hb⟩
end Go.Proofs.YtggnnlefalcplaaDoor
