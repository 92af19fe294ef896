import Derived.Test.YtmpllagaeoolaaaDoorRows
import Derived.Test.YtmpllagaeoolaaaDoorBunF
namespace Go.Proofs.YtmpllagaeoolaaaDoor
open Go.RowKit Mem Sha

theorem append_bytes (a : ByteArray) (b : UInt8) : (a ++ (⟨#[b]⟩ : ByteArray)).data.toList = a.data.toList ++ [b] := by
  rw [ByteArray.data_append]; simp
theorem append_bytes2 (a b : ByteArray) : (a ++ b).data.toList = a.data.toList ++ b.data.toList := by
  rw [ByteArray.data_append]; simp

set_option maxRecDepth 100000 in
set_option maxHeartbeats 1000000 in
theorem ref_padded (s : ByteArray) (hs : s.size ≤ 1048576) (w : World) :
    Calls Tryd.prog 77 #[.string s] w fun e w' => (∃ p : ByteArray, e = .returned (.string p) ∧ p.data.toList = s.data.toList ++ Sha.ending s.data.toList.length) ∧ Below w.heap.size w w' := by
  have hn : s.data.toList.length = s.size := (Lib.size_eq s).symm
  obtain ⟨z, hz⟩ : ∃ z, z = (119 - s.size % 64) % 64 := ⟨_, rfl⟩
  have hz64 : z < 64 := by omega
  have hz56 : (s.size + 1 + z) % 64 = 56 := by omega
  have HZ := Lib.hid hz
  have HZ56 := Lib.hid hz56
  have HN := Lib.hid hn
  clear hz hz56 hn
  go_enter Tryd.func77, Tryd.ntmps77
  go_wp2_with fail
  go_loop [0] (fun x => ∃ (j : Nat) (p : ByteArray), j ≤ z ∧ x = .string p ∧ p.size = s.size + 1 + j ∧ Hid (p.data.toList = s.data.toList ++ 0x80 :: List.replicate j 0)) (fun x => match x with | .string p => s.size + 1 + z - p.size | _ => 0)
  case atStart =>
    refine ⟨0, s ++ ⟨#[128]⟩, by omega, rfl, by simp; rfl, ?_⟩
    show _ = _
    rw [append_bytes]; simp
  case round =>
    obtain ⟨j, p, hj, rfl, hps, HP⟩ := hrel
    have HPS := Lib.hid hps
    have hple : p.size ≤ 1048576 + 1 + 64 := by omega
    by_cases hlt : j = z
    · subst hlt
      have ht : (((p.size : Int) % 64) != 56) = false := by rw [bne_eq_false_iff_eq]; have := HZ56.out; omega
      clear hps
      go_wp2_with fail
      go_loopw [3, 4, 5] (fun v3 v4 v5 wr => ∃ (i : Nat) (t : ByteArray), i ≤ 8 ∧ v5 = .int .i64 i ∧ v3 = .int .i64 ((s.size * 8 / 256 ^ i : Nat) : Int) ∧ v4 = .string t ∧ t.size = i ∧ Hid (t.data.toList = (lenBytes s.size).drop (8 - i)) ∧ Below w.heap.size w wr)
        (fun _ _ v5 _ => 8 - (intOf v5).toNat)
      case atStart =>
        refine ⟨0, ⟨#[]⟩, by omega, rfl, ?_, rfl, rfl, ?_, Below.refl _ _⟩
        · simp; omega
        · show _ = _; simp [lenBytes]
      case round =>
        obtain ⟨i, t, hi, rfl, rfl, rfl, hts, HTL, hbel⟩ := hrel
        have HTS := Lib.hid hts
        have htle : t.size ≤ 8 := by omega
        clear hts
        obtain ⟨m, hm⟩ : ∃ m, m = s.size * 8 / 256 ^ i := ⟨_, rfl⟩
        have hmle : m ≤ 8388608 := by rw [hm]; exact Nat.le_trans (Nat.div_le_self _ _) (by omega)
        rw [← hm]
        have HM := Lib.hid hm
        clear hm
        by_cases hi8 : i < 8
        · obtain ⟨bt, hbt⟩ : ∃ bt : ByteArray, bt = ⟨#[UInt8.ofNat (m % 256)]⟩ := ⟨_, rfl⟩
          have hcv : (Go.convert 51 9 (.slice (some ⟨wr.heap.size, 0, none⟩) 1 1)).run Tryd.prog (wr.alloc (.cells #[.int .u8 ((m : Int) % (256 : Int))] 5)) = .ok (.string bt) (wr.alloc (.cells #[.int .u8 ((m : Int) % (256 : Int))] 5)) := by
            have e0 : ((UInt8.ofNat (m % 256)).toNat : Int) = (m : Int) % (256 : Int) := by rw [UInt8.toNat_ofNat']; omega
            have e : (#[.int .u8 ((m : Int) % (256 : Int))] : Array Value) = bytesV [UInt8.ofNat (m % 256)] := by
              simp only [bytesV, List.map_cons, List.map_nil, e0]
            rw [e, hbt]
            exact conv_bytes _ wr.heap.size [UInt8.ofNat (m % 256)] 1 (Has.new _ _)
          have hbs : bt.size = 1 := by rw [hbt]; rfl
          have hbs2 : bt.size ≤ 1 := by omega
          have HBT := Lib.hid hbt
          have HBS := Lib.hid hbs
          clear hbt hbs
          go_wp2_with fail
          clear hcv
          refine ⟨⟨i + 1, bt ++ t, by omega, by go_num, ?_, rfl, ?_, ?_, hbel.alloc hbel.size _⟩, by simp [intOf]; omega⟩
          · rw [show (m : Int) / (256 : Int) = ((m / 256 : Nat) : Int) by omega, HM.out, Nat.div_div_eq_div_mul, ← Nat.pow_succ]
          · rw [ByteArray.size_append, HBS.out, HTS.out]; omega
          · show _ = _
            rw [append_bytes2, HBT.out, HTL.out]
            have hg : (lenBytes s.size)[8 - (i + 1)]'(by rw [lenBytes_length]; omega) = UInt8.ofNat (m % 256) := by
              simp only [lenBytes, List.getElem_map, List.getElem_range]
              rw [HM.out, show 8 * (7 - (8 - (i + 1))) = 8 * i by omega, show 256 = 2 ^ 8 from rfl, ← Nat.pow_mul]
            rw [List.drop_eq_getElem_cons (i := 8 - (i + 1)) (l := lenBytes s.size) (by rw [lenBytes_length]; omega), hg, show 8 - (i + 1) + 1 = 8 - i by omega]
            rfl
        · obtain rfl : i = 8 := by omega
          go_wp2_with fail
          go_ret
          refine ⟨⟨_, rfl, ?_⟩, hbel⟩
          rw [append_bytes2, HP.out, HTL.out, HN.out, Sha.ending, HZ.out]
          simp
    · have ht : (((p.size : Int) % 64) != 56) = true := by rw [bne_iff_ne]; have := HZ56.out; omega
      clear hps
      go_wp2_with fail
      refine ⟨⟨j + 1, _, by omega, rfl, ?_, ?_⟩, ?_⟩
      · rw [ByteArray.size_append]; have := HPS.out; show p.size + 1 = _; omega
      · show _ = _
        rw [append_bytes, HP.out, List.replicate_succ']; simp
      · show s.size + 1 + z - (p ++ (⟨#[0]⟩ : ByteArray)).size < s.size + 1 + z - p.size
        rw [ByteArray.size_append]; have := HPS.out; show _ - (p.size + 1) < _; omega
end Go.Proofs.YtmpllagaeoolaaaDoor
