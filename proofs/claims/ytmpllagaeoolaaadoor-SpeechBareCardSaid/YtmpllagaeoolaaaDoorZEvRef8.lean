/-
  The reference of layer 7: Bytes.
-/
import Derived.Test.YtmpllagaeoolaaaDoorZEvBytes
import Derived.Test.YtmpllagaeoolaaaDoorBunC
import Derived.Test.YtmpllagaeoolaaaDoorZRefDouble
namespace Go.Proofs.YtmpllagaeoolaaaDoor
open Go.RowKit Mem Sc Sha
theorem txt_to (l : List UInt8) (k : Nat) (hk : k ≤ l.length) : (txt l).extract 0 k = txt (l.take k) := by
  have := txt_take (l.take k) (l.drop k) k (by rw [List.length_take]; omega)
  rwa [List.take_append_drop] at this
theorem enc_ref7 (w p : List UInt8) (k : Nat) (h : w.length + k = 12) : (⟨#[84, 65, 73, 76]⟩ : ByteArray) ++ txt (w ++ List.replicate k 0) ++ txt (num 4 (p.length : Nat)) ++ txt (sum4 p) ++ txt p = txt (envL w p) := by
  rw [show (⟨#[84, 65, 73, 76]⟩ : ByteArray) = txt tail4 from rfl]
  simp only [txt_append, envL, List.append_assoc, pad]
  rw [show 12 - w.length = k by omega]
set_option maxRecDepth 100000 in
set_option maxHeartbeats 1000000 in
theorem rbytes7 (lw lp : List UInt8) (hw : lw.length ≤ 12) (hp : lp.length ≤ 16384) (w : World) :
    Calls Tryd.prog 17 #[.string (txt lw), .string (txt lp)] w fun e w' => e = .returned (.string (txt (envL lw lp))) ∧ Below w.heap.size w w' := by
  have KD := Lib.hid (ref_double (txt lp) (by rw [txt_size]; omega))
  have hd32 := sha_len (sha lp)
  have hsz := txt_size lp
  rw [txt_list] at KD
  have KN := Lib.hid (rname (sha (sha lp)) hd32)
  have KM := Lib.hid (rnumber 4 ((txt lp).size : Nat))
  rw [show near 4 8 = 4 from rfl] at KM
  have hh4 := txt_to (sha (sha lp)) 4 (by omega)
  have hhz : (txt (sha (sha lp))).size = 32 := by rw [txt_size, hd32]
  have hh4' : (4 : Int) ≤ ((txt (sha (sha lp))).size : Int) := by omega
  rw [show (sha (sha lp)).take 4 = sum4 lp from rfl] at hh4
  have HE : Hid (∀ k, lw.length + k = 12 → (⟨#[84, 65, 73, 76]⟩ : ByteArray) ++ txt (lw ++ List.replicate k 0) ++ txt (num 4 ((txt lp).size : Nat)) ++ txt (sum4 lp) ++ txt lp = txt (envL lw lp)) := Lib.hid (fun k hk => by rw [hsz]; exact enc_ref7 lw lp k hk)
  have z3 : (txt (num 4 ((txt lp).size : Nat))).size ≤ 4 := by rw [txt_size, num_length]; omega
  have z4 : (txt (sum4 lp)).size ≤ 4 := by rw [txt_size, sum4_length]; omega
  have z5 : (txt lp).size ≤ 16384 := by omega
  generalize txt (sha (sha lp)) = hs at *
  generalize bytesV (sha (sha lp)) = hv at *
  generalize txt (num 4 ((txt lp).size : Nat)) = nm at *
  generalize txt (sum4 lp) = sm at *
  generalize txt lp = py at *
  clear hp hsz hd32 hhz
  generalize ht : txt (envL lw lp) = tot at *
  clear ht
  have HW := Lib.hid hw
  clear hw
  go_enter Tryd.func17, Tryd.ntmps17
  go_wp2_with fail
  go_loop [5] (fun s => ∃ k : Nat, Hid (lw.length + k ≤ 12) ∧ s = .string (txt (lw ++ List.replicate k 0))) (fun s => 12 - Lib.strSize s)
  case atStart => exact ⟨0, Lib.hid (by have := HW.out; omega), by rw [List.replicate_zero, List.append_nil]⟩
  case round =>
    obtain ⟨k, HK, rfl⟩ := hrel
    have hk := HK.out
    have hz := txt_size (lw ++ List.replicate k 0)
    rw [List.length_append, List.length_replicate] at hz
    by_cases hlt : lw.length + k < 12
    · have t1 : decide (((txt (lw ++ List.replicate k 0)).size : Int) < 12) = true := decide_eq_true (by omega)
      have hnx : txt (lw ++ List.replicate k 0) ++ (⟨#[0]⟩ : ByteArray) = txt (lw ++ List.replicate (k + 1) 0) := by
        rw [show (⟨#[0]⟩ : ByteArray) = txt [0] from rfl, txt_append, List.append_assoc, List.replicate_succ']
      have HNX := Lib.hid hnx
      have hz12 : (txt (lw ++ List.replicate k 0)).size ≤ 12 := by omega
      have HZ : Hid ((txt (lw ++ List.replicate (k + 1) 0)).size = lw.length + k + 1 ∧ (txt (lw ++ List.replicate k 0)).size = lw.length + k) := Lib.hid ⟨by rw [txt_size, List.length_append, List.length_replicate]; omega, hz⟩
      clear hz hnx HE KD KN KM hh4 hh4' z3 z4 z5
      generalize txt (lw ++ List.replicate k 0) = s at *
      go_wp2_with fail
      exact ⟨⟨k + 1, Lib.hid (by omega), congrArg Value.string HNX.out⟩, by
        show 12 - Lib.strSize (.string (s ++ ⟨#[0]⟩)) < 12 - Lib.strSize (.string s)
        rw [HNX.out]
        have := HZ.out
        show 12 - (txt (lw ++ List.replicate (k + 1) 0)).size < 12 - s.size
        omega⟩
    · have t1 : decide (((txt (lw ++ List.replicate k 0)).size : Int) < 12) = false := decide_eq_false (by omega)
      have HEK := Lib.hid (HE.out k (by omega))
      have hz12 : (txt (lw ++ List.replicate k 0)).size ≤ 12 := by omega
      clear hz HE hlt hk
      generalize txt (lw ++ List.replicate k 0) = s at *
      go_wp2_with fail
      refine (KD.out _).mono ?_
      rintro r w1 ⟨rfl, hb1⟩
      clear KD
      go_wp2_with fail
      refine (KN.out _).mono ?_
      rintro r w2 ⟨rfl, hb2⟩
      have hB := hb1.trans (hb2.mono hb1.size)
      clear KN hb1 hb2
      go_upto_region 5 with fail
      refine wp_region_quiet_below (by kernel_rfl) (by kernel_rfl) ?_
      repeat (go_big_quiet_step ((go_at_call 31; (with_reducible exact Calls.regrown_of (KM.out _)))))
      refine wpQuiet_nil ?_
      intro _ hw'
      obtain ⟨p, hw''⟩ := hw'
      subst hw''
      have hB3 := hB.trans ((below_regrown w2 p.d p.os).mono hB.size)
      go_wp2_with fail
      go_ret
      exact ⟨by rw [← HEK.out]; rfl, hB3⟩
end Go.Proofs.YtmpllagaeoolaaaDoor
