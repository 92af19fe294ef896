/-
  speech: Word, Kind; the reference's Word, Kind; the table of words.
-/
import Derived.Test.YtmpllagaeoolaaaDoorZSpMath
import Derived.Test.YtmpllagaeoolaaaDoorZEvMem
namespace Go.Proofs.YtmpllagaeoolaaaDoor
open Go.RowKit Mem Sc
def wds : List (List UInt8) := [[], [118, 101, 114, 115, 105, 111, 110], [118, 101, 114, 97, 99, 107], [103, 101, 116, 104, 101, 97, 100, 101, 114, 115], [104, 101, 97, 100, 101, 114, 115], [105, 110, 118], [112, 105, 110, 103], [112, 111, 110, 103], [115, 101, 110, 100, 104, 101, 97, 100, 101, 114, 115]]
def wd (i : Nat) : ByteArray := txt (wds.getD i [])
/-- the table of words lies there -/
def TabS (w : World) : Prop := w.rangeAt 0 0 (wds.map fun l => Value.string (txt l))
theorem TabS.below {w w' : World} (h : TabS w) (hb : Below w.heap.size w w') : TabS w' := range_below h hb (by decide)
theorem TabS.cell {w : World} (h : TabS w) (k : Nat) (hk : k < 9) : w.cell? ⟨0, k, none⟩ = some (.string (wd k)) := by
  have := h k (.string (wd k)) (by
    rw [List.getElem?_map]
    obtain rfl | rfl | rfl | rfl | rfl | rfl | rfl | rfl | rfl : k = 0 ∨ k = 1 ∨ k = 2 ∨ k = 3 ∨ k = 4 ∨ k = 5 ∨ k = 6 ∨ k = 7 ∨ k = 8 := by omega
    all_goals rfl)
  rwa [Nat.zero_add] at this
/-- a kind's word -/
def wordK (k : Int) : ByteArray := if 0 ≤ k ∧ k < 9 then wd k.toNat else E0
def kindOf (s : ByteArray) : Nat :=
  if s = wd 1 then 1 else if s = wd 2 then 2 else if s = wd 3 then 3 else if s = wd 4 then 4 else if s = wd 5 then 5 else if s = wd 6 then 6 else if s = wd 7 then 7 else if s = wd 8 then 8 else 0
theorem wd_0 : wd 0 = E0 := rfl
theorem kindOf_hit (s : ByteArray) (k : Nat) (hk : k < 9) (h : wd k = s) : kindOf s = k := by
  subst h
  obtain rfl | rfl | rfl | rfl | rfl | rfl | rfl | rfl | rfl : k = 0 ∨ k = 1 ∨ k = 2 ∨ k = 3 ∨ k = 4 ∨ k = 5 ∨ k = 6 ∨ k = 7 ∨ k = 8 := by omega
  all_goals decide +kernel
theorem kindOf_none (s : ByteArray) (h : ∀ j, 1 ≤ j → j < 9 → wd j ≠ s) : kindOf s = 0 := by
  unfold kindOf
  rw [if_neg (fun e => h 1 (by omega) (by omega) e.symm), if_neg (fun e => h 2 (by omega) (by omega) e.symm), if_neg (fun e => h 3 (by omega) (by omega) e.symm), if_neg (fun e => h 4 (by omega) (by omega) e.symm),
    if_neg (fun e => h 5 (by omega) (by omega) e.symm), if_neg (fun e => h 6 (by omega) (by omega) e.symm), if_neg (fun e => h 7 (by omega) (by omega) e.symm), if_neg (fun e => h 8 (by omega) (by omega) e.symm)]
theorem kindOf_lt (s : ByteArray) : kindOf s < 9 := by
  unfold kindOf
  repeat' split
  all_goals omega
theorem wd_kind (s : ByteArray) (h : kindOf s ≠ 0) : wd (kindOf s) = s := by
  unfold kindOf at *
  repeat' split
  all_goals first | (rename_i e; exact e.symm) | skip
  exact absurd (by repeat' split <;> first | rfl | contradiction) h
theorem wordK_nat (k : Nat) (h : k < 9) : wordK (k : Int) = wd k := by
  unfold wordK
  rw [if_pos (by omega), Int.toNat_natCast]
theorem wordK_no (k : Int) (h : ¬ (0 ≤ k ∧ k < 9)) : wordK k = E0 := if_neg h
theorem wordK_P {m : Ms} (h : m.P) : wordK m.kind ≠ E0 ∧ goodW (wordK m.kind).data.toList = true ∧ kindOf (wordK m.kind) = m.kind.toNat := by
  obtain ⟨h1, h2⟩ := P_kind h
  obtain ⟨k, hk⟩ := Int.eq_ofNat_of_zero_le (show 0 ≤ m.kind by omega)
  rw [hk, wordK_nat k (by omega), Int.toNat_natCast]
  have hk1 : 1 ≤ k := by omega
  have hk2 : k < 9 := by omega
  clear hk h1 h2
  obtain rfl | rfl | rfl | rfl | rfl | rfl | rfl | rfl : k = 1 ∨ k = 2 ∨ k = 3 ∨ k = 4 ∨ k = 5 ∨ k = 6 ∨ k = 7 ∨ k = 8 := by omega
  all_goals decide +kernel
set_option maxHeartbeats 1000000 in
theorem word_at (k : Int) (w : World) (hT : TabS w) : Calls Tryd.prog 20 #[.int .i64 k] w fun e w' => e = .returned (.string (wordK k)) ∧ w = w' := by
  by_cases h : 0 ≤ k ∧ k < 9
  · obtain ⟨n, rfl⟩ := Int.eq_ofNat_of_zero_le h.1
    have hn : n < 9 := by omega
    have c := hT.cell n hn
    rw [wordK_nat n hn]
    have t1 : decide ((n : Int) < 0) = false := decide_eq_false (by omega)
    have t2 : decide ((9 : Int) ≤ (n : Int)) = false := decide_eq_false (by omega)
    generalize wd n = s at *
    clear h
    go_enter Tryd.func20, Tryd.ntmps20
    go_wp2_with fail
    go_ret
    exact ⟨rfl, rfl⟩
  · rw [wordK_no k h]
    by_cases h0 : k < 0
    · have t1 : decide (k < 0) = true := decide_eq_true h0
      clear h h0
      go_enter Tryd.func20, Tryd.ntmps20
      go_wp2_with fail
      go_ret
      exact ⟨rfl, rfl⟩
    · have t1 : decide (k < 0) = false := decide_eq_false h0
      have t2 : decide (9 ≤ k) = true := decide_eq_true (by omega)
      clear h h0
      go_enter Tryd.func20, Tryd.ntmps20
      go_wp2_with fail
      go_ret
      exact ⟨rfl, rfl⟩
def wdA : Array Value := (wds.map fun l => Value.string (txt l)).toArray
theorem index9 (k : Nat) (hk : k < 9) (w : World) : (Instr.index 71 (.agg wdA) (.int .i64 (k : Int))).run Tryd.prog w = .ok (.string (wd k)) w := by
  obtain rfl | rfl | rfl | rfl | rfl | rfl | rfl | rfl | rfl : k = 0 ∨ k = 1 ∨ k = 2 ∨ k = 3 ∨ k = 4 ∨ k = 5 ∨ k = 6 ∨ k = 7 ∨ k = 8 := by omega
  all_goals kernel_rfl
theorem winfo : (Tryd.prog.info? 71).map (·.size) = some 9 := by kernel_rfl
set_option maxRecDepth 100000 in
set_option maxHeartbeats 1000000 in
theorem kind_at (s : ByteArray) (w : World) (hT : TabS w) : Calls Tryd.prog 21 #[.string s] w fun e w' => e = .returned (.int .i64 (kindOf s : Nat)) ∧ w = w' := by
  have HT := Lib.hid hT
  have hR : Hid (w.rangeAt 0 0 (wds.map fun l => Value.string (txt l))) := Lib.hid hT
  obtain ⟨r, hr⟩ : ∃ r, r = kindOf s := ⟨_, rfl⟩
  have HR := Lib.hid hr
  rw [← hr]
  have hl9 : (wds.map fun l => Value.string (txt l)).length = 9 := rfl
  have HL := Lib.hid hl9
  have HA : Hid ((wds.map fun l => Value.string (txt l)).toArray = wdA) := Lib.hid rfl
  clear hr hT hl9
  generalize (wds.map fun l => Value.string (txt l)) = L at *
  go_enter Tryd.func21, Tryd.ntmps21
  go_upto_region 2 with (with_reducible refine wpList_load_mid rfl 71 _ rfl 0 0 rfl L _ hR.out Tryd.underlying71 rfl (winfo.trans (by rw [HL.out])) ?_)
  rw [HA.out]
  go_loop [6] (fun i => ∃ k : Nat, k ≤ 9 ∧ i = .int .i64 k ∧ Hid (∀ j, j < k → wd j ≠ s)) (fun i => 9 - (intOf i).toNat)
  case atStart => exact ⟨0, by omega, rfl, Lib.hid (fun j hj => by omega)⟩
  case round =>
    obtain ⟨k, hk, rfl, HJ⟩ := hrel
    by_cases hlt : k < 9
    · have q := fun w => index9 k hlt w
      have hbe := ba_beq (wd k) s
      have HK := Lib.hid (kindOf_hit s k hlt)
      by_cases he : wd k = s
      · have e : ((wd k).toList == s.toList) = true := by rw [hbe]; exact decide_eq_true he
        have hrk : r = k := by rw [HR.out]; exact HK.out he
        subst hrk
        clear hbe he
        generalize wd r = x at *
        go_wp2_with fail
        go_ret
        exact ⟨rfl, rfl⟩
      · have e : ((wd k).toList == s.toList) = false := by rw [hbe]; exact decide_eq_false he
        have HJ2 : Hid (∀ j, j < k + 1 → wd j ≠ s) := Lib.hid fun j hj => by
          by_cases hjk : j = k
          · subst hjk; exact he
          · exact HJ.out j (by omega)
        clear hbe he
        generalize wd k = x at *
        go_wp2_with fail
        exact ⟨⟨k + 1, hlt, by go_num, HJ2⟩, by simp [intOf]; omega⟩
    · have hrk : r = 0 := by rw [HR.out]; exact kindOf_none s (fun j h1 h2 => HJ.out j (by omega))
      subst hrk
      go_wp2_with fail
      go_ret
      exact ⟨rfl, rfl⟩
set_option maxRecDepth 100000 in
set_option maxHeartbeats 1000000 in
theorem rword8_at (k : Int) (w : World) : Calls Tryd.prog 15 #[.int .i64 k] w fun e w' => e = .returned (.string (wordK k)) ∧ w = w' := by
  by_cases h : 1 ≤ k ∧ k < 9
  · obtain rfl | rfl | rfl | rfl | rfl | rfl | rfl | rfl : k = 1 ∨ k = 2 ∨ k = 3 ∨ k = 4 ∨ k = 5 ∨ k = 6 ∨ k = 7 ∨ k = 8 := by omega
    all_goals clear h
    · have q : ∀ w, (Instr.index 64 (.agg #[.string ⟨#[118, 101, 114, 115, 105, 111, 110]⟩, .string ⟨#[118, 101, 114, 97, 99, 107]⟩, .string ⟨#[103, 101, 116, 104, 101, 97, 100, 101, 114, 115]⟩, .string ⟨#[104, 101, 97, 100, 101, 114, 115]⟩, .string ⟨#[105, 110, 118]⟩, .string ⟨#[112, 105, 110, 103]⟩, .string ⟨#[112, 111, 110, 103]⟩, .string ⟨#[115, 101, 110, 100, 104, 101, 97, 100, 101, 114, 115]⟩]) (.int .i64 0)).run Tryd.prog w = .ok (.string ⟨#[118, 101, 114, 115, 105, 111, 110]⟩) w := fun _ => by kernel_rfl
      go_enter Tryd.func15, Tryd.ntmps15
      go_wp2_with fail
      go_ret
      exact ⟨rfl, rfl⟩
    · have q : ∀ w, (Instr.index 64 (.agg #[.string ⟨#[118, 101, 114, 115, 105, 111, 110]⟩, .string ⟨#[118, 101, 114, 97, 99, 107]⟩, .string ⟨#[103, 101, 116, 104, 101, 97, 100, 101, 114, 115]⟩, .string ⟨#[104, 101, 97, 100, 101, 114, 115]⟩, .string ⟨#[105, 110, 118]⟩, .string ⟨#[112, 105, 110, 103]⟩, .string ⟨#[112, 111, 110, 103]⟩, .string ⟨#[115, 101, 110, 100, 104, 101, 97, 100, 101, 114, 115]⟩]) (.int .i64 1)).run Tryd.prog w = .ok (.string ⟨#[118, 101, 114, 97, 99, 107]⟩) w := fun _ => by kernel_rfl
      go_enter Tryd.func15, Tryd.ntmps15
      go_wp2_with fail
      go_ret
      exact ⟨rfl, rfl⟩
    · have q : ∀ w, (Instr.index 64 (.agg #[.string ⟨#[118, 101, 114, 115, 105, 111, 110]⟩, .string ⟨#[118, 101, 114, 97, 99, 107]⟩, .string ⟨#[103, 101, 116, 104, 101, 97, 100, 101, 114, 115]⟩, .string ⟨#[104, 101, 97, 100, 101, 114, 115]⟩, .string ⟨#[105, 110, 118]⟩, .string ⟨#[112, 105, 110, 103]⟩, .string ⟨#[112, 111, 110, 103]⟩, .string ⟨#[115, 101, 110, 100, 104, 101, 97, 100, 101, 114, 115]⟩]) (.int .i64 2)).run Tryd.prog w = .ok (.string ⟨#[103, 101, 116, 104, 101, 97, 100, 101, 114, 115]⟩) w := fun _ => by kernel_rfl
      go_enter Tryd.func15, Tryd.ntmps15
      go_wp2_with fail
      go_ret
      exact ⟨rfl, rfl⟩
    · have q : ∀ w, (Instr.index 64 (.agg #[.string ⟨#[118, 101, 114, 115, 105, 111, 110]⟩, .string ⟨#[118, 101, 114, 97, 99, 107]⟩, .string ⟨#[103, 101, 116, 104, 101, 97, 100, 101, 114, 115]⟩, .string ⟨#[104, 101, 97, 100, 101, 114, 115]⟩, .string ⟨#[105, 110, 118]⟩, .string ⟨#[112, 105, 110, 103]⟩, .string ⟨#[112, 111, 110, 103]⟩, .string ⟨#[115, 101, 110, 100, 104, 101, 97, 100, 101, 114, 115]⟩]) (.int .i64 3)).run Tryd.prog w = .ok (.string ⟨#[104, 101, 97, 100, 101, 114, 115]⟩) w := fun _ => by kernel_rfl
      go_enter Tryd.func15, Tryd.ntmps15
      go_wp2_with fail
      go_ret
      exact ⟨rfl, rfl⟩
    · have q : ∀ w, (Instr.index 64 (.agg #[.string ⟨#[118, 101, 114, 115, 105, 111, 110]⟩, .string ⟨#[118, 101, 114, 97, 99, 107]⟩, .string ⟨#[103, 101, 116, 104, 101, 97, 100, 101, 114, 115]⟩, .string ⟨#[104, 101, 97, 100, 101, 114, 115]⟩, .string ⟨#[105, 110, 118]⟩, .string ⟨#[112, 105, 110, 103]⟩, .string ⟨#[112, 111, 110, 103]⟩, .string ⟨#[115, 101, 110, 100, 104, 101, 97, 100, 101, 114, 115]⟩]) (.int .i64 4)).run Tryd.prog w = .ok (.string ⟨#[105, 110, 118]⟩) w := fun _ => by kernel_rfl
      go_enter Tryd.func15, Tryd.ntmps15
      go_wp2_with fail
      go_ret
      exact ⟨rfl, rfl⟩
    · have q : ∀ w, (Instr.index 64 (.agg #[.string ⟨#[118, 101, 114, 115, 105, 111, 110]⟩, .string ⟨#[118, 101, 114, 97, 99, 107]⟩, .string ⟨#[103, 101, 116, 104, 101, 97, 100, 101, 114, 115]⟩, .string ⟨#[104, 101, 97, 100, 101, 114, 115]⟩, .string ⟨#[105, 110, 118]⟩, .string ⟨#[112, 105, 110, 103]⟩, .string ⟨#[112, 111, 110, 103]⟩, .string ⟨#[115, 101, 110, 100, 104, 101, 97, 100, 101, 114, 115]⟩]) (.int .i64 5)).run Tryd.prog w = .ok (.string ⟨#[112, 105, 110, 103]⟩) w := fun _ => by kernel_rfl
      go_enter Tryd.func15, Tryd.ntmps15
      go_wp2_with fail
      go_ret
      exact ⟨rfl, rfl⟩
    · have q : ∀ w, (Instr.index 64 (.agg #[.string ⟨#[118, 101, 114, 115, 105, 111, 110]⟩, .string ⟨#[118, 101, 114, 97, 99, 107]⟩, .string ⟨#[103, 101, 116, 104, 101, 97, 100, 101, 114, 115]⟩, .string ⟨#[104, 101, 97, 100, 101, 114, 115]⟩, .string ⟨#[105, 110, 118]⟩, .string ⟨#[112, 105, 110, 103]⟩, .string ⟨#[112, 111, 110, 103]⟩, .string ⟨#[115, 101, 110, 100, 104, 101, 97, 100, 101, 114, 115]⟩]) (.int .i64 6)).run Tryd.prog w = .ok (.string ⟨#[112, 111, 110, 103]⟩) w := fun _ => by kernel_rfl
      go_enter Tryd.func15, Tryd.ntmps15
      go_wp2_with fail
      go_ret
      exact ⟨rfl, rfl⟩
    · have q : ∀ w, (Instr.index 64 (.agg #[.string ⟨#[118, 101, 114, 115, 105, 111, 110]⟩, .string ⟨#[118, 101, 114, 97, 99, 107]⟩, .string ⟨#[103, 101, 116, 104, 101, 97, 100, 101, 114, 115]⟩, .string ⟨#[104, 101, 97, 100, 101, 114, 115]⟩, .string ⟨#[105, 110, 118]⟩, .string ⟨#[112, 105, 110, 103]⟩, .string ⟨#[112, 111, 110, 103]⟩, .string ⟨#[115, 101, 110, 100, 104, 101, 97, 100, 101, 114, 115]⟩]) (.int .i64 7)).run Tryd.prog w = .ok (.string ⟨#[115, 101, 110, 100, 104, 101, 97, 100, 101, 114, 115]⟩) w := fun _ => by kernel_rfl
      go_enter Tryd.func15, Tryd.ntmps15
      go_wp2_with fail
      go_ret
      exact ⟨rfl, rfl⟩
  · have hE : wordK k = E0 := by
      by_cases h0 : k = 0
      · subst h0; rfl
      · exact wordK_no k (by omega)
    rw [hE]
    by_cases h0 : k < 1
    · have t1 : decide (k < 1) = true := decide_eq_true h0
      clear h h0 hE
      go_enter Tryd.func15, Tryd.ntmps15
      go_wp2_with fail
      go_ret
      exact ⟨rfl, rfl⟩
    · have t1 : decide (k < 1) = false := decide_eq_false h0
      have t2 : decide (8 < k) = true := decide_eq_true (by omega)
      clear h h0 hE
      go_enter Tryd.func15, Tryd.ntmps15
      go_wp2_with fail
      go_ret
      exact ⟨rfl, rfl⟩
set_option maxHeartbeats 1000000 in
theorem rkind8_at (s : ByteArray) (w : World) : Calls Tryd.prog 19 #[.string s] w fun e w' => e = .returned (.int .i64 (kindOf s : Nat)) ∧ w = w' := by
  obtain ⟨r, hr⟩ : ∃ r, r = kindOf s := ⟨_, rfl⟩
  have HR := Lib.hid hr
  rw [← hr]
  clear hr
  go_enter Tryd.func19, Tryd.ntmps19
  go_wp2_with fail
  go_loop [3] (fun i => ∃ k : Nat, 1 ≤ k ∧ k ≤ 9 ∧ i = .int .i64 k ∧ Hid (∀ j, 1 ≤ j → j < k → wd j ≠ s)) (fun i => 9 - (intOf i).toNat)
  case atStart => exact ⟨1, by omega, by omega, rfl, Lib.hid (fun j hj => by omega)⟩
  case round =>
    obtain ⟨k, hk1, hk, rfl, HJ⟩ := hrel
    by_cases hlt : k < 9
    · have t1 : decide ((k : Int) ≤ 8) = true := decide_eq_true (by omega)
      have KW := Lib.hid (rword8_at (k : Int))
      rw [wordK_nat k hlt] at KW
      have hbe := ba_beq (wd k) s
      have HK := Lib.hid (kindOf_hit s k hlt)
      by_cases he : wd k = s
      · have e : ((wd k).toList == s.toList) = true := by rw [hbe]; exact decide_eq_true he
        have hrk : r = k := by rw [HR.out]; exact HK.out he
        subst hrk
        clear hbe he
        generalize wd r = x at *
        go_wp2_with fail
        refine (KW.out _).mono ?_
        rintro y w' ⟨rfl, rfl⟩
        go_wp2_with fail
        go_ret
        exact ⟨rfl, rfl⟩
      · have e : ((wd k).toList == s.toList) = false := by rw [hbe]; exact decide_eq_false he
        have HJ2 : Hid (∀ j, 1 ≤ j → j < k + 1 → wd j ≠ s) := Lib.hid fun j h1 hj => by
          by_cases hjk : j = k
          · subst hjk; exact he
          · exact HJ.out j h1 (by omega)
        clear hbe he
        generalize wd k = x at *
        go_wp2_with fail
        refine (KW.out _).mono ?_
        rintro y w' ⟨rfl, rfl⟩
        go_wp2_with fail
        exact ⟨⟨k + 1, by omega, hlt, by go_num, HJ2⟩, by simp [intOf]; omega⟩
    · have hrk : r = 0 := by rw [HR.out]; exact kindOf_none s (fun j h1 h2 => HJ.out j h1 (by omega))
      have t1 : decide ((k : Int) ≤ 8) = false := decide_eq_false (by omega)
      subst hrk
      go_wp2_with fail
      go_ret
      exact ⟨rfl, rfl⟩
end Go.Proofs.YtmpllagaeoolaaaDoor
