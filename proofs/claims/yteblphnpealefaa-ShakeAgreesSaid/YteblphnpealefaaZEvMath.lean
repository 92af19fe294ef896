/-
  Plain mathematics: envelopes, their bytes, what is taken from bytes, one by one.
-/
import Derived.Test.YteblphnpealefaaBunQ10
import Derived.Test.YteblphnpealefaaBunQ0
import Derived.Lib.TrimByte
namespace Go.Proofs.Yteblphnpealefaa
open Go.RowKit Mem Sc
/-- a letter a to z, or a digit -/
def gb (b : UInt8) : Bool := (decide (97 ≤ b.toNat) && decide (b.toNat ≤ 122)) || (decide (48 ≤ b.toNat) && decide (b.toNat ≤ 57))
def goodW (l : List UInt8) : Bool := decide (1 ≤ l.length) && decide (l.length ≤ 12) && l.all gb
def tail4 : List UInt8 := [84, 65, 73, 76]
def pad (l : List UInt8) : List UInt8 := l ++ List.replicate (12 - l.length) 0
def sum4 (p : List UInt8) : List UInt8 := (Sha.sha (Sha.sha p)).take 4
structure Ev where
  w : ByteArray
  p : ByteArray
def Ev.P (v : Ev) : Prop := goodW v.w.data.toList = true ∧ v.p.size ≤ 16384
instance evDec (v : Ev) : Decidable v.P := by unfold Ev.P; exact inferInstance
def envL (w p : List UInt8) : List UInt8 := tail4 ++ (pad w ++ (num 4 (p.length : Nat) ++ (sum4 p ++ p)))
def Ev.enc (v : Ev) : List UInt8 := envL v.w.data.toList v.p.data.toList
def evZ : Ev := ⟨E0, E0⟩
theorem ev_ext (a b : Ev) : a = b ↔ a.w = b.w ∧ a.p = b.p := by
  obtain ⟨a1, a2⟩ := a
  obtain ⟨b1, b2⟩ := b
  simp
theorem sum4_length (p : List UInt8) : (sum4 p).length = 4 := by
  have : (Sha.sha (Sha.sha p)).length = 32 := by unfold Sha.sha Sha.nameOf; simp
  unfold sum4
  rw [List.length_take]; omega
theorem goodW_len {l : List UInt8} (h : goodW l = true) : 1 ≤ l.length ∧ l.length ≤ 12 ∧ l.all gb = true := by
  unfold goodW at h
  simp only [Bool.and_eq_true, decide_eq_true_eq] at h
  exact ⟨h.1.1, h.1.2, h.2⟩
theorem goodW_iff (l : List UInt8) : goodW l = true ↔ 1 ≤ l.length ∧ l.length ≤ 12 ∧ l.all gb = true := by
  unfold goodW
  simp only [Bool.and_eq_true, decide_eq_true_eq, and_assoc]
theorem pad_length {l : List UInt8} (h : l.length ≤ 12) : (pad l).length = 12 := by
  unfold pad
  rw [List.length_append, List.length_replicate]; omega
theorem envL_length {w p : List UInt8} (h : w.length ≤ 12) : (envL w p).length = 24 + p.length := by
  unfold envL
  simp only [List.length_append, pad_length h, num_length, sum4_length]
  show 4 + _ = _
  omega
theorem Ev.enc_length {v : Ev} (h : v.P) : v.enc.length = 24 + v.p.size := by
  unfold Ev.enc
  rw [envL_length (goodW_len h.1).2.1, Lib.size_eq]
theorem gb_zero : gb 0 = false := rfl
/-! ### what is taken -/
structure Tk where
  w : ByteArray
  p : ByteArray
  n : Nat
  e : Nat
def Tk.no (e : Nat) : Tk := ⟨E0, E0, 0, e⟩
def wordOf (l : List UInt8) : List UInt8 := Lib.trimRightB ((l.drop 4).take 12) 0
def szE (l : List UInt8) : Nat := val ((l.drop 16).take 4)
def chk (l : List UInt8) : List UInt8 := (l.drop 20).take 4
def payL (l : List UInt8) : List UInt8 := (l.drop 24).take (szE l)
def tk (l : List UInt8) : Tk :=
  if 4 ≤ l.length ∧ l.take 4 ≠ tail4 then .no 4 else
  if l.length < 24 then .no 7 else
  if goodW (wordOf l) = false ∨ 16384 < szE l then .no 4 else
  if l.length < 24 + szE l then .no 7 else
  if chk l ≠ sum4 (payL l) then .no 4 else ⟨txt (wordOf l), txt (payL l), 24 + szE l, 0⟩
theorem tk_magic {l : List UInt8} (h : 4 ≤ l.length) (h2 : l.take 4 ≠ tail4) : tk l = .no 4 := if_pos ⟨h, h2⟩
theorem tk_few {l : List UInt8} (h : l.length < 4) : tk l = .no 7 := by
  unfold tk
  rw [if_neg (by omega), if_pos (by omega)]
theorem tk_short {l : List UInt8} (h2 : l.take 4 = tail4) (h : l.length < 24) : tk l = .no 7 := by
  unfold tk
  rw [if_neg (fun h => h.2 h2), if_pos h]
theorem tk_bad {l : List UInt8} (h2 : l.take 4 = tail4) (h : ¬ l.length < 24) (h3 : goodW (wordOf l) = false ∨ 16384 < szE l) : tk l = .no 4 := by
  unfold tk
  rw [if_neg (fun h => h.2 h2), if_neg h, if_pos h3]
theorem tk_more {l : List UInt8} (h2 : l.take 4 = tail4) (h : ¬ l.length < 24) (h3 : goodW (wordOf l) = true) (h4 : szE l ≤ 16384) (h5 : l.length < 24 + szE l) : tk l = .no 7 := by
  unfold tk
  rw [if_neg (fun h => h.2 h2), if_neg h, if_neg (by rintro (e | e); rw [h3] at e; cases e; omega), if_pos h5]
theorem tk_sum {l : List UInt8} (h2 : l.take 4 = tail4) (h : ¬ l.length < 24) (h3 : goodW (wordOf l) = true) (h4 : szE l ≤ 16384) (h5 : ¬ l.length < 24 + szE l) (h6 : chk l ≠ sum4 (payL l)) : tk l = .no 4 := by
  unfold tk
  rw [if_neg (fun h => h.2 h2), if_neg h, if_neg (by rintro (e | e); rw [h3] at e; cases e; omega), if_neg h5, if_pos h6]
theorem tk_yes {l : List UInt8} (h2 : l.take 4 = tail4) (h : ¬ l.length < 24) (h3 : goodW (wordOf l) = true) (h4 : szE l ≤ 16384) (h5 : ¬ l.length < 24 + szE l) (h6 : chk l = sum4 (payL l)) : tk l = ⟨txt (wordOf l), txt (payL l), 24 + szE l, 0⟩ := by
  unfold tk
  rw [if_neg (fun h => h.2 h2), if_neg h, if_neg (by rintro (e | e); rw [h3] at e; cases e; omega), if_neg h5, if_neg (fun e => e h6)]
theorem tk_nil : tk [] = .no 7 := tk_few (by decide)
/-- the ways that bytes may go -/
theorem tk_ways (l : List UInt8) : (4 ≤ l.length ∧ l.take 4 ≠ tail4) ∨ (l.length < 4) ∨ (4 ≤ l.length ∧ l.take 4 = tail4 ∧ l.length < 24) ∨
    (l.take 4 = tail4 ∧ ¬ l.length < 24 ∧ goodW (wordOf l) = false) ∨ (l.take 4 = tail4 ∧ ¬ l.length < 24 ∧ goodW (wordOf l) = true ∧ 16384 < szE l) ∨
    (l.take 4 = tail4 ∧ ¬ l.length < 24 ∧ goodW (wordOf l) = true ∧ szE l ≤ 16384 ∧ l.length < 24 + szE l) ∨
    (l.take 4 = tail4 ∧ ¬ l.length < 24 ∧ goodW (wordOf l) = true ∧ szE l ≤ 16384 ∧ ¬ l.length < 24 + szE l ∧ chk l ≠ sum4 (payL l)) ∨
    (l.take 4 = tail4 ∧ ¬ l.length < 24 ∧ goodW (wordOf l) = true ∧ szE l ≤ 16384 ∧ ¬ l.length < 24 + szE l ∧ chk l = sum4 (payL l)) := by
  by_cases h1 : l.length < 4
  · exact .inr (.inl h1)
  by_cases h2 : l.take 4 = tail4
  · by_cases h3 : l.length < 24
    · exact .inr (.inr (.inl ⟨by omega, h2, h3⟩))
    · cases h4 : goodW (wordOf l)
      · exact .inr (.inr (.inr (.inl ⟨h2, h3, rfl⟩)))
      · by_cases h5 : 16384 < szE l
        · exact .inr (.inr (.inr (.inr (.inl ⟨h2, h3, rfl, h5⟩))))
        · by_cases h6 : l.length < 24 + szE l
          · exact .inr (.inr (.inr (.inr (.inr (.inl ⟨h2, h3, rfl, by omega, h6⟩)))))
          · by_cases h7 : chk l = sum4 (payL l)
            · exact .inr (.inr (.inr (.inr (.inr (.inr (.inr ⟨h2, h3, rfl, by omega, h6, h7⟩))))))
            · exact .inr (.inr (.inr (.inr (.inr (.inr (.inl ⟨h2, h3, rfl, by omega, h6, h7⟩))))))
  · exact .inl ⟨by omega, h2⟩
theorem payL_length {l : List UInt8} (h : ¬ l.length < 24 + szE l) : (payL l).length = szE l := by
  unfold payL
  rw [List.length_take, List.length_drop]; omega
/-- what is behind plays no part -/
theorem take_app {l r : List UInt8} {o k : Nat} (h : o + k ≤ l.length) : ((l ++ r).drop o).take k = (l.drop o).take k := by
  rw [List.drop_append_of_le_length (by omega), List.take_append_of_le_length (by rw [List.length_drop]; omega)]
theorem tk_app {l : List UInt8} (r : List UInt8) (h : tk l ≠ .no 7) : tk (l ++ r) = tk l := by
  have hl : (l ++ r).length = l.length + r.length := List.length_append
  rcases tk_ways l with ⟨h1, h2⟩ | h1 | ⟨_, h2, h3⟩ | ⟨h2, h3, h4⟩ | ⟨h2, h3, h4, h5⟩ | ⟨h2, h3, h4, h5, h6⟩ | ⟨h2, h3, h4, h5, h6, h7⟩ | ⟨h2, h3, h4, h5, h6, h7⟩
  · rw [tk_magic h1 h2, tk_magic (by omega)]
    rw [List.take_append_of_le_length h1]; exact h2
  · exact absurd (tk_few h1) h
  · exact absurd (tk_short h2 h3) h
  · have e1 : (l ++ r).take 4 = tail4 := by rw [List.take_append_of_le_length (by omega)]; exact h2
    have e2 : wordOf (l ++ r) = wordOf l := by unfold wordOf; rw [take_app (by omega)]
    rw [tk_bad h2 h3 (.inl h4), tk_bad e1 (by omega) (.inl (by rw [e2]; exact h4))]
  · have e1 : (l ++ r).take 4 = tail4 := by rw [List.take_append_of_le_length (by omega)]; exact h2
    have e2 : szE (l ++ r) = szE l := by unfold szE; rw [take_app (by omega)]
    rw [tk_bad h2 h3 (.inr h5), tk_bad e1 (by omega) (.inr (by rw [e2]; exact h5))]
  · exact absurd (tk_more h2 h3 h4 h5 h6) h
  all_goals
    have e1 : (l ++ r).take 4 = tail4 := by rw [List.take_append_of_le_length (by omega)]; exact h2
    have e2 : wordOf (l ++ r) = wordOf l := by unfold wordOf; rw [take_app (by omega)]
    have e3 : szE (l ++ r) = szE l := by unfold szE; rw [take_app (by omega)]
    have e4 : chk (l ++ r) = chk l := by unfold chk; rw [take_app (by omega)]
    have e5 : payL (l ++ r) = payL l := by unfold payL; rw [e3, take_app (by omega)]
  · rw [tk_sum h2 h3 h4 h5 h6 h7, tk_sum e1 (by omega) (by rw [e2]; exact h4) (by rw [e3]; exact h5) (by rw [e3]; omega) (by rw [e4, e5]; exact h7)]
  · rw [tk_yes h2 h3 h4 h5 h6 h7, tk_yes e1 (by omega) (by rw [e2]; exact h4) (by rw [e3]; exact h5) (by rw [e3]; omega) (by rw [e4, e5]; exact h7), e2, e3, e5]
/-! ### what has bytes is taken from them -/
theorem trim_pad {w : List UInt8} (h : goodW w = true) : Lib.trimRightB (pad w) 0 = w := by
  obtain ⟨h1, h2, h3⟩ := goodW_len h
  have e := Lib.trimRightB_take (pad w) 0 w.length (by rw [pad_length h2]; exact h2) (fun j b hj hb => by
    unfold pad at hb
    rw [List.getElem?_append_right hj, List.getElem?_replicate] at hb
    split at hb
    · exact (Option.some.inj hb).symm
    · cases hb) (fun b hk hb => by
    unfold pad at hb
    rw [List.getElem?_append_left (by omega)] at hb
    intro e
    subst e
    have := List.all_eq_true.1 h3 0 (List.mem_of_getElem? hb)
    rw [gb_zero] at this
    cases this)
  rw [e]
  exact List.take_left' rfl
theorem dropWhile_eq (c : UInt8) : ∀ l : List UInt8, ∃ k, k ≤ l.length ∧ l = List.replicate k c ++ l.dropWhile (· == c)
  | [] => ⟨0, Nat.le_refl _, rfl⟩
  | x :: l => by
    by_cases h : (x == c) = true
    · obtain ⟨k, hk, e⟩ := dropWhile_eq c l
      refine ⟨k + 1, by simpa using hk, ?_⟩
      rw [List.dropWhile_cons_of_pos (by simpa using h), List.replicate_succ, List.cons_append, ← e]
      simpa using h
    · refine ⟨0, Nat.zero_le _, ?_⟩
      rw [List.dropWhile_cons_of_neg (by simpa using h)]
      rfl
theorem pad_trim {l : List UInt8} (h : l.length = 12) : pad (Lib.trimRightB l 0) = l := by
  obtain ⟨k, hk, e⟩ := dropWhile_eq 0 l.reverse
  have e2 : l = Lib.trimRightB l 0 ++ List.replicate k 0 := by
    have := congrArg List.reverse e
    rw [List.reverse_reverse, List.reverse_append, List.reverse_replicate] at this
    exact this
  have hl := congrArg List.length e2
  rw [List.length_append, List.length_replicate, h] at hl
  unfold pad
  rw [show 12 - (Lib.trimRightB l 0).length = k by omega]
  exact e2.symm
theorem val_size {n : Nat} (h : n ≤ 16384) : val (num 4 (n : Nat)) = n := by
  rw [val_num]; unfold u64; omega
theorem parts_of {a b c d r : List UInt8} (ha : a.length = 4) (hb : b.length = 12) (hc : c.length = 4) (hd : d.length = 4) :
    (a ++ (b ++ (c ++ (d ++ r)))).take 4 = a ∧ ((a ++ (b ++ (c ++ (d ++ r)))).drop 4).take 12 = b ∧ ((a ++ (b ++ (c ++ (d ++ r)))).drop 16).take 4 = c ∧ ((a ++ (b ++ (c ++ (d ++ r)))).drop 20).take 4 = d ∧ (a ++ (b ++ (c ++ (d ++ r)))).drop 24 = r := by
  have e1 : (a ++ (b ++ (c ++ (d ++ r)))).drop 4 = b ++ (c ++ (d ++ r)) := List.drop_left' ha
  have e2 : (a ++ (b ++ (c ++ (d ++ r)))).drop 16 = c ++ (d ++ r) := by
    rw [show 16 = 4 + 12 from rfl, ← List.drop_drop, e1]; exact List.drop_left' hb
  have e3 : (a ++ (b ++ (c ++ (d ++ r)))).drop 20 = d ++ r := by
    rw [show 20 = 16 + 4 from rfl, ← List.drop_drop, e2]; exact List.drop_left' hc
  have e4 : (a ++ (b ++ (c ++ (d ++ r)))).drop 24 = r := by
    rw [show 24 = 20 + 4 from rfl, ← List.drop_drop, e3]; exact List.drop_left' hd
  exact ⟨List.take_left' ha, by rw [e1]; exact List.take_left' hb, by rw [e2]; exact List.take_left' hc, by rw [e3]; exact List.take_left' hd, e4⟩
theorem tk_enc0 {v : Ev} (h : v.P) : tk v.enc = ⟨v.w, v.p, v.enc.length, 0⟩ := by
  obtain ⟨hw, hp⟩ := h
  have hlen : v.enc.length = 24 + v.p.size := Ev.enc_length ⟨hw, hp⟩
  obtain ⟨a1, a2, a3, a4, a5⟩ := parts_of (a := tail4) (b := pad v.w.data.toList) (c := num 4 (v.p.data.toList.length : Nat)) (d := sum4 v.p.data.toList) (r := v.p.data.toList) rfl (pad_length (goodW_len hw).2.1) (num_length _ _) (sum4_length _)
  change v.enc.take 4 = _ at a1
  change (v.enc.drop 4).take 12 = _ at a2
  change (v.enc.drop 16).take 4 = _ at a3
  change (v.enc.drop 20).take 4 = _ at a4
  change v.enc.drop 24 = _ at a5
  have e2 : wordOf v.enc = v.w.data.toList := by unfold wordOf; rw [a2, trim_pad hw]
  have e3 : szE v.enc = v.p.size := by unfold szE; rw [a3, ← Lib.size_eq, val_size hp]
  have e5 : payL v.enc = v.p.data.toList := by unfold payL; rw [a5, e3]; exact List.take_of_length_le (by rw [← Lib.size_eq]; omega)
  rw [tk_yes a1 (by omega) (by rw [e2]; exact hw) (by rw [e3]; exact hp) (by rw [e3]; omega) (by unfold chk; rw [a4, e5]), e2, e5, e3, txt_of, txt_of, hlen]
theorem tk_enc {v : Ev} (h : v.P) (r : List UInt8) : tk (v.enc ++ r) = ⟨v.w, v.p, v.enc.length, 0⟩ := by
  have e := tk_enc0 h
  rw [tk_app r (by rw [e]; intro h; cases congrArg Tk.e h), e]
/-- what is taken has these bytes -/
theorem tk_good {l : List UInt8} (h : (tk l).e = 0) : ∃ (v : Ev) (r : List UInt8), v.P ∧ l = v.enc ++ r := by
  rcases tk_ways l with ⟨h1, h2⟩ | h1 | ⟨_, h2, h3⟩ | ⟨h2, h3, h4⟩ | ⟨h2, h3, h4, h5⟩ | ⟨h2, h3, h4, h5, h6⟩ | ⟨h2, h3, h4, h5, h6, h7⟩ | ⟨h2, h3, h4, h5, h6, h7⟩
  · rw [tk_magic h1 h2] at h; cases h
  · rw [tk_few h1] at h; cases h
  · rw [tk_short h2 h3] at h; cases h
  · rw [tk_bad h2 h3 (.inl h4)] at h; cases h
  · rw [tk_bad h2 h3 (.inr h5)] at h; cases h
  · rw [tk_more h2 h3 h4 h5 h6] at h; cases h
  · rw [tk_sum h2 h3 h4 h5 h6 h7] at h; cases h
  · clear h
    have hpl := payL_length h6
    refine ⟨⟨txt (wordOf l), txt (payL l)⟩, l.drop (24 + szE l), ⟨h4, by show (txt (payL l)).size ≤ _; rw [txt_size]; omega⟩, ?_⟩
    have e1 : l = tail4 ++ l.drop 4 := by rw [← h2]; exact (List.take_append_drop 4 l).symm
    have e2 : l.drop 4 = (l.drop 4).take 12 ++ l.drop 16 := by
      have := (List.take_append_drop 12 (l.drop 4)).symm
      rwa [List.drop_drop] at this
    have e3 : l.drop 16 = (l.drop 16).take 4 ++ l.drop 20 := by
      have := (List.take_append_drop 4 (l.drop 16)).symm
      rwa [List.drop_drop] at this
    have e4 : l.drop 20 = (l.drop 20).take 4 ++ l.drop 24 := by
      have := (List.take_append_drop 4 (l.drop 20)).symm
      rwa [List.drop_drop] at this
    have e5 : l.drop 24 = (l.drop 24).take (szE l) ++ l.drop (24 + szE l) := by
      have := (List.take_append_drop (szE l) (l.drop 24)).symm
      rwa [List.drop_drop] at this
    have f2 : pad (wordOf l) = (l.drop 4).take 12 := pad_trim (by rw [List.length_take, List.length_drop]; omega)
    have f3 : num 4 ((payL l).length : Nat) = (l.drop 16).take 4 := by
      rw [hpl]
      refine val_inj _ _ (by rw [num_length, List.length_take, List.length_drop]; omega) ?_
      rw [val_size h5]; rfl
    show l = envL (txt (wordOf l)).data.toList (txt (payL l)).data.toList ++ _
    rw [txt_list, txt_list]
    unfold envL
    rw [f2, f3, ← h7]
    simp only [List.append_assoc]
    show l = tail4 ++ ((l.drop 4).take 12 ++ ((l.drop 16).take 4 ++ ((l.drop 20).take 4 ++ ((l.drop 24).take (szE l) ++ l.drop (24 + szE l)))))
    rw [← e5, ← e4, ← e3, ← e2, ← e1]
theorem tk_e (l : List UInt8) : tk l = .no 4 ∨ tk l = .no 7 ∨ (tk l).e = 0 := by
  rcases tk_ways l with ⟨h1, h2⟩ | h1 | ⟨_, h2, h3⟩ | ⟨h2, h3, h4⟩ | ⟨h2, h3, h4, h5⟩ | ⟨h2, h3, h4, h5, h6⟩ | ⟨h2, h3, h4, h5, h6, h7⟩ | ⟨h2, h3, h4, h5, h6, h7⟩
  · exact .inl (tk_magic h1 h2)
  · exact .inr (.inl (tk_few h1))
  · exact .inr (.inl (tk_short h2 h3))
  · exact .inl (tk_bad h2 h3 (.inl h4))
  · exact .inl (tk_bad h2 h3 (.inr h5))
  · exact .inr (.inl (tk_more h2 h3 h4 h5 h6))
  · exact .inl (tk_sum h2 h3 h4 h5 h6 h7)
  · exact .inr (.inr (by rw [tk_yes h2 h3 h4 h5 h6 h7]))
theorem tk_n {l : List UInt8} (h : (tk l).e = 0) : 24 ≤ (tk l).n ∧ (tk l).n ≤ l.length := by
  obtain ⟨v, r, hv, rfl⟩ := tk_good h
  rw [tk_enc hv, List.length_append]
  show 24 ≤ v.enc.length ∧ v.enc.length ≤ _
  rw [Ev.enc_length hv]; omega
/-- each beginning of an envelope's bytes is too few -/
theorem tk_begin {v : Ev} (h : v.P) (k : Nat) (hk : k < v.enc.length) : tk (v.enc.take k) = .no 7 := by
  by_cases h7 : tk (v.enc.take k) = .no 7
  · exact h7
  · have e := tk_app (v.enc.drop k) h7
    rw [List.take_append_drop, tk_enc0 h] at e
    have h0 : (tk (v.enc.take k)).e = 0 := by rw [← e]
    have hn := (tk_n h0).2
    rw [← e, List.length_take] at hn
    have : v.enc.length ≤ min k v.enc.length := hn
    omega
theorem enc_unlike {a b : Ev} (ha : a.P) (hb : b.P) (r : List UInt8) (h : a.enc = b.enc ++ r) : a = b := by
  have e1 := tk_enc0 ha
  rw [h, tk_enc hb] at e1
  exact (ev_ext a b).2 ⟨(congrArg Tk.w e1).symm, (congrArg Tk.p e1).symm⟩
/-! ### one behind the other -/
def allF : Nat → List UInt8 → List Ev × List UInt8 × Nat
  | 0, l => ([], l, 0)
  | f + 1, l => if l = [] then ([], [], 0) else if (tk l).e ≠ 0 then ([], l, (tk l).e) else (⟨(tk l).w, (tk l).p⟩ :: (allF f (l.drop (tk l).n)).1, (allF f (l.drop (tk l).n)).2)
def allE (l : List UInt8) : List Ev × List UInt8 × Nat := allF l.length l
theorem allF_fuel : ∀ (f g : Nat) (l : List UInt8), l.length ≤ f → l.length ≤ g → allF f l = allF g l
  | 0, 0, l, _, _ => rfl
  | 0, g + 1, l, hf, _ => by
    obtain rfl : l = [] := List.eq_nil_of_length_eq_zero (by omega)
    rfl
  | f + 1, 0, l, _, hg => by
    obtain rfl : l = [] := List.eq_nil_of_length_eq_zero (by omega)
    rfl
  | f + 1, g + 1, l, hf, hg => by
    unfold allF
    by_cases h : l = []
    · rw [if_pos h, if_pos h]
    · rw [if_neg h, if_neg h]
      by_cases h0 : (tk l).e = 0
      · rw [if_neg (by omega), if_neg (by omega)]
        have hn := tk_n h0
        have e := allF_fuel f g (l.drop (tk l).n) (by rw [List.length_drop]; omega) (by rw [List.length_drop]; omega)
        rw [e]
      · rw [if_pos h0, if_pos h0]
theorem allE_nil : allE [] = ([], [], 0) := rfl
theorem allE_no {l : List UInt8} (h : l ≠ []) (he : (tk l).e ≠ 0) : allE l = ([], l, (tk l).e) := by
  obtain ⟨f, hf⟩ : ∃ f, l.length = f + 1 := ⟨l.length - 1, by have := List.length_pos_iff.2 h; omega⟩
  unfold allE
  rw [hf]
  unfold allF
  rw [if_neg h, if_pos he]
theorem allE_yes {l : List UInt8} (he : (tk l).e = 0) : allE l = (⟨(tk l).w, (tk l).p⟩ :: (allE (l.drop (tk l).n)).1, (allE (l.drop (tk l).n)).2) := by
  have hn := tk_n he
  have h : l ≠ [] := by rintro rfl; rw [tk_nil] at he; cases he
  obtain ⟨f, hf⟩ : ∃ f, l.length = f + 1 := ⟨l.length - 1, by have := List.length_pos_iff.2 h; omega⟩
  have e : allE (l.drop (tk l).n) = allF f (l.drop (tk l).n) := allF_fuel _ _ _ (Nat.le_refl _) (by rw [List.length_drop]; omega)
  rw [e]
  unfold allE
  rw [hf]
  show (if l = [] then _ else _) = _
  rw [if_neg h, if_neg (by omega)]
/-- however bytes are cut -/
theorem allE_app : ∀ (n : Nat) (l r : List UInt8), l.length ≤ n → allE (l ++ r) = if (allE l).2.2 = 4 then ((allE l).1, (allE l).2.1 ++ r, 4) else ((allE l).1 ++ (allE ((allE l).2.1 ++ r)).1, (allE ((allE l).2.1 ++ r)).2)
  | n, l, r, hl => by
    by_cases h : l = []
    · subst h
      rw [allE_nil, if_neg (by decide)]
      rfl
    · rcases tk_e l with h4 | h7 | h0
      · have e := tk_app r (l := l) (by rw [h4]; intro h; cases congrArg Tk.e h)
        rw [allE_no h (by rw [h4]; decide), allE_no (l := l ++ r) (by simp [h]) (by rw [e, h4]; decide), e, h4]
        rfl
      · rw [allE_no h (by rw [h7]; decide), h7]
        rfl
      · have hn := tk_n h0
        have e := tk_app r (l := l) (by intro h; rw [h] at h0; cases h0)
        have ed : (l ++ r).drop (tk l).n = l.drop (tk l).n ++ r := List.drop_append_of_le_length hn.2
        cases n with
        | zero => omega
        | succ n =>
          have ih := allE_app n (l.drop (tk l).n) r (by rw [List.length_drop]; omega)
          rw [allE_yes h0, allE_yes (l := l ++ r) (by rw [e]; exact h0), e, ed, ih]
          simp only
          split <;> rfl
theorem allE_cut (l r : List UInt8) : allE (l ++ r) = if (allE l).2.2 = 4 then ((allE l).1, (allE l).2.1 ++ r, 4) else ((allE l).1 ++ (allE ((allE l).2.1 ++ r)).1, (allE ((allE l).2.1 ++ r)).2) := allE_app _ l r (Nat.le_refl _)
theorem allE_left : ∀ (n : Nat) (l : List UInt8), l.length ≤ n → (allE l).2.1.length + 24 * (allE l).1.length ≤ l.length
  | n, l, hl => by
    by_cases h : l = []
    · subst h; exact Nat.le_refl _
    · by_cases h0 : (tk l).e = 0
      · have hn := tk_n h0
        cases n with
        | zero => omega
        | succ n =>
          have ih := allE_left n (l.drop (tk l).n) (by rw [List.length_drop]; omega)
          rw [allE_yes h0]
          simp only [List.length_cons]
          rw [List.length_drop] at ih
          omega
      · rw [allE_no h h0]
        simp
end Go.Proofs.Yteblphnpealefaa
