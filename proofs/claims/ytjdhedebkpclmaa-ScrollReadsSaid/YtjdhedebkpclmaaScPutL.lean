/-
  Layer 5's laws: put: what a script's items come to.
-/
import Derived.Test.YtjdhedebkpclmaaScItem
namespace Go.Proofs.Ytjdhedebkpclmaa
open Go.RowKit Mem Sc
/-- what an item's bytes are -/
def encI (x : It) : List UInt8 :=
  if x.kind = 0 then num (near x.size 8) x.n ++ num (near x.size 8) x.n else if x.kind = 1 then cnt x.n else if x.kind = 2 then x.name else if x.kind = 3 then x.text.data.toList else []
def encL (its : List It) : List UInt8 := its.flatMap encI
theorem encL_next (its : List It) (k : Nat) (hk : k < its.length) : encL (its.take (k + 1)) = encL (its.take k) ++ encI its[k] := by
  unfold encL
  rw [List.take_succ_eq_append_getElem hk, List.flatMap_append]
  simp
theorem encI_le (x : It) (h : x.name.length = 32) : (encI x).length ≤ 32 + x.text.size := by
  have h1 := (near_le x.size 8 (by omega)).2
  have h2 := (cnt_length x.n).2
  unfold encI
  split
  · rw [List.length_append, num_length]; omega
  · split
    · omega
    · split
      · omega
      · split
        · rw [← Lib.size_eq]; omega
        · simp
theorem encL_le (its : List It) (h : ∀ x ∈ its, x.name.length = 32) : (encL its).length ≤ 32 * its.length + total its := by
  unfold encL total
  induction its with
  | nil => simp
  | cons x its ih =>
    have h1 := encI_le x (h x (by simp))
    have h2 := ih (fun y hy => h y (by simp [hy]))
    simp only [List.flatMap_cons, List.length_append, List.map_cons, List.sum_cons, List.length_cons]
    omega
/-- two numbers are put -/
theorem put2_at (b : Nat) (v : Value) (l : List UInt8) (size : Int) (x : Int) (w : World) (H : Nat) (hH : w.heap.size = H) (h : PenAt w b v l) (hsz : l.length ≤ 70368744177600) :
    Calls Try.prog 30 #[.pointer (some ⟨b, 0, none⟩), .int .i64 size, .slice (some ⟨H, 0, none⟩) 2 2] (w.alloc (.cells #[.int .i64 x, .int .i64 x] 3)) fun r w' => PenPost w b v (l ++ (num (near size 8) x ++ num (near size 8) x)) r w' := by
  subst hH
  have hb : Below w.heap.size w (w.alloc (.cells #[.int .i64 x, .int .i64 x] 3)) := (Below.refl _ _).alloc (Nat.le_refl _) _
  refine (put_at b v l size _ [x, x] 2 2 rfl _ (h.below hb) (IntsAt.new w h _ [x, x] _ rfl) (by omega)).mono ?_
  rintro r w' ⟨v', rfl, hP, hS⟩
  have e : nums (near size 8) [x, x] = num (near size 8) x ++ num (near size 8) x := by simp [nums]
  rw [e] at hP
  exact ⟨v', rfl, hP, hS.below hb⟩
/-- one name is put -/
theorem pname1_at (b : Nat) (v : Value) (l : List UInt8) (x : List UInt8) (hx : x.length = 32) (w : World) (H : Nat) (hH : w.heap.size = H) (h : PenAt w b v l) (hsz : l.length ≤ 70368744177600) :
    Calls Try.prog 28 #[.pointer (some ⟨b, 0, none⟩), .slice (some ⟨H, 0, none⟩) 1 1] (w.alloc (.cells (bytesV x) 30)) fun r w' => PenPost w b v (l ++ x) r w' := by
  subst hH
  have hlt := h.lt
  have hb : Below w.heap.size w (w.alloc (.cells (bytesV x) 30)) := (Below.refl _ _).alloc (Nat.le_refl _) _
  refine (pnames_at b v l _ [x] 1 1 rfl _ (h.below hb) (fun _ => ⟨w.heap.size, 0, rfl, by rw [World.size_alloc]; omega, fun i hi => ?_⟩) (fun _ p hp => ?_) (fun y hy => by simp at hy; subst hy; exact hx) (by omega)).mono ?_
  · obtain rfl : i = 0 := by simpa using hi
    refine ⟨hx, fun j u hu => ?_⟩
    have := news_bytes w x 30 j u hu
    rw [Addr.add_mid] at this
    simpa using this
  · obtain rfl := Option.some.inj hp
    exact ⟨by show w.heap.size ≠ b; omega, fun e => absurd (h.ownLt (k := w.heap.size) e).2 (by omega)⟩
  · rintro r w' ⟨v', rfl, hP, hS⟩
    have e : [x].flatten = x := by simp
    rw [e] at hP
    exact ⟨v', rfl, hP, hS.below hb⟩
structure PutS (w wr : World) (P : Nat) (v : Value) (l : List UInt8) : Prop where
  below : Below w.heap.size w wr
  pen : PenAt wr P v l
set_option maxRecDepth 100000 in
set_option maxHeartbeats 2000000 in
theorem putL_at (a : Option Addr) (its : List It) (n c : Nat) (hn : n = its.length) (hl : n ≤ 40) (ht : total its ≤ 8192) (w : World) (hA : ItemsAt w a its) :
    Calls Try.prog 11 #[.slice a n c] w fun r w' => r = .returned (.tuple #[.string (txt (encL its)), .string (txt (encL its))]) ∧ Below w.heap.size w w' := by
  have HN := Lib.hid hn
  have HT := Lib.hid ht
  clear hn ht
  go_enter Try.func11, Try.ntmps11
  go_wp2_with fail
  generalize hw1 : World.alloc _ _ = w1
  have hs1 : PutS w w1 w.heap.size (.slice none 0 0) [] := by rw [← hw1]; exact ⟨(Below.refl _ _).alloc (Nat.le_refl _) _, pen_new w⟩
  clear hw1
  obtain ⟨P, hP⟩ : ∃ P, P = w.heap.size := ⟨_, rfl⟩
  rw [← hP] at hs1 ⊢
  have HP : Hid (w.heap.size ≤ P) := Lib.hid (by omega)
  clear hP
  go_loopw [5, 12] (fun s i wr => ∃ (k : Nat) (v : Value) (S : ByteArray), k ≤ n ∧ i = .int .i64 k ∧ s = .string S ∧ Hid (S = txt (encL (its.take k))) ∧ Hid (PutS w wr P v (encL (its.take k)))) (fun _ i _ => n - (intOf i).toNat)
  case atStart => exact ⟨0, _, _, Nat.zero_le _, rfl, rfl, Lib.hid rfl, Lib.hid hs1⟩
  case round =>
    clear hs1
    obtain ⟨k, v, S, hk, rfl, rfl, HS, HI⟩ := hrel
    by_cases hlt : k < n
    · have hkl : k < its.length := by rw [← HN.out]; exact hlt
      have hall : ∀ x ∈ its.take k, x.name.length = 32 := fun x hx => by
        obtain ⟨i, hi, rfl⟩ := List.getElem_of_mem hx
        obtain ⟨ab, ao, _, hc⟩ := hA (by omega)
        rw [List.getElem_take]
        exact (hc i (by rw [List.length_take] at hi; omega)).1.1
      have hLe := encL_le (its.take k) hall
      have hTo := total_le its k
      have hTo2 := total_le its (k + 1)
      have hTn := total_next its k hkl
      have hT := HT.out
      rw [List.length_take, Nat.min_eq_left (by omega)] at hLe
      have hLen : (encL (its.take k)).length ≤ 10000 := by omega
      obtain ⟨ab, ao, rfl, hc⟩ := (hA.below HI.out.below) (by omega)
      obtain ⟨⟨hx32, _⟩, hr⟩ := hc k hkl
      have hnx := encL_next its k hkl
      have hxt : its[k].text.size ≤ 8192 := by omega
      generalize its[k] = x at *
      generalize encL (its.take k) = L at *
      obtain ⟨L2, hL2⟩ : ∃ L2, L2 = encL (its.take (k + 1)) := ⟨_, rfl⟩
      rw [← hL2] at hnx
      have HL2 := Lib.hid hL2
      clear hL2
      have HNX := Lib.hid hnx
      have HX := Lib.hid hx32
      have HSz := Lib.hid (itemA_size hx32)
      have HL := Lib.hid (itemC_length hx32)
      have hSs : S.size ≤ 10000 := by rw [HS.out, txt_size]; exact hLen
      clear hx32 hc hnx hall hLe hTo hTo2 hTn hT
      go_upto_region 6 with (first
        | (with_reducible refine it_load_mid rfl _ rfl ab (ao + k * 36) rfl x hr HL.out ?_)
        | (with_reducible refine it_store rfl _ _ rfl _ x rfl rfl HSz.out i0 (i0_new _ _) i0_size ?_))
      generalize hw3 : World.setRow _ _ _ = w3
      have hX3 : BoxAt w3 wr.heap.size x := by rw [← hw3]; exact (i0_new _ _).row _
      have hb3 : Below wr.heap.size wr w3 := by rw [← hw3]; exact below_setRow ((Below.refl _ _).alloc (Nat.le_refl _) _) (Nat.le_refl _) _
      have hPk : P < wr.heap.size := HI.out.pen.lt
      have hne : wr.heap.size ≠ P := by omega
      have hov : v.ownBlock ≠ some wr.heap.size := fun e => by have := (HI.out.pen.ownLt e).2; omega
      have hs3 : PutS w w3 P v L := ⟨HI.out.below.trans (hb3.mono HI.out.below.size), HI.out.pen.below hb3⟩
      clear hw3 hb3 HI hr hPk
      generalize wr.heap.size = K at *
      have h0 := hX3.kind
      have h1 := hX3.sz
      have h2 := hX3.num
      have h3 := hX3.nm
      have h4 := hX3.txt HX.out
      have HPK := HP.out
      by_cases hk0 : x.kind = 0
      · have hen : encI x = num (near x.size 8) x.n ++ num (near x.size 8) x.n := by unfold encI; rw [if_pos hk0]
        rw [hen] at HNX
        have k0 : ((x.kind : Int) == 0) = true := by rw [beq_iff_eq]; omega
        clear hen hk0
        have C := Lib.hid (put2_at P v L x.size x.n w3 w3.heap.size rfl hs3.pen (by omega))
        go_wp2_with fail
        refine C.out.mono ?_
        rintro r w4 ⟨v4, rfl, hP4, hS4⟩
        have hX4 := hX3.pen hS4 hne hov
        have hB4 := pen_below hs3.below HP.out hs3.pen hS4
        clear C h0 h1 h2 h3 h4 hX3 hs3 hS4
        have h1 := hX4.sz
        have h2 := hX4.num
        have KR := Lib.hid (rnumber x.size x.n)
        have hns : (txt (num (near x.size 8) x.n)).size ≤ 8 := by rw [txt_size, num_length]; exact (near_le x.size 8 (by omega)).2
        have HE : Hid (S ++ txt (num (near x.size 8) x.n) ++ txt (num (near x.size 8) x.n) = txt L2) := Lib.hid (by rw [HNX.out, HS.out, txt_append, txt_append, List.append_assoc])
        rw [← HNX.out] at hP4
        generalize txt (num (near x.size 8) x.n) = R at *
        go_wp2_with fail
        have q1 : ∀ d os, (Sort.grow (redrawn w4 d) os).cell? ⟨K, 1, none⟩ = some (.int .i64 x.size) := cell_regrown h1
        have q2 : ∀ d os, (Sort.grow (redrawn w4 d) os).cell? ⟨K, 2, none⟩ = some (.int .i64 x.n) := cell_regrown h2
        refine wp_region_quiet_below (by kernel_rfl) (by kernel_rfl) ?_
        repeat (go_big_quiet_step ((go_at_call 14; exact Calls.regrown_of (KR.out _))))
        refine wpQuiet_nil ?_
        intro _ hw'
        obtain ⟨p, hw''⟩ := hw'
        subst hw''
        have hb5 := below_regrown w4 p.d p.os
        have hP5 := hP4.below hb5
        have hB5 := hB4.trans (hb5.mono hB4.size)
        generalize Sort.grow (redrawn w4 p.d) p.os = w5 at *
        clear hb5 hP4 hB4 h1 h2 hX4 q1 q2
        go_wp2_with fail
        go_roundw
        case rel => exact ⟨k + 1, v4, _, by omega, by go_num, rfl, by rw [← HL2.out]; exact HE, by rw [← HL2.out]; exact Lib.hid ⟨hB5, hP5⟩⟩
        case measure => simp [intOf]; omega
      by_cases hk1 : x.kind = 1
      · have hen : encI x = cnt x.n := by unfold encI; rw [if_neg hk0, if_pos hk1]
        rw [hen] at HNX
        have k0 : ((x.kind : Int) == 0) = false := by rw [beq_eq_false_iff_ne]; omega
        have k1 : ((x.kind : Int) == 1) = true := by rw [beq_iff_eq]; omega
        clear hen hk0 hk1
        have C := Lib.hid (pcount_at P v L x.n w3 hs3.pen (by omega))
        go_wp2_with fail
        refine C.out.mono ?_
        rintro r w4 ⟨v4, rfl, hP4, hS4⟩
        have hX4 := hX3.pen hS4 hne hov
        have hB4 := pen_below hs3.below HP.out hs3.pen hS4
        clear C h0 h1 h2 h3 h4 hX3 hs3 hS4
        have h2 := hX4.num
        have KR := Lib.hid (rcount x.n)
        have hns : (txt (cnt x.n)).size ≤ 9 := by rw [txt_size]; exact (cnt_length x.n).2
        have HE : Hid (S ++ txt (cnt x.n) = txt L2) := Lib.hid (by rw [HNX.out, HS.out, txt_append])
        rw [← HNX.out] at hP4
        generalize txt (cnt x.n) = R at *
        go_wp2_with fail
        refine (KR.out _).mono ?_
        rintro r w5 ⟨rfl, hb5⟩
        have hP5 := hP4.below hb5
        have hB5 := hB4.trans (hb5.mono hB4.size)
        clear hb5 hP4 hB4 h2 hX4
        go_wp2_with fail
        go_roundw
        case rel => exact ⟨k + 1, v4, _, by omega, by go_num, rfl, by rw [← HL2.out]; exact HE, by rw [← HL2.out]; exact Lib.hid ⟨hB5, hP5⟩⟩
        case measure => simp [intOf]; omega
      by_cases hk2 : x.kind = 2
      · have hen : encI x = x.name := by unfold encI; rw [if_neg hk0, if_neg hk1, if_pos hk2]
        rw [hen] at HNX
        have k0 : ((x.kind : Int) == 0) = false := by rw [beq_eq_false_iff_ne]; omega
        have k1 : ((x.kind : Int) == 1) = false := by rw [beq_eq_false_iff_ne]; omega
        have k2 : ((x.kind : Int) == 2) = true := by rw [beq_iff_eq]; omega
        clear hen hk0 hk1 hk2
        have C := Lib.hid (pname1_at P v L x.name HX.out w3 w3.heap.size rfl hs3.pen (by omega))
        have HB := Lib.hid (hv_size HX.out)
        have hnl : (Lib.byteCells x.name).length = 32 := by rw [Lib.byteCells_length, HX.out]
        have HNL := Lib.hid hnl
        clear hnl
        go_wp2_with (first
          | (with_reducible refine hl_load_mid rfl _ rfl K 3 rfl x.name h3 HNL.out ?_)
          | (with_reducible refine build_hl rfl _ rfl _ rfl HB.out ?_))
        refine C.out.mono ?_
        rintro r w4 ⟨v4, rfl, hP4, hS4⟩
        have hX4 := hX3.pen hS4 hne hov
        have hB4 := pen_below hs3.below HP.out hs3.pen hS4
        clear C h0 h1 h2 h3 h4 hX3 hs3 hS4
        have h3 := hX4.nm
        have KR := Lib.hid (rname x.name HX.out)
        have hns : (txt x.name).size ≤ 32 := by rw [txt_size, HX.out]; omega
        have HE : Hid (S ++ txt x.name = txt L2) := Lib.hid (by rw [HNX.out, HS.out, txt_append])
        rw [← HNX.out] at hP4
        generalize txt x.name = R at *
        go_wp2_with (with_reducible refine hl_load_mid rfl _ rfl K 3 rfl x.name h3 HNL.out ?_)
        refine (KR.out _).mono ?_
        rintro r w5 ⟨rfl, hb5⟩
        have hP5 := hP4.below hb5
        have hB5 := hB4.trans (hb5.mono hB4.size)
        clear hb5 hP4 hB4 h3 hX4
        go_wp2_with fail
        go_roundw
        case rel => exact ⟨k + 1, v4, _, by omega, by go_num, rfl, by rw [← HL2.out]; exact HE, by rw [← HL2.out]; exact Lib.hid ⟨hB5, hP5⟩⟩
        case measure => simp [intOf]; omega
      by_cases hk3 : x.kind = 3
      · have hen : encI x = x.text.data.toList := by unfold encI; rw [if_neg hk0, if_neg hk1, if_neg hk2, if_pos hk3]
        rw [hen] at HNX
        have k0 : ((x.kind : Int) == 0) = false := by rw [beq_eq_false_iff_ne]; omega
        have k1 : ((x.kind : Int) == 1) = false := by rw [beq_eq_false_iff_ne]; omega
        have k2 : ((x.kind : Int) == 2) = false := by rw [beq_eq_false_iff_ne]; omega
        have k3 : ((x.kind : Int) == 3) = true := by rw [beq_iff_eq]; omega
        clear hen hk0 hk1 hk2 hk3
        have C := Lib.hid (praw_at P v L x.text w3 hs3.pen (by omega))
        go_wp2_with fail
        refine C.out.mono ?_
        rintro r w4 ⟨v4, rfl, hP4, hS4⟩
        have hX4 := hX3.pen hS4 hne hov
        have hB4 := pen_below hs3.below HP.out hs3.pen hS4
        clear C h0 h1 h2 h3 h4 hX3 hs3 hS4
        have h4 := hX4.txt HX.out
        have HE : Hid (S ++ x.text = txt L2) := Lib.hid (by rw [HNX.out, HS.out, ← txt_append, txt_of])
        rw [← HNX.out] at hP4
        generalize x.text = R at *
        clear hX4
        go_wp2_with fail
        go_roundw
        case rel => exact ⟨k + 1, v4, _, by omega, by go_num, rfl, by rw [← HL2.out]; exact HE, by rw [← HL2.out]; exact Lib.hid ⟨hB4, hP4⟩⟩
        case measure => simp [intOf]; omega
      have hen : encI x = [] := by unfold encI; rw [if_neg hk0, if_neg hk1, if_neg hk2, if_neg hk3]
      rw [hen] at HNX
      have k0 : ((x.kind : Int) == 0) = false := by rw [beq_eq_false_iff_ne]; omega
      have k1 : ((x.kind : Int) == 1) = false := by rw [beq_eq_false_iff_ne]; omega
      have k2 : ((x.kind : Int) == 2) = false := by rw [beq_eq_false_iff_ne]; omega
      have k3 : ((x.kind : Int) == 3) = false := by rw [beq_eq_false_iff_ne]; omega
      clear hen hk0 hk1 hk2 hk3
      clear h1 h2 h3 h4
      go_wp2_with fail
      go_roundw
      case rel => exact ⟨k + 1, v, S, by omega, by go_num, rfl, Lib.hid (by rw [← HL2.out, HNX.out, List.append_nil]; exact HS.out), Lib.hid (by rw [← HL2.out, HNX.out, List.append_nil]; exact hs3)⟩
      case measure => simp [intOf]; omega
    · obtain rfl : k = n := by omega
      have hall : its.take k = its := by rw [HN.out, List.take_length]
      rw [hall] at HS HI
      obtain ⟨hB, hPn⟩ := HI.out
      have HSS := HS
      clear HS HI hall
      go_wp2_with fail
      refine (text_txt _ _ _ _ hPn).mono ?_
      rintro r w' ⟨rfl, rfl⟩
      rw [← HSS.out]
      go_wp2_with fail
      go_ret2
      exact ⟨congrArg (fun z => Ending.returned (.tuple #[.string z, .string z])) HSS.out, hB⟩
end Go.Proofs.Ytjdhedebkpclmaa
