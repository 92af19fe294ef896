/-
  ScrollPuts: the walk.
-/
import Derived.Test.YtjdhedebkpclmaaHashMem2
import Derived.Test.YtjdhedebkpclmaaLawScParts
namespace Go.Proofs.Ytjdhedebkpclmaa
open Go.RowKit Mem Sc
theorem encL_drop (its : List It) (k : Nat) (hk : k < its.length) : encL (its.drop k) = encI its[k] ++ encL (its.drop (k + 1)) := by
  rw [List.drop_eq_getElem_cons hk]; rfl
theorem wp_hneq {o : Oper} {a : Act} {w : World} {K : Act → World → Prop} {Q : Exit → Act → World → Prop} (t' : TypeId) (x y : Operand) (ho : o.op = .binOp .neq 30 x y t') (xs ys : Array Value) (v : Value) (hx : a.eval x = .agg xs) (hy : a.eval y = .agg ys)
    (hq : ∀ w, (binOp .neq 30 (.agg xs) (.agg ys)).run Try.prog w = .ok v w) (h : K (a.put o.dst v) w) : o.wp Try.prog a w K Q := by
  unfold Oper.wp execOp
  simp only [ho, hx, hy, Sem.run_bind, Sem.run_pure, run_eqGuard_agg w .neq 30 x y xs ys hplain, Result.andThen_ok, hq]
  exact h
set_option maxRecDepth 100000 in
set_option maxHeartbeats 1000000 in
theorem puts_out (a : Option Addr) (its : List It) (n c : Nat) (hn : n = its.length) (hl : n ≤ 4611686018427387904) (h : greatB its = true) (w : World) (hA : ItemsAt w a its) :
    Calls Try.prog 3 #[.slice a n c] w fun r w' => r = .returned (.bool true) ∧ Below w.heap.size w w' := by
  have GA := Lib.hid (fun w h' => great_at a its n c hn hl w h' true h.symm)
  have HA := Lib.hid hA
  clear hA hn h
  go_enter Try.func3, Try.ntmps3
  go_wp2_with fail
  refine (salive w).mono ?_
  rintro r w1 ⟨rfl, hb⟩
  go_wp2_with fail
  refine (GA.out _ (HA.out.below hb)).mono ?_
  rintro r w2 ⟨rfl, hb2⟩
  replace hb := hb.trans (hb2.mono hb.size)
  go_wp2_with fail
  go_ret
  exact ⟨rfl, hb⟩
set_option maxRecDepth 100000 in
set_option maxHeartbeats 4000000 in
theorem puts_in (a : Option Addr) (its : List It) (n c : Nat) (hn : n = its.length) (h : greatB its = false) (w : World) (hA : ItemsAt w a its) (hok : ∀ x ∈ its, x.n < 9223372036854775808) :
    Calls Try.prog 3 #[.slice a n c] w fun r w' => r = .returned (.bool true) ∧ Below w.heap.size w w' := by
  obtain ⟨hl, ht⟩ := not_great h
  rw [← hn] at hl
  have GA := Lib.hid (fun w h' => great_at a its n c hn (by omega) w h' false h.symm)
  have PA := Lib.hid (fun w h => putL_at a its n c hn (by omega) (by omega) w h)
  have HN := Lib.hid hn
  have HA := Lib.hid hA
  have HOK := Lib.hid hok
  clear hA hn h hok
  obtain ⟨T, hT⟩ : ∃ T, T = txt (encL its) := ⟨_, rfl⟩
  rw [← hT] at PA
  have HT := Lib.hid hT
  clear hT ht
  go_enter Try.func3, Try.ntmps3
  go_wp2_with fail
  refine (salive w).mono ?_
  rintro r w1 ⟨rfl, hb⟩
  go_wp2_with fail
  refine (GA.out _ (HA.out.below hb)).mono ?_
  rintro r w2 ⟨rfl, hb2⟩
  replace hb := hb.trans (hb2.mono hb.size)
  clear hb2 GA
  go_wp2_with fail
  refine (PA.out _ (HA.out.below hb)).mono ?_
  rintro r w3 ⟨rfl, hb3⟩
  replace hb := hb.trans (hb3.mono hb.size)
  clear hb3 PA
  go_wp2_with fail
  refine (on_ T _).mono ?_
  rintro r w4 ⟨rfl, hE, hb4⟩
  have hR : w.heap.size ≤ w3.heap.size := hb.size
  replace hb := hb.trans (hb4.mono hb.size)
  clear hb4
  generalize w3.heap.size = E at *
  have HR := Lib.hid hR
  rw [HT.out] at hE
  clear hR
  go_wp2_with fail
  clear HT
  go_loopw [26] (fun i wr => ∃ k : Nat, k ≤ n ∧ i = .int .i64 k ∧ Below w.heap.size w wr ∧ EyeAt wr E ⟨txt (encL (its.drop k)), false⟩) (fun i _ => n - (intOf i).toNat)
  case atStart => exact ⟨0, Nat.zero_le _, rfl, hb, hE⟩
  case round =>
    clear hb hE
    obtain ⟨k, hk, rfl, hb, hE⟩ := hrel
    by_cases hlt : k < n
    · have hkl : k < its.length := by rw [← HN.out]; exact hlt
      obtain ⟨ab, ao, rfl, hc⟩ := (HA.out.below hb) (by omega)
      obtain ⟨⟨hx32, hxt⟩, hr⟩ := hc k hkl
      have hnx := encL_drop its k hkl
      have hxn := HOK.out its[k] (List.getElem_mem hkl)
      generalize its[k] = x at *
      rw [hnx] at hE
      obtain ⟨L, hL⟩ : ∃ L, L = encL (its.drop (k + 1)) := ⟨_, rfl⟩
      rw [← hL] at hE
      have HL2 := Lib.hid hL
      have HX := Lib.hid hx32
      have HSz := Lib.hid (itemA_size hx32)
      have HL := Lib.hid (itemC_length hx32)
      clear hx32 hc hnx hL
      go_upto_region 12 with (first
        | (with_reducible refine it_load_mid rfl _ rfl ab (ao + k * 36) rfl x hr HL.out ?_)
        | (with_reducible refine it_store rfl _ _ rfl _ x rfl rfl HSz.out i0 (i0_new _ _) i0_size ?_))
      generalize hw5 : World.setRow _ _ _ = w5
      have hX : BoxAt w5 wr.heap.size x := by rw [← hw5]; exact (i0_new _ _).row _
      have hb5 : Below wr.heap.size wr w5 := by rw [← hw5]; exact below_setRow ((Below.refl _ _).alloc (Nat.le_refl _) _) (Nat.le_refl _) _
      have hEl := hE.lt
      have hKE : wr.heap.size ≠ E := by omega
      replace hE := hE.on hb5
      have hRK : w.heap.size ≤ wr.heap.size := hb.size
      replace hb := hb.trans (hb5.mono hb.size)
      clear hw5 hb5 hr hEl
      generalize wr.heap.size = K at *
      have h0 := hX.kind
      have h1 := hX.sz
      have h2 := hX.num
      have h3 := hX.nm
      have h4 := hX.txt HX.out
      have HRo := HR.out
      by_cases hk0 : x.kind = 0
      · have hen : encI x = num (near x.size 8) x.n ++ num (near x.size 8) x.n := by unfold encI; rw [if_pos hk0]
        rw [hen] at hE
        have k0 : ((x.kind : Int) == 0) = true := by rw [beq_iff_eq]; omega
        clear hen hk0
        by_cases hs1 : x.size < 1
        · have s1 : decide (x.size < 1) = true := decide_eq_true hs1
          clear h2 h3 h4
          go_wp2_with fail
          go_ret
          exact ⟨rfl, hb⟩
        by_cases hs7 : 7 < x.size
        · have s1 : decide (x.size < 1) = false := decide_eq_false hs1
          have s2 : decide (7 < x.size) = true := decide_eq_true hs7
          clear h2 h3 h4
          go_wp2_with fail
          go_ret
          exact ⟨rfl, hb⟩
        have s1 : decide (x.size < 1) = false := decide_eq_false hs1
        have s2 : decide (7 < x.size) = false := decide_eq_false hs7
        have KR := Lib.hid (rnumber x.size x.n)
        have hv7 := val7 x.size x.n (by omega) (by omega)
        have KB := Lib.hid (rback (txt (num (near x.size 8) x.n)) (by rw [txt_size, num_length]; exact (near_le x.size 8 (by omega)).2) (val (num (near x.size 8) x.n) : Nat) (by rw [txt_list]; exact (IntWalk.i64_in _ (by omega)).symm) true (by rw [txt_list, decide_eq_true]; omega))
        have G1 := get_txt x.size x.n (by omega) (by omega) (num (near x.size 8) x.n ++ L)
        have G2 := get_txt x.size x.n (by omega) (by omega) L
        rw [List.append_assoc] at hE
        generalize txt (num (near x.size 8) x.n ++ (num (near x.size 8) x.n ++ L)) = T1 at *
        generalize txt (num (near x.size 8) x.n ++ L) = T2 at *
        generalize txt (num (near x.size 8) x.n) = R at *
        generalize val (num (near x.size 8) x.n) = v at *
        have HG1 := Lib.hid G1
        have HG2 := Lib.hid G2
        clear h3 h4 hs1 hs7 G1 G2
        go_wp2_with fail
        refine (KR.out _).mono ?_
        rintro r w6 ⟨rfl, hb6⟩
        have hX6 := hX.on hb6
        have hE6 := hE.on hb6
        replace hb := hb.trans (hb6.mono hb.size)
        clear h0 h1 h2 hX hE KR hb6
        have h1 := hX6.sz
        go_wp2_with fail
        refine (KB.out _).mono ?_
        rintro r w7 ⟨rfl, rfl⟩
        have C := Lib.hid (get_at E _ x.size _ hE6)
        rw [HG1.out] at C
        go_wp2_with fail
        refine C.out.mono ?_
        rintro r w8 ⟨rfl, hE8, hg8⟩
        have hX8 := hX6.grown hg8 (by simpa using hKE)
        replace hb := hb.trans (gb_toBelow hg8 HRo hb.size)
        clear h1 hX6 hE6 KB C hg8
        have h1 := hX8.sz
        have C := Lib.hid (get_at E _ x.size _ hE8)
        rw [HG2.out] at C
        go_wp2_with fail
        refine C.out.mono ?_
        rintro r w9 ⟨rfl, hE, hg9⟩
        replace hb := hb.trans (gb_toBelow hg9 HRo hb.size)
        clear h1 hX8 hE8 C hg9 HG1 HG2
        go_wp2_with fail
        go_roundw
        case rel => exact ⟨k + 1, by omega, by go_num, hb, by rw [← HL2.out]; exact hE⟩
        case measure => simp [intOf]; omega
      by_cases hk1 : x.kind = 1
      · have hen : encI x = cnt x.n := by unfold encI; rw [if_neg hk0, if_pos hk1]
        rw [hen] at hE
        have k0 : ((x.kind : Int) == 0) = false := by rw [beq_eq_false_iff_ne]; omega
        have k1 : ((x.kind : Int) == 1) = true := by rw [beq_iff_eq]; omega
        clear hen hk0 hk1
        by_cases hs0 : x.n < 0
        · have s1 : x.n < 0 := hs0
          have G := count_txt x.n hxn L 9223372036854775807 (by omega)
          have hmx : (((max x.n 0).toNat : Nat) : Int) = 0 := by omega
          have C := Lib.hid (fun w h => count_at E ⟨txt (cnt x.n ++ L), false⟩ (fun h => by cases h) 9223372036854775807 w h)
          rw [G, hmx] at C
          have HE := Lib.hid hE
          clear h1 h3 h4 G hmx hE hxn
          generalize txt (cnt x.n ++ L) = T1 at *
          have hEd : EyeAt w5.drew E ⟨T1, false⟩ := HE.out
          have hKE' : some K ≠ some E := by simpa using hKE
          go_wp2_with fail
          clear h0
          go_region_held3 (fun w' => w'.cell? ⟨K, 2, none⟩ = some (.int .i64 x.n)) (first | assumption | go_keep)
            ((go_at_call 16; (with_reducible refine (C.out _ hEd).mono ?_); rintro r w6 ⟨rfl, hE, hg6⟩; have h2' := (hX.grown (gb_trans (gb_drewN (gb_refl _ (some E)) 1) hg6) hKE').num))
          all_goals
            replace hb := hb.drew.trans (gb_toBelow hg6 HRo hb.drew.size)
            clear hg6 h2' h2 hX
            go_wp2_with fail
            go_roundw
            case rel => exact ⟨k + 1, by omega, by go_num, hb, by rw [← HL2.out]; exact hE⟩
            case measure => simp [intOf]; omega
        · have s1 : ¬ x.n < 0 := hs0
          have G := count_txt x.n hxn L 9223372036854775807 (by omega)
          have hmx : (((max x.n 0).toNat : Nat) : Int) = x.n := by omega
          have C := Lib.hid (fun w h => count_at E ⟨txt (cnt x.n ++ L), false⟩ (fun h => by cases h) 9223372036854775807 w h)
          rw [G, hmx] at C
          have HE := Lib.hid hE
          clear h1 h3 h4 G hmx hE hxn
          generalize txt (cnt x.n ++ L) = T1 at *
          have hEd : EyeAt w5.drew E ⟨T1, false⟩ := HE.out
          have hKE' : some K ≠ some E := by simpa using hKE
          go_wp2_with fail
          clear h0
          go_region_held3 (fun w' => w'.cell? ⟨K, 2, none⟩ = some (.int .i64 x.n)) (first | assumption | go_keep)
            ((go_at_call 16; (with_reducible refine (C.out _ hEd).mono ?_); rintro r w6 ⟨rfl, hE, hg6⟩; have h2' := (hX.grown (gb_trans (gb_drewN (gb_refl _ (some E)) 1) hg6) hKE').num))
          all_goals
            replace hb := hb.drew.trans (gb_toBelow hg6 HRo hb.drew.size)
            clear hg6 h2' h2 hX
            go_wp2_with fail
            go_roundw
            case rel => exact ⟨k + 1, by omega, by go_num, hb, by rw [← HL2.out]; exact hE⟩
            case measure => simp [intOf]; omega
      by_cases hk2 : x.kind = 2
      · have hen : encI x = x.name := by unfold encI; rw [if_neg hk0, if_neg hk1, if_pos hk2]
        rw [hen] at hE
        have k0 : ((x.kind : Int) == 0) = false := by rw [beq_eq_false_iff_ne]; omega
        have k1 : ((x.kind : Int) == 1) = false := by rw [beq_eq_false_iff_ne]; omega
        have k2 : ((x.kind : Int) == 2) = true := by rw [beq_iff_eq]; omega
        clear hen hk0 hk1 hk2
        have G := name_txt x.name L HX.out
        have hnl : (Lib.byteCells x.name).length = 32 := by rw [Lib.byteCells_length, HX.out]
        have hone := Lib.byteCells_one x.name
        have hbv : bytesV x.name = (Lib.byteCells x.name).toArray := by rw [← bytesV_list]
        have qn := hneq_self x.name HX.out
        have C := Lib.hid (fun w h => name_at E ⟨txt (x.name ++ L), false⟩ w h)
        rw [G, hbv] at C
        rw [hbv] at qn
        have HE := Lib.hid hE
        have HXN : Hid (∀ w, BoxAt w K x → w.rangeAt K 3 (Lib.byteCells x.name)) := Lib.hid (fun w h => h.nm)
        clear h1 h2 h4 G hbv hE hxn
        generalize txt (x.name ++ L) = T1 at *
        generalize Lib.byteCells x.name = cs at *
        have hEd : EyeAt w5.drew E ⟨T1, false⟩ := HE.out
        have hKE' : some K ≠ some E := by simpa using hKE
        have hu := Try.underlying30
        have hi : (Try.prog.info? 30).map (·.size) = some cs.length := by rw [hnl]; exact hinfo
        go_wp2_with fail
        clear h0
        go_region_held3 (fun w' => w'.rangeAt K 3 cs) (first | assumption | go_keep_ranges)
          ((go_at_call 17; (with_reducible refine (C.out _ hEd).mono ?_); rintro r w6 ⟨rfl, hE, hg6⟩; have h3' := HXN.out _ (hX.grown (gb_trans (gb_drewN (gb_refl _ (some E)) 1) hg6) hKE')))
        all_goals
          replace hb := hb.drew.trans (gb_toBelow hg6 HRo hb.drew.size)
          clear hg6 h3' h3 hX hu hi hone qn
          go_wp2_with fail
          go_roundw
          case rel => exact ⟨k + 1, by omega, by go_num, hb, by rw [← HL2.out]; exact hE⟩
          case measure => simp [intOf]; omega
      by_cases hk3 : x.kind = 3
      · have hen : encI x = x.text.data.toList := by unfold encI; rw [if_neg hk0, if_neg hk1, if_neg hk2, if_pos hk3]
        rw [hen] at hE
        have k0 : ((x.kind : Int) == 0) = false := by rw [beq_eq_false_iff_ne]; omega
        have k1 : ((x.kind : Int) == 1) = false := by rw [beq_eq_false_iff_ne]; omega
        have k2 : ((x.kind : Int) == 2) = false := by rw [beq_eq_false_iff_ne]; omega
        have k3 : ((x.kind : Int) == 3) = true := by rw [beq_iff_eq]; omega
        clear hen hk0 hk1 hk2 hk3
        have G := raw_txt x.text.data.toList L (x.text.size : Int) (by rw [← Lib.size_eq])
        rw [txt_of] at G
        have C := Lib.hid (fun w h => raw_at E ⟨txt (x.text.data.toList ++ L), false⟩ (x.text.size : Int) w h)
        rw [G] at C
        have HE := Lib.hid hE
        have HXT : Hid (∀ w, BoxAt w K x → w.cell? ⟨K, 35, none⟩ = some (.string x.text)) := Lib.hid (fun w h => h.txt HX.out)
        clear h1 h2 h3 G hE hxn
        generalize txt (x.text.data.toList ++ L) = T1 at *
        generalize x.text = R at *
        have hEd : EyeAt w5.drew E ⟨T1, false⟩ := HE.out
        have hKE' : some K ≠ some E := by simpa using hKE
        go_wp2_with fail
        clear h0
        go_region_held3 (fun w' => w'.cell? ⟨K, 35, none⟩ = some (.string R)) (first | assumption | go_keep)
          ((go_at_call 18; (with_reducible refine (C.out _ hEd).mono ?_); rintro r w6 ⟨rfl, hE, hg6⟩; have h4' := HXT.out _ (hX.grown (gb_trans (gb_drewN (gb_refl _ (some E)) 1) hg6) hKE')))
        all_goals
          replace hb := hb.drew.trans (gb_toBelow hg6 HRo hb.drew.size)
          clear hg6 h4' h4 hX
          go_wp2_with fail
          go_roundw
          case rel => exact ⟨k + 1, by omega, by go_num, hb, by rw [← HL2.out]; exact hE⟩
          case measure => simp [intOf]; omega
      have hen : encI x = [] := by unfold encI; rw [if_neg hk0, if_neg hk1, if_neg hk2, if_neg hk3]
      rw [hen] at hE
      have k0 : ((x.kind : Int) == 0) = false := by rw [beq_eq_false_iff_ne]; omega
      have k1 : ((x.kind : Int) == 1) = false := by rw [beq_eq_false_iff_ne]; omega
      have k2 : ((x.kind : Int) == 2) = false := by rw [beq_eq_false_iff_ne]; omega
      have k3 : ((x.kind : Int) == 3) = false := by rw [beq_eq_false_iff_ne]; omega
      clear hen hk0 hk1 hk2 hk3
      rw [List.nil_append] at hE
      clear h1 h2 h3 h4
      go_wp2_with fail
      go_roundw
      case rel => exact ⟨k + 1, by omega, by go_num, hb, by rw [← HL2.out]; exact hE⟩
      case measure => simp [intOf]; omega
    · obtain rfl : k = n := by omega
      rw [HN.out, List.drop_length] at hE
      clear HA HOK
      go_wp2_with fail
      refine (done_at E _ _ hE true rfl).mono ?_
      rintro r w5 ⟨rfl, rfl⟩
      go_wp2_with fail
      refine (bad_at E _ _ hE).mono ?_
      rintro r w5 ⟨rfl, rfl⟩
      go_wp2_with fail
      refine (left_at E _ _ hE).mono ?_
      rintro r w5 ⟨rfl, rfl⟩
      have hz : (((txt (encL [])).size : Nat) : Int) = 0 := rfl
      go_wp2_with fail
      go_ret
      exact ⟨rfl, hb⟩
theorem puts_walk (a : Option Addr) (its : List It) (n c : Nat) (hn : n = its.length) (hl : n ≤ 4611686018427387904) (hok : ∀ x ∈ its, x.n < 9223372036854775808) (w : World) (hA : ItemsAt w a its) :
    Calls Try.prog 3 #[.slice a n c] w fun r w' => r = .returned (.bool true) ∧ Below w.heap.size w w' := by
  cases h : greatB its
  · exact puts_in a its n c hn h w hA hok
  · exact puts_out a its n c hn hl h w hA
end Go.Proofs.Ytjdhedebkpclmaa
