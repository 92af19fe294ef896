/-
  DigestParts: the walk.
-/
import Derived.Test.YteachheacllblaaDoorLawDigParses
namespace Go.Proofs.YteachheacllblaaDoor
open Go.RowKit Mem Sha
theorem neq_self (l : List UInt8) (h : l.length = 32) (w : World) : (binOp .neq 24 (.agg (bytesV l)) (.agg (bytesV l))).run Tryd.prog w = .ok (.bool false) w := by
  have e : (binOp .neq 24 (.agg (bytesV l)) (.agg (bytesV l))).run Tryd.prog w = .ok (.bool (!(l == l))) w := by
    rw [run_neq_struct]
    have this : (Op.equalIn 10000 24 (.agg (bytesV l)) (.agg (bytesV l))).run Tryd.prog w = .ok (l == l) w :=
      run_equalIn_bytes (P := Tryd.prog) w 9998 24 5 32 Tryd.underlying24 Tryd.underlying5 size1 l l h h
    rw [this]
    rfl
  rw [e]; simp
theorem wp_neq {o : Oper} {a : Act} {w : World} {K : Act → World → Prop} {Q : Exit → Act → World → Prop} (t' : TypeId) (x y : Operand) (ho : o.op = .binOp .neq 24 x y t') (xs ys : Array Value) (v : Value) (hx : a.eval x = .agg xs) (hy : a.eval y = .agg ys)
    (hq : (binOp .neq 24 (.agg xs) (.agg ys)).run Tryd.prog w = .ok v w) (h : K (a.put o.dst v) w) : o.wp Tryd.prog a w K Q := by
  unfold Oper.wp execOp
  simp only [ho, hx, hy, Sem.run_bind, Sem.run_pure, run_eqGuard_agg w .neq 24 x y xs ys eqPlain, Result.andThen_ok, hq]
  exact h
theorem neq_g {ops : Array Oper} {rest : List Oper} {o : Oper} {a : Act} {w : World} {Q : Exit → Act → World → Prop} (hw : Region.wanted o (yielded ops a.tmps) = true) (t' : TypeId) (x y : Operand) (ho : o.op = .binOp .neq 24 x y t') (xs ys : Array Value) (v : Value) (hx : a.eval x = .agg xs) (hy : a.eval y = .agg ys)
    (hq : ∀ w, (binOp .neq 24 (.agg xs) (.agg ys)).run Tryd.prog w = .ok v w) (h : wpList Tryd.prog ops Q rest (a.put o.dst v) w) : wpList Tryd.prog ops Q (o :: rest) a w :=
  BigFrame.wpList_want hw fun _ hK => wp_neq t' x y ho xs ys v hx hy (hq w) (hK _ _ h)
/-- truth values lie where a slice says -/
def BoolsW (w : World) (a : Option Addr) (n : Nat) (B : Nat → Bool) : Prop :=
  0 < n → ∃ ab ao, a = some ⟨ab, ao, none⟩ ∧ ∀ i, i < n → w.cell? ⟨ab, ao + i, none⟩ = some (.bool (B i))
theorem BoolsW.below {w w1 : World} {a : Option Addr} {n : Nat} {B : Nat → Bool} (h : BoolsW w a n B) (hb : Below w.heap.size w w1) : BoolsW w1 a n B := fun h0 => by
  obtain ⟨ab, ao, ha, hc⟩ := h h0
  have hlt : ab < w.heap.size := block_lt_of_cell (hc 0 h0)
  exact ⟨ab, ao, ha, fun i hi => (hb.cell (p := ⟨ab, ao + i, none⟩) hlt).trans (hc i hi)⟩
set_option maxRecDepth 100000 in
set_option maxHeartbeats 2000000 in
theorem parts_walk (a : Option Addr) (ps : List ByteArray) (n c : Nat) (hn : n = ps.length) (hl : n ≤ 4611686018427387904) (hq : ∀ s ∈ ps, s.size ≤ 4611686018427387904) (a2 : Option Addr) (n2 c2 : Nat) (B : Nat → Bool) (hl2 : n2 ≤ 4611686018427387904)
    (w : World) (hT : Tab w) (hP : PartsW w a ps) (hA : BoolsW w a2 n2 B) :
    Calls Tryd.prog 4 #[.slice a n c, .slice a2 n2 c2] w fun e w' => e = .returned (.bool true) ∧ Below w.heap.size w w' := by
  have HN := Lib.hid hn
  have HQ := Lib.hid hq
  clear hn hq
  go_enter Tryd.func4, Tryd.ntmps4
  go_wp2_with fail
  refine (alive w hT).mono ?_
  rintro e w1 ⟨rfl, hb1⟩
  have hp1 := hP.below hb1
  have GT := Lib.hid hT
  have GP := Lib.hid hP
  have GA := Lib.hid hA
  clear hT hP hA
  go_wp2_with fail
  go_loop [5, 17] (fun v5 v17 => ∃ (k : Nat) (S : ByteArray), k ≤ n ∧ v17 = .int .i64 k ∧ v5 = .string S ∧ S.size ≤ 1024 ∧ (0 < k → n ≤ 20) ∧ Hid (S.data.toList = flat (ps.take k))) (fun _ i => n - (intOf i).toNat)
  case atStart => exact ⟨0, ⟨#[]⟩, by omega, rfl, rfl, by decide, fun h => absurd h (by omega), rfl⟩
  case round =>
    obtain ⟨k, S, hk, rfl, rfl, hS, h20, HS⟩ := hrel
    by_cases hlt : k < n
    · have hkp : k < ps.length := by rw [← HN.out]; exact hlt
      obtain ⟨ab, ao, rfl, hc⟩ := hp1 (by omega)
      have c1 := hc k hkp
      have hqs := HQ.out ps[k] (List.getElem_mem hkp)
      have hnx := flat_next ps k hkp
      generalize ps[k] = q at *
      have HX := Lib.hid hnx
      clear hc hnx hkp
      by_cases h20' : 20 < n
      · go_wp2_with fail
        go_ret
        exact ⟨rfl, hb1⟩
      · by_cases h1024 : 1024 < S.size + q.size
        · have t1 : decide ((20 : Int) < (n : Int)) = false := decide_eq_false (by omega)
          have t2 : decide ((1024 : Int) < (S.size : Int) + (q.size : Int)) = true := decide_eq_true (by omega)
          go_wp2_with fail
          go_ret
          exact ⟨rfl, hb1⟩
        · have t1 : decide ((20 : Int) < (n : Int)) = false := decide_eq_false (by omega)
          have t2 : decide ((1024 : Int) < (S.size : Int) + (q.size : Int)) = false := decide_eq_false (by omega)
          go_wp2_with fail
          go_round
          case rel => exact ⟨k + 1, S ++ q, by omega, by go_num, rfl, by rw [ByteArray.size_append]; omega, fun _ => by omega, by
            show _ = _
            rw [append_bytes2, HS.out, HX.out]⟩
          case measure => simp [intOf]; omega
    · obtain rfl : k = n := by omega
      have hall : S.data.toList = flat ps := by rw [HS.out, HN.out, List.take_length]
      have HALL := Lib.hid hall
      have hfl : (flat ps).length ≤ 1024 := by rw [← hall, ← Lib.size_eq]; exact hS
      have hk20 : k ≤ 20 := by
        by_cases h0 : 0 < k
        · exact h20 h0
        · omega
      clear hall HS h20 hlt hk
      go_wp2_with fail
      refine (new w1 (GT.out.below hb1)).mono ?_
      rintro e w2 ⟨rfl, hb2, hI⟩
      have hH := hb1.size
      have hg := GT.out.lt
      have hr1 : w1.heap.size ≠ 1 := by omega
      have hr2 : w1.heap.size ≠ 0 := by omega
      replace hb1 := hb1.trans (hb2.mono hb1.size)
      generalize w1.heap.size = H at *
      have GH := Lib.hid hH
      have G1 := Lib.hid hr1
      have G2 := Lib.hid hr2
      clear hb2 hp1 hH hg hr1 hr2
      go_wp2_with fail
      go_loopw [9, 39] (fun v9 v39 wr => ∃ (j : Nat) (M : ByteArray), j ≤ k ∧ v39 = .int .i64 j ∧ v9 = .string M ∧ Hid (M.data.toList = flat (ps.take j)) ∧ Below w.heap.size w wr ∧ Hid (HsI wr H (flat (ps.take j)))) (fun _ i _ => k - (intOf i).toNat)
      case atStart => exact ⟨0, ⟨#[]⟩, by omega, rfl, rfl, rfl, hb1, hI⟩
      case round =>
        clear hb1 hI
        obtain ⟨j, M, hj, rfl, rfl, HM, hbw, HI⟩ := hrel
        by_cases hlt : j < k
        · have hjp : j < ps.length := by rw [← HN.out]; exact hlt
          obtain ⟨ab, ao, rfl, hc⟩ := (GP.out.below hbw) (by omega)
          have c1 := hc j hjp
          have hnx := flat_next ps j hjp
          have hle : (flat (ps.take (j + 1))).length ≤ 1024 := Nat.le_trans (flat_le ps (j + 1)) hfl
          have hMq : (M ++ ps[j]).data.toList = flat (ps.take (j + 1)) := by rw [append_bytes2, HM.out, hnx]
          have hMs : (M ++ ps[j]).size ≤ 1024 := by rw [Lib.size_eq, hMq]; exact hle
          generalize ps[j] = q at *
          rw [ByteArray.size_append] at hMs
          have hM1 : M.size ≤ 1024 := by omega
          have hq1 : q.size ≤ 1024 := by omega
          rw [hnx, List.length_append] at hle
          have hfq : flat [q] = q.data.toList := flat_one q
          have hIa : HsI (wr.alloc (.cells #[.string q] 9)) H (flat (ps.take j)) := HI.out.below ((Below.refl _ _).alloc (Nat.le_refl _) _) HI.out.lt
          have hba : Below w.heap.size w (wr.alloc (.cells #[.string q] 9)) := hbw.alloc hbw.size _
          have hHlt := HI.out.lt
          have cW := write H (flat (ps.take j)) (some ⟨wr.heap.size, 0, none⟩) [q] 1 1 rfl _ (GT.out.below hba) G1.out G2.out (by rw [hfq]; omega) (by omega)
            (fun _ => ⟨wr.heap.size, 0, rfl, by omega, fun i hi => by
              obtain rfl : i = 0 := by simpa using hi
              simp⟩) hIa
          rw [hfq, ← hnx] at cW
          have CW := Lib.hid cW
          have HMQ := Lib.hid hMq
          clear cW hMq hc hnx hle hfq hIa hHlt hjp HM HI
          go_wp2_with fail
          refine CW.out.mono ?_
          rintro e w4 ⟨rfl, hg, hI4⟩
          have hb4 : Below w.heap.size w w4 := hba.trans (gb_toBelow hg GH.out hba.size)
          have HI4 := Lib.hid hI4
          clear hg CW hba hI4 c1 hbw
          by_cases hj2 : j < n2
          · obtain ⟨ab2, ao2, rfl, hc2⟩ := (GA.out.below hb4) (by omega)
            have c2 := hc2 j hj2
            clear hc2
            cases hB : B j
            · rw [hB] at c2
              go_wp2_with fail
              go_roundw
              case rel => exact ⟨j + 1, M ++ q, by omega, by go_num, rfl, HMQ, hb4, HI4⟩
              case measure => simp [intOf]; omega
            · rw [hB] at c2
              have cS := sum H (flat (ps.take (j + 1))) w4 (GT.out.below hb4) (by have := flat_le ps (j + 1); omega) HI4.out
              have cR := ref_of (M ++ q) (by rw [ByteArray.size_append]; omega)
              rw [HMQ.out] at cR
              have qn := neq_self (sha (flat (ps.take (j + 1)))) (sha_length _)
              have CS := Lib.hid cS
              have CR := Lib.hid cR
              clear cS cR
              generalize bytesV (sha (flat (ps.take (j + 1)))) = V at *
              go_wp2_with fail
              refine CS.out.mono ?_
              rintro e w5 ⟨rfl, hb5⟩
              have HI5 := Lib.hid (HI4.out.below hb5 HI4.out.lt)
              replace hb4 := hb4.trans (hb5.mono hb4.size)
              clear hb5 CS c2
              go_wp2_with fail
              refine (CR.out _).mono ?_
              rintro e w6 ⟨rfl, hb6⟩
              have HI6 := Lib.hid (HI5.out.below hb6 HI5.out.lt)
              replace hb4 := hb4.trans (hb6.mono hb4.size)
              clear hb6 CR
              go_wp2_with (with_reducible refine neq_g (by with_unfolding_all rfl) _ _ _ rfl _ _ _ rfl rfl qn ?_)
              go_roundw
              case rel => exact ⟨j + 1, M ++ q, by omega, by go_num, rfl, HMQ, hb4, HI6⟩
              case measure => simp [intOf]; omega
          · go_wp2_with fail
            go_roundw
            case rel => exact ⟨j + 1, M ++ q, by omega, by go_num, rfl, HMQ, hb4, HI4⟩
            case measure => simp [intOf]; omega
        · obtain rfl : j = k := by omega
          have hI : HsI wr H (flat ps) := by have := HI.out; rwa [HN.out, List.take_length] at this
          clear HI HM hlt hj
          go_wp2_with fail
          refine (write_nil _ _ _ _).mono ?_
          rintro e w3 ⟨rfl, rfl⟩
          have hIa := hI.below (w' := wr.alloc (.cells #[.string ⟨#[97]⟩] 9)) ((Below.refl _ _).alloc (Nat.le_refl _) _) hI.lt
          have hba : Below w.heap.size w (wr.alloc (.cells #[.string ⟨#[97]⟩] 9)) := hbw.alloc hbw.size _
          clear hI hbw
          generalize World.alloc _ _ = w4 at *
          have hSs : S.size ≤ 1024 := by rw [Lib.size_eq, HALL.out]; exact hfl
          have c1 := fun w hT hI => sum H (flat ps) w hT (by omega) hI
          have c2 : ∀ a w, Tab w → PartsW w a [S] → Calls Tryd.prog 9 #[.slice a 1 1] w fun e w' => e = .returned (.agg (bytesV (sha (flat ps)))) ∧ Below w.heap.size w w' := fun a w hT hP => by
            have := of a [S] 1 1 rfl w hT (by rw [flat_one, HALL.out]; omega) (by omega) hP
            rwa [flat_one, HALL.out] at this
          have c3 : ∀ w, Tab w → PartsW w a ps → Calls Tryd.prog 9 #[.slice a j c] w fun e w' => e = .returned (.agg (bytesV (sha (flat ps)))) ∧ Below w.heap.size w w' := fun w hT hP => of a ps j c HN.out w hT (by omega) (by omega) hP
          have c4 : ∀ w, Tab w → PartsW w a ps → Calls Tryd.prog 11 #[.slice a j c] w fun e w' => e = .returned (.agg (bytesV (sha (sha (flat ps))))) ∧ Below w.heap.size w w' := fun w hT hP => double a ps j c HN.out w hT (by omega) (by omega) hP
          have c5 : ∀ a w, Tab w → PartsW w a [S] → Calls Tryd.prog 11 #[.slice a 1 1] w fun e w' => e = .returned (.agg (bytesV (sha (sha (flat ps))))) ∧ Below w.heap.size w w' := fun a w hT hP => by
            have := double a [S] 1 1 rfl w hT (by rw [flat_one, HALL.out]; omega) (by omega) hP
            rwa [flat_one, HALL.out] at this
          have c6 := sum_nil
          rw [hz32_list] at c6
          have q1 := eql_self (sha (flat ps)) (sha_length _)
          have q2 := eql_self (sha (sha (flat ps))) (sha_length _)
          have q3 := eql_zero32
          have K1 := Lib.hid c1
          have K2 := Lib.hid c2
          have K3 := Lib.hid c3
          have K4 := Lib.hid c4
          have K5 := Lib.hid c5
          have K6 := Lib.hid c6
          clear c1 c2 c3 c4 c5 c6 HALL hfl hSs
          generalize bytesV (sha (sha (flat ps))) = V2 at *
          generalize bytesV (sha (flat ps)) = V1 at *
          go_wp2_with fail
          refine (K1.out _ (GT.out.below hba) hIa).mono ?_
          rintro e w5 ⟨rfl, hb5⟩
          replace hba := hba.trans (hb5.mono hba.size)
          clear hb5 hIa
          go_wp2_with fail
          have hs6 : Below w.heap.size w (w5.alloc (.cells #[.string S] 9)) := hba.alloc hba.size _
          refine (K2.out _ _ (GT.out.below hs6) (PartsW.one (by simp))).mono ?_
          rintro e w6 ⟨rfl, hb6⟩
          replace hba := hs6.trans (hb6.mono hs6.size)
          clear hb6 hs6
          go_wp2_with (with_reducible refine eql_g (by with_unfolding_all rfl) _ _ _ rfl _ _ _ rfl rfl q1 ?_)
          refine (K3.out _ (GT.out.below hba) (GP.out.below hba)).mono ?_
          rintro e w7 ⟨rfl, hb7⟩
          replace hba := hba.trans (hb7.mono hba.size)
          clear hb7
          go_wp2_with fail
          have hs8 : Below w.heap.size w (w7.alloc (.cells #[.string S] 9)) := hba.alloc hba.size _
          refine (K2.out _ _ (GT.out.below hs8) (PartsW.one (by simp))).mono ?_
          rintro e w8 ⟨rfl, hb8⟩
          replace hba := hs8.trans (hb8.mono hs8.size)
          clear hb8 hs8
          go_wp2_with (with_reducible refine eql_g (by with_unfolding_all rfl) _ _ _ rfl _ _ _ rfl rfl q1 ?_)
          refine (K4.out _ (GT.out.below hba) (GP.out.below hba)).mono ?_
          rintro e w9 ⟨rfl, hb9⟩
          replace hba := hba.trans (hb9.mono hba.size)
          clear hb9
          go_wp2_with fail
          have hs10 : Below w.heap.size w (w9.alloc (.cells #[.string S] 9)) := hba.alloc hba.size _
          refine (K5.out _ _ (GT.out.below hs10) (PartsW.one (by simp))).mono ?_
          rintro e w10 ⟨rfl, hb10⟩
          replace hba := hs10.trans (hb10.mono hs10.size)
          clear hb10 hs10
          go_wp2_with (with_reducible refine eql_g (by with_unfolding_all rfl) _ _ _ rfl _ _ _ rfl rfl q2 ?_)
          refine (K6.out _).mono ?_
          rintro e w11 ⟨rfl, hb11⟩
          replace hba := hba.trans (hb11.mono hba.size)
          clear hb11
          go_wp2_with (with_reducible refine eql_gz (by with_unfolding_all rfl) _ _ _ rfl _ _ _ _ _ rfl rfl rfl hz32_lit q3 ?_)
          go_ret
          exact ⟨rfl, hba⟩
end Go.Proofs.YteachheacllblaaDoor
