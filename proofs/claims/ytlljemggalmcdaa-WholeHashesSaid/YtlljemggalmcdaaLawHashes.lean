import Derived.Test.YtlljemggalmcdaaWAlive
import Derived.Test.YtlljemggalmcdaaWHash
namespace Go.Proofs.Ytlljemggalmcdaa
open Go.RowKit
theorem eql_same' (z : Nat) (w : World) : (binOp .eql 24 (.agg (numC z)) (.agg (numC z))).run Try.prog w = .ok (.bool true) w := by
  rw [numC_wds, run_eql_ints w .u64 24 22 4 Try.underlying24 Try.underlying22 wordSize _ _ rfl rfl]; simp
theorem quiet_load_hash {C : World → Prop} {a : Act} {o : Oper} {K : Act → Prop} (x : Operand) (ho : o.op = .load 46 x) (g : Nat) (hx : a.eval x = .pointer (some ⟨g, 0, none⟩)) (f : Nat → Nat) (hC : ∀ w', C w' → Has w' g (hashC f) 46)
    (hk : K (a.put o.dst (.agg (hashC f)))) : o.quiet Try.prog a C K :=
  ⟨_, fun w' hw' => by
    unfold Oper.quietAt
    have hl : (loadVar 46 ⟨g, 0, none⟩).run Try.prog w' = .ok (.agg (hashC f)) w' := run_loadVar_row w' g 46 46 (hashC f) (0, 0) _ (hC w' hw').out Try.underlying46 rfl (infoHash.trans (by rw [hashC_size]))
    have : (execOp a.eval o).run Try.prog w' = .ok (.value (.agg (hashC f))) w' := by
      unfold execOp
      simp only [ho, hx, Instr.loadAt, Instr.sureAddr, Sem.run_bind, Sem.run_pure, Result.andThen_ok, hl]
    rw [this]
    exact ⟨rfl, rfl⟩, hk⟩
structure Lh (w wr : World) (bH bA bN a n : Nat) (f : Nat → Nat) : Prop where
  below : Below w.heap.size w wr
  h : Has wr bH (hashC f) 46
  a : Has wr bA (numC a) 24
  n : Has wr bN (numC n) 24
theorem Lh.on {w wr w' : World} {bH bA bN a n : Nat} {f : Nat → Nat} (h : Lh w wr bH bA bN a n f) (hb : Below wr.heap.size wr w') : Lh w w' bH bA bN a n f :=
  ⟨h.below.trans (hb.mono h.below.size), h.h.on hb, h.a.on hb, h.n.on hb⟩
set_option maxRecDepth 100000 in
set_option maxHeartbeats 1000000 in
theorem hashes_walk (f : Nat → Nat) (x : Nat) (hf : ∀ i, f i < 256) (hx : x < Nm.big) (w : World) :
    Calls Try.prog 8 #[.agg (hashC f), .agg (numC x)] w fun e w' => e = .returned (.bool true) ∧ Below w.heap.size w w' := by
  have cFrom := fun w => fromHash f hf w
  obtain ⟨n, hn⟩ : ∃ n, n = Nm.unbytes f 32 := ⟨_, rfl⟩
  have cHash := fun w => hash n w
  have cHash2 := fun w => hash x w
  have cBack := fun w => fromHash (Nm.byteAt x) (Nm.byteAt_lt x) w
  have hby : ∀ k, k < 32 → Nm.byteAt n k = f k := fun k hk => by rw [hn]; exact Nm.byteAt_unbytes f hf hk
  rw [hashC_congr hby] at cHash
  rw [Nm.unbytes_byteAt hx] at cBack
  rw [← hn] at cFrom
  have HBY := Lib.hid hby
  have KFrom := Lib.hid cFrom
  have KHash := Lib.hid cHash
  have KHash2 := Lib.hid cHash2
  have KBack := Lib.hid cBack
  clear cFrom cHash cHash2 cBack hby hn hf hx
  go_enter Try.func8, Try.ntmps8
  go_upto_region 1 with fail
  generalize hw1 : World.alloc _ _ = w1
  have hbel : Below w.heap.size w w1 := by rw [← hw1]; exact ((Below.refl _ _).alloc (Nat.le_refl _) _).alloc (by simp) _
  have hH : Has w1 w.heap.size (hashC f) 46 := by rw [← hw1]; exact (Has.new _ _).alloc _
  have hA : Has w1 (w.heap.size + 1) (numC x) 24 := by rw [← hw1]; exact Has.new1 _ _ _
  clear hw1
  generalize w.heap.size + 1 = b_A at hA ⊢
  generalize w.heap.size = b_H at hH ⊢
  go_wp2_with fail
  refine (alive _).mono ?_
  rintro e v1 ⟨rfl, hb1⟩
  replace hH := hH.on hb1
  replace hA := hA.on hb1
  replace hbel := hbel.trans (hb1.mono hbel.size)
  clear hb1
  go_wp2_with (with_reducible refine hash_load rfl _ rfl _ rfl _ hH ?_)
  refine (KFrom.out _).mono ?_
  rintro e v2 ⟨rfl, hb2⟩
  replace hH := hH.on hb2
  replace hA := hA.on hb2
  replace hbel := hbel.trans (hb2.mono hbel.size)
  clear hb2
  go_upto_region 4 with (with_reducible refine num_store rfl _ _ rfl _ _ rfl rfl _ (Has.newz _) rfl ?_)
  generalize hw3 : World.setRow _ _ _ = v3
  have hb3 : Below v2.heap.size v2 v3 := by rw [← hw3]; exact below_setRow ((Below.refl _ _).alloc (Nat.le_refl _) _) (Nat.le_refl _) _
  have hN : Has v3 v2.heap.size (numC n) 24 := by rw [← hw3]; exact (Has.newz _).row _
  replace hH := hH.on hb3
  replace hA := hA.on hb3
  replace hbel := hbel.trans (hb3.mono hbel.size)
  clear hw3 hb3
  generalize v2.heap.size = b_N at hN ⊢
  have h0 : Lh w v3 b_H b_A b_N x n f := ⟨hbel, hH, hA, hN⟩
  clear hbel hH hA hN
  go_wp2_with fail
  go_loopw [6] (fun i wr => ∃ k : Nat, k ≤ 32 ∧ i = .int .i64 k ∧ Lh w wr b_H b_A b_N x n f) (fun i _ => 32 - (intOf i).toNat)
  case atStart => exact ⟨0, by omega, rfl, h0⟩
  case round =>
    obtain ⟨k, hk, rfl, hs⟩ := hrel
    by_cases hlt : k < 32
    · have ca := hs.n.num (j := k / 8) (by omega)
      have ch := (hs.h.cell k).trans (hashC_get f hlt)
      have hb := byte64 n k
      rw [HBY.out k hlt] at hb
      have hq : (((Nm.wd n (k / 8) : Nat) : Int) / 2 ^ (8 * (k % 8)) % 256 != (f k : Int)) = false := by rw [hb]; simp
      clear hb
      go_wp2_with fail
      go_quiet (fail)
      have hs2 := hs.on (below_drewN (Below.refl _ wr) nq)
      go_wp2_with fail
      go_roundw
      case rel => exact ⟨k + 1, by omega, by go_num, hs2⟩
      case measure => simp [intOf]; omega
    · obtain rfl : k = 32 := by omega
      go_wp2_with fail
      have hq := eql_same'
      have hq2 := eql_hash_same
      refine wp_region_quiet_below (by kernel_rfl) (by kernel_rfl) ?_
      repeat (first
        | (go_big_quiet_want; (with_reducible refine quiet_load_num _ rfl _ rfl _ hs.n.cls ?_); (simp only [Act.put, List.setIfInBounds_toArray, List.set_cons_zero, List.set_cons_succ]); go_big_quiet_on)
        | (go_big_quiet_want; (with_reducible refine quiet_load_num _ rfl _ rfl _ hs.a.cls ?_); (simp only [Act.put, List.setIfInBounds_toArray, List.set_cons_zero, List.set_cons_succ]); go_big_quiet_on)
        | (go_big_quiet_want; (with_reducible refine quiet_load_hash _ rfl _ rfl _ hs.h.cls ?_); (simp only [Act.put, List.setIfInBounds_toArray, List.set_cons_zero, List.set_cons_succ]); go_big_quiet_on)
        | go_big_quiet_step (first | (go_at_call 34; (with_reducible exact Calls.regrown_of (KHash.out _))) | (go_at_call 34; (with_reducible exact Calls.regrown_of (KHash2.out _))) | (go_at_call 33; (with_reducible exact Calls.regrown_of (KBack.out _)))))
      refine wpQuiet_nil ?_
      intro _ hw'
      obtain ⟨p, hw''⟩ := hw'
      subst hw''
      have hs2 := hs.on (below_regrown wr p.d p.os)
      clear hq hq2
      go_wp2_with fail
      go_ret
      exact ⟨rfl, hs2.below⟩
end Go.Proofs.Ytlljemggalmcdaa
