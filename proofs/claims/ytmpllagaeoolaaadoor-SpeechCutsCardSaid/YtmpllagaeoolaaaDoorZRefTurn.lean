import Derived.Test.YtmpllagaeoolaaaDoorRows
import Derived.Test.YtmpllagaeoolaaaDoorBunF
namespace Go.Proofs.YtmpllagaeoolaaaDoor
open Go.RowKit Mem Sha
attribute [local go_sem] Wd.not Wd.not' Wd.notSub Wd.add Wd.and Wd.or Wd.xor Wd.shl Wd.shr Wd.shl8 Wd.shr3 Wd.shr10 Wd.byte Wd.orByte

set_option maxHeartbeats 400000 in
theorem ref_right (x : BitVec 32) (k : Int) (h1 : 0 < k) (h2 : k < 32) (w : World) :
    Calls Tryd.prog 78 #[.int .u32 (Wd.n x), .int .u64 k] w fun e w' => e = .returned (.int .u32 (Wd.n (x.rotateRight k.toNat))) ∧ w = w' := by
  obtain ⟨n, rfl⟩ := Int.eq_ofNat_of_zero_le (Int.le_of_lt h1)
  go_enter Tryd.func78, Tryd.ntmps78
  go_wp2
  go_ret
  refine ⟨?_, rfl⟩
  rw [Int.toNat_natCast, ← Wd.rot_add x n (by omega) (by omega)]
  rfl
/-- an array of words by value, read at a place -/
theorem index_words (n : Nat) (t : TypeId) (hu : Tryd.prog.underlying t = some (.array n 106)) (f : Nat → W32) (i : Nat) (hi : i < n) (w : World) :
    (Instr.index t (.agg (words f n)) (.int .i64 (i : Int))).run Tryd.prog w = .ok (.int .u32 (Wd.n (f i))) w := by
  have hsz : (sizeOf 106).run Tryd.prog w = .ok 1 w := by kernel_rfl
  have hc : (words f n)[i]? = some (.int .u32 (Wd.n (f i))) := words_get f n i hi
  have hp : (part 106 (words f n) (i * 1)).run Tryd.prog w = .ok (.int .u32 (Wd.n (f i))) w := by
    simp [part, isAgg, run_underlying Tryd.underlying106, hc]
  simp only [Instr.index, Sem.run_bind, asIntOf, Sem.run_pure, Result.andThen_ok, run_underlying hu]
  rw [if_pos ⟨by omega, by omega⟩]
  simp only [Sem.run_bind, hsz, Result.andThen_ok, Int.toNat_natCast, hp]
set_option maxRecDepth 100000 in
set_option maxHeartbeats 1000000 in
theorem ref_k (i : Nat) (hi : i < 64) (w : World) :
    Calls Tryd.prog 79 #[.int .i64 (i : Int)] w fun e w' => e = .returned (.int .u32 (Wd.n (kAt i))) ∧ w = w' := by
  go_enter Tryd.func79, Tryd.ntmps79
  go_wp2_with (refine wpList_build rfl 108 _ rfl (by kernel_rfl) ?_; generalize hv : (Program.built _ _ _).getD _ = v; have hidx : ∀ w, (Instr.index 108 (.agg v) (.int .i64 (i : Int))).run Tryd.prog w = .ok (.int .u32 (Wd.n (kAt i))) w := (fun w => by rw [show v = words kAt 64 from by rw [← hv]; kernel_rfl]; exact index_words 64 _ Tryd.underlying108 kAt i hi w); clear hv)
  go_ret
  exact ⟨rfl, rfl⟩
end Go.Proofs.YtmpllagaeoolaaaDoor
