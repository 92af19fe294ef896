/-
  Two numbers are the same just if their words are.
-/
import Derived.Test.YtmemppkkchfphaaNumMem
namespace Go.Proofs.Ytmemppkkchfphaa
open Go.RowKit

theorem all_range_int : ∀ (xs ys : List Int), xs.length = ys.length → ((List.range xs.length).all fun i => xs.getD i 0 == ys.getD i 0) = (xs == ys)
  | [], [], _ => rfl
  | x :: xs, y :: ys, h => by
    have ih := all_range_int xs ys (by simpa using h)
    rw [List.length_cons, List.range_succ_eq_map, List.all_cons, List.all_map]
    simp only [List.getD_cons_zero, Function.comp_def, List.getD_cons_succ, ih]
    simp [List.cons_beq_cons]
  | [], _ :: _, h => by simp at h
  | _ :: _, [], h => by simp at h
section
variable {P : Program} (w : World)
theorem run_equalIn_ints (d : Nat) (k : IntKind) (t e : TypeId) (n : Nat) (ht : P.underlying t = some (.array n e)) (he : P.underlying e = some (.int k)) (hsz : ∀ w, (sizeOf e).run P w = .ok 1 w)
    (xs ys : List Int) (hx : xs.length = n) (hy : ys.length = n) :
    (Op.equalIn (d + 2) t (.agg (xs.map (Value.int k)).toArray) (.agg (ys.map (Value.int k)).toArray)).run P w = .ok (xs == ys) w := by
  rw [← all_range_int xs ys (hx.trans hy.symm), hx, List.range_eq_range', Op.equalIn]
  simp only [Sem.run_bind, run_underlying ht, Result.andThen_ok, hsz, Std.Legacy.Range.forIn_eq_forIn_range', Std.Legacy.Range.size, Nat.sub_zero, Nat.add_sub_cancel, Nat.div_one]
  have hl : ∀ i ∈ List.range' 0 n 1, i < n := fun i hi => by simpa using (List.mem_range'_1.1 hi).2
  generalize List.range' 0 n 1 = l at hl ⊢
  induction l with
  | nil => simp
  | cons i l ih =>
    have hi : i < n := hl i (by simp)
    have px : (part e (xs.map (Value.int k)).toArray (i * 1)).run P w = .ok (Value.int k (xs.getD i 0)) w := by
      simp [part, isAgg, run_underlying he, List.getD, List.getElem?_eq_getElem (show i < xs.length by omega)]
    have py : (part e (ys.map (Value.int k)).toArray (i * 1)).run P w = .ok (Value.int k (ys.getD i 0)) w := by
      simp [part, isAgg, run_underlying he, List.getD, List.getElem?_eq_getElem (show i < ys.length by omega)]
    have pe : (Op.equalIn (d + 1) e (Value.int k (xs.getD i 0)) (Value.int k (ys.getD i 0))).run P w = .ok (xs.getD i 0 == ys.getD i 0) w :=
      run_equalIn_int w d e k k _ _ he
    simp only [List.forIn_cons, Sem.run_bind, px, py, pe, Result.andThen_ok, List.all_cons]
    cases hb : (xs.getD i 0 == ys.getD i 0)
    · simp
    · simp only [Bool.not_true, Bool.false_eq_true, if_false, Sem.run_pure, Result.andThen_ok, Bool.true_and]
      exact ih fun j hj => hl j (by simp [hj])
theorem run_eql_ints (k : IntKind) (t e : TypeId) (n : Nat) (ht : P.underlying t = some (.array n e)) (he : P.underlying e = some (.int k)) (hsz : ∀ w, (sizeOf e).run P w = .ok 1 w)
    (xs ys : List Int) (hx : xs.length = n) (hy : ys.length = n) :
    (binOp .eql t (.agg (xs.map (Value.int k)).toArray) (.agg (ys.map (Value.int k)).toArray)).run P w = .ok (.bool (xs == ys)) w := by
  rw [run_eql_struct, run_equalIn_ints w 9998 k t e n ht he hsz xs ys hx hy]
  rfl
theorem run_neq_ints (k : IntKind) (t e : TypeId) (n : Nat) (ht : P.underlying t = some (.array n e)) (he : P.underlying e = some (.int k)) (hsz : ∀ w, (sizeOf e).run P w = .ok 1 w)
    (xs ys : List Int) (hx : xs.length = n) (hy : ys.length = n) :
    (binOp .neq t (.agg (xs.map (Value.int k)).toArray) (.agg (ys.map (Value.int k)).toArray)).run P w = .ok (.bool (!(xs == ys))) w := by
  have h : (Op.equalIn Op.maxDepth t (.agg (xs.map (Value.int k)).toArray) (.agg (ys.map (Value.int k)).toArray)).run P w = .ok (xs == ys) w := run_equalIn_ints w 9998 k t e n ht he hsz xs ys hx hy
  simp only [binOp, Sem.run_bind, Op.equal, h, Result.andThen_ok, Sem.run_pure]
end
theorem wordSize (w : World) : (sizeOf 24).run Try.prog w = .ok 1 w := by kernel_rfl
def wds (x : Nat) : List Int := [(Nm.wd x 0 : Nat), (Nm.wd x 1 : Nat), (Nm.wd x 2 : Nat), (Nm.wd x 3 : Nat)]
theorem numC_wds (x : Nat) : numC x = ((wds x).map (Value.int .u64)).toArray := rfl
theorem wds_eq {x y : Nat} (hx : x < Nm.big) (hy : y < Nm.big) : (wds x == wds y) = decide (x = y) := by
  rw [Bool.eq_iff_iff, beq_iff_eq, decide_eq_true_iff]
  constructor
  · intro h
    simp only [wds, List.cons.injEq, and_true, Int.ofNat_inj] at h
    obtain ⟨h0, h1, h2, h3⟩ := h
    refine Nm.wd_inj hx hy fun i hi => ?_
    rcases Nm.four hi with rfl | rfl | rfl | rfl <;> assumption
  · intro h; rw [h]
theorem eql_num {x y : Nat} (hx : x < Nm.big) (hy : y < Nm.big) (w : World) : (binOp .eql 26 (.agg (numC x)) (.agg (numC y))).run Try.prog w = .ok (.bool (decide (x = y))) w := by
  rw [numC_wds, numC_wds, run_eql_ints w .u64 26 24 4 Try.underlying26 Try.underlying24 wordSize _ _ rfl rfl, wds_eq hx hy]
theorem neq_num {x y : Nat} (hx : x < Nm.big) (hy : y < Nm.big) (w : World) : (binOp .neq 26 (.agg (numC x)) (.agg (numC y))).run Try.prog w = .ok (.bool (!decide (x = y))) w := by
  rw [numC_wds, numC_wds, run_neq_ints w .u64 26 24 4 Try.underlying26 Try.underlying24 wordSize _ _ rfl rfl, wds_eq hx hy]
end Go.Proofs.Ytmemppkkchfphaa
