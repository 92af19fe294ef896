import Derived.Test.YtmemppkkchfphaaRefBit
import Derived.Test.YtmemppkkchfphaaNum2
import Derived.Test.YtmemppkkchfphaaNumMem2
import Derived.Test.YtmemppkkchfphaaNumEq
namespace Go.Proofs.Ytmemppkkchfphaa
open Go.RowKit

/-- 32 bytes as cells -/
def hashC (f : Nat → Nat) : Array Value := ((List.range 32).map fun i => Value.int .u8 (f i : Nat)).toArray
theorem hashC_get (f : Nat → Nat) {j : Nat} (h : j < 32) : (hashC f)[j]? = some (.int .u8 (f j : Nat)) := by simp [hashC, h]
theorem hashC_size (f : Nat → Nat) : (hashC f).size = 32 := by simp [hashC]
theorem hashC_one (f : Nat → Nat) : (hashC f).all (·.oneCell') = true := by
  rw [Array.all_eq_true_iff_forall_mem]
  intro v hv
  simp [hashC] at hv
  obtain ⟨i, _, rfl⟩ := hv
  rfl
theorem hashC_congr {f g : Nat → Nat} (h : ∀ j, j < 32 → f j = g j) : hashC f = hashC g := by
  unfold hashC
  congr 1
  exact List.map_congr_left fun i hi => by rw [h i (by simpa using hi)]
theorem hashC_set (f : Nat → Nat) (i x : Nat) : (hashC f).setIfInBounds i (.int .u8 (x : Nat)) = hashC (upd f i x) := by
  apply Array.ext_getElem?
  intro j
  rw [Array.getElem?_setIfInBounds]
  by_cases hj : j < 32
  · rw [hashC_get _ hj]
    by_cases hij : i = j
    · subst hij; simp [hj, upd, hashC]
    · rw [if_neg hij, hashC_get _ hj]
      have : j ≠ i := fun e => hij e.symm
      simp [upd, this]
  · have h1 : ∀ g, (hashC g)[j]? = none := fun g => by simp [hashC]; omega
    rw [h1, h1]
    by_cases hij : i = j
    · subst hij; simp [hashC_size, hj]
    · simp [hij]
theorem infoHash : (Try.prog.info? 28).map (·.size) = some 32 := by kernel_rfl
set_option maxRecDepth 100000 in
theorem idx_hash (f : Nat → Nat) {k : Nat} (hk : k < 32) (w : World) : (Instr.index 28 (.agg (hashC f)) (.int .i64 (k : Int))).run Try.prog w = .ok (.int .u8 (f k : Nat)) w := by
  obtain rfl | rfl | rfl | rfl | rfl | rfl | rfl | rfl | rfl | rfl | rfl | rfl | rfl | rfl | rfl | rfl | rfl | rfl | rfl | rfl | rfl | rfl | rfl | rfl | rfl | rfl | rfl | rfl | rfl | rfl | rfl | rfl : k = 0 ∨ k = 1 ∨ k = 2 ∨ k = 3 ∨ k = 4 ∨ k = 5 ∨ k = 6 ∨ k = 7 ∨ k = 8 ∨ k = 9 ∨ k = 10 ∨ k = 11 ∨ k = 12 ∨ k = 13 ∨ k = 14 ∨ k = 15 ∨ k = 16 ∨ k = 17 ∨ k = 18 ∨ k = 19 ∨ k = 20 ∨ k = 21 ∨ k = 22 ∨ k = 23 ∨ k = 24 ∨ k = 25 ∨ k = 26 ∨ k = 27 ∨ k = 28 ∨ k = 29 ∨ k = 30 ∨ k = 31 := by omega
  all_goals rfl
section
variable {w : World} {ops : Array Oper} {rest : List Oper} {o : Oper} {a : Act} {Q : Exit → Act → World → Prop}
theorem hash_load (hgd : o.guard = none) (x : Operand) (ho : o.op = .load 28 x) (g : Nat) (hx : a.eval x = .pointer (some ⟨g, 0, none⟩)) (f : Nat → Nat) (hg : Has w g (hashC f) 28)
    (h : wpList Try.prog ops Q rest (a.put o.dst (.agg (hashC f))) w) : wpList Try.prog ops Q (o :: rest) a w :=
  wpList_load_row hgd 28 x ho g hx 28 (hashC f) (0, 0) _ hg.out Try.underlying28 rfl (infoHash.trans (by rw [hashC_size])) h
theorem hash_store (hgd : o.guard = none) (x y : Operand) (ho : o.op = .store 28 x y) (g : Nat) (f : Nat → Nat) (hx : a.eval x = .pointer (some ⟨g, 0, none⟩)) (hy : a.eval y = .agg (hashC f)) (cs : Array Value) (hg : Has w g cs 28) (hs : cs.size = 32)
    (h : wpList Try.prog ops Q rest (a.put o.dst undef) (w.setRow g (hashC f))) : wpList Try.prog ops Q (o :: rest) a w :=
  wpList_store_row hgd 28 x y ho g (hashC f) hx hy 28 cs hg.out (infoHash.trans (by rw [hashC_size])) (by rw [hs, hashC_size]) (hashC_one f) h
end
theorem hash_results {w : World} {fn : Func} {p : Tmp} (h : fn.results = #[.cell p 28]) (tmps : Array Value) (g : Nat) (f : Nat → Nat) (hp : tmps.getD p undef = .pointer (some ⟨g, 0, none⟩)) (hg : Has w g (hashC f) 28) :
    (results fn tmps).run Try.prog w = .ok (.agg (hashC f)) w :=
  results_cell_row h tmps w g 28 (hashC f) (0, 0) _ hp hg.out Try.underlying28 rfl (infoHash.trans (by rw [hashC_size]))
theorem byteSize (w : World) : (sizeOf 5).run Try.prog w = .ok 1 w := by kernel_rfl
theorem eql_hash_same (f : Nat → Nat) (w : World) : (binOp .eql 28 (.agg (hashC f)) (.agg (hashC f))).run Try.prog w = .ok (.bool true) w := by
  have e : hashC f = ((((List.range 32).map fun i => (f i : Int))).map (Value.int .u8)).toArray := by unfold hashC; rw [List.map_map]; rfl
  rw [e, run_eql_ints w .u8 28 5 32 Try.underlying28 Try.underlying5 byteSize _ _ (by simp) (by simp)]; simp
/-- what stands while bytes are put into a number -/
structure Fh (w wr : World) (R O s : Nat) : Prop where
  below : Below w.heap.size w wr
  r : Has wr R (numC 0) 26
  o : Has wr O (numC s) 26
theorem Fh.put {w wr : World} {R O s : Nat} (h : Fh w wr R O s) (i s' : Nat) {v : Value} (hR : R ≠ O) (hO : w.heap.size ≤ O) (e : (numC s).setIfInBounds i v = numC s') : Fh w (wr.setCell ⟨O, i, none⟩ v) R O s' :=
  ⟨h.below.setCell hO _, h.r.other _ _ hR, by rw [← e]; exact h.o.set _⟩
theorem Fh.drew {w wr : World} {R O s : Nat} (h : Fh w wr R O s) : Fh w wr.drew R O s := ⟨h.below.drew, h.r, h.o⟩
theorem shl64 (v m : Nat) (hv : v < 256) (hm : m ≤ 56) : v <<< m < 18446744073709551616 := by
  rw [Nat.shiftLeft_eq]
  have h2 : 2 ^ m ≤ 2 ^ 56 := Nat.pow_le_pow_right (by decide) hm
  calc v * 2 ^ m ≤ 255 * 2 ^ 56 := Nat.mul_le_mul (by omega) h2
    _ < 18446744073709551616 := by decide
theorem orByte64 (u v m : Nat) (hu : u < 18446744073709551616) (hv : v < 256) (hm : m ≤ 56) : bits .or .u64 (u : Int) (IntKind.u64.wrap (IntKind.u64.wrap (v : Int) * 2 ^ m)) = ((u ||| v <<< m : Nat) : Int) := by
  have h := shl64 v m hv hm
  have e1 : IntKind.u64.wrap (v : Int) = (v : Int) := by rw [IntKind.wrap_u64]; omega
  have e2 : (v : Int) * 2 ^ m = ((v <<< m : Nat) : Int) := by rw [Nat.shiftLeft_eq]; simp
  have e3 : IntKind.u64.wrap ((v <<< m : Nat) : Int) = ((v <<< m : Nat) : Int) := by
    generalize v <<< m = n at h
    rw [IntKind.wrap_u64]; omega
  rw [e1, e2, e3, or64 _ _ hu h]
theorem numC_orByte (x i v : Nat) (hi : i < 32) (hv : v < 256) : (numC x).setIfInBounds (i / 8) (.int .u64 ((Nm.wd x (i / 8) ||| v <<< (8 * (i % 8)) : Nat) : Int)) = numC (x ||| v <<< (8 * i)) := by
  unfold numC
  rw [cells4_set _ _ _ (by omega)]
  apply cells4_congr
  intro j _
  rw [Nm.wd_orByte x v i j hv]
  unfold upd
  split
  · rename_i h; rw [h]
  · rfl
theorem byte64 (x k : Nat) : ((Nm.wd x (k / 8) : Nat) : Int) / 2 ^ (8 * (k % 8)) % 256 = (Nm.byteAt x k : Nat) := by
  have e : ((Nm.wd x (k / 8) : Nat) : Int) / 2 ^ (8 * (k % 8)) = ((Nm.wd x (k / 8) / 2 ^ (8 * (k % 8)) : Nat) : Int) := by simp
  rw [e, ← Nm.byteAt_wd]
  generalize Nm.wd x (k / 8) / 2 ^ (8 * (k % 8)) = n
  omega
/-- what stands while a number's bytes are put -/
structure Hs (w wr : World) (A R O x : Nat) (g : Nat → Nat) : Prop where
  below : Below w.heap.size w wr
  a : Has wr A (numC x) 26
  r : ∃ cs, Has wr R cs 28 ∧ cs.size = 32
  o : Has wr O (hashC g) 28
theorem Hs.put {w wr : World} {A R O x : Nat} {g : Nat → Nat} (h : Hs w wr A R O x g) (i v : Nat) (hA : A ≠ O) (hR : R ≠ O) (hO : w.heap.size ≤ O) : Hs w (wr.setCell ⟨O, i, none⟩ (.int .u8 (v : Nat))) A R O x (upd g i v) :=
  ⟨h.below.setCell hO _, h.a.other _ _ hA, let ⟨cs, h1, h2⟩ := h.r; ⟨cs, h1.other _ _ hR, h2⟩, by rw [← hashC_set]; exact h.o.set _⟩
def hz32 : Array Value := hashC fun _ => 0
end Go.Proofs.Ytmemppkkchfphaa
