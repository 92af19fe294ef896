import Derived.Test.YthcebnfdapcllaaGreatDoorRBunQ27
import Derived.Shelf.Spec.BitsCarry
namespace Go.Proofs.YthcebnfdapcllaaGreatDoor.NN
open Go.RowKit
theorem add64 (x y c : Nat) (hc : c ≤ 1) (w : World) :
    (callFunc 132 #[.int .u64 (x : Int), .int .u64 (y : Int), .int .u64 (c : Int)]).run Tryz.prog w =
      .ok (.value (.tuple #[.int .u64 (((x + y + c) % 18446744073709551616 : Nat) : Int), .int .u64 (((x + y + c) / 18446744073709551616 : Nat) : Int)])) w := by
  rw [run_callFunc_extern Tryz.func132 (by kernel_rfl) (by kernel_rfl) (by kernel_rfl) (e := add64Entry) (by kernel_rfl), run_add64 x y c (by omega) (by omega) (by omega) (by omega)]
  simp only [Result.andThen]
  congr 5 <;> omega
set_option maxRecDepth 100000 in
set_option maxHeartbeats 400000 in
theorem add (x y : Nat) (hx : x < Nm.big) (hy : y < Nm.big) (w : World) :
    Calls Tryz.prog 118 #[.agg (numC x), .agg (numC y)] w fun e w' => e = .returned (.tuple #[.agg (numC ((x + y) % Nm.big)), .bool (decide (Nm.big ≤ x + y))]) ∧ Below w.heap.size w w' := by
  go_enter Tryz.func118, Tryz.ntmps118
  go_wp2_with fail
  generalize hw1 : World.alloc _ _ = w1
  have h0 : Acc w w1 w.heap.size (w.heap.size + 1) (w.heap.size + 1 + 1) (w.heap.size + 1 + 1 + 1) x y (cells4 fun _ => 0) := by
    rw [← hw1]; exact Acc.start w x y (cells4 fun _ => 0)
  clear hw1
  generalize hA : w.heap.size + 1 + 1 + 1 = O at *
  generalize hB : w.heap.size + 1 + 1 = R at *
  generalize hC : w.heap.size + 1 = B at *
  generalize hD : w.heap.size = A at *
  have h1 : A < B := by omega
  have h2 : B < R := by omega
  have h3 : R < O := by omega
  have hAO : A ≠ O := by omega
  have hBO : B ≠ O := by omega
  have hRO : R ≠ O := by omega
  have hO : w.heap.size ≤ O := by omega
  have HO := Lib.hid hO
  have hR : w.heap.size ≤ R := by omega
  have HR := Lib.hid hR
  have H1 := Lib.hid hAO
  have H2 := Lib.hid hBO
  have H3 := Lib.hid hRO
  clear hA hB hC hO hD hR h1 h2 h3 hAO hBO hRO
  go_loopw [7, 9] (fun c i wr => ∃ (k : Nat) (g : Nat → Nat), k ≤ 4 ∧ i = .int .i64 k ∧ c = .int .u64 (Nm.carry x y k : Nat) ∧ Acc w wr A B R O x y (cells4 g) ∧ Hid (∀ j, j < k → g j = Nm.wd (x + y) j)) (fun _ i _ => 4 - (intOf i).toNat)
  case atStart => exact ⟨0, fun _ => 0, by omega, rfl, by rw [Nm.carry_zero]; rfl, h0, Lib.hid fun j hj => by omega⟩
  case round =>
    obtain ⟨k, g, hk, rfl, rfl, hs, HG⟩ := hrel
    by_cases hlt : k < 4
    · have hcr := Nm.carry_le x y k
      have hadd := add64 (Nm.wd x k) (Nm.wd y k) (Nm.carry x y k) hcr
      simp only [← Nm.wd_add, ← Nm.carry_next] at hadd
      have ca := hs.a.num hlt
      have cb := hs.b.num hlt
      have co := hs.o.word hlt
      have fo := hs.o.free k
      go_wp2_with fail
      go_region
      go_wp2_with fail
      go_roundw
      case rel => exact ⟨k + 1, _, by omega, by go_num, rfl, (hs.setWord k (Nm.wd (x + y) k) hlt H1.out H2.out H3.out HO.out).drew, upd_next HG⟩
      case measure => simp [intOf]; omega
    · obtain rfl : k = 4 := by omega
      have e := cells4_done HG
      rw [e] at hs
      clear e
      go_wp2_with (first
        | (with_reducible refine num_load rfl _ rfl _ rfl _ hs.o rfl ?_)
        | (with_reducible refine num_store rfl _ _ rfl _ _ rfl rfl _ hs.r rfl ?_))
      refine bodyPost_ret (v := .tuple #[.agg (numC (x + y)), .bool (!decide ((Nm.carry x y 4 : Int) = 0))]) (num_results2 Tryz.results118 _ _ _ _ rfl rfl (hs.r.row _)) rfl ⟨?_, below_setRow hs.below HR.out _⟩
      rw [Nm.carry_four hx hy, numC_mod]
      exact congrArg (fun b => Ending.returned (.tuple #[.agg (numC (x + y)), .bool b])) (by rw [← decide_not]; exact decide_eq_decide.2 (by unfold Nm.big at *; omega))
end Go.Proofs.YthcebnfdapcllaaGreatDoor.NN
namespace Go.Proofs.YthcebnfdapcllaaGreatDoor.NN
open Go.RowKit
theorem sub64 (x y k : Nat) (hx : x < Nm.big) (hy : y < Nm.big) (hk : k < 4) (w : World) :
    (callFunc 148 #[.int .u64 (Nm.wd x k : Nat), .int .u64 (Nm.wd y k : Nat), .int .u64 (Nm.borrow x y k : Nat)]).run Tryz.prog w =
      .ok (.value (.tuple #[.int .u64 (Nm.wd (x + Nm.big - y) k : Nat), .int .u64 (Nm.borrow x y (k + 1) : Nat)])) w := by
  rw [Nm.wd_sub x y hx hy hk, Nm.borrow_next, run_callFunc_extern Tryz.func148 (by kernel_rfl) (by kernel_rfl) (by kernel_rfl) (e := sub64Entry) (by kernel_rfl), run_sub64 _ _ _ (Nm.borrow_le x y k)]
  rfl
set_option maxRecDepth 100000 in
set_option maxHeartbeats 400000 in
theorem sub (x y : Nat) (hx : x < Nm.big) (hy : y < Nm.big) (w : World) :
    Calls Tryz.prog 136 #[.agg (numC x), .agg (numC y)] w fun e w' => e = .returned (.tuple #[.agg (numC ((x + Nm.big - y) % Nm.big)), .bool (decide (x < y))]) ∧ Below w.heap.size w w' := by
  go_enter Tryz.func136, Tryz.ntmps136
  go_wp2_with fail
  generalize hw1 : World.alloc _ _ = w1
  have h0 : Acc w w1 w.heap.size (w.heap.size + 1) (w.heap.size + 1 + 1) (w.heap.size + 1 + 1 + 1) x y (cells4 fun _ => 0) := by
    rw [← hw1]; exact Acc.start w x y (cells4 fun _ => 0)
  clear hw1
  generalize hA : w.heap.size + 1 + 1 + 1 = O at *
  generalize hB : w.heap.size + 1 + 1 = R at *
  generalize hC : w.heap.size + 1 = B at *
  generalize hD : w.heap.size = A at *
  have h1 : A < B := by omega
  have h2 : B < R := by omega
  have h3 : R < O := by omega
  have hAO : A ≠ O := by omega
  have hBO : B ≠ O := by omega
  have hRO : R ≠ O := by omega
  have hO : w.heap.size ≤ O := by omega
  have HO := Lib.hid hO
  have hR : w.heap.size ≤ R := by omega
  have HR := Lib.hid hR
  have H1 := Lib.hid hAO
  have H2 := Lib.hid hBO
  have H3 := Lib.hid hRO
  clear hA hB hC hO hD hR h1 h2 h3 hAO hBO hRO
  go_loopw [7, 9] (fun c i wr => ∃ (k : Nat) (g : Nat → Nat), k ≤ 4 ∧ i = .int .i64 k ∧ c = .int .u64 (Nm.borrow x y k : Nat) ∧ Acc w wr A B R O x y (cells4 g) ∧ Hid (∀ j, j < k → g j = Nm.wd (x + Nm.big - y) j)) (fun _ i _ => 4 - (intOf i).toNat)
  case atStart => exact ⟨0, fun _ => 0, by omega, rfl, by rw [Nm.borrow_zero]; rfl, h0, Lib.hid fun j hj => by omega⟩
  case round =>
    obtain ⟨k, g, hk, rfl, rfl, hs, HG⟩ := hrel
    by_cases hlt : k < 4
    · have hcr := Nm.borrow_le x y k
      have hsub := sub64 x y k hx hy hlt
      have ca := hs.a.num hlt
      have cb := hs.b.num hlt
      have co := hs.o.word hlt
      have fo := hs.o.free k
      go_wp2_with fail
      go_region
      go_wp2_with fail
      go_roundw
      case rel => exact ⟨k + 1, _, by omega, by go_num, rfl, (hs.setWord k (Nm.wd (x + Nm.big - y) k) hlt H1.out H2.out H3.out HO.out).drew, upd_next HG⟩
      case measure => simp [intOf]; omega
    · obtain rfl : k = 4 := by omega
      have e := cells4_done HG
      rw [e] at hs
      clear e
      go_wp2_with (first
        | (with_reducible refine num_load rfl _ rfl _ rfl _ hs.o rfl ?_)
        | (with_reducible refine num_store rfl _ _ rfl _ _ rfl rfl _ hs.r rfl ?_))
      refine bodyPost_ret (v := .tuple #[.agg (numC (x + Nm.big - y)), .bool (!decide ((Nm.borrow x y 4 : Int) = 0))]) (num_results2 Tryz.results136 _ _ _ _ rfl rfl (hs.r.row _)) rfl ⟨?_, below_setRow hs.below HR.out _⟩
      rw [Nm.borrow_four hx hy, numC_mod]
      exact congrArg (fun b => Ending.returned (.tuple #[.agg (numC (x + Nm.big - y)), .bool b])) (by rw [← decide_not]; exact decide_eq_decide.2 (by split <;> omega))
end Go.Proofs.YthcebnfdapcllaaGreatDoor.NN
namespace Go.Proofs.YthcebnfdapcllaaGreatDoor.NN
open Go.RowKit
def numRow (xs : List Nat) : Array Value := (xs.flatMap fun x => (numC x).toList).toArray
def item (xs : List Nat) (k : Nat) : Nat := xs[k]?.getD 0
def sumTo (xs : List Nat) : Nat → Nat
  | 0 => 0
  | k + 1 => (sumTo xs k + item xs k) % Nm.big
def overTo (xs : List Nat) : Nat → Bool
  | 0 => false
  | k + 1 => overTo xs k || decide (Nm.big ≤ sumTo xs k + item xs k)
theorem numRow_get : ∀ (xs : List Nat) (k j : Nat), k < xs.length → j < 4 → (numRow xs)[4 * k + j]? = some (.int .u64 (Nm.wd (item xs k) j : Nat))
  | [], _, _, h, _ => by simp at h
  | x :: xs, 0, j, _, hj => by
    have : (numRow (x :: xs))[j]? = (numC x).toList[j]? := by
      simp only [numRow, List.flatMap_cons, List.getElem?_toArray]
      rw [List.getElem?_append_left (by simpa [numC_size] using hj)]
    rw [show 4 * 0 + j = j by omega, this]
    have := numC_get x hj
    simpa [item] using this
  | x :: xs, k + 1, j, h, hj => by
    have ih := numRow_get xs k j (by simpa using h) hj
    have : (numRow (x :: xs))[4 * (k + 1) + j]? = (numRow xs)[4 * k + j]? := by
      simp only [numRow, List.flatMap_cons, List.getElem?_toArray]
      rw [List.getElem?_append_right (by simp [numC_size]; omega)]
      congr 1
      simp [numC_size]; omega
    rw [this, ih]
    simp [item]
theorem numRow_range {w : World} {b : Nat} {xs : List Nat} {t : TypeId} (h : Has w b (numRow xs) t) {k : Nat} (hk : k < xs.length) : w.rangeAt b (4 * k) (numC (item xs k)).toList := fun j v hv => by
  have hj : j < 4 := by
    by_cases hj : j < 4
    · exact hj
    · rw [List.getElem?_eq_none (by simpa [numC_size] using hj)] at hv; cases hv
  rw [h.cell, numRow_get xs k j hk hj, ← hv]
  simpa using (numC_get (item xs k) hj).symm
theorem item_load {ops : Array Oper} {rest : List Oper} {o : Oper} {a : Act} {w : World} {Q : Exit → Act → World → Prop} (hgd : o.guard = none) (x : Operand) (ho : o.op = .load 26 x) (b k : Nat) (xs : List Nat) (hk : k < xs.length) (hx : a.eval x = .pointer (some ⟨b, k * 4, none⟩)) (hg : Has w b (numRow xs) 26)
    (h : wpList Tryz.prog ops Q rest (a.put o.dst (.agg (numC (item xs k)))) w) : wpList Tryz.prog ops Q (o :: rest) a w :=
  wpList_load_mid hgd 26 x ho b (k * 4) hx (numC (item xs k)).toList _ (by rw [Nat.mul_comm]; exact numRow_range hg hk) Tryz.underlying26 rfl infoNum (by rw [Array.toArray_toList]; exact h)
structure Sm (w wr : World) (b R O : Nat) (xs : List Nat) (s : Nat) : Prop where
  below : Below w.heap.size w wr
  l : Has wr b (numRow xs) 26
  r : Has wr R (numC 0) 26
  o : Has wr O (numC s) 26
theorem Sm.on {w wr w' : World} {b R O : Nat} {xs : List Nat} {s : Nat} (h : Sm w wr b R O xs s) (hb : Below wr.heap.size wr w') : Sm w w' b R O xs s :=
  ⟨h.below.trans (hb.mono h.below.size), h.l.on hb, h.r.on hb, h.o.on hb⟩
theorem Sm.new {w wr : World} {b R O : Nat} {xs : List Nat} {s : Nat} (h : Sm w wr b R O xs s) (o : Obj) (cs : Array Value) : Sm w ((wr.alloc o).setRow wr.heap.size cs) b R O xs s :=
  let h' := h.on ((Below.refl _ _).alloc (Nat.le_refl _) o)
  ⟨below_setRow h'.below (h.below.size) _, h'.l.otherRow _ _ (Nat.ne_of_lt h.l.lt), h'.r.otherRow _ _ (Nat.ne_of_lt h.r.lt), h'.o.otherRow _ _ (Nat.ne_of_lt h.o.lt)⟩
theorem Sm.put {w wr : World} {b R O : Nat} {xs : List Nat} {s : Nat} (h : Sm w wr b R O xs s) (s' : Nat) (hb : b ≠ O) (hR : R ≠ O) (hO : w.heap.size ≤ O) : Sm w (wr.setRow O (numC s')) b R O xs s' :=
  ⟨below_setRow h.below hO _, h.l.otherRow _ _ hb, h.r.otherRow _ _ hR, h.o.row _⟩
theorem item_lt {xs : List Nat} (h : ∀ x ∈ xs, x < Nm.big) (k : Nat) : item xs k < Nm.big := by
  unfold item
  by_cases hk : k < xs.length
  · rw [List.getElem?_eq_getElem hk]; exact h _ (List.getElem_mem hk)
  · rw [List.getElem?_eq_none (by omega)]; decide
theorem sumTo_lt (xs : List Nat) : ∀ k, sumTo xs k < Nm.big
  | 0 => show 0 < Nm.big by decide
  | k + 1 => Nat.mod_lt _ (show 0 < Nm.big by decide)
set_option maxRecDepth 100000 in
set_option maxHeartbeats 400000 in
theorem sum (b : Nat) (xs : List Nat) (hx : ∀ x ∈ xs, x < Nm.big) (n : Nat) (hn : n = xs.length) (hmax : n ≤ 1000) (w : World) (hL : Has w b (numRow xs) 26) :
    Calls Tryz.prog 100 #[.slice (some ⟨b, 0, none⟩) n n] w fun e w' => e = .returned (.tuple #[.agg (numC (sumTo xs n)), .bool (overTo xs n)]) ∧ Below w.heap.size w w' := by
  have HN := Lib.hid hn
  clear hn
  go_enter Tryz.func100, Tryz.ntmps100
  go_wp2_with fail
  generalize hw1 : World.alloc _ _ = w1
  have h0 : Sm w w1 b w.heap.size (w.heap.size + 1) xs 0 := by
    rw [← hw1]
    exact ⟨((Below.refl _ _).alloc (Nat.le_refl _) _).alloc (by simp) _, (hL.alloc _).alloc _, (Has.new _ _).alloc _, Has.new1 _ _ _⟩
  have hbl := hL.lt
  clear hw1 hL
  generalize hB : w.heap.size + 1 = O at *
  generalize hC : w.heap.size = R at *
  have HO : Hid (w.heap.size ≤ O) := Lib.hid (by omega)
  have HR : Hid (w.heap.size ≤ R) := Lib.hid (by omega)
  have H1 : Hid (b ≠ O) := Lib.hid (by omega)
  have H3 : Hid (R ≠ O) := Lib.hid (by omega)
  have HX := Lib.hid hx
  clear hB hC hbl hx
  go_loopw [5, 12] (fun ab i wr => ∃ k : Nat, k ≤ n ∧ i = .int .i64 k ∧ ab = .bool (overTo xs k) ∧ Sm w wr b R O xs (sumTo xs k)) (fun _ i _ => n - (intOf i).toNat)
  case atStart => exact ⟨0, by omega, rfl, rfl, h0⟩
  case round =>
    obtain ⟨k, hk, rfl, rfl, hs⟩ := hrel
    by_cases hlt : k < n
    · have hkx : k < xs.length := by rw [← HN.out]; exact hlt
      have HK := Lib.hid hkx
      clear hkx
      go_wp2_with (first
        | (with_reducible refine item_load rfl _ rfl b k xs HK.out rfl hs.l ?_)
        | (with_reducible refine num_store rfl _ _ rfl _ _ rfl rfl _ (Has.newz _) rfl ?_)
        | (with_reducible refine num_load rfl _ rfl _ rfl _ (hs.new _ _).o rfl ?_)
        | (with_reducible refine num_load rfl _ rfl _ rfl _ ((Has.newz _).row _) rfl ?_))
      refine (add _ _ (sumTo_lt _ _) (item_lt HX.out _) _).mono ?_
      rintro e w3 ⟨rfl, hb3⟩
      have hs3 := (hs.new _ _).on hb3
      clear hb3 hs
      obtain ⟨c, hc⟩ : ∃ c, c = overTo xs k := ⟨_, rfl⟩
      obtain ⟨s, hsd⟩ : ∃ s, s = (sumTo xs k + item xs k) % Nm.big := ⟨_, rfl⟩
      obtain ⟨d, hd⟩ : ∃ d, d = decide (Nm.big ≤ sumTo xs k + item xs k) := ⟨_, rfl⟩
      have e1 : sumTo xs (k + 1) = s := by rw [hsd]; rfl
      have e2 : overTo xs (k + 1) = (c || d) := by rw [hc, hd]; rfl
      rw [← hc, ← hsd, ← hd]
      have E1 := Lib.hid e1
      have E2 := Lib.hid e2
      clear hc hsd hd e1 e2
      rcases c with _ | _
      all_goals
        go_wp2_with (first
          | (with_reducible refine num_store rfl _ _ rfl _ _ rfl rfl _ (Has.newz _) rfl ?_)
          | (with_reducible refine num_load rfl _ rfl _ rfl _ ((Has.newz _).row _) rfl ?_)
          | (with_reducible refine num_store rfl _ _ rfl _ _ rfl rfl _ (hs3.new _ _).o rfl ?_))
        go_roundw
        case rel => exact ⟨k + 1, by omega, by go_num, by rw [E2.out]; simp, by rw [E1.out]; exact (hs3.new _ _).put _ H1.out H3.out HO.out⟩
        case measure => simp [intOf]; omega
    · obtain rfl : k = n := by omega
      go_wp2_with (first
        | (with_reducible refine num_load rfl _ rfl _ rfl _ hs.o rfl ?_)
        | (with_reducible refine num_store rfl _ _ rfl _ _ rfl rfl _ hs.r rfl ?_))
      exact bodyPost_ret (v := .tuple #[.agg (numC (sumTo xs k)), .bool (overTo xs k)]) (num_results2 Tryz.results100 _ _ _ _ rfl rfl (hs.r.row _)) rfl ⟨rfl, below_setRow hs.below HR.out _⟩
end Go.Proofs.YthcebnfdapcllaaGreatDoor.NN
