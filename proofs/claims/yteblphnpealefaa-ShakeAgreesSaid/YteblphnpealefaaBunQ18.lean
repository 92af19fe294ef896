/-
  Texts of this seat, one behind the other.
-/
import Derived.Test.YteblphnpealefaaZSpRoom
import Derived.Test.YteblphnpealefaaBunQ17
import Derived.Test.YteblphnpealefaaBunQ13
import Derived.Test.YteblphnpealefaaBunQ14
import Derived.Test.YteblphnpealefaaBunQ10
/-
  What a message in memory says; when it can be, part by part.
-/
namespace Go.Proofs.Yteblphnpealefaa
open Go.RowKit Mem Sc
/-- the cells m, with what their slices lead to, are the message M -/
structure Lies (w : World) (m : Mm) (M : Ms) : Prop where
  kind : m.kind = M.kind
  ver : m.ver = M.ver
  serv : m.serv = M.serv
  height : m.height = M.height
  nb : m.nb = M.nb
  stop : m.stop = M.stop
  n1 : m.ns.n = M.names.length
  l1 : m.ns.n ≤ 4611686018427387904
  names : NamesAt w m.ns.a M.names
  n2 : m.hs.n = M.heads.length
  l2 : m.hs.n ≤ 4611686018427387904
  heads : HeadersAt w m.hs.a M.heads
  ok : M.ok
theorem Lies.mok {w : World} {m : Mm} {M : Ms} (h : Lies w m M) : m.ok := by
  unfold Mm.ok; rw [h.stop]; exact h.ok.2.1
theorem Lies.below {w w' : World} {m : Mm} {M : Ms} (h : Lies w m M) (hb : Below w.heap.size w w') : Lies w' m M :=
  ⟨h.kind, h.ver, h.serv, h.height, h.nb, h.stop, h.n1, h.l1, h.names.below hb, h.n2, h.l2, h.heads.below hb, h.ok⟩
theorem names_nil (w : World) (a : Option Addr) : NamesAt w a [] := fun h => absurd h (by simp)
theorem heads_nil (w : World) (a : Option Addr) : HeadersAt w a [] := fun h => absurd h (by simp)
theorem Lies.bare {w : World} {m : Mm} {M : Ms} (h : Lies w m M) : Lies w m.bare M.bare := by
  obtain ⟨k, ve, se, he, nb, ns, st, hs⟩ := m
  obtain ⟨K, VE, SE, HE, NB, NS, ST, HS⟩ := M
  obtain ⟨h0, h1, h2, h3, h4, h5, h6, h7, h8, h9, h10, h11, h12⟩ := h
  simp only at h0 h1 h2 h3 h4 h5
  subst h0 h1 h2 h3 h4 h5
  have hok := bare_ok h12
  unfold Mm.bare Ms.bare at *
  simp only at *
  by_cases k1 : k = 1
  · simp only [if_pos k1] at *
    exact ⟨rfl, rfl, rfl, rfl, rfl, rfl, rfl, Nat.zero_le _, names_nil _ _, rfl, Nat.zero_le _, heads_nil _ _, hok⟩
  by_cases k3 : k = 3
  · simp only [if_neg k1, if_pos k3] at *
    exact ⟨rfl, rfl, rfl, rfl, rfl, rfl, h6, h7, h8, rfl, Nat.zero_le _, heads_nil _ _, hok⟩
  by_cases k4 : k = 4
  · simp only [if_neg k1, if_neg k3, if_pos k4] at *
    exact ⟨rfl, rfl, rfl, rfl, rfl, rfl, rfl, Nat.zero_le _, names_nil _ _, h9, h10, h11, hok⟩
  by_cases k5 : k = 5
  · simp only [if_neg k1, if_neg k3, if_neg k4, if_pos k5] at *
    exact ⟨rfl, rfl, rfl, rfl, rfl, rfl, h6, h7, h8, rfl, Nat.zero_le _, heads_nil _ _, hok⟩
  by_cases k6 : k = 6 ∨ k = 7
  · simp only [if_neg k1, if_neg k3, if_neg k4, if_neg k5, if_pos k6] at *
    exact ⟨rfl, rfl, rfl, rfl, rfl, rfl, rfl, Nat.zero_le _, names_nil _ _, rfl, Nat.zero_le _, heads_nil _ _, hok⟩
  simp only [if_neg k1, if_neg k3, if_neg k4, if_neg k5, if_neg k6] at *
  exact ⟨rfl, rfl, rfl, rfl, rfl, rfl, rfl, Nat.zero_le _, names_nil _ _, rfl, Nat.zero_le _, heads_nil _ _, hok⟩
theorem wordK_none (k : Int) (h : ¬ (1 ≤ k ∧ k ≤ 8)) : wordK k = E0 := by
  by_cases h0 : k = 0
  · subst h0; rfl
  · exact wordK_no k (by omega)
theorem wordK_some (k : Int) (h : 1 ≤ k ∧ k ≤ 8) : wordK k ≠ E0 := by
  obtain ⟨h1, h2⟩ := h
  obtain rfl | rfl | rfl | rfl | rfl | rfl | rfl | rfl : k = 1 ∨ k = 2 ∨ k = 3 ∨ k = 4 ∨ k = 5 ∨ k = 6 ∨ k = 7 ∨ k = 8 := by omega
  all_goals decide +kernel
theorem isEmpty_no {s : ByteArray} (h : s ≠ E0) : s.toList.isEmpty = false := by
  cases he : s.toList.isEmpty
  · rfl
  · refine absurd (ba_ext ?_) h
    rw [← ByteArray.toList_eq]
    exact List.isEmpty_iff.1 he
theorem heads0 : headsG [] := ⟨by simp, by simp⟩
theorem in40 : in4 0 := by decide
theorem in70 : in7 0 := by decide
instance msPDec (m : Ms) : Decidable m.P := by
  unfold Ms.P
  exact inferInstance
/-- a message can be: its parts, as Good tests them -/
theorem P_parts (M : Ms) : M.P ↔ (1 ≤ M.kind ∧ M.kind ≤ 8) ∧ (in4 M.bare.ver ∧ in4 M.bare.height) ∧ (in7 M.bare.serv ∧ in7 M.bare.nb) ∧ M.bare.names.length ≤ mostOf M.kind ∧ headsG M.bare.heads := by
  obtain ⟨k, ve, se, he, nb, ns, st, hs⟩ := M
  unfold Ms.P Ms.bare mostOf headsG
  simp only
  by_cases h1 : k = 1
  · subst h1
    simp [and_assoc]
  by_cases h3 : k = 3
  · subst h3
    simp [in40, in70]
  by_cases h4 : k = 4
  · subst h4
    simp [in40, in70, and_comm]
  by_cases h5 : k = 5
  · subst h5
    simp [in40, in70]
  by_cases h6 : k = 6 ∨ k = 7
  · simp only [if_neg h1, if_neg h3, if_neg h4, if_neg h5, if_pos h6]
    simp [in40, in70]
    omega
  simp only [if_neg h1, if_neg h3, if_neg h4, if_neg h5, if_neg h6]
  simp [in40, in70]
  omega
end Go.Proofs.Yteblphnpealefaa
/-
  Operations of regions that draw their order, one by one.
-/
namespace Go.Proofs.Yteblphnpealefaa
open Go.RowKit Mem Sc Rg2
section
variable {ρ : Operand → Value} {o : Oper} {w w' : World}
theorem ex_move {x : Operand} (ho : o.op = .move x) : (execOp ρ o).run Try.prog w = .ok (.value (ρ x)) w := by
  unfold execOp; simp only [ho]; rfl
theorem ex_assign {x : Operand} (ho : o.op = .assign x) : (execOp ρ o).run Try.prog w = .ok (.value (ρ x)) w := by
  unfold execOp; simp only [ho]; rfl
theorem ex_len_names {x : Operand} {a : Option Addr} {n c : Nat} (ho : o.op = .call { callee := .builtin .len, args := #[x], argTypes := #[34] }) (hx : ρ x = .slice a n c) : (execOp ρ o).run Try.prog w = .ok (.value (.int .i64 (n : Nat))) w := by
  unfold execOp
  simp only [ho]
  go_simp
theorem ex_leq {x y : Operand} {a b : Int} (ho : o.op = .binOp .leq 3 x y 3) (hx : ρ x = .int .i64 a) (hy : ρ y = .int .i64 b) : (execOp ρ o).run Try.prog w = .ok (.value (.bool (decide (a ≤ b)))) w := by
  refine ex_bin ho (by decide) (by decide) ?_
  rw [hx, hy]
  go_simp
theorem ex_ints2 {x y : Operand} {a b : Int} (ho : o.op = .buildSlice 45 2 #[(0, x), (1, y)]) (hx : ρ x = .int .i64 a) (hy : ρ y = .int .i64 b) : (execOp ρ o).run Try.prog w = .ok (.value (.slice (some ⟨w.heap.size, 0, none⟩) 2 2)) (w.alloc (.cells (two a b) 3)) := by
  refine ex_buildSlice ho ?_
  rw [show (#[(0, x), (1, y)] : Array (Nat × Operand)).map (fun (i, x) => (i, ρ x)) = #[(0, .int .i64 a), (1, .int .i64 b)] by simp [hx, hy]]
  kernel_rfl
theorem field2 (w : World) (g : Nat) : (Instr.fieldAt 39 (.pointer (some ⟨g, 0, none⟩)) 2).run Try.prog w = .ok (.pointer (some ⟨g, 2, none⟩)) w := by kernel_rfl
theorem field3 (w : World) (g : Nat) : (Instr.fieldAt 39 (.pointer (some ⟨g, 0, none⟩)) 3).run Try.prog w = .ok (.pointer (some ⟨g, 3, none⟩)) w := by kernel_rfl
theorem field4 (w : World) (g : Nat) : (Instr.fieldAt 39 (.pointer (some ⟨g, 0, none⟩)) 4).run Try.prog w = .ok (.pointer (some ⟨g, 4, none⟩)) w := by kernel_rfl
theorem field7 (w : World) (g : Nat) : (Instr.fieldAt 39 (.pointer (some ⟨g, 0, none⟩)) 7).run Try.prog w = .ok (.pointer (some ⟨g, 38, none⟩)) w := by kernel_rfl
theorem load_heads {p : Addr} {a : Option Addr} {n c : Nat} (h : w.cell? p = some (.slice a n c)) : (loadVar 37 p).run Try.prog w = .ok (.slice a n c) w := by
  go_simp
end
section
variable {ops : Array Oper} {o : Oper} {a : Act} {w w' : World} {Q : Exit → Act → World → Prop} {C : World → Prop} {S : World → World → Prop} {R : Value → World → Prop} {J : Act → World → Prop} {v : Value} {j : Nat} {c : Bool}
/-- an operation that waits for a test: done, if the test came out true; else it leaves nothing -/
theorem duty_if (hg : o.guard = some (j, true)) (hy : yielded ops a.tmps j = some c)
    (ht : c = true → Region.wanted o (yielded ops a.tmps) = true → if Region.wanted o (yielded ops a.tmps) = true then o.wp Try.prog a w (fun a' w' => C w' ∧ S w w' ∧ ∃ v, a' = a.put o.dst v ∧ R v w' ∧ J a' w') Q else R undef w ∧ J (a.put o.dst undef) w)
    (hf : c = false → R undef w ∧ J (a.put o.dst undef) w) :
    if Region.wanted o (yielded ops a.tmps) = true then o.wp Try.prog a w (fun a' w' => C w' ∧ S w w' ∧ ∃ v, a' = a.put o.dst v ∧ R v w' ∧ J a' w') Q else R undef w ∧ J (a.put o.dst undef) w := by
  cases c
  · have hw : Region.wanted o (yielded ops a.tmps) = false := by
      unfold Region.wanted
      rw [hg]
      simp [hy]
    rw [if_neg (by rw [hw]; decide)]
    exact hf rfl
  · exact ht rfl (wanted_of hg hy)
end
theorem pick_is (c x : Bool) (v : Value) (h : c = true → v = .bool x) : (if c = true then v else .bool false) = .bool (c && x) := by
  cases c
  · rfl
  · rw [if_pos rfl, h rfl, Bool.true_and]
/-- what is new stays -/
def Stay (B : Nat) (w w' : World) : Prop := ∀ b cs t, B ≤ b → Has w b cs t → Has w' b cs t
end Go.Proofs.Yteblphnpealefaa
/-
  slices.Equal, of names and of headers.
-/
namespace Go.Proofs.Yteblphnpealefaa
open Go.RowKit Mem Sc
theorem first_unlike {α : Type} [DecidableEq α] : ∀ (xs ys : List α), xs.length = ys.length → xs ≠ ys → ∃ (j : Nat) (h1 : j < xs.length) (h2 : j < ys.length), (∀ i (g1 : i < xs.length) (g2 : i < ys.length), i < j → xs[i] = ys[i]) ∧ xs[j] ≠ ys[j]
  | [], [], _, h => absurd rfl h
  | [], _ :: _, h, _ => by simp at h
  | _ :: _, [], h, _ => by simp at h
  | x :: xs, y :: ys, hl, h => by
    by_cases hx : x = y
    · obtain ⟨j, h1, h2, h3, h4⟩ := first_unlike xs ys (by simpa using hl) (fun e => h (by rw [hx, e]))
      refine ⟨j + 1, by simpa using h1, by simpa using h2, fun i g1 g2 hi => ?_, by simpa using h4⟩
      cases i with
      | zero => exact hx
      | succ i => simpa using h3 i (by simpa using g1) (by simpa using g2) (by omega)
    · exact ⟨0, by simp, by simp, fun i _ _ hi => by omega, hx⟩
instance hdDec : DecidableEq Hd := fun _ _ => inferInstance
set_option maxRecDepth 100000 in
set_option maxHeartbeats 800000 in
theorem eq_names_len (a : Option Addr) (n c : Nat) (b : Option Addr) (p d : Nat) (h : n ≠ p) (w : World) : Calls Try.prog 29 #[.slice a n c, .slice b p d] w fun r w' => r = .returned (.bool false) ∧ Below w.heap.size w w' := by
  have t1 : ((n : Int) == (p : Int)) = false := beq_eq_false_iff_ne.2 (by omega)
  have t2 : (n == p) = false := beq_eq_false_iff_ne.2 h
  have t3 : (!((n : Int) == (p : Int))) = true := by rw [t1]; rfl
  clear h
  go_enter Try.func29, Try.ntmps29
  go_wp2_with fail
  go_ret
  exact ⟨rfl, Below.refl _ _⟩
set_option maxRecDepth 100000 in
set_option maxHeartbeats 1600000 in
theorem eq_names_yes (a b : Option Addr) (xs ys : List (List UInt8)) (n c d : Nat) (hx : n = xs.length) (hy : n = ys.length) (hl : n ≤ 4611686018427387904) (hE : xs = ys) (w : World) (hA : NamesAt w a xs) (hB0 : NamesAt w b ys) : Calls Try.prog 29 #[.slice a n c, .slice b n d] w fun r w' => r = .returned (.bool true) ∧ Below w.heap.size w w' := by
  have HE := Lib.hid hE
  clear hE
  have HX := Lib.hid hx
  have HY := Lib.hid hy
  have HA := Lib.hid hA
  have HB := Lib.hid hB0
  clear hx hy hA hB0
  have t1 : ((n : Int) == (n : Int)) = true := beq_iff_eq.2 rfl
  have t3 : (!((n : Int) == (n : Int))) = false := by rw [t1]; rfl
  go_enter Try.func29, Try.ntmps29
  go_wp2_with fail
  go_loopw [13] (fun i wr => ∃ k : Nat, k ≤ n ∧ i = .int .i64 k ∧ Below w.heap.size w wr) (fun i _ => n - (intOf i).toNat)
  case atStart => exact ⟨0, by omega, rfl, Below.refl _ _⟩
  case round =>
    obtain ⟨k, hk, rfl, hB⟩ := hrel
    by_cases hlt : k < n
    · have hk1 : k < xs.length := by rw [← HX.out]; exact hlt
      have hk2 : k < ys.length := by rw [← HY.out]; exact hlt
      have hxy : xs[k] = ys[k] := by have := HE.out; subst this; rfl
      obtain ⟨ab, ao, rfl, habl, hca⟩ := (HA.out.below hB) (by omega)
      obtain ⟨bb, bo, rfl, hbbl, hcb⟩ := (HB.out.below hB) (by omega)
      have h1 := hca k hk1
      have h2 := hcb k hk2
      have qn := hn_neq xs[k] ys[k] h1.1 h2.1 false (by rw [beq_iff_eq.2 (hxy)]; rfl)
      have q1 := range_cls h1.2 (by rw [Lib.byteCells_length, h1.1]; omega)
      have q2 := range_cls h2.2 (by rw [Lib.byteCells_length, h2.1]; omega)
      have s1 := byteCells_32 h1.1
      have s2 := byteCells_32 h2.1
      generalize xs[k] = x at *
      generalize ys[k] = y at *
      clear h1 h2 hca hcb hk1 hk2 hxy
      go_wp2_with fail
      refine wp_region_quiet_below (by kernel_rfl) (by kernel_rfl) ?_
      repeat (first
        | (go_big_quiet_want; (with_reducible refine quiet_hl_mid _ rfl ab (ao + k * 32) rfl x s1 q1 ?_); (simp only [Act.put, List.setIfInBounds_toArray, List.set_cons_zero, List.set_cons_succ]); go_big_quiet_on)
        | (go_big_quiet_want; (with_reducible refine quiet_hl_mid _ rfl bb (bo + k * 32) rfl y s2 q2 ?_); (simp only [Act.put, List.setIfInBounds_toArray, List.set_cons_zero, List.set_cons_succ]); go_big_quiet_on)
        | (go_big_quiet_want; (with_reducible refine quiet_hneq _ _ _ rfl _ _ _ rfl rfl qn ?_); (simp only [Act.put, List.setIfInBounds_toArray, List.set_cons_zero, List.set_cons_succ]); go_big_quiet_on)
        | go_big_quiet_step (fail))
      refine wpQuiet_nil ?_
      intro _ hw'
      obtain ⟨q, hw''⟩ := hw'
      subst hw''
      have hB2 := hB.trans ((below_regrown wr q.d q.os).mono hB.size)
      clear q1 q2 qn s1 s2
      generalize Sort.grow (redrawn wr q.d) q.os = w9 at *
      go_wp2_with fail
      go_roundw
      case rel => exact ⟨k + 1, by omega, by go_num, hB2⟩
      case measure => simp [intOf]; omega
    · obtain rfl : k = n := by omega
      go_wp2_with fail
      go_ret
      exact ⟨rfl, hB⟩
set_option maxRecDepth 100000 in
set_option maxHeartbeats 1600000 in
theorem eq_names_no (a b : Option Addr) (xs ys : List (List UInt8)) (n c d : Nat) (hx : n = xs.length) (hy : n = ys.length) (hl : n ≤ 4611686018427387904) (hE : xs ≠ ys) (w : World) (hA : NamesAt w a xs) (hB0 : NamesAt w b ys) : Calls Try.prog 29 #[.slice a n c, .slice b n d] w fun r w' => r = .returned (.bool false) ∧ Below w.heap.size w w' := by
  obtain ⟨j, hj1, hj2, hj3, hj4⟩ := first_unlike xs ys (by omega) hE
  have HU := Lib.hid hj4
  have HS := Lib.hid hj3
  have hjn : j < n := by omega
  clear hE hj3 hj4
  have HX := Lib.hid hx
  have HY := Lib.hid hy
  have HA := Lib.hid hA
  have HB := Lib.hid hB0
  clear hx hy hA hB0
  have t1 : ((n : Int) == (n : Int)) = true := beq_iff_eq.2 rfl
  have t3 : (!((n : Int) == (n : Int))) = false := by rw [t1]; rfl
  go_enter Try.func29, Try.ntmps29
  go_wp2_with fail
  go_loopw [13] (fun i wr => ∃ k : Nat, k ≤ j ∧ i = .int .i64 k ∧ Below w.heap.size w wr) (fun i _ => n - (intOf i).toNat)
  case atStart => exact ⟨0, by omega, rfl, Below.refl _ _⟩
  case round =>
    obtain ⟨k, hk, rfl, hB⟩ := hrel
    have hlt : k < n := by omega
    have hk1 : k < xs.length := by rw [← HX.out]; exact hlt
    have hk2 : k < ys.length := by rw [← HY.out]; exact hlt
    by_cases hkj : k < j
    · have hxy : xs[k] = ys[k] := HS.out k hk1 hk2 hkj
      obtain ⟨ab, ao, rfl, habl, hca⟩ := (HA.out.below hB) (by omega)
      obtain ⟨bb, bo, rfl, hbbl, hcb⟩ := (HB.out.below hB) (by omega)
      have h1 := hca k hk1
      have h2 := hcb k hk2
      have qn := hn_neq xs[k] ys[k] h1.1 h2.1 false (by rw [beq_iff_eq.2 (hxy)]; rfl)
      have q1 := range_cls h1.2 (by rw [Lib.byteCells_length, h1.1]; omega)
      have q2 := range_cls h2.2 (by rw [Lib.byteCells_length, h2.1]; omega)
      have s1 := byteCells_32 h1.1
      have s2 := byteCells_32 h2.1
      generalize xs[k] = x at *
      generalize ys[k] = y at *
      clear h1 h2 hca hcb hk1 hk2 hxy
      go_wp2_with fail
      refine wp_region_quiet_below (by kernel_rfl) (by kernel_rfl) ?_
      repeat (first
        | (go_big_quiet_want; (with_reducible refine quiet_hl_mid _ rfl ab (ao + k * 32) rfl x s1 q1 ?_); (simp only [Act.put, List.setIfInBounds_toArray, List.set_cons_zero, List.set_cons_succ]); go_big_quiet_on)
        | (go_big_quiet_want; (with_reducible refine quiet_hl_mid _ rfl bb (bo + k * 32) rfl y s2 q2 ?_); (simp only [Act.put, List.setIfInBounds_toArray, List.set_cons_zero, List.set_cons_succ]); go_big_quiet_on)
        | (go_big_quiet_want; (with_reducible refine quiet_hneq _ _ _ rfl _ _ _ rfl rfl qn ?_); (simp only [Act.put, List.setIfInBounds_toArray, List.set_cons_zero, List.set_cons_succ]); go_big_quiet_on)
        | go_big_quiet_step (fail))
      refine wpQuiet_nil ?_
      intro _ hw'
      obtain ⟨q, hw''⟩ := hw'
      subst hw''
      have hB2 := hB.trans ((below_regrown wr q.d q.os).mono hB.size)
      clear q1 q2 qn s1 s2
      generalize Sort.grow (redrawn wr q.d) q.os = w9 at *
      go_wp2_with fail
      go_roundw
      case rel => exact ⟨k + 1, by omega, by go_num, hB2⟩
      case measure => simp [intOf]; omega
    · obtain rfl : k = j := by omega
      obtain ⟨ab, ao, rfl, habl, hca⟩ := (HA.out.below hB) (by omega)
      obtain ⟨bb, bo, rfl, hbbl, hcb⟩ := (HB.out.below hB) (by omega)
      have h1 := hca k hk1
      have h2 := hcb k hk2
      have qn := hn_neq xs[k] ys[k] h1.1 h2.1 true (by rw [beq_eq_false_iff_ne.2 HU.out]; rfl)
      have q1 := range_cls h1.2 (by rw [Lib.byteCells_length, h1.1]; omega)
      have q2 := range_cls h2.2 (by rw [Lib.byteCells_length, h2.1]; omega)
      have s1 := byteCells_32 h1.1
      have s2 := byteCells_32 h2.1
      generalize xs[k] = x at *
      generalize ys[k] = y at *
      clear h1 h2 hca hcb hk1 hk2
      go_wp2_with fail
      refine wp_region_quiet_below (by kernel_rfl) (by kernel_rfl) ?_
      repeat (first
        | (go_big_quiet_want; (with_reducible refine quiet_hl_mid _ rfl ab (ao + k * 32) rfl x s1 q1 ?_); (simp only [Act.put, List.setIfInBounds_toArray, List.set_cons_zero, List.set_cons_succ]); go_big_quiet_on)
        | (go_big_quiet_want; (with_reducible refine quiet_hl_mid _ rfl bb (bo + k * 32) rfl y s2 q2 ?_); (simp only [Act.put, List.setIfInBounds_toArray, List.set_cons_zero, List.set_cons_succ]); go_big_quiet_on)
        | (go_big_quiet_want; (with_reducible refine quiet_hneq _ _ _ rfl _ _ _ rfl rfl qn ?_); (simp only [Act.put, List.setIfInBounds_toArray, List.set_cons_zero, List.set_cons_succ]); go_big_quiet_on)
        | go_big_quiet_step (fail))
      refine wpQuiet_nil ?_
      intro _ hw'
      obtain ⟨q, hw''⟩ := hw'
      subst hw''
      have hB2 := hB.trans ((below_regrown wr q.d q.os).mono hB.size)
      clear q1 q2 qn s1 s2
      generalize Sort.grow (redrawn wr q.d) q.os = w9 at *
      go_wp2_with fail
      go_ret
      exact ⟨rfl, hB2⟩
theorem eq_names_at (a b : Option Addr) (xs ys : List (List UInt8)) (n c p d : Nat) (hx : n = xs.length) (hy : p = ys.length) (hl : n ≤ 4611686018427387904) (g : Bool) (hg : decide (xs = ys) = g) (w : World) (hA : NamesAt w a xs) (hB : NamesAt w b ys) : Calls Try.prog 29 #[.slice a n c, .slice b p d] w fun r w' => r = .returned (.bool g) ∧ Below w.heap.size w w' := by
  by_cases hn : n = p
  · subst hn
    by_cases hE : xs = ys
    · rw [decide_eq_true hE] at hg
      subst hg
      exact eq_names_yes a b xs ys n c d hx hy hl hE w hA hB
    · rw [decide_eq_false hE] at hg
      subst hg
      exact eq_names_no a b xs ys n c d hx hy hl hE w hA hB
  · rw [decide_eq_false (fun e => hn (by rw [hx, hy, e]))] at hg
    subst hg
    exact eq_names_len a n c b p d hn w
set_option maxRecDepth 100000 in
set_option maxHeartbeats 800000 in
theorem eq_heads_len (a : Option Addr) (n c : Nat) (b : Option Addr) (p d : Nat) (h : n ≠ p) (w : World) : Calls Try.prog 30 #[.slice a n c, .slice b p d] w fun r w' => r = .returned (.bool false) ∧ Below w.heap.size w w' := by
  have t1 : ((n : Int) == (p : Int)) = false := beq_eq_false_iff_ne.2 (by omega)
  have t2 : (n == p) = false := beq_eq_false_iff_ne.2 h
  have t3 : (!((n : Int) == (p : Int))) = true := by rw [t1]; rfl
  clear h
  go_enter Try.func30, Try.ntmps30
  go_wp2_with fail
  go_ret
  exact ⟨rfl, Below.refl _ _⟩
set_option maxRecDepth 100000 in
set_option maxHeartbeats 1600000 in
theorem eq_heads_yes (a b : Option Addr) (xs ys : List Hd) (n c d : Nat) (hx : n = xs.length) (hy : n = ys.length) (hl : n ≤ 4611686018427387904) (hE : xs = ys) (w : World) (hA : HeadersAt w a xs) (hB0 : HeadersAt w b ys) : Calls Try.prog 30 #[.slice a n c, .slice b n d] w fun r w' => r = .returned (.bool true) ∧ Below w.heap.size w w' := by
  have HE := Lib.hid hE
  clear hE
  have HX := Lib.hid hx
  have HY := Lib.hid hy
  have HA := Lib.hid hA
  have HB := Lib.hid hB0
  clear hx hy hA hB0
  have t1 : ((n : Int) == (n : Int)) = true := beq_iff_eq.2 rfl
  have t3 : (!((n : Int) == (n : Int))) = false := by rw [t1]; rfl
  go_enter Try.func30, Try.ntmps30
  go_wp2_with fail
  go_loopw [13] (fun i wr => ∃ k : Nat, k ≤ n ∧ i = .int .i64 k ∧ Below w.heap.size w wr) (fun i _ => n - (intOf i).toNat)
  case atStart => exact ⟨0, by omega, rfl, Below.refl _ _⟩
  case round =>
    obtain ⟨k, hk, rfl, hB⟩ := hrel
    by_cases hlt : k < n
    · have hk1 : k < xs.length := by rw [← HX.out]; exact hlt
      have hk2 : k < ys.length := by rw [← HY.out]; exact hlt
      have hxy : xs[k] = ys[k] := by have := HE.out; subst this; rfl
      obtain ⟨ab, ao, rfl, habl, hca⟩ := (HA.out.below hB) (by omega)
      obtain ⟨bb, bo, rfl, hbbl, hcb⟩ := (HB.out.below hB) (by omega)
      have h1 := hca k hk1
      have h2 := hcb k hk2
      have qn := hd_neq xs[k] ys[k] h1.1 h2.1 false (by rw [decide_eq_true (hxy)]; rfl)
      have q1 := range_cls h1.2 (by exact hdC_pos _)
      have q2 := range_cls h2.2 (by exact hdC_pos _)
      have s1 := hdC_length h1.1
      have s2 := hdC_length h2.1
      generalize xs[k] = x at *
      generalize ys[k] = y at *
      clear h1 h2 hca hcb hk1 hk2 hxy
      go_wp2_with fail
      refine wp_region_quiet_below (by kernel_rfl) (by kernel_rfl) ?_
      repeat (first
        | (go_big_quiet_want; (with_reducible refine quiet_hd_mid _ rfl ab (ao + k * 68) rfl x s1 q1 ?_); (simp only [Act.put, List.setIfInBounds_toArray, List.set_cons_zero, List.set_cons_succ]); go_big_quiet_on)
        | (go_big_quiet_want; (with_reducible refine quiet_hd_mid _ rfl bb (bo + k * 68) rfl y s2 q2 ?_); (simp only [Act.put, List.setIfInBounds_toArray, List.set_cons_zero, List.set_cons_succ]); go_big_quiet_on)
        | (go_big_quiet_want; (with_reducible refine quiet_hdneq _ _ _ rfl _ _ _ rfl rfl qn ?_); (simp only [Act.put, List.setIfInBounds_toArray, List.set_cons_zero, List.set_cons_succ]); go_big_quiet_on)
        | go_big_quiet_step (fail))
      refine wpQuiet_nil ?_
      intro _ hw'
      obtain ⟨q, hw''⟩ := hw'
      subst hw''
      have hB2 := hB.trans ((below_regrown wr q.d q.os).mono hB.size)
      clear q1 q2 qn s1 s2
      generalize Sort.grow (redrawn wr q.d) q.os = w9 at *
      go_wp2_with fail
      go_roundw
      case rel => exact ⟨k + 1, by omega, by go_num, hB2⟩
      case measure => simp [intOf]; omega
    · obtain rfl : k = n := by omega
      go_wp2_with fail
      go_ret
      exact ⟨rfl, hB⟩
set_option maxRecDepth 100000 in
set_option maxHeartbeats 1600000 in
theorem eq_heads_no (a b : Option Addr) (xs ys : List Hd) (n c d : Nat) (hx : n = xs.length) (hy : n = ys.length) (hl : n ≤ 4611686018427387904) (hE : xs ≠ ys) (w : World) (hA : HeadersAt w a xs) (hB0 : HeadersAt w b ys) : Calls Try.prog 30 #[.slice a n c, .slice b n d] w fun r w' => r = .returned (.bool false) ∧ Below w.heap.size w w' := by
  obtain ⟨j, hj1, hj2, hj3, hj4⟩ := first_unlike xs ys (by omega) hE
  have HU := Lib.hid hj4
  have HS := Lib.hid hj3
  have hjn : j < n := by omega
  clear hE hj3 hj4
  have HX := Lib.hid hx
  have HY := Lib.hid hy
  have HA := Lib.hid hA
  have HB := Lib.hid hB0
  clear hx hy hA hB0
  have t1 : ((n : Int) == (n : Int)) = true := beq_iff_eq.2 rfl
  have t3 : (!((n : Int) == (n : Int))) = false := by rw [t1]; rfl
  go_enter Try.func30, Try.ntmps30
  go_wp2_with fail
  go_loopw [13] (fun i wr => ∃ k : Nat, k ≤ j ∧ i = .int .i64 k ∧ Below w.heap.size w wr) (fun i _ => n - (intOf i).toNat)
  case atStart => exact ⟨0, by omega, rfl, Below.refl _ _⟩
  case round =>
    obtain ⟨k, hk, rfl, hB⟩ := hrel
    have hlt : k < n := by omega
    have hk1 : k < xs.length := by rw [← HX.out]; exact hlt
    have hk2 : k < ys.length := by rw [← HY.out]; exact hlt
    by_cases hkj : k < j
    · have hxy : xs[k] = ys[k] := HS.out k hk1 hk2 hkj
      obtain ⟨ab, ao, rfl, habl, hca⟩ := (HA.out.below hB) (by omega)
      obtain ⟨bb, bo, rfl, hbbl, hcb⟩ := (HB.out.below hB) (by omega)
      have h1 := hca k hk1
      have h2 := hcb k hk2
      have qn := hd_neq xs[k] ys[k] h1.1 h2.1 false (by rw [decide_eq_true (hxy)]; rfl)
      have q1 := range_cls h1.2 (by exact hdC_pos _)
      have q2 := range_cls h2.2 (by exact hdC_pos _)
      have s1 := hdC_length h1.1
      have s2 := hdC_length h2.1
      generalize xs[k] = x at *
      generalize ys[k] = y at *
      clear h1 h2 hca hcb hk1 hk2 hxy
      go_wp2_with fail
      refine wp_region_quiet_below (by kernel_rfl) (by kernel_rfl) ?_
      repeat (first
        | (go_big_quiet_want; (with_reducible refine quiet_hd_mid _ rfl ab (ao + k * 68) rfl x s1 q1 ?_); (simp only [Act.put, List.setIfInBounds_toArray, List.set_cons_zero, List.set_cons_succ]); go_big_quiet_on)
        | (go_big_quiet_want; (with_reducible refine quiet_hd_mid _ rfl bb (bo + k * 68) rfl y s2 q2 ?_); (simp only [Act.put, List.setIfInBounds_toArray, List.set_cons_zero, List.set_cons_succ]); go_big_quiet_on)
        | (go_big_quiet_want; (with_reducible refine quiet_hdneq _ _ _ rfl _ _ _ rfl rfl qn ?_); (simp only [Act.put, List.setIfInBounds_toArray, List.set_cons_zero, List.set_cons_succ]); go_big_quiet_on)
        | go_big_quiet_step (fail))
      refine wpQuiet_nil ?_
      intro _ hw'
      obtain ⟨q, hw''⟩ := hw'
      subst hw''
      have hB2 := hB.trans ((below_regrown wr q.d q.os).mono hB.size)
      clear q1 q2 qn s1 s2
      generalize Sort.grow (redrawn wr q.d) q.os = w9 at *
      go_wp2_with fail
      go_roundw
      case rel => exact ⟨k + 1, by omega, by go_num, hB2⟩
      case measure => simp [intOf]; omega
    · obtain rfl : k = j := by omega
      obtain ⟨ab, ao, rfl, habl, hca⟩ := (HA.out.below hB) (by omega)
      obtain ⟨bb, bo, rfl, hbbl, hcb⟩ := (HB.out.below hB) (by omega)
      have h1 := hca k hk1
      have h2 := hcb k hk2
      have qn := hd_neq xs[k] ys[k] h1.1 h2.1 true (by rw [decide_eq_false HU.out]; rfl)
      have q1 := range_cls h1.2 (by exact hdC_pos _)
      have q2 := range_cls h2.2 (by exact hdC_pos _)
      have s1 := hdC_length h1.1
      have s2 := hdC_length h2.1
      generalize xs[k] = x at *
      generalize ys[k] = y at *
      clear h1 h2 hca hcb hk1 hk2
      go_wp2_with fail
      refine wp_region_quiet_below (by kernel_rfl) (by kernel_rfl) ?_
      repeat (first
        | (go_big_quiet_want; (with_reducible refine quiet_hd_mid _ rfl ab (ao + k * 68) rfl x s1 q1 ?_); (simp only [Act.put, List.setIfInBounds_toArray, List.set_cons_zero, List.set_cons_succ]); go_big_quiet_on)
        | (go_big_quiet_want; (with_reducible refine quiet_hd_mid _ rfl bb (bo + k * 68) rfl y s2 q2 ?_); (simp only [Act.put, List.setIfInBounds_toArray, List.set_cons_zero, List.set_cons_succ]); go_big_quiet_on)
        | (go_big_quiet_want; (with_reducible refine quiet_hdneq _ _ _ rfl _ _ _ rfl rfl qn ?_); (simp only [Act.put, List.setIfInBounds_toArray, List.set_cons_zero, List.set_cons_succ]); go_big_quiet_on)
        | go_big_quiet_step (fail))
      refine wpQuiet_nil ?_
      intro _ hw'
      obtain ⟨q, hw''⟩ := hw'
      subst hw''
      have hB2 := hB.trans ((below_regrown wr q.d q.os).mono hB.size)
      clear q1 q2 qn s1 s2
      generalize Sort.grow (redrawn wr q.d) q.os = w9 at *
      go_wp2_with fail
      go_ret
      exact ⟨rfl, hB2⟩
theorem eq_heads_at (a b : Option Addr) (xs ys : List Hd) (n c p d : Nat) (hx : n = xs.length) (hy : p = ys.length) (hl : n ≤ 4611686018427387904) (g : Bool) (hg : decide (xs = ys) = g) (w : World) (hA : HeadersAt w a xs) (hB : HeadersAt w b ys) : Calls Try.prog 30 #[.slice a n c, .slice b p d] w fun r w' => r = .returned (.bool g) ∧ Below w.heap.size w w' := by
  by_cases hn : n = p
  · subst hn
    by_cases hE : xs = ys
    · rw [decide_eq_true hE] at hg
      subst hg
      exact eq_heads_yes a b xs ys n c d hx hy hl hE w hA hB
    · rw [decide_eq_false hE] at hg
      subst hg
      exact eq_heads_no a b xs ys n c d hx hy hl hE w hA hB
  · rw [decide_eq_false (fun e => hn (by rw [hx, hy, e]))] at hg
    subst hg
    exact eq_heads_len a n c b p d hn w
end Go.Proofs.Yteblphnpealefaa
/-
  speech: Same.
-/
namespace Go.Proofs.Yteblphnpealefaa
open Go.RowKit Mem Sc Rg2
theorem ex_load_mm {ρ : Operand → Value} {o : Oper} {w : World} {x : Operand} {g : Nat} {m : Mm} (ho : o.op = .load 39 x) (hx : ρ x = .pointer (some ⟨g, 0, none⟩)) (hg : MmAt w g m) (hs : (mmA m).size = 39) : (execOp ρ o).run Try.prog w = .ok (.value (.agg (mmA m))) w :=
  ex_load_cell ho hx (run_loadVar_row w g 39 39 (mmA m) (0, 0) _ (Has.out hg) Try.underlying39 rfl (mminfo.trans (by rw [hs])))
theorem ex_store_mm {ρ : Operand → Value} {o : Oper} {w : World} {x y : Operand} {g : Nat} {m m' : Mm} (ho : o.op = .store 39 x y) (hx : ρ x = .pointer (some ⟨g, 0, none⟩)) (hy : ρ y = .agg (mmA m')) (hg : MmAt w g m) (hs : (mmA m).size = 39) (hs' : (mmA m').size = 39) : (execOp ρ o).run Try.prog w = .ok .skip (w.setRow g (mmA m')) :=
  ex_store_cell ho hx hy (run_storeVar_row w g 39 39 (mmA m) (mmA m') (Has.out hg) (mminfo.trans (by rw [hs'])) (by rw [hs, hs']) (mmA_one m'))
theorem hl_load_mid_g {w : World} {ops : Array Oper} {rest : List Oper} {o : Oper} {a : Act} {Q : Exit → Act → World → Prop} (hw : Region.wanted o (yielded ops a.tmps) = true) (x : Operand) (ho : o.op = .load 36 x) (g off : Nat) (hx : a.eval x = .pointer (some ⟨g, off, none⟩)) (l : List UInt8) (hg : w.rangeAt g off (Lib.byteCells l)) (hs : (Lib.byteCells l).length = 32)
    (h : wpList Try.prog ops Q rest (a.put o.dst (.agg (bytesV l))) w) : wpList Try.prog ops Q (o :: rest) a w :=
  BigFrame.wpList_want hw fun _ hK => wp_load_mid 36 x ho g off hx (Lib.byteCells l) _ hg Try.underlying36 rfl (hinfo.trans (by rw [hs])) (hK _ _ h)
def sTab (a a' b b' : Mm) : Nat → Value → Prop
  | 0, v => v = .agg (mmA a)
  | 1, v => v = .agg (mmA a')
  | 2, v => v = .agg (mmA b)
  | 3, v => v = .agg (mmA b')
  | _, _ => True
def pk (l : Array Bool) (k : Nat) (m m' : Mm) : Mm := if l.getD k false = true then m' else m
theorem pk_other (l : Array Bool) (i k : Nat) (m m' : Mm) (h : i ≠ k) : pk (l.setIfInBounds i true) k m m' = pk l k m m' := by
  unfold pk; rw [getD_put l i k h]
theorem pk_now (l : Array Bool) (k : Nat) (m m' : Mm) (h : k < l.size) : pk (l.setIfInBounds k true) k m m' = m' := by
  unfold pk; rw [getD_now l k h, if_pos rfl]
theorem pk_no (l : Array Bool) (k : Nat) (m m' : Mm) (h : l.getD k false = false) : pk l k m m' = m := by
  unfold pk; rw [h, if_neg (by decide)]
theorem pk_yes (l : Array Bool) (k : Nat) (m m' : Mm) (h : l.getD k false = true) : pk l k m m' = m' := by
  unfold pk; rw [h, if_pos rfl]
theorem pk_size (l : Array Bool) (k : Nat) (m m' : Mm) (h : (mmA m).size = 39) (h' : (mmA m').size = 39) : (mmA (pk l k m m')).size = 39 := by
  unfold pk; split
  · exact h'
  · exact h
set_option maxRecDepth 100000 in
set_option maxHeartbeats 4000000 in
theorem same_cells (a b a' b' : Mm) (oa : a.ok) (ob : b.ok) (ha : a.bare = a') (hb : b.bare = b') (xs ys : List (List UInt8)) (us vs : List Hd) (w : World)
    (n1 : a'.ns.n = xs.length) (n2 : b'.ns.n = ys.length) (l1 : a'.ns.n ≤ 4611686018427387904) (l2 : a'.hs.n ≤ 4611686018427387904) (n3 : a'.hs.n = us.length) (n4 : b'.hs.n = vs.length) (A1 : NamesAt w a'.ns.a xs) (A2 : NamesAt w b'.ns.a ys) (A3 : HeadersAt w a'.hs.a us) (A4 : HeadersAt w b'.hs.a vs)
    (g0 g1 g2 g3 g4 g5 g6 g7 : Bool) (e0 : (a'.kind == b'.kind) = g0) (e1 : (a'.ver == b'.ver) = g1) (e2 : (a'.height == b'.height) = g2) (e3 : (a'.serv == b'.serv) = g3) (e4 : (a'.nb == b'.nb) = g4)
    (e5 : (a'.stop == b'.stop) = g5) (e6 : decide (xs = ys) = g6) (e7 : decide (us = vs) = g7) :
    Calls Try.prog 22 #[.agg (mmA a), .agg (mmA b)] w fun r w' => r = .returned (.bool (g0 && g1 && g2 && g3 && g4 && g5 && g6 && g7)) ∧ Below w.heap.size w w' := by
  have KA := Lib.hid (bare_at a oa)
  have KB := Lib.hid (bare_at b ob)
  have oa' : a'.ok := by rw [← ha]; exact mbare_ok oa
  have ob' : b'.ok := by rw [← hb]; exact mbare_ok ob
  rw [ha] at KA
  rw [hb] at KB
  have za := mmA_size oa
  have zb := mmA_size ob
  have za' := mmA_size oa'
  have zb' := mmA_size ob'
  have K6 := Lib.hid (fun w h1 h2 => eq_names_at a'.ns.a b'.ns.a xs ys a'.ns.n a'.ns.c b'.ns.n b'.ns.c n1 n2 l1 g6 e6 w h1 h2)
  have K7 := Lib.hid (fun w h1 h2 => eq_heads_at a'.hs.a b'.hs.a us vs a'.hs.n a'.hs.c b'.hs.n b'.hs.c n3 n4 l2 g7 e7 w h1 h2)
  have H1 := Lib.hid A1
  have H2 := Lib.hid A2
  have H3 := Lib.hid A3
  have H4 := Lib.hid A4
  have q5 := fun w => hn_eql a'.stop b'.stop oa' ob' g5 e5 w
  have Q5 := Lib.hid q5
  have sa := byteCells_32 oa'
  have sb := byteCells_32 ob'
  clear n1 n2 n3 n4 l1 l2 e5 e6 e7 A1 A2 A3 A4 q5 ha hb oa ob
  have hP := mm_new w a
  have hQ := mm_new1 w (.cells (mmA a) 39) b
  have hb1 : Below w.heap.size w (w.alloc (.cells (mmA a) 39)) := (Below.refl _ _).alloc (Nat.le_refl _) _
  have hb2 : Below (w.alloc (.cells (mmA a) 39)).heap.size (w.alloc (.cells (mmA a) 39)) ((w.alloc (.cells (mmA a) 39)).alloc (.cells (mmA b) 39)) := (Below.refl _ _).alloc (Nat.le_refl _) _
  replace hP := hP.on hb2
  have hB := hb1.trans (hb2.mono hb1.size)
  clear hb1 hb2
  go_enter Try.func22, Try.ntmps22
  go_upto_region 1 with fail
  obtain ⟨P, hPe⟩ : ∃ P, P = w.heap.size := ⟨_, rfl⟩
  obtain ⟨Q, hQe⟩ : ∃ Q, Q = w.heap.size + 1 := ⟨_, rfl⟩
  rw [← hQe] at hQ ⊢
  rw [← hPe] at hP ⊢
  have hPQ : P ≠ Q := by omega
  have hPw : w.heap.size ≤ P := by omega
  have hQw : w.heap.size ≤ Q := by omega
  clear hPe hQe
  generalize World.alloc _ _ = w1 at *
  refine Rg2.wp_region_inv (by kernel_rfl) (fun w' => Below w.heap.size w w') (fun i v _ => sTab a a' b b' i v) (fun l _ w' => MmAt w' P (pk l 4 a a') ∧ MmAt w' Q (pk l 5 b b')) (fun _ _ => True) (fun _ _ => trivial) (fun _ _ _ _ _ _ h => h) (by kernel_rfl) hB.drew ?_ ?_ ?_
  · intro l hl
    rw [pk_no l 4 _ _ (hl 4), pk_no l 5 _ _ (hl 5)]
    exact ⟨Has.drew hP, Has.drew hQ⟩
  · intro i o listed a9 wx ho' hn hdep hinv
    have hC := hinv.c
    obtain ⟨hI1, hI2⟩ := hinv.i
    have hls := hinv.size
    have hi : i < 6 := (Array.getElem?_eq_some_iff.1 ho').1
    obtain rfl | rfl | rfl | rfl | rfl | rfl : i = 0 ∨ i = 1 ∨ i = 2 ∨ i = 3 ∨ i = 4 ∨ i = 5 := by omega
    all_goals obtain rfl := Option.some.inj ho'
    · have hno : listed.getD 4 false = false := by
        have := hinv.aheadT 4 (k := 4) (by kernel_rfl) hn (by decide) (by decide)
        rwa [getD_put listed 0 4 (by decide)] at this
      have hM : MmAt wx P a := by rw [pk_no listed 4 _ _ hno] at hI1; exact hI1
      exact duty_value (C := fun w' => Below w.heap.size w w') (S := fun _ _ => True) (R := fun v _ => sTab a a' b b' 0 v) (J := fun _ w' => MmAt w' P (pk (listed.setIfInBounds 0 true) 4 a a') ∧ MmAt w' Q (pk (listed.setIfInBounds 0 true) 5 b b')) (fun _ _ => trivial) hC (wanted_free rfl) (ex_load_mm rfl (hinv.old' 2 (by kernel_rfl)) hM za) rfl (by rw [pk_other _ 0 4 _ _ (by decide), pk_other _ 0 5 _ _ (by decide)]; exact ⟨hI1, hI2⟩)
    · have e5 : a9.eval (.tmp 5) = .agg (mmA a) := (hinv.got 0 _ 5 rfl (hdep ⟨0, .data⟩ (by simp) rfl) rfl)
      exact duty_call (C := fun w' => Below w.heap.size w w') (S := fun _ _ => True) (R := fun v _ => sTab a a' b b' 1 v) (J := fun _ w' => MmAt w' P (pk (listed.setIfInBounds 1 true) 4 a a') ∧ MmAt w' Q (pk (listed.setIfInBounds 1 true) 5 b b')) (wanted_free rfl) (f := 28) (args := #[a9.eval (.tmp 5)]) (by kernel_rfl) (by rw [e5]; exact KA.out wx) (fun w' hb => ⟨hC.trans (hb.mono hC.size), trivial, rfl, by rw [pk_other _ 1 4 _ _ (by decide), pk_other _ 1 5 _ _ (by decide)]; exact ⟨hI1.on hb, hI2.on hb⟩⟩)
    · have hno : listed.getD 5 false = false := by
        have := hinv.aheadT 4 (k := 5) (by kernel_rfl) hn (by decide) (by decide)
        rwa [getD_put listed 2 5 (by decide)] at this
      have hM : MmAt wx Q b := by rw [pk_no listed 5 _ _ hno] at hI2; exact hI2
      exact duty_value (C := fun w' => Below w.heap.size w w') (S := fun _ _ => True) (R := fun v _ => sTab a a' b b' 2 v) (J := fun _ w' => MmAt w' P (pk (listed.setIfInBounds 2 true) 4 a a') ∧ MmAt w' Q (pk (listed.setIfInBounds 2 true) 5 b b')) (fun _ _ => trivial) hC (wanted_free rfl) (ex_load_mm rfl (hinv.old' 3 (by kernel_rfl)) hM zb) rfl (by rw [pk_other _ 2 4 _ _ (by decide), pk_other _ 2 5 _ _ (by decide)]; exact ⟨hI1, hI2⟩)
    · have e5 : a9.eval (.tmp 7) = .agg (mmA b) := (hinv.got 2 _ 7 rfl (hdep ⟨2, .data⟩ (by simp) rfl) rfl)
      exact duty_call (C := fun w' => Below w.heap.size w w') (S := fun _ _ => True) (R := fun v _ => sTab a a' b b' 3 v) (J := fun _ w' => MmAt w' P (pk (listed.setIfInBounds 3 true) 4 a a') ∧ MmAt w' Q (pk (listed.setIfInBounds 3 true) 5 b b')) (wanted_free rfl) (f := 28) (args := #[a9.eval (.tmp 7)]) (by kernel_rfl) (by rw [e5]; exact KB.out wx) (fun w' hb => ⟨hC.trans (hb.mono hC.size), trivial, rfl, by rw [pk_other _ 3 4 _ _ (by decide), pk_other _ 3 5 _ _ (by decide)]; exact ⟨hI1.on hb, hI2.on hb⟩⟩)
    · refine duty_store (C := fun w' => Below w.heap.size w w') (S := fun _ _ => True) (R := fun v _ => sTab a a' b b' 4 v) (J := fun _ w' => MmAt w' P (pk (listed.setIfInBounds 4 true) 4 a a') ∧ MmAt w' Q (pk (listed.setIfInBounds 4 true) 5 b b')) (wanted_free rfl) (ex_store_mm rfl (hinv.old' 2 (by kernel_rfl)) (hinv.got 1 _ 6 rfl (hdep ⟨1, .data⟩ (by simp) rfl) rfl) hI1 (pk_size _ _ _ _ za za') za') (below_setRow hC hPw _) trivial trivial ?_
      rw [pk_now _ 4 _ _ (by rw [hls]; decide), pk_other _ 4 5 _ _ (by decide)]
      exact ⟨Has.row hI1 _, Has.otherRow hI2 _ _ (Ne.symm hPQ)⟩
    · refine duty_store (C := fun w' => Below w.heap.size w w') (S := fun _ _ => True) (R := fun v _ => sTab a a' b b' 5 v) (J := fun _ w' => MmAt w' P (pk (listed.setIfInBounds 5 true) 4 a a') ∧ MmAt w' Q (pk (listed.setIfInBounds 5 true) 5 b b')) (wanted_free rfl) (ex_store_mm rfl (hinv.old' 3 (by kernel_rfl)) (hinv.got 3 _ 8 rfl (hdep ⟨3, .data⟩ (by simp) rfl) rfl) hI2 (pk_size _ _ _ _ zb zb') zb') (below_setRow hC hQw _) trivial trivial ?_
      rw [pk_now _ 5 _ _ (by rw [hls]; decide), pk_other _ 5 4 _ _ (by decide)]
      exact ⟨Has.otherRow hI1 _ _ hPQ, Has.row hI2 _⟩
  · intro listed a9 wx hall hinv
    have hC := hinv.c
    obtain ⟨hI1, hI2⟩ := hinv.i
    rw [pk_yes listed 4 _ _ (hall 4 (by decide))] at hI1
    rw [pk_yes listed 5 _ _ (hall 5 (by decide))] at hI2
    clear hP hQ hB KA KB za zb za' zb'
    obtain ⟨u, hu⟩ : ∃ u : Nat → Value, ∀ t, u t = a9.eval (.tmp t) := ⟨_, fun _ => rfl⟩
    rw [frame_back a9 63 u hinv.tsize hinv.defers hu]
    have f0 := hinv.old' 0 (by kernel_rfl)
    have f1 := hinv.old' 1 (by kernel_rfl)
    have f2 := hinv.old' 2 (by kernel_rfl)
    have f3 := hinv.old' 3 (by kernel_rfl)
    have f4 := hinv.old' 4 (by kernel_rfl)
    have f9 := hinv.old' 9 (by kernel_rfl)
    have f10 := hinv.old' 10 (by kernel_rfl)
    have f11 := hinv.old' 11 (by kernel_rfl)
    have f12 := hinv.old' 12 (by kernel_rfl)
    have f13 := hinv.old' 13 (by kernel_rfl)
    have f14 := hinv.old' 14 (by kernel_rfl)
    have f15 := hinv.old' 15 (by kernel_rfl)
    have f16 := hinv.old' 16 (by kernel_rfl)
    have f17 := hinv.old' 17 (by kernel_rfl)
    have f18 := hinv.old' 18 (by kernel_rfl)
    have f19 := hinv.old' 19 (by kernel_rfl)
    have f20 := hinv.old' 20 (by kernel_rfl)
    have f21 := hinv.old' 21 (by kernel_rfl)
    have f22 := hinv.old' 22 (by kernel_rfl)
    have f23 := hinv.old' 23 (by kernel_rfl)
    have f24 := hinv.old' 24 (by kernel_rfl)
    have f25 := hinv.old' 25 (by kernel_rfl)
    have f26 := hinv.old' 26 (by kernel_rfl)
    have f27 := hinv.old' 27 (by kernel_rfl)
    have f28 := hinv.old' 28 (by kernel_rfl)
    have f29 := hinv.old' 29 (by kernel_rfl)
    have f30 := hinv.old' 30 (by kernel_rfl)
    have f31 := hinv.old' 31 (by kernel_rfl)
    have f32 := hinv.old' 32 (by kernel_rfl)
    have f33 := hinv.old' 33 (by kernel_rfl)
    have f34 := hinv.old' 34 (by kernel_rfl)
    have f35 := hinv.old' 35 (by kernel_rfl)
    have f36 := hinv.old' 36 (by kernel_rfl)
    have f37 := hinv.old' 37 (by kernel_rfl)
    have f38 := hinv.old' 38 (by kernel_rfl)
    have f39 := hinv.old' 39 (by kernel_rfl)
    have f40 := hinv.old' 40 (by kernel_rfl)
    have f41 := hinv.old' 41 (by kernel_rfl)
    have f42 := hinv.old' 42 (by kernel_rfl)
    have f43 := hinv.old' 43 (by kernel_rfl)
    have f44 := hinv.old' 44 (by kernel_rfl)
    have f45 := hinv.old' 45 (by kernel_rfl)
    have f46 := hinv.old' 46 (by kernel_rfl)
    have f47 := hinv.old' 47 (by kernel_rfl)
    have f48 := hinv.old' 48 (by kernel_rfl)
    have f49 := hinv.old' 49 (by kernel_rfl)
    have f50 := hinv.old' 50 (by kernel_rfl)
    have f51 := hinv.old' 51 (by kernel_rfl)
    have f52 := hinv.old' 52 (by kernel_rfl)
    have f53 := hinv.old' 53 (by kernel_rfl)
    have f54 := hinv.old' 54 (by kernel_rfl)
    have f55 := hinv.old' 55 (by kernel_rfl)
    have f56 := hinv.old' 56 (by kernel_rfl)
    have f57 := hinv.old' 57 (by kernel_rfl)
    have f58 := hinv.old' 58 (by kernel_rfl)
    have f59 := hinv.old' 59 (by kernel_rfl)
    have f60 := hinv.old' 60 (by kernel_rfl)
    have f61 := hinv.old' 61 (by kernel_rfl)
    have f62 := hinv.old' 62 (by kernel_rfl)
    simp only [← hu] at f0 f1 f2 f3 f4 f9 f10 f11 f12 f13 f14 f15 f16 f17 f18 f19 f20 f21 f22 f23 f24 f25 f26 f27 f28 f29 f30 f31 f32 f33 f34 f35 f36 f37 f38 f39 f40 f41 f42 f43 f44 f45 f46 f47 f48 f49 f50 f51 f52 f53 f54 f55 f56 f57 f58 f59 f60 f61 f62
    simp [Act.eval] at f0 f1 f2 f3 f4 f9 f10 f11 f12 f13 f14 f15 f16 f17 f18 f19 f20 f21 f22 f23 f24 f25 f26 f27 f28 f29 f30 f31 f32 f33 f34 f35 f36 f37 f38 f39 f40 f41 f42 f43 f44 f45 f46 f47 f48 f49 f50 f51 f52 f53 f54 f55 f56 f57 f58 f59 f60 f61 f62
    clear hu hinv hall
    show Exit.then _ _ _ (⟨#[u 0, u 1, u 2, u 3, u 4, u 5, u 6, u 7, u 8, u 9, u 10, u 11, u 12, u 13, u 14, u 15, u 16, u 17, u 18, u 19, u 20, u 21, u 22, u 23, u 24, u 25, u 26, u 27, u 28, u 29, u 30, u 31, u 32, u 33, u 34, u 35, u 36, u 37, u 38, u 39, u 40, u 41, u 42, u 43, u 44, u 45, u 46, u 47, u 48, u 49, u 50, u 51, u 52, u 53, u 54, u 55, u 56, u 57, u 58, u 59, u 60, u 61, u 62], []⟩ : Act) _
    rw [f0, f1, f2, f3, f4, f9, f10, f11, f12, f13, f14, f15, f16, f17, f18, f19, f20, f21, f22, f23, f24, f25, f26, f27, f28, f29, f30, f31, f32, f33, f34, f35, f36, f37, f38, f39, f40, f41, f42, f43, f44, f45, f46, f47, f48, f49, f50, f51, f52, f53, f54, f55, f56, f57, f58, f59, f60, f61, f62]
    clear f0 f1 f2 f3 f4 f9 f10 f11 f12 f13 f14 f15 f16 f17 f18 f19 f20 f21 f22 f23 f24 f25 f26 f27 f28 f29 f30 f31 f32 f33 f34 f35 f36 f37 f38 f39 f40 f41 f42 f43 f44 f45 f46 f47 f48 f49 f50 f51 f52 f53 f54 f55 f56 f57 f58 f59 f60 f61 f62
    have ck1 := hI1.kind
    have ck2 := hI2.kind
    have cv1 := hI1.ver
    have cv2 := hI2.ver
    have ch1 := hI1.height
    have ch2 := hI2.height
    have cs1 := hI1.serv
    have cs2 := hI2.serv
    have cn1 := hI1.nb
    have cn2 := hI2.nb
    have cl1 := hI1.ns
    have cl2 := hI2.ns
    have r1 := hI1.stop
    have r2 := hI2.stop
    have B1 := H1.out.below hC
    have B2 := H2.out.below hC
    have C6 := Lib.hid (K6.out wx B1 B2)
    clear B1 B2 K6
    cases g0
    · go_wp2_with (first
          | (with_reducible refine hl_load_mid_g (by with_unfolding_all rfl) _ rfl P 6 rfl a'.stop r1 sa ?_)
          | (with_reducible refine hl_load_mid_g (by with_unfolding_all rfl) _ rfl Q 6 rfl b'.stop r2 sb ?_)
          | (with_reducible refine heql_g (by with_unfolding_all rfl) _ _ _ rfl _ _ _ rfl rfl Q5.out ?_)
          | ((go_at_call 29); refine C6.out.mono ?_; rintro r w7 ⟨rfl, hb7⟩; have hD := hC.trans (hb7.mono hC.size); have cd1 := (hI1.on hb7).hs oa'; have cd2 := (hI2.on hb7).hs ob'; have B3 := H3.out.below hD; have B4 := H4.out.below hD; have C7 := Lib.hid (K7.out w7 B3 B4); clear B3 B4)
          | ((go_at_call 30); refine C7.out.mono ?_; rintro r w8 ⟨rfl, hb8⟩; have hF := hD.trans (hb8.mono hD.size)))
      go_ret
      exact ⟨rfl, hC⟩
    cases g1
    · go_wp2_with (first
          | (with_reducible refine hl_load_mid_g (by with_unfolding_all rfl) _ rfl P 6 rfl a'.stop r1 sa ?_)
          | (with_reducible refine hl_load_mid_g (by with_unfolding_all rfl) _ rfl Q 6 rfl b'.stop r2 sb ?_)
          | (with_reducible refine heql_g (by with_unfolding_all rfl) _ _ _ rfl _ _ _ rfl rfl Q5.out ?_)
          | ((go_at_call 29); refine C6.out.mono ?_; rintro r w7 ⟨rfl, hb7⟩; have hD := hC.trans (hb7.mono hC.size); have cd1 := (hI1.on hb7).hs oa'; have cd2 := (hI2.on hb7).hs ob'; have B3 := H3.out.below hD; have B4 := H4.out.below hD; have C7 := Lib.hid (K7.out w7 B3 B4); clear B3 B4)
          | ((go_at_call 30); refine C7.out.mono ?_; rintro r w8 ⟨rfl, hb8⟩; have hF := hD.trans (hb8.mono hD.size)))
      go_ret
      exact ⟨rfl, hC⟩
    cases g2
    · go_wp2_with (first
          | (with_reducible refine hl_load_mid_g (by with_unfolding_all rfl) _ rfl P 6 rfl a'.stop r1 sa ?_)
          | (with_reducible refine hl_load_mid_g (by with_unfolding_all rfl) _ rfl Q 6 rfl b'.stop r2 sb ?_)
          | (with_reducible refine heql_g (by with_unfolding_all rfl) _ _ _ rfl _ _ _ rfl rfl Q5.out ?_)
          | ((go_at_call 29); refine C6.out.mono ?_; rintro r w7 ⟨rfl, hb7⟩; have hD := hC.trans (hb7.mono hC.size); have cd1 := (hI1.on hb7).hs oa'; have cd2 := (hI2.on hb7).hs ob'; have B3 := H3.out.below hD; have B4 := H4.out.below hD; have C7 := Lib.hid (K7.out w7 B3 B4); clear B3 B4)
          | ((go_at_call 30); refine C7.out.mono ?_; rintro r w8 ⟨rfl, hb8⟩; have hF := hD.trans (hb8.mono hD.size)))
      go_ret
      exact ⟨rfl, hC⟩
    cases g3
    · go_wp2_with (first
          | (with_reducible refine hl_load_mid_g (by with_unfolding_all rfl) _ rfl P 6 rfl a'.stop r1 sa ?_)
          | (with_reducible refine hl_load_mid_g (by with_unfolding_all rfl) _ rfl Q 6 rfl b'.stop r2 sb ?_)
          | (with_reducible refine heql_g (by with_unfolding_all rfl) _ _ _ rfl _ _ _ rfl rfl Q5.out ?_)
          | ((go_at_call 29); refine C6.out.mono ?_; rintro r w7 ⟨rfl, hb7⟩; have hD := hC.trans (hb7.mono hC.size); have cd1 := (hI1.on hb7).hs oa'; have cd2 := (hI2.on hb7).hs ob'; have B3 := H3.out.below hD; have B4 := H4.out.below hD; have C7 := Lib.hid (K7.out w7 B3 B4); clear B3 B4)
          | ((go_at_call 30); refine C7.out.mono ?_; rintro r w8 ⟨rfl, hb8⟩; have hF := hD.trans (hb8.mono hD.size)))
      go_ret
      exact ⟨rfl, hC⟩
    cases g4
    · go_wp2_with (first
          | (with_reducible refine hl_load_mid_g (by with_unfolding_all rfl) _ rfl P 6 rfl a'.stop r1 sa ?_)
          | (with_reducible refine hl_load_mid_g (by with_unfolding_all rfl) _ rfl Q 6 rfl b'.stop r2 sb ?_)
          | (with_reducible refine heql_g (by with_unfolding_all rfl) _ _ _ rfl _ _ _ rfl rfl Q5.out ?_)
          | ((go_at_call 29); refine C6.out.mono ?_; rintro r w7 ⟨rfl, hb7⟩; have hD := hC.trans (hb7.mono hC.size); have cd1 := (hI1.on hb7).hs oa'; have cd2 := (hI2.on hb7).hs ob'; have B3 := H3.out.below hD; have B4 := H4.out.below hD; have C7 := Lib.hid (K7.out w7 B3 B4); clear B3 B4)
          | ((go_at_call 30); refine C7.out.mono ?_; rintro r w8 ⟨rfl, hb8⟩; have hF := hD.trans (hb8.mono hD.size)))
      go_ret
      exact ⟨rfl, hC⟩
    cases g5
    · go_wp2_with (first
          | (with_reducible refine hl_load_mid_g (by with_unfolding_all rfl) _ rfl P 6 rfl a'.stop r1 sa ?_)
          | (with_reducible refine hl_load_mid_g (by with_unfolding_all rfl) _ rfl Q 6 rfl b'.stop r2 sb ?_)
          | (with_reducible refine heql_g (by with_unfolding_all rfl) _ _ _ rfl _ _ _ rfl rfl Q5.out ?_)
          | ((go_at_call 29); refine C6.out.mono ?_; rintro r w7 ⟨rfl, hb7⟩; have hD := hC.trans (hb7.mono hC.size); have cd1 := (hI1.on hb7).hs oa'; have cd2 := (hI2.on hb7).hs ob'; have B3 := H3.out.below hD; have B4 := H4.out.below hD; have C7 := Lib.hid (K7.out w7 B3 B4); clear B3 B4)
          | ((go_at_call 30); refine C7.out.mono ?_; rintro r w8 ⟨rfl, hb8⟩; have hF := hD.trans (hb8.mono hD.size)))
      go_ret
      exact ⟨rfl, hC⟩
    cases g6
    · go_wp2_with (first
          | (with_reducible refine hl_load_mid_g (by with_unfolding_all rfl) _ rfl P 6 rfl a'.stop r1 sa ?_)
          | (with_reducible refine hl_load_mid_g (by with_unfolding_all rfl) _ rfl Q 6 rfl b'.stop r2 sb ?_)
          | (with_reducible refine heql_g (by with_unfolding_all rfl) _ _ _ rfl _ _ _ rfl rfl Q5.out ?_)
          | ((go_at_call 29); refine C6.out.mono ?_; rintro r w7 ⟨rfl, hb7⟩; have hD := hC.trans (hb7.mono hC.size); have cd1 := (hI1.on hb7).hs oa'; have cd2 := (hI2.on hb7).hs ob'; have B3 := H3.out.below hD; have B4 := H4.out.below hD; have C7 := Lib.hid (K7.out w7 B3 B4); clear B3 B4)
          | ((go_at_call 30); refine C7.out.mono ?_; rintro r w8 ⟨rfl, hb8⟩; have hF := hD.trans (hb8.mono hD.size)))
      go_ret
      exact ⟨rfl, hD⟩
    cases g7
    · go_wp2_with (first
          | (with_reducible refine hl_load_mid_g (by with_unfolding_all rfl) _ rfl P 6 rfl a'.stop r1 sa ?_)
          | (with_reducible refine hl_load_mid_g (by with_unfolding_all rfl) _ rfl Q 6 rfl b'.stop r2 sb ?_)
          | (with_reducible refine heql_g (by with_unfolding_all rfl) _ _ _ rfl _ _ _ rfl rfl Q5.out ?_)
          | ((go_at_call 29); refine C6.out.mono ?_; rintro r w7 ⟨rfl, hb7⟩; have hD := hC.trans (hb7.mono hC.size); have cd1 := (hI1.on hb7).hs oa'; have cd2 := (hI2.on hb7).hs ob'; have B3 := H3.out.below hD; have B4 := H4.out.below hD; have C7 := Lib.hid (K7.out w7 B3 B4); clear B3 B4)
          | ((go_at_call 30); refine C7.out.mono ?_; rintro r w8 ⟨rfl, hb8⟩; have hF := hD.trans (hb8.mono hD.size)))
      go_ret
      exact ⟨rfl, hF⟩
    go_wp2_with (first
      | (with_reducible refine hl_load_mid_g (by with_unfolding_all rfl) _ rfl P 6 rfl a'.stop r1 sa ?_)
      | (with_reducible refine hl_load_mid_g (by with_unfolding_all rfl) _ rfl Q 6 rfl b'.stop r2 sb ?_)
      | (with_reducible refine heql_g (by with_unfolding_all rfl) _ _ _ rfl _ _ _ rfl rfl Q5.out ?_)
      | ((go_at_call 29); refine C6.out.mono ?_; rintro r w7 ⟨rfl, hb7⟩; have hD := hC.trans (hb7.mono hC.size); have cd1 := (hI1.on hb7).hs oa'; have cd2 := (hI2.on hb7).hs ob'; have B3 := H3.out.below hD; have B4 := H4.out.below hD; have C7 := Lib.hid (K7.out w7 B3 B4); clear B3 B4)
      | ((go_at_call 30); refine C7.out.mono ?_; rintro r w8 ⟨rfl, hb8⟩; have hF := hD.trans (hb8.mono hD.size)))
    go_ret
    exact ⟨rfl, hF⟩
theorem ms_ext (a b : Ms) : a = b ↔ a.kind = b.kind ∧ a.ver = b.ver ∧ a.height = b.height ∧ a.serv = b.serv ∧ a.nb = b.nb ∧ a.stop = b.stop ∧ a.names = b.names ∧ a.heads = b.heads := by
  obtain ⟨k, ve, se, he, nb, ns, st, hs⟩ := a
  obtain ⟨k2, ve2, se2, he2, nb2, ns2, st2, hs2⟩ := b
  constructor
  · intro h; cases h; exact ⟨rfl, rfl, rfl, rfl, rfl, rfl, rfl, rfl⟩
  · rintro ⟨h0, h1, h2, h3, h4, h5, h6, h7⟩
    simp only at h0 h1 h2 h3 h4 h5 h6 h7
    subst h0 h1 h2 h3 h4 h5 h6 h7
    rfl
instance msDec (a b : Ms) : Decidable (a = b) := decidable_of_iff _ (ms_ext a b).symm
theorem same8_at (a b : Mm) (A B : Ms) (w : World) (hA : Lies w a A) (hB : Lies w b B) (g : Bool) (hg : decide (A.bare = B.bare) = g) : Calls Try.prog 22 #[.agg (mmA a), .agg (mmA b)] w fun r w' => r = .returned (.bool g) ∧ Below w.heap.size w w' := by
  have hA' := hA.bare
  have hB' := hB.bare
  have e : g = ((a.bare.kind == b.bare.kind) && (a.bare.ver == b.bare.ver) && (a.bare.height == b.bare.height) && (a.bare.serv == b.bare.serv) && (a.bare.nb == b.bare.nb) && (a.bare.stop == b.bare.stop) && decide (A.bare.names = B.bare.names) && decide (A.bare.heads = B.bare.heads)) := by
    rw [← hg, hA'.kind, hA'.ver, hA'.height, hA'.serv, hA'.nb, hA'.stop, hB'.kind, hB'.ver, hB'.height, hB'.serv, hB'.nb, hB'.stop, Bool.eq_iff_iff]
    simp only [Bool.and_eq_true, decide_eq_true_eq, beq_iff_eq, and_assoc]
    exact ms_ext _ _
  rw [e]
  exact same_cells a b _ _ hA.mok hB.mok rfl rfl A.bare.names B.bare.names A.bare.heads B.bare.heads w hA'.n1 hB'.n1 hA'.l1 hA'.l2 hA'.n2 hB'.n2 hA'.names hB'.names hA'.heads hB'.heads _ _ _ _ _ _ _ _ rfl rfl rfl rfl rfl rfl rfl rfl
end Go.Proofs.Yteblphnpealefaa
