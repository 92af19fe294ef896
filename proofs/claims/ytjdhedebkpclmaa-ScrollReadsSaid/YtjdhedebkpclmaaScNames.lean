/-
  scroll's Eye: Names.
-/
import Derived.Test.YtjdhedebkpclmaaScName
import Derived.Great.BuildSlice
import Derived.Maps.AppendAt
import Derived.Deep.AppendLies
namespace Go.Proofs.Ytjdhedebkpclmaa
open Go.RowKit Mem Sc
/-! ### a slice of one name is made -/
theorem foldl_set (o : Nat) : ∀ (l : List Value) (k : Nat) (b : Array Value) (j : Nat),
    ((l.zipIdx k).foldl (fun (cs : Array Value) (x : Value × Nat) => match x with | (c, j) => cs.setIfInBounds (o + j) c) b)[j]? = if o + k ≤ j ∧ j < o + k + l.length ∧ j < b.size then l[j - (o + k)]? else b[j]?
  | [], k, b, j => by simp; omega
  | x :: l, k, b, j => by
    rw [List.zipIdx_cons, List.foldl_cons, foldl_set o l (k + 1), Array.size_setIfInBounds, List.length_cons]
    by_cases h1 : j = o + k
    · subst h1
      rw [if_neg (by omega)]
      by_cases h2 : o + k < b.size
      · rw [if_pos (by omega)]; simp [h2]
      · rw [if_neg (by omega)]; simp [h2]
    · by_cases h2 : o + (k + 1) ≤ j ∧ j < o + (k + 1) + l.length ∧ j < b.size
      · rw [if_pos h2, if_pos (by omega), show j - (o + k) = (j - (o + (k + 1))) + 1 by omega, List.getElem?_cons_succ]
      · rw [if_neg h2, if_neg (by omega), Array.getElem?_setIfInBounds, if_neg (by omega)]
theorem fill_one (n : Nat) (z cs : Array Value) (hz : z.size = n) (hc : cs.size = n) : Instr.fill (fun i => some (i * n, n)) z [(0, .agg cs)] = some cs := by
  have hsz : (Value.agg cs).cells.size = n := hc
  unfold Instr.fill
  simp only [hsz, Nat.zero_mul, Nat.zero_add, hz]
  rw [if_neg (by simp)]
  unfold Instr.fill
  congr 1
  apply Array.ext_getElem?
  intro j
  rw [← Array.foldl_toList, Array.toList_zipIdx]
  have h := foldl_set 0 cs.toList 0 z j
  simp only [Nat.zero_add] at h
  show (List.foldl _ z (cs.toList.zipIdx 0))[j]? = _
  refine h.trans ?_
  rw [Array.length_toList, hc, hz]
  by_cases hj : j < n
  · rw [if_pos ⟨by omega, hj, hj⟩]; simp
  · rw [if_neg (by omega), Array.getElem?_eq_none (by omega), Array.getElem?_eq_none (by omega)]
theorem hzero : ((Try.prog.info? 30).bind (·.zero)).map (·.cells.size) = some 32 := by kernel_rfl
theorem hbytes32 : (Try.prog.info? 30).map (·.bytes) = some 32 := by kernel_rfl
theorem hash_info : ∃ i z, Try.prog.info? 30 = some i ∧ i.zero = some z ∧ i.size = 32 ∧ i.bytes = 32 ∧ z.cells.size = 32 := by
  have h1 := hinfo
  have h2 := hzero
  have h3 := hbytes32
  cases hi : Try.prog.info? 30 with
  | none => rw [hi] at h1; cases h1
  | some i =>
    rw [hi] at h1 h2 h3
    simp only [Option.map_some, Option.some.injEq, Option.bind_some] at h1 h2 h3
    cases hz : i.zero with
    | none => rw [hz] at h2; cases h2
    | some z =>
      rw [hz] at h2
      simp only [Option.map_some, Option.some.injEq] at h2
      exact ⟨i, z, rfl, hz, h1, h3, h2⟩
theorem build_name (cs : Array Value) (h : cs.size = 32) (w : World) : (Instr.buildSlice 52 1 #[(0, .agg cs)]).run Try.prog w = .ok (.slice (some ⟨w.heap.size, 0, none⟩) 1 1) (w.alloc (.cells cs 30)) := by
  obtain ⟨i, z, hi, hz, h1, h2, h3⟩ := hash_info
  refine run_buildSlice w 52 30 1 _ cs i z Try.underlying52 hi hz (by rw [h1]; decide) (by rw [h1]; decide) ?_
  rw [h1]
  exact fill_one 32 _ cs (by simp) h
theorem build_hl {ops : Array Oper} {rest : List Oper} {o : Oper} {a : Act} {w : World} {Q : Exit → Act → World → Prop} (hgd : o.guard = none) (p : Operand) (ho : o.op = .buildSlice 52 1 #[(0, p)]) (cs : Array Value) (hp : a.eval p = .agg cs) (hs : cs.size = 32)
    (h : wpList Try.prog ops Q rest (a.put o.dst (.slice (some ⟨w.heap.size, 0, none⟩) 1 1)) (w.alloc (.cells cs 30))) : wpList Try.prog ops Q (o :: rest) a w :=
  wpList_plain hgd fun _ hK => by
    unfold Oper.wp execOp
    simp only [ho, Sem.run_bind]
    rw [show (#[(0, p)] : Array (Nat × Operand)).map (fun (i, x) => (i, a.eval x)) = #[(0, .agg cs)] by simp [hp]]
    rw [build_name cs hs w]
    exact hK _ _ h
theorem news_bytes (w : World) (l : List UInt8) (t : TypeId) : ∀ j u, (Lib.byteCells l)[j]? = some u → (w.alloc (.cells (bytesV l) t)).cell? ((⟨w.heap.size, 0, none⟩ : Addr).add j) = some u := by
  rw [← bytesV_list]
  exact World.news_of_block (heap_alloc_new w _)
/-! ### names that are read -/
def namesC (ls : List (List UInt8)) : List Value := ls.flatMap Lib.byteCells
def Sc.Ey.nameTo (e : Ey) : Nat → List (List UInt8) × Ey
  | 0 => ([], e)
  | k + 1 => ((e.nameTo k).1 ++ [(e.nameTo k).2.name.1], (e.nameTo k).2.name.2)
def Sc.Ey.names (e : Ey) (n : Int) : List (List UInt8) × Ey := if (e.s.size : Int) / 32 < n then ([], dark) else e.nameTo n.toNat
theorem nameTo_length (e : Ey) (k : Nat) : (e.nameTo k).1.length = k := by
  induction k with
  | zero => rfl
  | succ k ih => simp [Ey.nameTo, ih]
def NamesPost (b : Nat) (w : World) (ls : List (List UInt8)) (e' : Ey) (r : Ending) (w' : World) : Prop :=
  ∃ v, r = .returned v ∧ w'.ownsRow w.heap.size 30 32 v ls.length (namesC ls) ∧ EyeAt w' b e' ∧ w.grownBy w' (some b)
set_option maxHeartbeats 1000000 in
theorem names_no (b : Nat) (e : Ey) (n : Int) (hsz : e.s.size ≤ 70368744177664) (w : World) (h : EyeAt w b e) (hn : (e.s.size : Int) / 32 < n) : Calls Try.prog 29 #[.pointer (some ⟨b, 0, none⟩), .int .i64 n] w fun r w' => NamesPost b w (e.names n).1 (e.names n).2 r w' := by
  have C1 := Lib.hid (left_at b e w h)
  have t1 : decide ((e.s.size : Int) / 32 < n) = true := decide_eq_true hn
  unfold Ey.names
  rw [if_pos hn]
  clear hn
  generalize e.s.size = k at *
  go_enter Try.func29, Try.ntmps29
  go_wp2_with fail
  refine C1.out.mono ?_
  rintro r w' ⟨rfl, rfl⟩
  go_wp2_with fail
  refine (blind_at b e _ h).mono ?_
  rintro r w3 ⟨rfl, hE3, hg3⟩
  go_wp2_with fail
  go_ret
  exact ⟨_, rfl, World.ownsRow_nil _ _ _ _, hE3, hg3⟩
set_option maxHeartbeats 1000000 in
theorem names_neg (b : Nat) (e : Ey) (n : Int) (hsz : e.s.size ≤ 70368744177664) (w : World) (h : EyeAt w b e) (hn : n < 0) : Calls Try.prog 29 #[.pointer (some ⟨b, 0, none⟩), .int .i64 n] w fun r w' => NamesPost b w (e.names n).1 (e.names n).2 r w' := by
  have C1 := Lib.hid (left_at b e w h)
  have hq : ¬ (e.s.size : Int) / 32 < n := by omega
  have t1 : decide ((e.s.size : Int) / 32 < n) = false := decide_eq_false hq
  have t2 : decide ((0 : Int) < n) = false := decide_eq_false (by omega)
  unfold Ey.names
  rw [if_neg hq, show n.toNat = 0 by omega]
  clear hn hq
  generalize e.s.size = k at *
  go_enter Try.func29, Try.ntmps29
  go_wp2_with fail
  refine C1.out.mono ?_
  rintro r w' ⟨rfl, rfl⟩
  clear C1
  go_wp2_with fail
  clear t1
  go_loop [5, 14] (fun v i => v = .slice none 0 0 ∧ i = .int .i64 0) (fun _ _ => 0)
  case atStart => exact ⟨rfl, rfl⟩
  case round =>
    obtain ⟨rfl, rfl⟩ := hrel
    go_wp2_with fail
    go_ret
    exact ⟨_, rfl, World.ownsRow_nil _ _ _ _, h, gb_refl _ _⟩
set_option maxRecDepth 100000 in
set_option maxHeartbeats 1000000 in
theorem names_yes (b : Nat) (e : Ey) (n : Nat) (hsz : e.s.size ≤ 70368744177664) (w : World) (h : EyeAt w b e) (hn : ¬ (e.s.size : Int) / 32 < n) : Calls Try.prog 29 #[.pointer (some ⟨b, 0, none⟩), .int .i64 n] w fun r w' => NamesPost b w (e.names n).1 (e.names n).2 r w' := by
  have C1 := Lib.hid (left_at b e w h)
  have t1 : decide ((e.s.size : Int) / 32 < n) = false := decide_eq_false hn
  unfold Ey.names
  rw [if_neg hn, Int.toNat_natCast]
  have hn2 : n ≤ 2199023255552 := by omega
  clear hn
  have hlt := h.lt
  generalize e.s.size = k at *
  go_enter Try.func29, Try.ntmps29
  go_wp2_with fail
  refine C1.out.mono ?_
  rintro r w' ⟨rfl, rfl⟩
  clear C1
  go_wp2_with fail
  clear t1
  go_loopw [5, 14] (fun v i wr => ∃ j : Nat, j ≤ n ∧ i = .int .i64 j ∧ wr.ownsRow w.heap.size 30 32 v j (namesC (e.nameTo j).1) ∧ EyeAt wr b (e.nameTo j).2 ∧ w.grownBy wr (some b)) (fun _ i _ => n - (intOf i).toNat)
  case atStart => exact ⟨0, Nat.zero_le _, rfl, World.ownsRow_nil _ _ _ _, h, gb_refl _ _⟩
  case round =>
    obtain ⟨j, hj, rfl, hown, hE, hg⟩ := hrel
    by_cases hlt2 : j < n
    · obtain ⟨i, z, hi, hz, hi1, hi2, hi3⟩ := hash_info
      have hl32 : (e.nameTo j).2.name.1.length = 32 := name32_length _
      have hnx : namesC (e.nameTo (j + 1)).1 = namesC (e.nameTo j).1 ++ Lib.byteCells (e.nameTo j).2.name.1 := by simp [namesC, Ey.nameTo]
      have hnx2 : (e.nameTo (j + 1)).2 = (e.nameTo j).2.name.2 := rfl
      have HNX := Lib.hid hnx
      have HNX2 := Lib.hid hnx2
      have hs32 := hv_size hl32
      have hnl : (Lib.byteCells (e.nameTo j).2.name.1).length = 1 * 32 := by rw [Lib.byteCells_length, hl32]
      have HNL := Lib.hid hnl
      have HS := Lib.hid hs32
      clear hnx hnx2 hl32 hs32 hnl
      go_wp2_with fail
      refine (name_at b _ _ hE).mono ?_
      rintro r w3 ⟨rfl, hE3, hg3⟩
      have hown3 := hown.kept hg3 (.inr (fun e => by have := (hown.lt b e).1; omega))
      have hbase : w.heap.size ≤ (w3.alloc (.cells (bytesV (e.nameTo j).2.name.1) 30)).heap.size := by simp only [World.size_alloc]; have := hg.size; have := hg3.size; omega
      have hm : j + 1 ≤ maxLen := by unfold maxLen; omega
      go_wp2_with (first
        | (with_reducible refine build_hl rfl _ rfl _ rfl HS.out ?_)
        | ((with_reducible refine wpList_append_own _ rfl _ _ 52 rfl w.heap.size 30 i z 32 32 Try.underlying52 hi hz hi1 hi2 hi3 (by omega) u5 j _ rfl (hown3.alloc _) ⟨w3.heap.size, 0, none⟩ 1 1 (Lib.byteCells (e.nameTo j).2.name.1) rfl HNL.out (news_bytes _ _ _) (Lib.byteCells_one _) hm (by omega) hbase ?_); intro v' w4 hown4 hgr4 _))
      go_roundw
      case rel => exact ⟨j + 1, by omega, by go_num, by rw [HNX.out]; exact hown4, by rw [HNX2.out]; exact EyeAt.grown (Has.alloc hE3 _) hgr4 (fun e => by have := (hown.lt b e.symm).1; omega), gb_own (gb_trans hg hg3) _ hgr4 (fun k hk => (hown.lt k hk).1)⟩
      case measure => simp [intOf]; omega
    · obtain rfl : j = n := by omega
      have HL := Lib.hid (nameTo_length e j)
      go_wp2_with fail
      go_ret
      exact ⟨_, rfl, by rw [HL.out]; exact hown, hE, hg⟩
theorem names_at (b : Nat) (e : Ey) (n : Int) (hsz : e.s.size ≤ 70368744177664) (w : World) (h : EyeAt w b e) : Calls Try.prog 29 #[.pointer (some ⟨b, 0, none⟩), .int .i64 n] w fun r w' => NamesPost b w (e.names n).1 (e.names n).2 r w' := by
  by_cases hn : (e.s.size : Int) / 32 < n
  · exact names_no b e n hsz w h hn
  · by_cases h0 : 0 ≤ n
    · obtain ⟨k, rfl⟩ := Int.eq_ofNat_of_zero_le h0
      exact names_yes b e k hsz w h hn
    · exact names_neg b e n hsz w h (by omega)
end Go.Proofs.Ytjdhedebkpclmaa
