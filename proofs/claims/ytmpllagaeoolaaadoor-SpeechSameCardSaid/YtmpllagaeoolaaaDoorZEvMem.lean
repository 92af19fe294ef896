/-
  Envelopes in memory: blocks that hold one, loads and stores; envelope: goodByte, goodWord, Good; the reference's Word; the laws' good.
-/
import Derived.Test.YtmpllagaeoolaaaDoorZEvMath
import Derived.Test.YtmpllagaeoolaaaDoorZHashMem2
import Derived.Laws.StructEq
namespace Go.Proofs.YtmpllagaeoolaaaDoor
open Go.RowKit Mem Sc
section
def evC (v : Ev) : List Value := [.string v.w, .string v.p]
def evA (v : Ev) : Array Value := #[.string v.w, .string v.p]
theorem evA_size (v : Ev) : (evA v).size = 2 := rfl
theorem evA_one (v : Ev) : (evA v).all (·.oneCell') = true := by simp [evA, Value.oneCell']
theorem evinfo : (Tryd.prog.info? 38).map (·.size) = some 2 := by kernel_rfl
/-- a block that holds an envelope -/
def EvAt (w : World) (k : Nat) (v : Ev) : Prop := Has w k (evA v) 38
variable {w w' : World} {k : Nat} {v : Ev}
theorem EvAt.lt (hh : EvAt w k v) : k < w.heap.size := Has.lt hh
theorem EvAt.on (hh : EvAt w k v) (hb : Below w.heap.size w w') : EvAt w' k v := below_has hb hh hh.lt
theorem EvAt.grown {r : Option Nat} (hh : EvAt w k v) (hg : w.grownBy w' r) (hn : some k ≠ r) : EvAt w' k v := gb_has hg hh hn
theorem EvAt.pen {b : Nat} {x x' : Value} (hh : EvAt w k v) (hs : PenStep w w' b x x') (hb : k ≠ b) (hv : x.ownBlock ≠ some k) : EvAt w' k v := hs.has hh hb hv
theorem EvAt.free (hh : EvAt w k v) (j : Nat) : w.frozen? ⟨k, j, none⟩ = false := Has.free hh j
theorem EvAt.c0 (hh : EvAt w k v) : w.cell? ⟨k, 0, none⟩ = some (.string v.w) := Has.cell hh 0
theorem EvAt.c1 (hh : EvAt w k v) : w.cell? ⟨k, 1, none⟩ = some (.string v.p) := Has.cell hh 1
theorem EvAt.range (hh : EvAt w k v) : w.rangeAt k 0 (evC v) := fun j u hu => by
  rw [Nat.zero_add, Has.cell hh j]
  show (evC v).toArray[j]? = some u
  rw [List.getElem?_toArray]
  exact hu
theorem ev_new (w : World) (v : Ev) : EvAt (w.alloc (.cells (evA v) 38)) w.heap.size v := Has.new _ _
theorem ev_newz (w : World) : EvAt (w.alloc (.cells #[.string ⟨#[]⟩, .string ⟨#[]⟩] 38)) w.heap.size evZ := ev_new w evZ
theorem ev_new1 (w : World) (ob : Obj) (v : Ev) : EvAt ((w.alloc ob).alloc (.cells (evA v) 38)) (w.heap.size + 1) v := Has.new1 ob _ _
section
variable {ops : Array Oper} {rest : List Oper} {o : Oper} {a : Act} {Q : Exit → Act → World → Prop}
theorem ev_load (hgd : o.guard = none) (x : Operand) (ho : o.op = .load 38 x) (g : Nat) (hx : a.eval x = .pointer (some ⟨g, 0, none⟩)) (hg : EvAt w g v)
    (hk : wpList Tryd.prog ops Q rest (a.put o.dst (.agg (evA v))) w) : wpList Tryd.prog ops Q (o :: rest) a w :=
  wpList_load_row hgd 38 x ho g hx 38 (evA v) (0, 0) _ (Has.out hg) Tryd.underlying38 rfl (evinfo.trans (by rw [evA_size])) hk
theorem ev_load_g (hw : Region.wanted o (yielded ops a.tmps) = true) (x : Operand) (ho : o.op = .load 38 x) (g : Nat) (hx : a.eval x = .pointer (some ⟨g, 0, none⟩)) (hg : EvAt w g v)
    (hk : wpList Tryd.prog ops Q rest (a.put o.dst (.agg (evA v))) w) : wpList Tryd.prog ops Q (o :: rest) a w :=
  BigFrame.wpList_want hw fun _ hK => wp_load_row 38 x ho g hx 38 (evA v) (0, 0) _ (Has.out hg) Tryd.underlying38 rfl (evinfo.trans (by rw [evA_size])) (hK _ _ hk)
theorem ev_load_mid (hgd : o.guard = none) (x : Operand) (ho : o.op = .load 38 x) (g off : Nat) (hx : a.eval x = .pointer (some ⟨g, off, none⟩)) (v : Ev) (hg : w.rangeAt g off (evC v))
    (hk : wpList Tryd.prog ops Q rest (a.put o.dst (.agg (evA v))) w) : wpList Tryd.prog ops Q (o :: rest) a w :=
  wpList_load_mid hgd 38 x ho g off hx (evC v) _ hg Tryd.underlying38 rfl evinfo hk
theorem ev_store (hgd : o.guard = none) (x y : Operand) (ho : o.op = .store 38 x y) (g : Nat) (cz : Array Value) (v' : Ev) (hx : a.eval x = .pointer (some ⟨g, 0, none⟩)) (hy : a.eval y = .agg cz) (e : cz = evA v') (hg : EvAt w g v)
    (hk : wpList Tryd.prog ops Q rest (a.put o.dst undef) (w.setRow g (evA v'))) : wpList Tryd.prog ops Q (o :: rest) a w := by
  subst e
  exact wpList_store_row hgd 38 x y ho g (evA v') hx hy 38 (evA v) (Has.out hg) evinfo rfl (evA_one v') hk
end
theorem results_cell_two {fn : Func} {p u v : Tmp} {ty : TypeId} (h : fn.results = #[.cell p ty, .tmp u, .tmp v]) (tmps : Array Value) (P : Program) (w : World) :
    (results fn tmps).run P w =
      ((asAddr (tmps.getD p undef)).run P w).andThen fun a w₁ => ((loadVar ty a).run P w₁).andThen fun x w₂ => .ok (.tuple #[x, tmps.getD u undef, tmps.getD v undef]) w₂ := by
  simp only [results, h]
  simp [Sem.run_bind, Result.andThen]
theorem ev_results3 {fn : Func} {p q s : Tmp} (hf : fn.results = #[.cell p 38, .tmp q, .tmp s]) (tmps : Array Value) (g : Nat) (b c : Value) (hp : tmps.getD p undef = .pointer (some ⟨g, 0, none⟩)) (hb : tmps.getD q undef = b) (hc : tmps.getD s undef = c) (hg : EvAt w g v) :
    (results fn tmps).run Tryd.prog w = .ok (.tuple #[.agg (evA v), b, c]) w := by
  have hl : (loadVar 38 ⟨g, 0, none⟩).run Tryd.prog w = .ok (.agg (evA v)) w := run_loadVar_row w g 38 38 (evA v) (0, 0) _ (Has.out hg) Tryd.underlying38 rfl (evinfo.trans (by rw [evA_size]))
  rw [results_cell_two hf, hp, hb, hc]
  simp [asAddr, hl, Result.andThen]
/-! ### equality -/
theorem ev_plain : Tryd.prog.eqGuardType Tryd.prog.depth 38 = false := by kernel_rfl
theorem part_str (cs : Array Value) (o : Nat) (v : Value) (h : cs[o]? = some v) (w : World) : (part 9 cs o).run Tryd.prog w = .ok v w := by
  simp [part, h]
instance evEqDec (a b : Ev) : Decidable (a = b) := decidable_of_iff _ (ev_ext a b).symm
theorem ba_beq (a b : ByteArray) : (a.toList == b.toList) = decide (a = b) := by
  rw [Bool.eq_iff_iff, beq_iff_eq, decide_eq_true_iff]
  constructor
  · intro h
    refine ba_ext ?_
    rw [← ByteArray.toList_eq, ← ByteArray.toList_eq]; exact h
  · rintro rfl; rfl
end
set_option maxHeartbeats 400000 in
theorem gbyte_at (b : UInt8) (g : Bool) (hg : gb b = g) (n : Nat) (hn : b.toNat = n) (w : World) : Calls Tryd.prog 80 #[.int .u8 (n : Int)] w fun e w' => e = .returned (.bool g) ∧ w = w' := by
  unfold gb at hg
  rw [hn] at hg
  clear hn b
  by_cases h1 : 97 ≤ n
  · have t1 : decide ((97 : Int) ≤ (n : Int)) = true := decide_eq_true (by omega)
    rw [decide_eq_true h1, Bool.true_and] at hg
    by_cases h2 : n ≤ 122
    · have t2 : decide ((n : Int) ≤ 122) = true := decide_eq_true (by omega)
      rw [decide_eq_true h2, Bool.true_or] at hg
      subst hg
      clear h1 h2
      go_enter Tryd.func80, Tryd.ntmps80
      go_wp2_with fail
      go_ret
      exact ⟨rfl, rfl⟩
    · have t2 : decide ((n : Int) ≤ 122) = false := decide_eq_false (by omega)
      have t3 : decide ((48 : Int) ≤ (n : Int)) = true := decide_eq_true (by omega)
      have t4 : decide ((n : Int) ≤ 57) = false := decide_eq_false (by omega)
      rw [decide_eq_false h2, decide_eq_true (show 48 ≤ n by omega), decide_eq_false (show ¬ n ≤ 57 by omega)] at hg
      subst hg
      clear h1 h2
      go_enter Tryd.func80, Tryd.ntmps80
      go_wp2_with fail
      go_ret
      exact ⟨rfl, rfl⟩
  · have t1 : decide ((97 : Int) ≤ (n : Int)) = false := decide_eq_false (by omega)
    rw [decide_eq_false h1, Bool.false_and, Bool.false_or] at hg
    by_cases h2 : 48 ≤ n
    · have t2 : decide ((48 : Int) ≤ (n : Int)) = true := decide_eq_true (by omega)
      rw [decide_eq_true h2, Bool.true_and] at hg
      by_cases h3 : n ≤ 57
      · have t3 : decide ((n : Int) ≤ 57) = true := decide_eq_true (by omega)
        rw [decide_eq_true h3] at hg
        subst hg
        clear h1 h2 h3
        go_enter Tryd.func80, Tryd.ntmps80
        go_wp2_with fail
        go_ret
        exact ⟨rfl, rfl⟩
      · have t3 : decide ((n : Int) ≤ 57) = false := decide_eq_false (by omega)
        rw [decide_eq_false h3] at hg
        subst hg
        clear h1 h2 h3
        go_enter Tryd.func80, Tryd.ntmps80
        go_wp2_with fail
        go_ret
        exact ⟨rfl, rfl⟩
    · have t2 : decide ((48 : Int) ≤ (n : Int)) = false := decide_eq_false (by omega)
      rw [decide_eq_false h2, Bool.false_and] at hg
      subst hg
      clear h1 h2
      go_enter Tryd.func80, Tryd.ntmps80
      go_wp2_with fail
      go_ret
      exact ⟨rfl, rfl⟩
theorem all_take_succ (l : List UInt8) (k : Nat) (h : k < l.length) (ha : (l.take k).all gb = true) : (l.take (k + 1)).all gb = gb l[k] := by
  rw [List.take_succ_eq_append_getElem h, List.all_append, ha]
  simp
theorem not_all (l : List UInt8) (k : Nat) (h : k < l.length) (ha : gb l[k] = false) : l.all gb = false := by
  rw [← Bool.not_eq_true]
  intro h2
  rw [List.all_eq_true.1 h2 _ (List.getElem_mem h)] at ha
  cases ha
set_option maxHeartbeats 1000000 in
theorem gword_at (s : ByteArray) (g : Bool) (hg : goodW s.data.toList = g) (w : World) : Calls Tryd.prog 62 #[.string s] w fun e w' => e = .returned (.bool g) ∧ w = w' := by
  have HL := Lib.hid (Lib.size_eq s)
  unfold goodW at hg
  rw [← HL.out] at hg
  by_cases h1 : 1 ≤ s.size
  · have t1 : decide ((s.size : Int) < 1) = false := decide_eq_false (by omega)
    rw [decide_eq_true h1, Bool.true_and] at hg
    by_cases h2 : s.size ≤ 12
    · have t2 : decide ((12 : Int) < (s.size : Int)) = false := decide_eq_false (by omega)
      rw [decide_eq_true h2, Bool.true_and] at hg
      have HG := Lib.hid hg
      clear hg h1
      go_enter Tryd.func62, Tryd.ntmps62
      go_wp2_with fail
      go_loop [14] (fun i => ∃ k : Nat, k ≤ s.size ∧ i = .int .i64 k ∧ Hid ((s.data.toList.take k).all gb = true)) (fun i => s.size - (intOf i).toNat)
      case atStart => exact ⟨0, Nat.zero_le _, rfl, Lib.hid rfl⟩
      case round =>
        obtain ⟨k, hk, rfl, HA⟩ := hrel
        by_cases hlt : k < s.size
        · have hkl : k < s.data.toList.length := by rw [← HL.out]; exact hlt
          have e := all_take_succ _ k hkl HA.out
          cases hb : gb s.data.toList[k]
          · have hgf : g = false := by rw [← HG.out]; exact not_all _ k hkl hb
            subst hgf
            have KB := Lib.hid (gbyte_at s.data.toList[k] false hb _ rfl)
            clear hb e
            go_wp2_with fail
            refine (KB.out _).mono ?_
            rintro r w' ⟨rfl, rfl⟩
            go_wp2_with fail
            go_ret
            exact ⟨rfl, rfl⟩
          · rw [hb] at e
            have E := Lib.hid e
            have KB := Lib.hid (gbyte_at s.data.toList[k] true hb _ rfl)
            clear hb e
            go_wp2_with fail
            refine (KB.out _).mono ?_
            rintro r w' ⟨rfl, rfl⟩
            go_wp2_with fail
            exact ⟨⟨k + 1, hlt, by go_num, E⟩, by simp [intOf]; omega⟩
        · obtain rfl : k = s.size := by omega
          have hgt : g = true := by
            rw [← HG.out]
            have := HA.out
            rwa [List.take_of_length_le (by rw [← HL.out]; exact Nat.le_refl _)] at this
          subst hgt
          go_wp2_with fail
          go_ret
          exact ⟨rfl, rfl⟩
    · have t2 : decide ((12 : Int) < (s.size : Int)) = true := decide_eq_true (by omega)
      rw [decide_eq_false h2, Bool.false_and] at hg
      subst hg
      clear h1 h2
      go_enter Tryd.func62, Tryd.ntmps62
      go_wp2_with fail
      go_ret
      exact ⟨rfl, rfl⟩
  · have t1 : decide ((s.size : Int) < 1) = true := decide_eq_true (by omega)
    rw [decide_eq_false h1, Bool.false_and, Bool.false_and] at hg
    subst hg
    clear h1
    go_enter Tryd.func62, Tryd.ntmps62
    go_wp2_with fail
    go_ret
    exact ⟨rfl, rfl⟩
/-- how the tests of one byte may go -/
theorem gb_ways (n : Nat) : (decide ((97 : Int) ≤ (n : Int)) = true ∧ decide ((n : Int) ≤ 122) = true ∧ 97 ≤ n ∧ n ≤ 122) ∨
    (decide ((97 : Int) ≤ (n : Int)) = true ∧ decide ((n : Int) ≤ 122) = false ∧ decide ((48 : Int) ≤ (n : Int)) = true ∧ decide ((n : Int) ≤ 57) = false ∧ 122 < n) ∨
    (decide ((97 : Int) ≤ (n : Int)) = false ∧ decide ((48 : Int) ≤ (n : Int)) = true ∧ decide ((n : Int) ≤ 57) = true ∧ 48 ≤ n ∧ n ≤ 57) ∨
    (decide ((97 : Int) ≤ (n : Int)) = false ∧ decide ((48 : Int) ≤ (n : Int)) = true ∧ decide ((n : Int) ≤ 57) = false ∧ 57 < n ∧ n < 97) ∨
    (decide ((97 : Int) ≤ (n : Int)) = false ∧ decide ((48 : Int) ≤ (n : Int)) = false ∧ n < 48) := by
  simp only [decide_eq_true_eq, decide_eq_false_iff_not]
  omega
theorem gb_is (b : UInt8) : gb b = true ↔ (97 ≤ b.toNat ∧ b.toNat ≤ 122) ∨ (48 ≤ b.toNat ∧ b.toNat ≤ 57) := by
  unfold gb
  simp only [Bool.or_eq_true, Bool.and_eq_true, decide_eq_true_eq]
theorem gb_no (b : UInt8) (h : ¬ ((97 ≤ b.toNat ∧ b.toNat ≤ 122) ∨ (48 ≤ b.toNat ∧ b.toNat ≤ 57))) : gb b = false := by
  rw [← Bool.not_eq_true, gb_is]; exact h
theorem P_cases (v : Ev) : decide v.P = (goodW v.w.data.toList && decide (v.p.size ≤ 16384)) := by
  rw [Bool.eq_iff_iff]
  simp only [decide_eq_true_eq, Bool.and_eq_true]
  exact Iff.rfl
set_option maxHeartbeats 1000000 in
theorem evgood_at (v : Ev) (g : Bool) (hg : decide v.P = g) (w : World) : Calls Tryd.prog 45 #[.agg (evA v)] w fun e w' => e = .returned (.bool g) ∧ Below w.heap.size w w' := by
  rw [P_cases] at hg
  have KW := Lib.hid (gword_at v.w)
  go_enter Tryd.func45, Tryd.ntmps45
  go_upto_region 1 with fail
  generalize hw1 : World.alloc _ _ = w1
  have hH : EvAt w1 w.heap.size v := by rw [← hw1]; exact ev_new w v
  have hB : Below w.heap.size w w1 := by rw [← hw1]; exact (Below.refl _ _).alloc (Nat.le_refl _) _
  clear hw1
  have c0 := hH.c0
  have c1 := hH.c1
  cases h : goodW v.w.data.toList
  · rw [h, Bool.false_and] at hg
    subst hg
    have KB := Lib.hid (KW.out false h)
    clear KW h
    go_wp2_with fail
    refine (KB.out _).mono ?_
    rintro r w2 ⟨rfl, rfl⟩
    go_wp2_with fail
    go_ret
    exact ⟨rfl, hB⟩
  · rw [h, Bool.true_and] at hg
    have KB := Lib.hid (KW.out true h)
    have t1 : decide ((v.p.size : Int) ≤ 16384) = g := by rw [← hg]; exact decide_eq_decide.2 (by omega)
    clear KW h hg
    go_wp2_with fail
    refine (KB.out _).mono ?_
    rintro r w2 ⟨rfl, rfl⟩
    go_wp2_with fail
    go_ret
    exact ⟨rfl, hB⟩
end Go.Proofs.YtmpllagaeoolaaaDoor
