/-
  Texts of this seat, one behind the other.
-/
import Derived.Test.YtpophaejeklaoaaGreatDoorBunQ32
import Derived.Test.YtpophaejeklaoaaGreatDoorZRegionInv2
import Derived.Laws.AppendOwnNone
import Derived.Maps.AppendAt
import Derived.Test.YtpophaejeklaoaaGreatDoorBunQ31
import Derived.Test.YtpophaejeklaoaaGreatDoorBunQ10
import Derived.Test.YtpophaejeklaoaaGreatDoorBunQ28
import Derived.Test.YtpophaejeklaoaaGreatDoorBunQ16
/-
  Regions that draw their order: a spot is made; times are put ahead of others.
-/
namespace Go.Proofs.YtpophaejeklaoaaGreatDoor
open Go.RowKit Mem Sc NN.Rg2
theorem rl_frame (a : Act) (n : Nat) (u : Nat → Value) (hs : a.tmps.size = n) (hd : a.defers = []) (hu : ∀ t, u t = a.eval (.tmp t)) : a = ⟨((List.range n).map u).toArray, []⟩ := by
  obtain ⟨tm, df⟩ := a
  obtain rfl : df = [] := hd
  congr 1
  apply Array.ext
  · simpa using hs
  · intro i h1 h2
    simp only [List.getElem_toArray, List.getElem_map, List.getElem_range, hu]
    simp [Act.eval, Array.getD_eq_getD_getElem?, h1]
/-! ### a spot is made -/
/-- blocks of spots from B on stay blocks of spots -/
def SpStep (B : Nat) (w w' : World) : Prop := ∀ b cs, B ≤ b → Has w b cs 43 → cs.size = 38 → ∃ cs', Has w' b cs' 43 ∧ cs'.size = 38
theorem SpStep.refl (B : Nat) (w : World) : SpStep B w w := fun _ cs _ h hs => ⟨cs, h, hs⟩
theorem SpStep.below {B : Nat} {w w' : World} (h : Below w.heap.size w w') : SpStep B w w' := fun _ cs _ h' hs => ⟨cs, below_has h h' h'.lt, hs⟩
theorem SpStep.row {B g : Nat} {s : Sp} {cs : Array Value} {w : World} (hg : Has w g cs 43) (hs : (spA s).size = 38) : SpStep B w (w.setRow g (spA s)) := fun b cs' _ h h' => by
  by_cases e : b = g
  · subst e; exact ⟨_, Has.row hg _, hs⟩
  · exact ⟨cs', Has.otherRow h _ _ e, h'⟩
def MkR (B bA : Nat) (s : Sp) (h : Hd) (s' : Sp) : Nat → Value → World → Prop
  | 0, v, _ => v = .pointer (some ⟨bA, 0, none⟩)
  | 1, v, _ => v = .agg (NN.ptA s.x)
  | 2, v, _ => v = .agg (hdA h)
  | 3, v, _ => v = .agg (bytesV s'.prev)
  | 4, v, _ => v = .agg (spA s')
  | 5, v, w => ∃ b cs, B ≤ b ∧ v = .pointer (some ⟨b, 0, none⟩) ∧ Has w b cs 43 ∧ cs.size = 38
  | _, _, _ => True
theorem MkR_stays {B bA : Nat} {s s' : Sp} {h : Hd} (i : Nat) (v : Value) (w w' : World) (hs : SpStep B w w') (hr : MkR B bA s h s' i v w) : MkR B bA s h s' i v w' := by
  match i, hr with
  | 0, hr => exact hr
  | 1, hr => exact hr
  | 2, hr => exact hr
  | 3, hr => exact hr
  | 4, hr => exact hr
  | 5, ⟨b, cs, h1, h2, h3, h4⟩ =>
    obtain ⟨cs', h5, h6⟩ := hs b cs h1 h3 h4
    exact ⟨b, cs', h1, h2, h5, h6⟩
  | _ + 6, _ => trivial
def DoneS (k : Nat) (p : Tmp) (B : Nat) (s : Sp) (listed : Array Bool) (a : Act) (w : World) : Prop := listed.getD k false = true → ∃ b, B ≤ b ∧ a.eval (.tmp p) = .pointer (some ⟨b, 0, none⟩) ∧ SpAt w b s
theorem DoneS.pre {k i : Nat} {p : Tmp} {B : Nat} {s : Sp} {listed : Array Bool} {a : Act} {w : World} (h : (listed.setIfInBounds i true).getD k false = false) : DoneS k p B s (listed.setIfInBounds i true) a w := fun hl => by rw [h] at hl; cases hl
section
variable {ρ : Operand → Value} {o : Oper} {w : World}
theorem sfield0 (w : World) (g : Nat) : (Instr.fieldAt 43 (.pointer (some ⟨g, 0, none⟩)) 0).run Tryz.prog w = .ok (.pointer (some ⟨g, 0, none⟩)) w := by kernel_rfl
theorem ex_sfield0 {x : Operand} {g : Nat} (ho : o.op = .fieldAddr 43 x 0) (hx : ρ x = .pointer (some ⟨g, 0, none⟩)) : (execOp ρ o).run Tryz.prog w = .ok (.value (.pointer (some ⟨g, 0, none⟩))) w := by
  unfold execOp
  simp only [ho, hx, Sem.run_bind, sfield0, Result.andThen_ok]
  rfl
theorem ex_load_pt {x : Operand} {g : Nat} {y : NN.Pt} (ho : o.op = .load 40 x) (hx : ρ x = .pointer (some ⟨g, 0, none⟩)) (hg : w.rangeAt g 0 (NN.ptA y).toList) : (execOp ρ o).run Tryz.prog w = .ok (.value (.agg (NN.ptA y))) w := by
  unfold execOp
  simp only [ho, hx, Sem.run_bind, run_pt w g y hg, Result.andThen_ok]
  rfl
theorem ex_load_hd {x : Operand} {g : Nat} {h : Hd} (ho : o.op = .load 30 x) (hx : ρ x = .pointer (some ⟨g, 0, none⟩)) (hg : HdAt w g h) (hs : (hdA h).size = 68) : (execOp ρ o).run Tryz.prog w = .ok (.value (.agg (hdA h))) w := by
  have hl : (loadVar 30 ⟨g, 0, none⟩).run Tryz.prog w = .ok (.agg (hdA h)) w := run_loadVar_row w g 30 30 (hdA h) (0, 0) _ (Has.out hg) Tryz.underlying30 rfl (hdinfo.trans (by rw [hs]))
  unfold execOp
  simp only [ho, hx, Instr.loadAt, Instr.sureAddr, Sem.run_bind, Sem.run_pure, Result.andThen_ok, hl]
theorem ex_alloc_sp (ho : o.op = .alloc 43) : (execOp ρ o).run Tryz.prog w = .ok (.value (.pointer (some ⟨w.heap.size, 0, none⟩))) (w.alloc (.cells (spA spZ) 43)) := by
  unfold execOp
  simp only [ho]
  kernel_rfl
theorem ex_store_sp {x y : Operand} {g : Nat} {s : Sp} {cs : Array Value} (ho : o.op = .store 43 x y) (hx : ρ x = .pointer (some ⟨g, 0, none⟩)) (hy : ρ y = .agg (spA s)) (hg : Has w g cs 43) (hs : cs.size = 38) (hs' : (spA s).size = 38) : (execOp ρ o).run Tryz.prog w = .ok .skip (w.setRow g (spA s)) := by
  unfold execOp
  simp only [ho, hx, hy, Instr.storeAt, Instr.sureAddr, Sem.run_bind, Sem.run_pure, Result.andThen_ok, run_storeVar_row w g 43 43 cs (spA s) (Has.out hg) (spinfo.trans (by rw [hs'])) (by rw [hs, hs']) (spA_one s)]
/-- a spot of a point and a name -/
theorem len_cons {n : Nat} {l : List UInt8} (h : l.length = n + 1) : ∃ a r, l = a :: r ∧ r.length = n := by
  cases l with
  | nil => simp at h
  | cons a r => exact ⟨a, r, rfl, by simpa using h⟩
set_option maxRecDepth 100000 in
theorem built_sp (x : NN.Pt) (l : List UInt8) (hl : l.length = 32) : Tryz.prog.built 43 [(0, .agg (NN.ptA x)), (1, .agg (bytesV l))] = some (spA ⟨x, l, none, 0, 0⟩) := by
  obtain ⟨a0, l0, rfl, h0⟩ := len_cons hl
  obtain ⟨a1, l1, rfl, h1⟩ := len_cons h0
  obtain ⟨a2, l2, rfl, h2⟩ := len_cons h1
  obtain ⟨a3, l3, rfl, h3⟩ := len_cons h2
  obtain ⟨a4, l4, rfl, h4⟩ := len_cons h3
  obtain ⟨a5, l5, rfl, h5⟩ := len_cons h4
  obtain ⟨a6, l6, rfl, h6⟩ := len_cons h5
  obtain ⟨a7, l7, rfl, h7⟩ := len_cons h6
  obtain ⟨a8, l8, rfl, h8⟩ := len_cons h7
  obtain ⟨a9, l9, rfl, h9⟩ := len_cons h8
  obtain ⟨a10, l10, rfl, h10⟩ := len_cons h9
  obtain ⟨a11, l11, rfl, h11⟩ := len_cons h10
  obtain ⟨a12, l12, rfl, h12⟩ := len_cons h11
  obtain ⟨a13, l13, rfl, h13⟩ := len_cons h12
  obtain ⟨a14, l14, rfl, h14⟩ := len_cons h13
  obtain ⟨a15, l15, rfl, h15⟩ := len_cons h14
  obtain ⟨a16, l16, rfl, h16⟩ := len_cons h15
  obtain ⟨a17, l17, rfl, h17⟩ := len_cons h16
  obtain ⟨a18, l18, rfl, h18⟩ := len_cons h17
  obtain ⟨a19, l19, rfl, h19⟩ := len_cons h18
  obtain ⟨a20, l20, rfl, h20⟩ := len_cons h19
  obtain ⟨a21, l21, rfl, h21⟩ := len_cons h20
  obtain ⟨a22, l22, rfl, h22⟩ := len_cons h21
  obtain ⟨a23, l23, rfl, h23⟩ := len_cons h22
  obtain ⟨a24, l24, rfl, h24⟩ := len_cons h23
  obtain ⟨a25, l25, rfl, h25⟩ := len_cons h24
  obtain ⟨a26, l26, rfl, h26⟩ := len_cons h25
  obtain ⟨a27, l27, rfl, h27⟩ := len_cons h26
  obtain ⟨a28, l28, rfl, h28⟩ := len_cons h27
  obtain ⟨a29, l29, rfl, h29⟩ := len_cons h28
  obtain ⟨a30, l30, rfl, h30⟩ := len_cons h29
  obtain ⟨a31, l31, rfl, h31⟩ := len_cons h30
  obtain rfl := List.eq_nil_of_length_eq_zero h31
  clear hl h0 h1 h2 h3 h4 h5 h6 h7 h8 h9 h10 h11 h12 h13 h14 h15 h16 h17 h18 h19 h20 h21 h22 h23 h24 h25 h26 h27 h28 h29 h30 h31
  kernel_rfl
theorem ex_build_sp {x y : Operand} {p : NN.Pt} {l : List UInt8} (ho : o.op = .build 43 #[(0, x), (1, y)]) (hx : ρ x = .agg (NN.ptA p)) (hy : ρ y = .agg (bytesV l)) (hl : l.length = 32) : (execOp ρ o).run Tryz.prog w = .ok (.value (.agg (spA ⟨p, l, none, 0, 0⟩))) w := by
  unfold execOp
  simp only [ho, Sem.run_bind]
  rw [show (#[(0, x), (1, y)] : Array (Nat × Operand)).map (fun (i, x) => (i, ρ x)) = #[(0, .agg (NN.ptA p)), (1, .agg (bytesV l))] by simp [hx, hy], run_build w 43 _ _ (built_sp p l hl)]
  rfl
end
end Go.Proofs.YtpophaejeklaoaaGreatDoor
/-
  A region that draws its order: a time is put ahead of others, and the row goes into a spot.
-/
namespace Go.Proofs.YtpophaejeklaoaaGreatDoor
open Go.RowKit Mem Sc NN.Rg2
theorem rl_int_info : ∃ i z, Tryz.prog.info? 3 = some i ∧ i.zero = some z ∧ i.size = 1 ∧ i.bytes = 8 ∧ z.cells.size = 1 := by
  have h1 : (Tryz.prog.info? 3).map (·.size) = some 1 := by kernel_rfl
  have h2 : ((Tryz.prog.info? 3).bind (·.zero)) = some (.int .i64 0) := by kernel_rfl
  have h3 : (Tryz.prog.info? 3).map (·.bytes) = some 8 := by kernel_rfl
  cases hi : Tryz.prog.info? 3 with
  | none => rw [hi] at h1; cases h1
  | some i =>
    rw [hi] at h1 h2 h3
    exact ⟨i, .int .i64 0, rfl, by simpa using h2, by simpa using h1, by simpa using h3, rfl⟩
section
variable {w : World} {lo hi n cap k : Nat} {l : List Int}
/-- the first k of a slice that may be nil -/
theorem cut_opt {p : Option Addr} (hl : l.length = n) (hk : k ≤ n) (hc : n ≤ cap) (h : MM.Lie w lo hi p l) (hp : p = none → n = 0 ∧ cap = 0) :
    ∃ p', (∀ w' : World, (Instr.sliceAt 41 (.slice p n cap) none (some (.int .i64 (k : Int))) none).run Tryz.prog w' = .ok (.slice p' k cap) w') ∧ MM.Lie w lo hi p' (l.take k) ∧ (p' = none → k = 0 ∧ cap = 0) := by
  obtain ⟨p', h1, h2⟩ := MM.cut_take hl hk hc h
  cases p with
  | none =>
    obtain ⟨rfl, rfl⟩ := hp rfl
    exact ⟨p', h1, h2, fun _ => ⟨by omega, rfl⟩⟩
  | some a =>
    by_cases h0 : 0 < k
    · obtain ⟨b, off, rfl, _⟩ := h2 (by simp; omega)
      exact ⟨_, h1, h2, fun e => by cases e⟩
    · obtain rfl : k = 0 := by omega
      refine ⟨some (if cap = 0 then a else a.add 0), fun w' => ?_, by rw [List.take_zero]; exact MM.Lie.none, fun e => by cases e⟩
      rw [run_sliceAt_slice w' 41 _ _ _ _ (by kernel_rfl), run_slice_h w' 41 (some a) n cap (by kernel_rfl) .i64 ((0 : Nat) : Int) (by omega) (by omega)]
      rw [show Tryz.prog.elem 41 = 3 by kernel_rfl]
      by_cases hc0 : cap = 0 <;> simp [sliced, Tryz.sizeOf3, hc0]
end
theorem owns_slice_int {w : World} {base : Nat} {v : Value} {n : Nat} {xs : List Value} {e : Nat} (h : w.ownsRow base e 1 v n xs) : ∃ p cap, v = .slice p n cap := by
  rcases h.2 with ⟨rfl, rfl⟩ | ⟨g, c, cur, rfl, _⟩
  · exact ⟨_, _, rfl⟩
  · exact ⟨_, _, rfl⟩
/-- what stands while times are put ahead: the new row, ahead of the append; the longer one; the spot's block -/
def TmI (B bO : Nat) (o : Sp) (ht : Int) (T : List Int) (k : Nat) (l : Array Bool) (a : Act) (w : World) : Prop :=
  (l.getD 2 false = true → l.getD 10 false = false → ∃ g, B ≤ g ∧ a.eval (.tmp 57) = .slice (some ⟨g, 0, none⟩) 1 1 ∧ Has w g #[.int .i64 ht] 3) ∧
  (l.getD 10 false = true → l.getD 12 false = false → ∃ p c, a.eval (.tmp 65) = .slice p (1 + k) c ∧ w.ownsRow B 3 1 (.slice p (1 + k) c) (1 + k) ((ht :: T).map (Value.int .i64))) ∧
  (l.getD 12 false = false → SpAt w bO o) ∧
  (l.getD 12 false = true → ∃ p c, SpAt w bO { o with a := p, n := 1 + k, c := c } ∧ w.ownsRow B 3 1 (.slice p (1 + k) c) (1 + k) ((ht :: T).map (Value.int .i64)))
theorem getD_none (l : Array Bool) (i j : Nat) (hi : i < l.size) (h : i ≠ j) : (l.setIfInBounds i true).getD j false = l.getD j false := by rw [getD_set _ _ _ hi, if_neg h]
theorem TmI.keep {B bO : Nat} {o : Sp} {ht : Int} {T : List Int} {k : Nat} {l : Array Bool} {a : Act} {w : World} (h : TmI B bO o ht T k l a w) (i : Nat) (hi : i < l.size) (h2 : i ≠ 2) (h10 : i ≠ 10) (h12 : i ≠ 12) (d : Option Tmp) (v : Value) (hd : d ≠ some 57) (hd2 : d ≠ some 65) :
    TmI B bO o ht T k (l.setIfInBounds i true) (a.put d v) w := by
  obtain ⟨p1, p2, p3, p4⟩ := h
  unfold TmI
  rw [getD_none l i 2 hi h2, getD_none l i 10 hi h10, getD_none l i 12 hi h12, Act.eval_put (fun d' hdd e => hd (by rw [hdd]; cases e; rfl)), Act.eval_put (fun d' hdd e => hd2 (by rw [hdd]; cases e; rfl))]
  exact ⟨p1, p2, p3, p4⟩
def TmR (bA bH bO : Nat) (a : Option Addr) (n c : Nat) (p1 : Option Addr) (k : Nat) (ht : Int) : Nat → Value → Prop
  | 0, v => v = .pointer (some ⟨bH, 65, none⟩)
  | 1, v => v = .int .i64 ht
  | 3, v => v = .pointer (some ⟨bA, 37, none⟩)
  | 4, v => v = .slice a n c
  | 5, v => v = .pointer (some ⟨bA, 37, none⟩)
  | 6, v => v = .slice a n c
  | 7, v => v = .int .i64 (n : Int)
  | 8, v => v = .int .i64 (k : Int)
  | 9, v => v = .slice p1 k c
  | 11, v => v = .pointer (some ⟨bO, 37, none⟩)
  | _, _ => True
section
variable {ρ : Operand → Value} {o : Oper} {w : World}
theorem hfield3 (w : World) (g : Nat) : (Instr.fieldAt 30 (.pointer (some ⟨g, 0, none⟩)) 3).run Tryz.prog w = .ok (.pointer (some ⟨g, 65, none⟩)) w := by kernel_rfl
theorem sfield2 (w : World) (g : Nat) : (Instr.fieldAt 43 (.pointer (some ⟨g, 0, none⟩)) 2).run Tryz.prog w = .ok (.pointer (some ⟨g, 37, none⟩)) w := by kernel_rfl
theorem ex_hfield3 {x : Operand} {g : Nat} (ho : o.op = .fieldAddr 30 x 3) (hx : ρ x = .pointer (some ⟨g, 0, none⟩)) : (execOp ρ o).run Tryz.prog w = .ok (.value (.pointer (some ⟨g, 65, none⟩))) w := by
  unfold execOp
  simp only [ho, hx, Sem.run_bind, hfield3, Result.andThen_ok]
  rfl
theorem ex_sfield2 {x : Operand} {g : Nat} (ho : o.op = .fieldAddr 43 x 2) (hx : ρ x = .pointer (some ⟨g, 0, none⟩)) : (execOp ρ o).run Tryz.prog w = .ok (.value (.pointer (some ⟨g, 37, none⟩))) w := by
  unfold execOp
  simp only [ho, hx, Sem.run_bind, sfield2, Result.andThen_ok]
  rfl
theorem load_ints {p : Addr} {a : Option Addr} {n c : Nat} (h : w.cell? p = some (.slice a n c)) : (loadVar 41 p).run Tryz.prog w = .ok (.slice a n c) w := by
  go_simp
theorem ex_load_ints {x : Operand} {p : Addr} {a : Option Addr} {n c : Nat} (ho : o.op = .load 41 x) (hx : ρ x = .pointer (some p)) (hc : w.cell? p = some (.slice a n c)) : (execOp ρ o).run Tryz.prog w = .ok (.value (.slice a n c)) w := by
  unfold execOp
  simp only [ho, hx, Instr.loadAt, Instr.sureAddr, Sem.run_bind, Sem.run_pure, Result.andThen_ok, load_ints hc]
theorem store_ints {p : Addr} {a : Option Addr} {n c : Nat} {u : Value} (hf : w.frozen? p = false) (hc : w.cell? p = some u) : (storeVar 41 p (.slice a n c)).run Tryz.prog w = .ok () (w.setCell p (.slice a n c)) := by
  go_simp
theorem ex_store_ints {x y : Operand} {p : Addr} {a : Option Addr} {n c : Nat} {u : Value} (ho : o.op = .store 41 x y) (hx : ρ x = .pointer (some p)) (hy : ρ y = .slice a n c) (hf : w.frozen? p = false) (hc : w.cell? p = some u) : (execOp ρ o).run Tryz.prog w = .ok .skip (w.setCell p (.slice a n c)) := by
  unfold execOp
  simp only [ho, hx, hy, Instr.storeAt, Instr.sureAddr, Sem.run_bind, Sem.run_pure, Result.andThen_ok, store_ints hf hc]
theorem build_one (w : World) (z : Int) : (Instr.buildSlice 41 1 #[(0, .int .i64 z)]).run Tryz.prog w = .ok (.slice (some ⟨w.heap.size, 0, none⟩) 1 1) (w.alloc (.cells #[.int .i64 z] 3)) := by kernel_rfl
theorem ex_build_one {x : Operand} {z : Int} (ho : o.op = .buildSlice 41 1 #[(0, x)]) (hx : ρ x = .int .i64 z) : (execOp ρ o).run Tryz.prog w = .ok (.value (.slice (some ⟨w.heap.size, 0, none⟩) 1 1)) (w.alloc (.cells #[.int .i64 z] 3)) := by
  unfold execOp
  simp only [ho, Sem.run_bind]
  rw [show (#[(0, x)] : Array (Nat × Operand)).map (fun (i, x) => (i, ρ x)) = #[(0, .int .i64 z)] by simp [hx], build_one w z]
  rfl
theorem ex_len {x : Operand} {a : Option Addr} {n c : Nat} (ho : o.op = .call { callee := .builtin .len, args := #[x], argTypes := #[41] }) (hx : ρ x = .slice a n c) : (execOp ρ o).run Tryz.prog w = .ok (.value (.int .i64 (n : Int))) w := by
  unfold execOp
  simp only [ho, resolve, invoke, builtin, Sem.run_bind, Sem.run_pure, Result.andThen_ok, List.map_toArray, List.map_cons, List.map_nil, hx]
  kernel_rfl
theorem ex_min {x y : Operand} {a b m : Int} (ho : o.op = .call { callee := .builtin .min, args := #[x, y], argTypes := #[3, 3] }) (hx : ρ x = .int .i64 a) (hy : ρ y = .int .i64 b) (hm : m = min a b) : (execOp ρ o).run Tryz.prog w = .ok (.value (.int .i64 m)) w := by
  have hr := NN.min_is (P := Tryz.prog) a b m hm #[3, 3] o.type w
  unfold execOp
  simp only [ho, resolve, invoke, builtin, Sem.run_bind, Sem.run_pure, Result.andThen_ok, List.map_toArray, List.map_cons, List.map_nil, hx, hy, hr]
theorem ex_slice {s h : Operand} {p p' : Option Addr} {n c k : Nat} (ho : o.op = .slice 41 s none (some h) none) (hs : ρ s = .slice p n c) (hh : ρ h = .int .i64 (k : Int)) (hr : (Instr.sliceAt 41 (.slice p n c) none (some (.int .i64 (k : Int))) none).run Tryz.prog w = .ok (.slice p' k c) w) : (execOp ρ o).run Tryz.prog w = .ok (.value (.slice p' k c)) w := by
  unfold execOp
  simp only [ho, hs, hh, Option.map_some, Option.map_none, Sem.run_bind, Sem.run_pure, hr, Result.andThen_ok]
/-- what is appended to a slice that is the call's own, nil or not -/
theorem ex_append {lo hi : Nat} (s x : Operand) (base : Nat) (v : Value) (n : Nat) (l : List Int) (hs : ρ s = v) (hown : w.ownsRow base 3 1 v n (l.map (Value.int .i64)))
    (ad : Option Addr) (m c : Nat) (z : List Int) (hx : ρ x = .slice ad m c) (hnil : ad = none → m = 0 ∧ c = 0) (hz : z.length = m) (hL : MM.Lie w lo hi ad z) (hn : n + m ≤ 1000) (hbase : base ≤ w.heap.size) :
    ∃ v' w', (∀ o : Oper, o.op = .call { callee := .builtin .append, args := #[s, x], argTypes := #[41, 41] } → o.type = 41 → (execOp ρ o).run Tryz.prog w = .ok (.value v') w') ∧ w'.ownsRow base 3 1 v' (n + m) ((l ++ z).map (Value.int .i64)) ∧ w.grownBy w' v.ownBlock := by
  obtain ⟨i, y, hi, hzz, h1, h2, h3⟩ := rl_int_info
  cases ad with
  | none =>
    obtain ⟨rfl, rfl⟩ := hnil rfl
    obtain rfl : z = [] := List.eq_nil_of_length_eq_zero hz
    have hrun := run_append_owned_none (P := Tryz.prog) (w := w) base 41 41 3 i 1 Tryz.underlying41 hi v n _ hown
    refine ⟨v, w, fun o ho hty => ?_, by simpa using hown, ⟨rfl, rfl, rfl, Nat.le_refl _, fun _ _ _ => rfl⟩⟩
    unfold execOp
    simp only [ho, hty, resolve, invoke, builtin, Sem.run_bind, Sem.run_pure, Result.andThen_ok, List.map_toArray, List.map_cons, List.map_nil, hs, hx, hrun]
  | some ad =>
    obtain ⟨v', w', hr, g1, g2, _⟩ := run_append_own_at (P := Tryz.prog) w base 41 41 3 i y 1 8 Tryz.underlying41 hi hzz h1 h2 h3 (by decide) v n _ hown ad m c (z.map (Value.int .i64)) (by simpa using hz) (fun j u hj => by
      have hj0 : j < z.length := by have := (List.getElem?_eq_some_iff.1 hj).1; simpa using this
      obtain ⟨b, off, e, _, _, hc⟩ := hL (by omega)
      cases e
      rw [MM.add_at, hc j hj0, ← hj]
      simp [List.getD_eq_getElem?_getD, hj0]) (fun u hu => by obtain ⟨q, _, rfl⟩ := List.mem_map.1 hu; rfl) (by unfold maxLen; omega) (by omega) hbase
    refine ⟨v', w', fun o ho hty => ?_, by rw [List.map_append]; exact g1, g2⟩
    unfold execOp
    simp only [ho, hty, resolve, invoke, builtin, Sem.run_bind, Sem.run_pure, Result.andThen_ok, List.map_toArray, List.map_cons, List.map_nil, hs, hx, hr]
end
/-- the new row is the call's own -/
theorem owns_one {w : World} {B g : Nat} {z : Int} (hg : Has w g #[.int .i64 z] 3) (hB : B ≤ g) : w.ownsRow B 3 1 (.slice (some ⟨g, 0, none⟩) 1 1) 1 ([z].map (Value.int .i64)) :=
  ⟨rfl, .inr ⟨g, 1, #[.int .i64 z], rfl, hB, hg, Nat.le_refl _, by decide, rfl, rfl⟩⟩
theorem owns_some {w : World} {B k c : Nat} {p : Option Addr} {xs : List Value} (h : w.ownsRow B 3 1 (.slice p (1 + k) c) (1 + k) xs) : ∃ g, p = some ⟨g, 0, none⟩ ∧ 1 + k ≤ c := by
  rcases h.2 with ⟨e, h0⟩ | ⟨g, cap, cur, e, _, _, hn, _⟩
  · omega
  · cases e
    exact ⟨g, rfl, hn⟩
theorem gb_past {v w w' : World} {r g : Nat} (h : v.grownBy w (some r)) (h' : w.grownBy w' (some g)) (hg : v.heap.size ≤ g) : v.grownBy w' (some r) :=
  ⟨h'.os.trans h.os, h'.tape.trans h.tape, h'.output.trans h.output, Nat.le_trans h.size h'.size, fun q hq hne => (h'.block q (Nat.lt_of_lt_of_le hq h.size) (by intro e; cases e; omega)).trans (h.block q hq hne)⟩
theorem gb_setOne (w : World) (g o : Nat) (v : Value) : w.grownBy (w.setCell ⟨g, o, none⟩ v) (some g) := gb_setCell (gb_refl w _) o v
end Go.Proofs.YtpophaejeklaoaaGreatDoor
/-
  rule: Behind.
-/
namespace Go.Proofs.YtpophaejeklaoaaGreatDoor
open Go.RowKit Mem Sc NN.Rg2
/-- what stands while the spot behind a header is made -/
structure BhS (w wr : World) (bP bA bH bR bO : Nat) (p : NN.Pr) (s : Sp) (h : Hd) (o : Sp) : Prop where
  be : Below w.heap.size w wr
  p : NN.PrAt wr bP p
  a : SpAt wr bA s
  h : HdAt wr bH h
  r : SpAt wr bR spZ
  o : SpAt wr bO o
theorem BhS.on {w wr w' : World} {bP bA bH bR bO : Nat} {p : NN.Pr} {s : Sp} {h : Hd} {o : Sp} (hs : BhS w wr bP bA bH bR bO p s h o) (hb : Below wr.heap.size wr w') : BhS w w' bP bA bH bR bO p s h o :=
  ⟨hs.be.trans (hb.mono hs.be.size), hs.p.on hb, hs.a.on hb, hs.h.on hb, hs.r.on hb, hs.o.on hb⟩
theorem BhS.put {w wr : World} {bP bA bH bR bO : Nat} {p : NN.Pr} {s : Sp} {h : Hd} {o o' : Sp} (hs : BhS w wr bP bA bH bR bO p s h o) (j : Nat) (u : Value) (hX : SpAt (wr.setCell ⟨bO, j, none⟩ u) bO o') (h1 : bP ≠ bO) (h2 : bA ≠ bO) (h3 : bH ≠ bO) (h4 : bR ≠ bO) (h5 : w.heap.size ≤ bO) : BhS w (wr.setCell ⟨bO, j, none⟩ u) bP bA bH bR bO p s h o' :=
  ⟨hs.be.setCell h5 u, NN.Has.other hs.p _ _ h1, hs.a.other _ _ h2, Has.other hs.h _ _ h3, hs.r.other _ _ h4, hX⟩
set_option maxRecDepth 100000 in
set_option maxHeartbeats 4000000 in
theorem behind_first (p : NN.Pr) (hz : (NN.prA p).size = 83) (xh xb xt xf xr : Int) (prev : List UInt8) (hp32 : prev.length = 32) (a : Option Addr) (n c : Nat) (h : Hd) (ho : h.ok) (id : List UInt8) (i32 : id.length = 32) (hb ht : Int) (eb : Hid (h.bits = hb)) (et : Hid (h.time = ht))
    (xh1 : Int) (wx : IntKind.i64.wrap (xh + 1) = xh1) (KS : Hid (∀ w, Calls Tryz.prog 28 #[.agg (NN.prA p), .int .i64 xh] w fun e w' => e = .returned (.bool true) ∧ Below w.heap.size w w')) (KI : Hid (∀ w, Tab w → Calls Tryz.prog 23 #[.agg (hdA h)] w fun e w' => e = .returned (.agg (bytesV id)) ∧ Below w.heap.size w w'))
    (ts : List Int) (hl : ts.length = n) (hc : n ≤ c) (hmax : n < 9223372036854775808) (hnil : a = none → n = 0 ∧ c = 0) (k : Nat) (hk : k = min n 10) (w : World) (hT : Tab w) (hL : MM.Lie w 0 w.heap.size a ts) :
    Calls Tryz.prog 12 #[.agg (NN.prA p), .agg (spA ⟨⟨xh, xb, xt, xf, xr⟩, prev, a, n, c⟩), .agg (hdA h)] w fun r w' => ∃ b' c', r = .returned (.agg (spA ⟨⟨xh1, hb, ht, ht, hb⟩, id, some ⟨b', 0, none⟩, 1 + k, c'⟩)) ∧ 1 + k ≤ c' ∧ MM.Lie w' w.heap.size w'.heap.size (some ⟨b', 0, none⟩) (ht :: ts.take k) ∧ Below w.heap.size w w' := by
  have za := hdA_size ho
  have so : (⟨⟨xh, xb, xt, xf, xr⟩, prev, a, n, c⟩ : Sp).ok := hp32
  have zs := spA_size so
  have z0 := spA_size spZ_ok
  have hTr : ∀ v, Below w.heap.size w v → Tab v := fun v hb => hT.below hb
  have HTr := Lib.hid hTr
  obtain ⟨p1, hcut, hL1, hnil1⟩ := cut_opt hl (by omega : k ≤ n) hc hL hnil
  have HL1 := Lib.hid hL1
  have HN1 := Lib.hid hnil1
  have hlen1 : (ts.take k).length = k := by simp; omega
  have HLN := Lib.hid hlen1
  have hmin := NN.min_is (P := Tryz.prog) (n : Int) 10 (k : Int) (by omega)
  have hk10 : k ≤ 10 := by omega
  have hkm : Hid ((k : Int) = min (n : Int) 10) := Lib.hid (by omega)
  generalize ts.take k = T at *
  clear hT hTr hL hL1 hnil hnil1 hlen1 hl hk
  go_enter Tryz.func12, Tryz.ntmps12
  go_upto_region 1 with fail
  generalize hw0 : World.alloc _ _ = v0
  obtain ⟨hB0, hP0, hA0, hH0, hR0⟩ : Below w.heap.size w v0 ∧ NN.PrAt v0 w.heap.size p ∧ SpAt v0 (w.heap.size + 1) ⟨⟨xh, xb, xt, xf, xr⟩, prev, a, n, c⟩ ∧ HdAt v0 (w.heap.size + 1 + 1) h ∧ SpAt v0 (w.heap.size + 1 + 1 + 1) spZ := by
    rw [← hw0]
    refine ⟨((((Below.refl _ _).alloc (Nat.le_refl _) _).alloc (by simp) _).alloc (by simp; omega) _).alloc (by simp; omega) _, (((NN.Has.new _ _).alloc _).alloc _).alloc _, ((Has.new1 _ _ _).alloc _).alloc _, (Has.new2 _ _ _ _).alloc _, ?_⟩
    have := sp_newz (((w.alloc (.cells (NN.prA p) 32)).alloc (.cells (spA ⟨⟨xh, xb, xt, xf, xr⟩, prev, a, n, c⟩) 43)).alloc (.cells (hdA h) 30))
    simpa using this
  clear hw0
  obtain ⟨bP, hbP⟩ : ∃ b, b = w.heap.size := ⟨_, rfl⟩
  obtain ⟨bA, hbA⟩ : ∃ b, b = w.heap.size + 1 := ⟨_, rfl⟩
  obtain ⟨bH, hbH⟩ : ∃ b, b = w.heap.size + 1 + 1 := ⟨_, rfl⟩
  obtain ⟨bR, hbR⟩ : ∃ b, b = w.heap.size + 1 + 1 + 1 := ⟨_, rfl⟩
  rw [← hbR] at hR0 ⊢
  rw [← hbH] at hH0 ⊢
  rw [← hbA] at hA0 ⊢
  rw [← hbP] at hP0 ⊢
  have hR1 := hR0.lt
  have HBR : Hid (w.heap.size ≤ bR) := Lib.hid (by omega)
  have HO : Hid (∀ bO, v0.heap.size ≤ bO → bP ≠ bO ∧ bA ≠ bO ∧ bH ≠ bO ∧ bR ≠ bO ∧ w.heap.size ≤ bO) := Lib.hid (fun bO hO => by omega)
  clear hbP hbA hbH hbR hR1
  -- the new spot
  refine wp_region_inv (by kernel_rfl) (fun w' => Below v0.heap.size v0 w') (fun i v' w' => MkR v0.heap.size bA ⟨⟨xh, xb, xt, xf, xr⟩, prev, a, n, c⟩ h ⟨⟨xh, xb, xt, xf, xr⟩, id, none, 0, 0⟩ i v' w') (fun l a w' => DoneS 6 7 v0.heap.size ⟨⟨xh, xb, xt, xf, xr⟩, id, none, 0, 0⟩ l a w') (SpStep v0.heap.size) (fun _ _ => SpStep.refl _ _) (fun _ _ _ _ _ hs h => MkR_stays _ _ _ _ hs h) (by kernel_rfl) (Below.refl _ _).drew ?_ ?_ ?_
  · exact fun l hl => fun hk => (by rw [hl] at hk; cases hk)
  · intro i o listed a wx ho' hn hdep hinv
    have hC := hinv.c
    have hi : i < 7 := (Array.getElem?_eq_some_iff.1 ho').1
    have zn : (spA ⟨⟨xh, xb, xt, xf, xr⟩, id, none, 0, 0⟩).size = 38 := spA_size i32
    obtain rfl | rfl | rfl | rfl | rfl | rfl | rfl : i = 0 ∨ i = 1 ∨ i = 2 ∨ i = 3 ∨ i = 4 ∨ i = 5 ∨ i = 6 := by omega
    all_goals obtain rfl := Option.some.inj ho'
    · exact duty_value ((fun _ _ => SpStep.refl _ _)) hC (wanted_free rfl) (ex_sfield0 rfl (hinv.old' 4 (by kernel_rfl))) rfl (DoneS.pre (hinv.aheadT 6 (by kernel_rfl) hn (by decide) (by decide)))
    · exact duty_value ((fun _ _ => SpStep.refl _ _)) hC (wanted_free rfl) (ex_load_pt rfl (hinv.got 0 _ 9 rfl (hdep ⟨0, .data⟩ (by simp) rfl) rfl) (hA0.on hC).pt) rfl (DoneS.pre (hinv.aheadT 6 (by kernel_rfl) hn (by decide) (by decide)))
    · exact duty_value ((fun _ _ => SpStep.refl _ _)) hC (wanted_free rfl) (ex_load_hd rfl (hinv.old' 5 (by kernel_rfl)) (hH0.on hC) za) rfl (DoneS.pre (hinv.aheadT 6 (by kernel_rfl) hn (by decide) (by decide)))
    · have e11 := hinv.got 2 _ 11 rfl (hdep ⟨2, .data⟩ (by simp) rfl) rfl
      exact duty_call (wanted_free rfl) (f := 23) (args := #[a.eval (.tmp 11)]) (by kernel_rfl) (by rw [show a.eval (.tmp 11) = _ from e11]; exact KI.out wx (HTr.out wx (hB0.trans (hC.mono hB0.size)))) (fun w' hb => ⟨hC.trans (hb.mono hC.size), SpStep.below hb, rfl, DoneS.pre (hinv.aheadT 6 (by kernel_rfl) hn (by decide) (by decide))⟩)
    · exact duty_value ((fun _ _ => SpStep.refl _ _)) hC (wanted_free rfl) (ex_build_sp rfl (hinv.got 1 _ 10 rfl (hdep ⟨1, .data⟩ (by simp) rfl) rfl) (hinv.got 3 _ 12 rfl (hdep ⟨3, .data⟩ (by simp) rfl) rfl) i32) rfl (DoneS.pre (hinv.aheadT 6 (by kernel_rfl) hn (by decide) (by decide)))
    · have hbel' : Below wx.heap.size wx (wx.alloc (.cells (spA spZ) 43)) := (Below.refl _ _).alloc (Nat.le_refl _) _
      exact duty_made (wanted_free rfl) (ex_alloc_sp rfl) (hC.trans (hbel'.mono hC.size)) (SpStep.below hbel') ⟨wx.heap.size, spA spZ, hC.size, rfl, Has.new _ _, z0⟩ (DoneS.pre (hinv.aheadT 6 (by kernel_rfl) hn (by decide) (by decide)))
    · obtain ⟨b, cs, hb, he, hh, hsz⟩ := hinv.got 5 _ 7 rfl (hdep ⟨5, .data⟩ (by simp) rfl) rfl
      exact duty_store (wanted_free rfl) (ex_store_sp rfl he (hinv.got 4 _ 13 rfl (hdep ⟨4, .data⟩ (by simp) rfl) rfl) hh hsz zn) (below_setRow hC hb _) (SpStep.row hh zn) trivial (fun _ => ⟨b, hb, he, Has.row hh _⟩)
  intro listed a' v1 hall hinv
  have hC := hinv.c
  obtain ⟨bO, hbO, e7, hO⟩ := hinv.i (hall 6 (by decide))
  have e3 : a'.eval (.tmp 3) = .pointer (some ⟨bP, 0, none⟩) := hinv.old' 3 (by kernel_rfl)
  have e4' : a'.eval (.tmp 4) = .pointer (some ⟨bA, 0, none⟩) := hinv.old' 4 (by kernel_rfl)
  have e5 : a'.eval (.tmp 5) = .pointer (some ⟨bH, 0, none⟩) := hinv.old' 5 (by kernel_rfl)
  have e6 : a'.eval (.tmp 6) = .pointer (some ⟨bR, 0, none⟩) := hinv.old' 6 (by kernel_rfl)
  obtain ⟨n1, n2, n3, n4, n5⟩ := HO.out bO hbO
  have hs : BhS w v1 bP bA bH bR bO p ⟨⟨xh, xb, xt, xf, xr⟩, prev, a, n, c⟩ h ⟨⟨xh, xb, xt, xf, xr⟩, id, none, 0, 0⟩ := ⟨hB0.trans (hC.mono hB0.size), hP0.on hC, hA0.on hC, hH0.on hC, hR0.on hC, hO⟩
  obtain ⟨u, hu⟩ : ∃ u : Nat → Value, ∀ t, u t = a'.eval (.tmp t) := ⟨_, fun _ => rfl⟩
  rw [rl_frame a' 68 u hinv.tsize hinv.defers hu]
  rw [← hu] at e3 e4' e5 e6 e7
  clear hu hinv hall hC hbO hO HO hB0 hP0 hA0 hH0 hR0
  show Exit.then _ _ _ (⟨#[u 0, u 1, u 2, u 3, u 4, u 5, u 6, u 7, u 8, u 9, u 10, u 11, u 12, u 13, u 14, u 15, u 16, u 17, u 18, u 19, u 20, u 21, u 22, u 23, u 24, u 25, u 26, u 27, u 28, u 29, u 30, u 31, u 32, u 33, u 34, u 35, u 36, u 37, u 38, u 39, u 40, u 41, u 42, u 43, u 44, u 45, u 46, u 47, u 48, u 49, u 50, u 51, u 52, u 53, u 54, u 55, u 56, u 57, u 58, u 59, u 60, u 61, u 62, u 63, u 64, u 65, u 66, u 67], []⟩ : Act) _
  rw [e3, e4', e5, e6, e7]
  clear e3 e4' e5 e6 e7
  have c0 := hs.a.c0 (z := xh) (Lib.hid rfl)
  have hpp := hs.p
  go_wp2_with (with_reducible refine NN.pr_load rfl _ rfl _ rfl hpp hz ?_)
  refine (KS.out _).mono ?_
  rintro r v2 ⟨rfl, hb2⟩
  replace hs := hs.on hb2
  clear hb2 c0 hpp
  have cH := hs.h.bits ho
  rw [eb.out] at cH
  have cT := hs.h.time ho
  rw [et.out] at cT
  have c := hs.o.c0 (z := xh) (Lib.hid rfl)
  have f := hs.o.free 0
  have hX := hs.o.setH xh1
  replace hs := hs.put 0 _ hX n1 n2 n3 n4 n5
  clear hX
  go_upto_region 4 with fail
  generalize World.setCell _ _ _ = v3 at *
  clear c f cH cT
  have cH := hs.h.bits ho
  rw [eb.out] at cH
  have cT := hs.h.time ho
  rw [et.out] at cT
  have c := hs.o.c1 (z := xb) (Lib.hid rfl)
  have f := hs.o.free 1
  have hX := hs.o.setB hb
  replace hs := hs.put 1 _ hX n1 n2 n3 n4 n5
  clear hX
  go_upto_region 5 with fail
  generalize World.setCell _ _ _ = v4 at *
  clear c f cH cT
  have cH := hs.h.bits ho
  rw [eb.out] at cH
  have cT := hs.h.time ho
  rw [et.out] at cT
  have c := hs.o.c2 (z := xt) (Lib.hid rfl)
  have f := hs.o.free 2
  have hX := hs.o.setT ht
  replace hs := hs.put 2 _ hX n1 n2 n3 n4 n5
  clear hX
  go_upto_region 6 with fail
  generalize World.setCell _ _ _ = v5 at *
  clear c f cH cT
  have cH := hs.h.bits ho
  rw [eb.out] at cH
  have cT := hs.h.time ho
  rw [et.out] at cT
  have c := hs.o.c3 (z := xf) (Lib.hid rfl)
  have f := hs.o.free 3
  have hX := hs.o.setF ht
  replace hs := hs.put 3 _ hX n1 n2 n3 n4 n5
  clear hX
  go_upto_region 8 with fail
  generalize World.setCell _ _ _ = v6 at *
  clear c f cH cT
  have cH := hs.h.bits ho
  rw [eb.out] at cH
  have cT := hs.h.time ho
  rw [et.out] at cT
  have c := hs.o.c4 (z := xr) (Lib.hid rfl)
  have f := hs.o.free 4
  have hX := hs.o.setR hb
  replace hs := hs.put 4 _ hX n1 n2 n3 n4 n5
  clear hX
  go_upto_region 10 with fail
  generalize World.setCell _ _ _ = v7 at *
  clear c f cH cT
  have cH := hs.h.bits ho
  rw [eb.out] at cH
  have cT := hs.h.time ho
  rw [et.out] at cT
  have hO0 := hs.o
  have hOl : bO < v7.heap.size := hO0.lt
  have hn1 := HN1.out
  have hln := HLN.out
  have m1 : 1 + k ≤ 1000 := by omega
  refine wp_region_inv (by kernel_rfl) (fun w' => v7.grownBy w' (some bO)) (fun i v' _ => TmR bA bH bO a n c p1 k ht i v') (fun l a w' => TmI v7.heap.size bO ⟨⟨xh1, hb, ht, ht, hb⟩, id, none, 0, 0⟩ ht T k l a w') (fun _ _ => True) (fun _ _ => trivial) (fun _ _ _ _ _ _ h => h) (by kernel_rfl) (gb_below (Below.refl _ _).drew _) ?_ ?_ ?_
  · exact fun l hl => ⟨fun h => (by rw [hl] at h; cases h), fun h => (by rw [hl] at h; cases h), fun _ => Has.drew hO0, fun h => (by rw [hl] at h; cases h)⟩
  · intro i o listed a' wx ho' hn hdep hinv
    have hC := hinv.c
    have hI := hinv.i
    have hi : i < 13 := (Array.getElem?_eq_some_iff.1 ho').1
    have hHx : HdAt wx bH h := gb_has hC hs.h (fun e => n3 (Option.some.inj e))
    have hAx : SpAt wx bA ⟨⟨xh, xb, xt, xf, xr⟩, prev, a, n, c⟩ := gb_has hC hs.a (fun e => n2 (Option.some.inj e))
    have cTx := hHx.time ho
    rw [et.out] at cTx
    have cAx := hAx.sl so
    have hlx : v7.heap.size ≤ wx.heap.size := hC.size
    obtain rfl | rfl | rfl | rfl | rfl | rfl | rfl | rfl | rfl | rfl | rfl | rfl | rfl : i = 0 ∨ i = 1 ∨ i = 2 ∨ i = 3 ∨ i = 4 ∨ i = 5 ∨ i = 6 ∨ i = 7 ∨ i = 8 ∨ i = 9 ∨ i = 10 ∨ i = 11 ∨ i = 12 := by omega
    all_goals obtain rfl := Option.some.inj ho'
    · have hsz0 : 0 < listed.size := by rw [hinv.size]; decide
      exact duty_value (C := fun w' => v7.grownBy w' (some bO)) (S := fun _ _ => True) (R := fun v' _ => TmR bA bH bO a n c p1 k ht 0 v') (J := fun a w' => TmI v7.heap.size bO ⟨⟨xh1, hb, ht, ht, hb⟩, id, none, 0, 0⟩ ht T k (listed.setIfInBounds 0 true) a w') (fun _ _ => trivial) hC (wanted_free rfl) (ex_hfield3 rfl (hinv.old' 5 (by kernel_rfl))) rfl (hI.keep 0 hsz0 (by decide) (by decide) (by decide) _ _ (by decide) (by decide))
    · have hsz1 : 1 < listed.size := by rw [hinv.size]; decide
      exact duty_value (C := fun w' => v7.grownBy w' (some bO)) (S := fun _ _ => True) (R := fun v' _ => TmR bA bH bO a n c p1 k ht 1 v') (J := fun a w' => TmI v7.heap.size bO ⟨⟨xh1, hb, ht, ht, hb⟩, id, none, 0, 0⟩ ht T k (listed.setIfInBounds 1 true) a w') (fun _ _ => trivial) hC (wanted_free rfl) (NN.ex_load_int rfl (hinv.got 0 _ 55 rfl (hdep ⟨0, .data⟩ (by simp) rfl) rfl) cTx) rfl (hI.keep 1 hsz1 (by decide) (by decide) (by decide) _ _ (by decide) (by decide))
    · have hsz : 2 < listed.size := by rw [hinv.size]; decide
      have h10 : (listed.setIfInBounds 2 true).getD 10 false = false := hinv.aheadT 12 (by kernel_rfl) hn (by decide) (by decide)
      have h12 : (listed.setIfInBounds 2 true).getD 12 false = false := hinv.aheadT 12 (by kernel_rfl) hn (by decide) (by decide)
      have h12' : listed.getD 12 false = false := by rw [← getD_none listed 2 12 hsz (by decide)]; exact h12
      have hbx : Below wx.heap.size wx (wx.alloc (.cells #[.int .i64 ht] 3)) := (Below.refl _ _).alloc (Nat.le_refl _) _
      refine duty_made (C := fun w' => v7.grownBy w' (some bO)) (S := fun _ _ => True) (R := fun v' _ => TmR bA bH bO a n c p1 k ht 2 v') (J := fun a w' => TmI v7.heap.size bO ⟨⟨xh1, hb, ht, ht, hb⟩, id, none, 0, 0⟩ ht T k (listed.setIfInBounds 2 true) a w') (wanted_free rfl) (ex_build_one rfl (hinv.got 1 _ 56 rfl (hdep ⟨1, .data⟩ (by simp) rfl) rfl)) (gb_trans hC (gb_below hbx _)) trivial trivial ⟨fun _ _ => ⟨wx.heap.size, hlx, put_same a' 57 _ (by rw [hinv.tsize]; exact (show 57 < 68 by decide)), Has.new _ _⟩, fun e => (by rw [h10] at e; cases e), fun _ => (hI.2.2.1 h12').on hbx, fun e => (by rw [h12] at e; cases e)⟩
    · have hsz3 : 3 < listed.size := by rw [hinv.size]; decide
      exact duty_value (C := fun w' => v7.grownBy w' (some bO)) (S := fun _ _ => True) (R := fun v' _ => TmR bA bH bO a n c p1 k ht 3 v') (J := fun a w' => TmI v7.heap.size bO ⟨⟨xh1, hb, ht, ht, hb⟩, id, none, 0, 0⟩ ht T k (listed.setIfInBounds 3 true) a w') (fun _ _ => trivial) hC (wanted_free rfl) (ex_sfield2 rfl (hinv.old' 4 (by kernel_rfl))) rfl (hI.keep 3 hsz3 (by decide) (by decide) (by decide) _ _ (by decide) (by decide))
    · have hsz4 : 4 < listed.size := by rw [hinv.size]; decide
      exact duty_value (C := fun w' => v7.grownBy w' (some bO)) (S := fun _ _ => True) (R := fun v' _ => TmR bA bH bO a n c p1 k ht 4 v') (J := fun a w' => TmI v7.heap.size bO ⟨⟨xh1, hb, ht, ht, hb⟩, id, none, 0, 0⟩ ht T k (listed.setIfInBounds 4 true) a w') (fun _ _ => trivial) hC (wanted_free rfl) (ex_load_ints rfl (hinv.got 3 _ 58 rfl (hdep ⟨3, .data⟩ (by simp) rfl) rfl) cAx) rfl (hI.keep 4 hsz4 (by decide) (by decide) (by decide) _ _ (by decide) (by decide))
    · have hsz5 : 5 < listed.size := by rw [hinv.size]; decide
      exact duty_value (C := fun w' => v7.grownBy w' (some bO)) (S := fun _ _ => True) (R := fun v' _ => TmR bA bH bO a n c p1 k ht 5 v') (J := fun a w' => TmI v7.heap.size bO ⟨⟨xh1, hb, ht, ht, hb⟩, id, none, 0, 0⟩ ht T k (listed.setIfInBounds 5 true) a w') (fun _ _ => trivial) hC (wanted_free rfl) (ex_sfield2 rfl (hinv.old' 4 (by kernel_rfl))) rfl (hI.keep 5 hsz5 (by decide) (by decide) (by decide) _ _ (by decide) (by decide))
    · have hsz6 : 6 < listed.size := by rw [hinv.size]; decide
      exact duty_value (C := fun w' => v7.grownBy w' (some bO)) (S := fun _ _ => True) (R := fun v' _ => TmR bA bH bO a n c p1 k ht 6 v') (J := fun a w' => TmI v7.heap.size bO ⟨⟨xh1, hb, ht, ht, hb⟩, id, none, 0, 0⟩ ht T k (listed.setIfInBounds 6 true) a w') (fun _ _ => trivial) hC (wanted_free rfl) (ex_load_ints rfl (hinv.got 5 _ 60 rfl (hdep ⟨5, .data⟩ (by simp) rfl) rfl) cAx) rfl (hI.keep 6 hsz6 (by decide) (by decide) (by decide) _ _ (by decide) (by decide))
    · have hsz7 : 7 < listed.size := by rw [hinv.size]; decide
      exact duty_value (C := fun w' => v7.grownBy w' (some bO)) (S := fun _ _ => True) (R := fun v' _ => TmR bA bH bO a n c p1 k ht 7 v') (J := fun a w' => TmI v7.heap.size bO ⟨⟨xh1, hb, ht, ht, hb⟩, id, none, 0, 0⟩ ht T k (listed.setIfInBounds 7 true) a w') (fun _ _ => trivial) hC (wanted_free rfl) (ex_len rfl (hinv.got 6 _ 61 rfl (hdep ⟨6, .data⟩ (by simp) rfl) rfl)) rfl (hI.keep 7 hsz7 (by decide) (by decide) (by decide) _ _ (by decide) (by decide))
    · have hsz8 : 8 < listed.size := by rw [hinv.size]; decide
      exact duty_value (C := fun w' => v7.grownBy w' (some bO)) (S := fun _ _ => True) (R := fun v' _ => TmR bA bH bO a n c p1 k ht 8 v') (J := fun a w' => TmI v7.heap.size bO ⟨⟨xh1, hb, ht, ht, hb⟩, id, none, 0, 0⟩ ht T k (listed.setIfInBounds 8 true) a w') (fun _ _ => trivial) hC (wanted_free rfl) (ex_min rfl (hinv.got 7 _ 62 rfl (hdep ⟨7, .data⟩ (by simp) rfl) rfl) rfl hkm.out) rfl (hI.keep 8 hsz8 (by decide) (by decide) (by decide) _ _ (by decide) (by decide))
    · have hsz9 : 9 < listed.size := by rw [hinv.size]; decide
      exact duty_value (C := fun w' => v7.grownBy w' (some bO)) (S := fun _ _ => True) (R := fun v' _ => TmR bA bH bO a n c p1 k ht 9 v') (J := fun a w' => TmI v7.heap.size bO ⟨⟨xh1, hb, ht, ht, hb⟩, id, none, 0, 0⟩ ht T k (listed.setIfInBounds 9 true) a w') (fun _ _ => trivial) hC (wanted_free rfl) (ex_slice rfl (hinv.got 4 _ 59 rfl (hdep ⟨4, .data⟩ (by simp) rfl) rfl) (hinv.got 8 _ 63 rfl (hdep ⟨8, .data⟩ (by simp) rfl) rfl) (hcut wx)) rfl (hI.keep 9 hsz9 (by decide) (by decide) (by decide) _ _ (by decide) (by decide))
    · have hsz : 10 < listed.size := by rw [hinv.size]; decide
      have h12 : (listed.setIfInBounds 10 true).getD 12 false = false := hinv.aheadT 12 (by kernel_rfl) hn (by decide) (by decide)
      have h12' : listed.getD 12 false = false := by rw [← getD_none listed 10 12 hsz (by decide)]; exact h12
      obtain ⟨g, hgB, e57, hg⟩ := hI.1 (hdep ⟨2, .data⟩ (by simp) rfl) hn
      have e64 := (hinv.got 9 _ 64 rfl (hdep ⟨9, .data⟩ (by simp) rfl) rfl)
      have hLx := (HL1.out.below hs.be (Nat.le_refl _)).grown hC hs.be.size (.inr n5)
      obtain ⟨v', w', hr, hown', hgr⟩ := ex_append (lo := 0) (hi := w.heap.size) (ρ := a'.eval) (.tmp 57) (.tmp 64) v7.heap.size (.slice (some ⟨g, 0, none⟩) 1 1) 1 [ht] e57 (owns_one hg hgB) p1 k c T e64 hn1 hln hLx m1 hlx
      obtain ⟨p8, c8, rfl⟩ := owns_slice_int hown'
      refine duty_made (C := fun w' => v7.grownBy w' (some bO)) (S := fun _ _ => True) (R := fun v' _ => TmR bA bH bO a n c p1 k ht 10 v') (J := fun a w' => TmI v7.heap.size bO ⟨⟨xh1, hb, ht, ht, hb⟩, id, none, 0, 0⟩ ht T k (listed.setIfInBounds 10 true) a w') (wanted_free rfl) (hr _ rfl rfl) (gb_past hC hgr hgB) trivial trivial ⟨fun _ e => (by rw [getD_set _ _ _ hsz, if_pos rfl] at e; cases e), fun _ _ => ⟨p8, c8, put_same a' 65 _ (by rw [hinv.tsize]; exact (show 65 < 68 by decide)), hown'⟩, fun _ => gb_has hgr (hI.2.2.1 h12') (fun e => by have : bO = g := Option.some.inj e; omega), fun e => (by rw [h12] at e; cases e)⟩
    · have hsz11 : 11 < listed.size := by rw [hinv.size]; decide
      exact duty_value (C := fun w' => v7.grownBy w' (some bO)) (S := fun _ _ => True) (R := fun v' _ => TmR bA bH bO a n c p1 k ht 11 v') (J := fun a w' => TmI v7.heap.size bO ⟨⟨xh1, hb, ht, ht, hb⟩, id, none, 0, 0⟩ ht T k (listed.setIfInBounds 11 true) a w') (fun _ _ => trivial) hC (wanted_free rfl) (ex_sfield2 rfl (hinv.old' 7 (by kernel_rfl))) rfl (hI.keep 11 hsz11 (by decide) (by decide) (by decide) _ _ (by decide) (by decide))
    · have hsz : 12 < listed.size := by rw [hinv.size]; decide
      have l10 : listed.getD 10 false = true := hdep ⟨10, .data⟩ (by simp) rfl
      obtain ⟨p8, c8, e65, hown8⟩ := hI.2.1 l10 hn
      have hOx := hI.2.2.1 hn
      refine duty_store (C := fun w' => v7.grownBy w' (some bO)) (S := fun _ _ => True) (R := fun v' _ => TmR bA bH bO a n c p1 k ht 12 v') (J := fun a w' => TmI v7.heap.size bO ⟨⟨xh1, hb, ht, ht, hb⟩, id, none, 0, 0⟩ ht T k (listed.setIfInBounds 12 true) a w') (wanted_free rfl) (ex_store_ints rfl (hinv.got 11 _ 66 rfl (hdep ⟨11, .data⟩ (by simp) rfl) rfl) e65 (hOx.free 37) (hOx.sl i32)) (gb_setCell hC 37 _) trivial trivial ⟨fun _ e => (by rw [getD_none _ _ _ hsz (by decide), l10] at e; cases e), fun _ e => (by rw [getD_set _ _ _ hsz, if_pos rfl] at e; cases e), fun e => (by rw [getD_set _ _ _ hsz, if_pos rfl] at e; cases e), fun _ => ⟨p8, c8, hOx.setS i32 p8 (1 + k) c8, hown8.kept (gb_setOne _ _ _ _) (.inr (fun e => by have := (hown8.lt bO e).1; omega))⟩⟩
  intro listed a' v9 hall hinv
  obtain ⟨p8, c8, hO9, hown9⟩ := hinv.i.2.2.2 (hall 12 (by decide))
  have hC := hinv.c
  have e6 : a'.eval (.tmp 6) = .pointer (some ⟨bR, 0, none⟩) := hinv.old' 6 (by kernel_rfl)
  have e7 : a'.eval (.tmp 7) = .pointer (some ⟨bO, 0, none⟩) := hinv.old' 7 (by kernel_rfl)
  have hR9 : SpAt v9 bR spZ := gb_has hC hs.r (fun e => n4 (Option.some.inj e))
  have hB9 : Below w.heap.size w v9 := hs.be.trans (gb_toBelow hC n5 hs.be.size)
  have hRl : bR < v7.heap.size := hs.r.lt
  obtain ⟨g8, rfl, hc8⟩ := owns_some hown9
  obtain ⟨q8, d8, eq8, _, _, hLie⟩ := MM.lie_of_owns (l := ht :: T) hown9
  cases eq8
  have HLie := Lib.hid hLie
  have HB0 := Lib.hid hs.be.size
  obtain ⟨u, hu⟩ : ∃ u : Nat → Value, ∀ t, u t = a'.eval (.tmp t) := ⟨_, fun _ => rfl⟩
  rw [rl_frame a' 68 u hinv.tsize hinv.defers hu]
  rw [← hu] at e6 e7
  clear hu hinv hall hC hown9 hLie hs hO0 hcut hmin hn1 hln
  show Exit.then _ _ _ (⟨#[u 0, u 1, u 2, u 3, u 4, u 5, u 6, u 7, u 8, u 9, u 10, u 11, u 12, u 13, u 14, u 15, u 16, u 17, u 18, u 19, u 20, u 21, u 22, u 23, u 24, u 25, u 26, u 27, u 28, u 29, u 30, u 31, u 32, u 33, u 34, u 35, u 36, u 37, u 38, u 39, u 40, u 41, u 42, u 43, u 44, u 45, u 46, u 47, u 48, u 49, u 50, u 51, u 52, u 53, u 54, u 55, u 56, u 57, u 58, u 59, u 60, u 61, u 62, u 63, u 64, u 65, u 66, u 67], []⟩ : Act) _
  rw [e6, e7]
  clear e6 e7
  have zo : (spA ⟨⟨xh1, hb, ht, ht, hb⟩, id, some ⟨g8, 0, none⟩, 1 + k, c8⟩).size = 38 := spA_size i32
  have HX : Hid (spA ⟨⟨xh1, hb, ht, ht, hb⟩, id, some ⟨g8, 0, none⟩, 1 + k, c8⟩ = spA ⟨⟨xh1, hb, ht, ht, hb⟩, id, some ⟨g8, 0, none⟩, 1 + k, c8⟩) := Lib.hid rfl
  change SpAt v9 bO ⟨⟨xh1, hb, ht, ht, hb⟩, id, some ⟨g8, 0, none⟩, 1 + k, c8⟩ at hO9
  generalize hq : (⟨⟨xh1, hb, ht, ht, hb⟩, id, some ⟨g8, 0, none⟩, 1 + k, c8⟩ : Sp) = sq at hO9 zo
  have HQ := Lib.hid hq
  clear hq HX
  go_wp2_with (first
    | (with_reducible refine sp_load rfl _ rfl bO rfl hO9 zo ?_)
    | (with_reducible refine sp_store rfl _ _ rfl bR _ sq rfl rfl rfl zo hR9 z0 ?_))
  refine bodyPost_ret (v := .agg (spA sq)) (sp_results Tryz.results12 _ bR rfl (Has.row hR9 _) zo) rfl ⟨g8, c8, by rw [← HQ.out], hc8, ?_, below_setRow hB9 HBR.out _⟩
  have hwd := HLie.out.wide (lo' := w.heap.size) (hi' := v9.heap.size) HB0.out (Nat.le_refl _)
  rw [setRow_size]
  exact HLie.out.on (fun q h1 _ => setRow_other v9 bR q _ (by omega)) |>.wide HB0.out (Nat.le_refl _)
set_option maxRecDepth 100000 in
set_option maxHeartbeats 4000000 in
theorem behind_plain (p : NN.Pr) (hz : (NN.prA p).size = 83) (xh xb xt xf xr : Int) (prev : List UInt8) (hp32 : prev.length = 32) (a : Option Addr) (n c : Nat) (h : Hd) (ho : h.ok) (id : List UInt8) (i32 : id.length = 32) (hb ht : Int) (eb : Hid (h.bits = hb)) (et : Hid (h.time = ht)) (e4 : Hid (p.easy = false))
    (xh1 : Int) (wx : IntKind.i64.wrap (xh + 1) = xh1) (KS : Hid (∀ w, Calls Tryz.prog 28 #[.agg (NN.prA p), .int .i64 xh] w fun e w' => e = .returned (.bool false) ∧ Below w.heap.size w w')) (KI : Hid (∀ w, Tab w → Calls Tryz.prog 23 #[.agg (hdA h)] w fun e w' => e = .returned (.agg (bytesV id)) ∧ Below w.heap.size w w'))
    (ts : List Int) (hl : ts.length = n) (hc : n ≤ c) (hmax : n < 9223372036854775808) (hnil : a = none → n = 0 ∧ c = 0) (k : Nat) (hk : k = min n 10) (w : World) (hT : Tab w) (hL : MM.Lie w 0 w.heap.size a ts) :
    Calls Tryz.prog 12 #[.agg (NN.prA p), .agg (spA ⟨⟨xh, xb, xt, xf, xr⟩, prev, a, n, c⟩), .agg (hdA h)] w fun r w' => ∃ b' c', r = .returned (.agg (spA ⟨⟨xh1, hb, ht, xf, hb⟩, id, some ⟨b', 0, none⟩, 1 + k, c'⟩)) ∧ 1 + k ≤ c' ∧ MM.Lie w' w.heap.size w'.heap.size (some ⟨b', 0, none⟩) (ht :: ts.take k) ∧ Below w.heap.size w w' := by
  have za := hdA_size ho
  have so : (⟨⟨xh, xb, xt, xf, xr⟩, prev, a, n, c⟩ : Sp).ok := hp32
  have zs := spA_size so
  have z0 := spA_size spZ_ok
  have hTr : ∀ v, Below w.heap.size w v → Tab v := fun v hb => hT.below hb
  have HTr := Lib.hid hTr
  obtain ⟨p1, hcut, hL1, hnil1⟩ := cut_opt hl (by omega : k ≤ n) hc hL hnil
  have HL1 := Lib.hid hL1
  have HN1 := Lib.hid hnil1
  have hlen1 : (ts.take k).length = k := by simp; omega
  have HLN := Lib.hid hlen1
  have hmin := NN.min_is (P := Tryz.prog) (n : Int) 10 (k : Int) (by omega)
  have hk10 : k ≤ 10 := by omega
  have hkm : Hid ((k : Int) = min (n : Int) 10) := Lib.hid (by omega)
  generalize ts.take k = T at *
  clear hT hTr hL hL1 hnil hnil1 hlen1 hl hk
  go_enter Tryz.func12, Tryz.ntmps12
  go_upto_region 1 with fail
  generalize hw0 : World.alloc _ _ = v0
  obtain ⟨hB0, hP0, hA0, hH0, hR0⟩ : Below w.heap.size w v0 ∧ NN.PrAt v0 w.heap.size p ∧ SpAt v0 (w.heap.size + 1) ⟨⟨xh, xb, xt, xf, xr⟩, prev, a, n, c⟩ ∧ HdAt v0 (w.heap.size + 1 + 1) h ∧ SpAt v0 (w.heap.size + 1 + 1 + 1) spZ := by
    rw [← hw0]
    refine ⟨((((Below.refl _ _).alloc (Nat.le_refl _) _).alloc (by simp) _).alloc (by simp; omega) _).alloc (by simp; omega) _, (((NN.Has.new _ _).alloc _).alloc _).alloc _, ((Has.new1 _ _ _).alloc _).alloc _, (Has.new2 _ _ _ _).alloc _, ?_⟩
    have := sp_newz (((w.alloc (.cells (NN.prA p) 32)).alloc (.cells (spA ⟨⟨xh, xb, xt, xf, xr⟩, prev, a, n, c⟩) 43)).alloc (.cells (hdA h) 30))
    simpa using this
  clear hw0
  obtain ⟨bP, hbP⟩ : ∃ b, b = w.heap.size := ⟨_, rfl⟩
  obtain ⟨bA, hbA⟩ : ∃ b, b = w.heap.size + 1 := ⟨_, rfl⟩
  obtain ⟨bH, hbH⟩ : ∃ b, b = w.heap.size + 1 + 1 := ⟨_, rfl⟩
  obtain ⟨bR, hbR⟩ : ∃ b, b = w.heap.size + 1 + 1 + 1 := ⟨_, rfl⟩
  rw [← hbR] at hR0 ⊢
  rw [← hbH] at hH0 ⊢
  rw [← hbA] at hA0 ⊢
  rw [← hbP] at hP0 ⊢
  have hR1 := hR0.lt
  have HBR : Hid (w.heap.size ≤ bR) := Lib.hid (by omega)
  have HO : Hid (∀ bO, v0.heap.size ≤ bO → bP ≠ bO ∧ bA ≠ bO ∧ bH ≠ bO ∧ bR ≠ bO ∧ w.heap.size ≤ bO) := Lib.hid (fun bO hO => by omega)
  clear hbP hbA hbH hbR hR1
  -- the new spot
  refine wp_region_inv (by kernel_rfl) (fun w' => Below v0.heap.size v0 w') (fun i v' w' => MkR v0.heap.size bA ⟨⟨xh, xb, xt, xf, xr⟩, prev, a, n, c⟩ h ⟨⟨xh, xb, xt, xf, xr⟩, id, none, 0, 0⟩ i v' w') (fun l a w' => DoneS 6 7 v0.heap.size ⟨⟨xh, xb, xt, xf, xr⟩, id, none, 0, 0⟩ l a w') (SpStep v0.heap.size) (fun _ _ => SpStep.refl _ _) (fun _ _ _ _ _ hs h => MkR_stays _ _ _ _ hs h) (by kernel_rfl) (Below.refl _ _).drew ?_ ?_ ?_
  · exact fun l hl => fun hk => (by rw [hl] at hk; cases hk)
  · intro i o listed a wx ho' hn hdep hinv
    have hC := hinv.c
    have hi : i < 7 := (Array.getElem?_eq_some_iff.1 ho').1
    have zn : (spA ⟨⟨xh, xb, xt, xf, xr⟩, id, none, 0, 0⟩).size = 38 := spA_size i32
    obtain rfl | rfl | rfl | rfl | rfl | rfl | rfl : i = 0 ∨ i = 1 ∨ i = 2 ∨ i = 3 ∨ i = 4 ∨ i = 5 ∨ i = 6 := by omega
    all_goals obtain rfl := Option.some.inj ho'
    · exact duty_value ((fun _ _ => SpStep.refl _ _)) hC (wanted_free rfl) (ex_sfield0 rfl (hinv.old' 4 (by kernel_rfl))) rfl (DoneS.pre (hinv.aheadT 6 (by kernel_rfl) hn (by decide) (by decide)))
    · exact duty_value ((fun _ _ => SpStep.refl _ _)) hC (wanted_free rfl) (ex_load_pt rfl (hinv.got 0 _ 9 rfl (hdep ⟨0, .data⟩ (by simp) rfl) rfl) (hA0.on hC).pt) rfl (DoneS.pre (hinv.aheadT 6 (by kernel_rfl) hn (by decide) (by decide)))
    · exact duty_value ((fun _ _ => SpStep.refl _ _)) hC (wanted_free rfl) (ex_load_hd rfl (hinv.old' 5 (by kernel_rfl)) (hH0.on hC) za) rfl (DoneS.pre (hinv.aheadT 6 (by kernel_rfl) hn (by decide) (by decide)))
    · have e11 := hinv.got 2 _ 11 rfl (hdep ⟨2, .data⟩ (by simp) rfl) rfl
      exact duty_call (wanted_free rfl) (f := 23) (args := #[a.eval (.tmp 11)]) (by kernel_rfl) (by rw [show a.eval (.tmp 11) = _ from e11]; exact KI.out wx (HTr.out wx (hB0.trans (hC.mono hB0.size)))) (fun w' hb => ⟨hC.trans (hb.mono hC.size), SpStep.below hb, rfl, DoneS.pre (hinv.aheadT 6 (by kernel_rfl) hn (by decide) (by decide))⟩)
    · exact duty_value ((fun _ _ => SpStep.refl _ _)) hC (wanted_free rfl) (ex_build_sp rfl (hinv.got 1 _ 10 rfl (hdep ⟨1, .data⟩ (by simp) rfl) rfl) (hinv.got 3 _ 12 rfl (hdep ⟨3, .data⟩ (by simp) rfl) rfl) i32) rfl (DoneS.pre (hinv.aheadT 6 (by kernel_rfl) hn (by decide) (by decide)))
    · have hbel' : Below wx.heap.size wx (wx.alloc (.cells (spA spZ) 43)) := (Below.refl _ _).alloc (Nat.le_refl _) _
      exact duty_made (wanted_free rfl) (ex_alloc_sp rfl) (hC.trans (hbel'.mono hC.size)) (SpStep.below hbel') ⟨wx.heap.size, spA spZ, hC.size, rfl, Has.new _ _, z0⟩ (DoneS.pre (hinv.aheadT 6 (by kernel_rfl) hn (by decide) (by decide)))
    · obtain ⟨b, cs, hb, he, hh, hsz⟩ := hinv.got 5 _ 7 rfl (hdep ⟨5, .data⟩ (by simp) rfl) rfl
      exact duty_store (wanted_free rfl) (ex_store_sp rfl he (hinv.got 4 _ 13 rfl (hdep ⟨4, .data⟩ (by simp) rfl) rfl) hh hsz zn) (below_setRow hC hb _) (SpStep.row hh zn) trivial (fun _ => ⟨b, hb, he, Has.row hh _⟩)
  intro listed a' v1 hall hinv
  have hC := hinv.c
  obtain ⟨bO, hbO, e7, hO⟩ := hinv.i (hall 6 (by decide))
  have e3 : a'.eval (.tmp 3) = .pointer (some ⟨bP, 0, none⟩) := hinv.old' 3 (by kernel_rfl)
  have e4' : a'.eval (.tmp 4) = .pointer (some ⟨bA, 0, none⟩) := hinv.old' 4 (by kernel_rfl)
  have e5 : a'.eval (.tmp 5) = .pointer (some ⟨bH, 0, none⟩) := hinv.old' 5 (by kernel_rfl)
  have e6 : a'.eval (.tmp 6) = .pointer (some ⟨bR, 0, none⟩) := hinv.old' 6 (by kernel_rfl)
  obtain ⟨n1, n2, n3, n4, n5⟩ := HO.out bO hbO
  have hs : BhS w v1 bP bA bH bR bO p ⟨⟨xh, xb, xt, xf, xr⟩, prev, a, n, c⟩ h ⟨⟨xh, xb, xt, xf, xr⟩, id, none, 0, 0⟩ := ⟨hB0.trans (hC.mono hB0.size), hP0.on hC, hA0.on hC, hH0.on hC, hR0.on hC, hO⟩
  obtain ⟨u, hu⟩ : ∃ u : Nat → Value, ∀ t, u t = a'.eval (.tmp t) := ⟨_, fun _ => rfl⟩
  rw [rl_frame a' 68 u hinv.tsize hinv.defers hu]
  rw [← hu] at e3 e4' e5 e6 e7
  clear hu hinv hall hC hbO hO HO hB0 hP0 hA0 hH0 hR0
  show Exit.then _ _ _ (⟨#[u 0, u 1, u 2, u 3, u 4, u 5, u 6, u 7, u 8, u 9, u 10, u 11, u 12, u 13, u 14, u 15, u 16, u 17, u 18, u 19, u 20, u 21, u 22, u 23, u 24, u 25, u 26, u 27, u 28, u 29, u 30, u 31, u 32, u 33, u 34, u 35, u 36, u 37, u 38, u 39, u 40, u 41, u 42, u 43, u 44, u 45, u 46, u 47, u 48, u 49, u 50, u 51, u 52, u 53, u 54, u 55, u 56, u 57, u 58, u 59, u 60, u 61, u 62, u 63, u 64, u 65, u 66, u 67], []⟩ : Act) _
  rw [e3, e4', e5, e6, e7]
  clear e3 e4' e5 e6 e7
  have c0 := hs.a.c0 (z := xh) (Lib.hid rfl)
  have hpp := hs.p
  go_wp2_with (with_reducible refine NN.pr_load rfl _ rfl _ rfl hpp hz ?_)
  refine (KS.out _).mono ?_
  rintro r v2 ⟨rfl, hb2⟩
  replace hs := hs.on hb2
  clear hb2 c0 hpp
  have cH := hs.h.bits ho
  rw [eb.out] at cH
  have cT := hs.h.time ho
  rw [et.out] at cT
  have c := hs.o.c0 (z := xh) (Lib.hid rfl)
  have f := hs.o.free 0
  have hX := hs.o.setH xh1
  replace hs := hs.put 0 _ hX n1 n2 n3 n4 n5
  clear hX
  go_upto_region 4 with fail
  generalize World.setCell _ _ _ = v3 at *
  clear c f cH cT
  have cH := hs.h.bits ho
  rw [eb.out] at cH
  have cT := hs.h.time ho
  rw [et.out] at cT
  have c := hs.o.c1 (z := xb) (Lib.hid rfl)
  have f := hs.o.free 1
  have hX := hs.o.setB hb
  replace hs := hs.put 1 _ hX n1 n2 n3 n4 n5
  clear hX
  go_upto_region 5 with fail
  generalize World.setCell _ _ _ = v4 at *
  clear c f cH cT
  have cH := hs.h.bits ho
  rw [eb.out] at cH
  have cT := hs.h.time ho
  rw [et.out] at cT
  have c := hs.o.c2 (z := xt) (Lib.hid rfl)
  have f := hs.o.free 2
  have hX := hs.o.setT ht
  replace hs := hs.put 2 _ hX n1 n2 n3 n4 n5
  clear hX
  go_upto_region 6 with fail
  generalize World.setCell _ _ _ = v5 at *
  clear c f cH cT
  have cH := hs.h.bits ho
  rw [eb.out] at cH
  have cT := hs.h.time ho
  rw [et.out] at cT
  have cE := hs.p.c4 e4
  have c := hs.o.c4 (z := xr) (Lib.hid rfl)
  have f := hs.o.free 4
  have hX := hs.o.setR hb
  replace hs := hs.put 4 _ hX n1 n2 n3 n4 n5
  clear hX
  go_upto_region 10 with fail
  generalize World.setCell _ _ _ = v6 at *
  clear c f cH cT
  have cH := hs.h.bits ho
  rw [eb.out] at cH
  have cT := hs.h.time ho
  rw [et.out] at cT
  have hO0 := hs.o
  have hOl : bO < v6.heap.size := hO0.lt
  have hn1 := HN1.out
  have hln := HLN.out
  have m1 : 1 + k ≤ 1000 := by omega
  refine wp_region_inv (by kernel_rfl) (fun w' => v6.grownBy w' (some bO)) (fun i v' _ => TmR bA bH bO a n c p1 k ht i v') (fun l a w' => TmI v6.heap.size bO ⟨⟨xh1, hb, ht, xf, hb⟩, id, none, 0, 0⟩ ht T k l a w') (fun _ _ => True) (fun _ _ => trivial) (fun _ _ _ _ _ _ h => h) (by kernel_rfl) (gb_below (Below.refl _ _).drew _) ?_ ?_ ?_
  · exact fun l hl => ⟨fun h => (by rw [hl] at h; cases h), fun h => (by rw [hl] at h; cases h), fun _ => Has.drew hO0, fun h => (by rw [hl] at h; cases h)⟩
  · intro i o listed a' wx ho' hn hdep hinv
    have hC := hinv.c
    have hI := hinv.i
    have hi : i < 13 := (Array.getElem?_eq_some_iff.1 ho').1
    have hHx : HdAt wx bH h := gb_has hC hs.h (fun e => n3 (Option.some.inj e))
    have hAx : SpAt wx bA ⟨⟨xh, xb, xt, xf, xr⟩, prev, a, n, c⟩ := gb_has hC hs.a (fun e => n2 (Option.some.inj e))
    have cTx := hHx.time ho
    rw [et.out] at cTx
    have cAx := hAx.sl so
    have hlx : v6.heap.size ≤ wx.heap.size := hC.size
    obtain rfl | rfl | rfl | rfl | rfl | rfl | rfl | rfl | rfl | rfl | rfl | rfl | rfl : i = 0 ∨ i = 1 ∨ i = 2 ∨ i = 3 ∨ i = 4 ∨ i = 5 ∨ i = 6 ∨ i = 7 ∨ i = 8 ∨ i = 9 ∨ i = 10 ∨ i = 11 ∨ i = 12 := by omega
    all_goals obtain rfl := Option.some.inj ho'
    · have hsz0 : 0 < listed.size := by rw [hinv.size]; decide
      exact duty_value (C := fun w' => v6.grownBy w' (some bO)) (S := fun _ _ => True) (R := fun v' _ => TmR bA bH bO a n c p1 k ht 0 v') (J := fun a w' => TmI v6.heap.size bO ⟨⟨xh1, hb, ht, xf, hb⟩, id, none, 0, 0⟩ ht T k (listed.setIfInBounds 0 true) a w') (fun _ _ => trivial) hC (wanted_free rfl) (ex_hfield3 rfl (hinv.old' 5 (by kernel_rfl))) rfl (hI.keep 0 hsz0 (by decide) (by decide) (by decide) _ _ (by decide) (by decide))
    · have hsz1 : 1 < listed.size := by rw [hinv.size]; decide
      exact duty_value (C := fun w' => v6.grownBy w' (some bO)) (S := fun _ _ => True) (R := fun v' _ => TmR bA bH bO a n c p1 k ht 1 v') (J := fun a w' => TmI v6.heap.size bO ⟨⟨xh1, hb, ht, xf, hb⟩, id, none, 0, 0⟩ ht T k (listed.setIfInBounds 1 true) a w') (fun _ _ => trivial) hC (wanted_free rfl) (NN.ex_load_int rfl (hinv.got 0 _ 55 rfl (hdep ⟨0, .data⟩ (by simp) rfl) rfl) cTx) rfl (hI.keep 1 hsz1 (by decide) (by decide) (by decide) _ _ (by decide) (by decide))
    · have hsz : 2 < listed.size := by rw [hinv.size]; decide
      have h10 : (listed.setIfInBounds 2 true).getD 10 false = false := hinv.aheadT 12 (by kernel_rfl) hn (by decide) (by decide)
      have h12 : (listed.setIfInBounds 2 true).getD 12 false = false := hinv.aheadT 12 (by kernel_rfl) hn (by decide) (by decide)
      have h12' : listed.getD 12 false = false := by rw [← getD_none listed 2 12 hsz (by decide)]; exact h12
      have hbx : Below wx.heap.size wx (wx.alloc (.cells #[.int .i64 ht] 3)) := (Below.refl _ _).alloc (Nat.le_refl _) _
      refine duty_made (C := fun w' => v6.grownBy w' (some bO)) (S := fun _ _ => True) (R := fun v' _ => TmR bA bH bO a n c p1 k ht 2 v') (J := fun a w' => TmI v6.heap.size bO ⟨⟨xh1, hb, ht, xf, hb⟩, id, none, 0, 0⟩ ht T k (listed.setIfInBounds 2 true) a w') (wanted_free rfl) (ex_build_one rfl (hinv.got 1 _ 56 rfl (hdep ⟨1, .data⟩ (by simp) rfl) rfl)) (gb_trans hC (gb_below hbx _)) trivial trivial ⟨fun _ _ => ⟨wx.heap.size, hlx, put_same a' 57 _ (by rw [hinv.tsize]; exact (show 57 < 68 by decide)), Has.new _ _⟩, fun e => (by rw [h10] at e; cases e), fun _ => (hI.2.2.1 h12').on hbx, fun e => (by rw [h12] at e; cases e)⟩
    · have hsz3 : 3 < listed.size := by rw [hinv.size]; decide
      exact duty_value (C := fun w' => v6.grownBy w' (some bO)) (S := fun _ _ => True) (R := fun v' _ => TmR bA bH bO a n c p1 k ht 3 v') (J := fun a w' => TmI v6.heap.size bO ⟨⟨xh1, hb, ht, xf, hb⟩, id, none, 0, 0⟩ ht T k (listed.setIfInBounds 3 true) a w') (fun _ _ => trivial) hC (wanted_free rfl) (ex_sfield2 rfl (hinv.old' 4 (by kernel_rfl))) rfl (hI.keep 3 hsz3 (by decide) (by decide) (by decide) _ _ (by decide) (by decide))
    · have hsz4 : 4 < listed.size := by rw [hinv.size]; decide
      exact duty_value (C := fun w' => v6.grownBy w' (some bO)) (S := fun _ _ => True) (R := fun v' _ => TmR bA bH bO a n c p1 k ht 4 v') (J := fun a w' => TmI v6.heap.size bO ⟨⟨xh1, hb, ht, xf, hb⟩, id, none, 0, 0⟩ ht T k (listed.setIfInBounds 4 true) a w') (fun _ _ => trivial) hC (wanted_free rfl) (ex_load_ints rfl (hinv.got 3 _ 58 rfl (hdep ⟨3, .data⟩ (by simp) rfl) rfl) cAx) rfl (hI.keep 4 hsz4 (by decide) (by decide) (by decide) _ _ (by decide) (by decide))
    · have hsz5 : 5 < listed.size := by rw [hinv.size]; decide
      exact duty_value (C := fun w' => v6.grownBy w' (some bO)) (S := fun _ _ => True) (R := fun v' _ => TmR bA bH bO a n c p1 k ht 5 v') (J := fun a w' => TmI v6.heap.size bO ⟨⟨xh1, hb, ht, xf, hb⟩, id, none, 0, 0⟩ ht T k (listed.setIfInBounds 5 true) a w') (fun _ _ => trivial) hC (wanted_free rfl) (ex_sfield2 rfl (hinv.old' 4 (by kernel_rfl))) rfl (hI.keep 5 hsz5 (by decide) (by decide) (by decide) _ _ (by decide) (by decide))
    · have hsz6 : 6 < listed.size := by rw [hinv.size]; decide
      exact duty_value (C := fun w' => v6.grownBy w' (some bO)) (S := fun _ _ => True) (R := fun v' _ => TmR bA bH bO a n c p1 k ht 6 v') (J := fun a w' => TmI v6.heap.size bO ⟨⟨xh1, hb, ht, xf, hb⟩, id, none, 0, 0⟩ ht T k (listed.setIfInBounds 6 true) a w') (fun _ _ => trivial) hC (wanted_free rfl) (ex_load_ints rfl (hinv.got 5 _ 60 rfl (hdep ⟨5, .data⟩ (by simp) rfl) rfl) cAx) rfl (hI.keep 6 hsz6 (by decide) (by decide) (by decide) _ _ (by decide) (by decide))
    · have hsz7 : 7 < listed.size := by rw [hinv.size]; decide
      exact duty_value (C := fun w' => v6.grownBy w' (some bO)) (S := fun _ _ => True) (R := fun v' _ => TmR bA bH bO a n c p1 k ht 7 v') (J := fun a w' => TmI v6.heap.size bO ⟨⟨xh1, hb, ht, xf, hb⟩, id, none, 0, 0⟩ ht T k (listed.setIfInBounds 7 true) a w') (fun _ _ => trivial) hC (wanted_free rfl) (ex_len rfl (hinv.got 6 _ 61 rfl (hdep ⟨6, .data⟩ (by simp) rfl) rfl)) rfl (hI.keep 7 hsz7 (by decide) (by decide) (by decide) _ _ (by decide) (by decide))
    · have hsz8 : 8 < listed.size := by rw [hinv.size]; decide
      exact duty_value (C := fun w' => v6.grownBy w' (some bO)) (S := fun _ _ => True) (R := fun v' _ => TmR bA bH bO a n c p1 k ht 8 v') (J := fun a w' => TmI v6.heap.size bO ⟨⟨xh1, hb, ht, xf, hb⟩, id, none, 0, 0⟩ ht T k (listed.setIfInBounds 8 true) a w') (fun _ _ => trivial) hC (wanted_free rfl) (ex_min rfl (hinv.got 7 _ 62 rfl (hdep ⟨7, .data⟩ (by simp) rfl) rfl) rfl hkm.out) rfl (hI.keep 8 hsz8 (by decide) (by decide) (by decide) _ _ (by decide) (by decide))
    · have hsz9 : 9 < listed.size := by rw [hinv.size]; decide
      exact duty_value (C := fun w' => v6.grownBy w' (some bO)) (S := fun _ _ => True) (R := fun v' _ => TmR bA bH bO a n c p1 k ht 9 v') (J := fun a w' => TmI v6.heap.size bO ⟨⟨xh1, hb, ht, xf, hb⟩, id, none, 0, 0⟩ ht T k (listed.setIfInBounds 9 true) a w') (fun _ _ => trivial) hC (wanted_free rfl) (ex_slice rfl (hinv.got 4 _ 59 rfl (hdep ⟨4, .data⟩ (by simp) rfl) rfl) (hinv.got 8 _ 63 rfl (hdep ⟨8, .data⟩ (by simp) rfl) rfl) (hcut wx)) rfl (hI.keep 9 hsz9 (by decide) (by decide) (by decide) _ _ (by decide) (by decide))
    · have hsz : 10 < listed.size := by rw [hinv.size]; decide
      have h12 : (listed.setIfInBounds 10 true).getD 12 false = false := hinv.aheadT 12 (by kernel_rfl) hn (by decide) (by decide)
      have h12' : listed.getD 12 false = false := by rw [← getD_none listed 10 12 hsz (by decide)]; exact h12
      obtain ⟨g, hgB, e57, hg⟩ := hI.1 (hdep ⟨2, .data⟩ (by simp) rfl) hn
      have e64 := (hinv.got 9 _ 64 rfl (hdep ⟨9, .data⟩ (by simp) rfl) rfl)
      have hLx := (HL1.out.below hs.be (Nat.le_refl _)).grown hC hs.be.size (.inr n5)
      obtain ⟨v', w', hr, hown', hgr⟩ := ex_append (lo := 0) (hi := w.heap.size) (ρ := a'.eval) (.tmp 57) (.tmp 64) v6.heap.size (.slice (some ⟨g, 0, none⟩) 1 1) 1 [ht] e57 (owns_one hg hgB) p1 k c T e64 hn1 hln hLx m1 hlx
      obtain ⟨p8, c8, rfl⟩ := owns_slice_int hown'
      refine duty_made (C := fun w' => v6.grownBy w' (some bO)) (S := fun _ _ => True) (R := fun v' _ => TmR bA bH bO a n c p1 k ht 10 v') (J := fun a w' => TmI v6.heap.size bO ⟨⟨xh1, hb, ht, xf, hb⟩, id, none, 0, 0⟩ ht T k (listed.setIfInBounds 10 true) a w') (wanted_free rfl) (hr _ rfl rfl) (gb_past hC hgr hgB) trivial trivial ⟨fun _ e => (by rw [getD_set _ _ _ hsz, if_pos rfl] at e; cases e), fun _ _ => ⟨p8, c8, put_same a' 65 _ (by rw [hinv.tsize]; exact (show 65 < 68 by decide)), hown'⟩, fun _ => gb_has hgr (hI.2.2.1 h12') (fun e => by have : bO = g := Option.some.inj e; omega), fun e => (by rw [h12] at e; cases e)⟩
    · have hsz11 : 11 < listed.size := by rw [hinv.size]; decide
      exact duty_value (C := fun w' => v6.grownBy w' (some bO)) (S := fun _ _ => True) (R := fun v' _ => TmR bA bH bO a n c p1 k ht 11 v') (J := fun a w' => TmI v6.heap.size bO ⟨⟨xh1, hb, ht, xf, hb⟩, id, none, 0, 0⟩ ht T k (listed.setIfInBounds 11 true) a w') (fun _ _ => trivial) hC (wanted_free rfl) (ex_sfield2 rfl (hinv.old' 7 (by kernel_rfl))) rfl (hI.keep 11 hsz11 (by decide) (by decide) (by decide) _ _ (by decide) (by decide))
    · have hsz : 12 < listed.size := by rw [hinv.size]; decide
      have l10 : listed.getD 10 false = true := hdep ⟨10, .data⟩ (by simp) rfl
      obtain ⟨p8, c8, e65, hown8⟩ := hI.2.1 l10 hn
      have hOx := hI.2.2.1 hn
      refine duty_store (C := fun w' => v6.grownBy w' (some bO)) (S := fun _ _ => True) (R := fun v' _ => TmR bA bH bO a n c p1 k ht 12 v') (J := fun a w' => TmI v6.heap.size bO ⟨⟨xh1, hb, ht, xf, hb⟩, id, none, 0, 0⟩ ht T k (listed.setIfInBounds 12 true) a w') (wanted_free rfl) (ex_store_ints rfl (hinv.got 11 _ 66 rfl (hdep ⟨11, .data⟩ (by simp) rfl) rfl) e65 (hOx.free 37) (hOx.sl i32)) (gb_setCell hC 37 _) trivial trivial ⟨fun _ e => (by rw [getD_none _ _ _ hsz (by decide), l10] at e; cases e), fun _ e => (by rw [getD_set _ _ _ hsz, if_pos rfl] at e; cases e), fun e => (by rw [getD_set _ _ _ hsz, if_pos rfl] at e; cases e), fun _ => ⟨p8, c8, hOx.setS i32 p8 (1 + k) c8, hown8.kept (gb_setOne _ _ _ _) (.inr (fun e => by have := (hown8.lt bO e).1; omega))⟩⟩
  intro listed a' v9 hall hinv
  obtain ⟨p8, c8, hO9, hown9⟩ := hinv.i.2.2.2 (hall 12 (by decide))
  have hC := hinv.c
  have e6 : a'.eval (.tmp 6) = .pointer (some ⟨bR, 0, none⟩) := hinv.old' 6 (by kernel_rfl)
  have e7 : a'.eval (.tmp 7) = .pointer (some ⟨bO, 0, none⟩) := hinv.old' 7 (by kernel_rfl)
  have hR9 : SpAt v9 bR spZ := gb_has hC hs.r (fun e => n4 (Option.some.inj e))
  have hB9 : Below w.heap.size w v9 := hs.be.trans (gb_toBelow hC n5 hs.be.size)
  have hRl : bR < v6.heap.size := hs.r.lt
  obtain ⟨g8, rfl, hc8⟩ := owns_some hown9
  obtain ⟨q8, d8, eq8, _, _, hLie⟩ := MM.lie_of_owns (l := ht :: T) hown9
  cases eq8
  have HLie := Lib.hid hLie
  have HB0 := Lib.hid hs.be.size
  obtain ⟨u, hu⟩ : ∃ u : Nat → Value, ∀ t, u t = a'.eval (.tmp t) := ⟨_, fun _ => rfl⟩
  rw [rl_frame a' 68 u hinv.tsize hinv.defers hu]
  rw [← hu] at e6 e7
  clear hu hinv hall hC hown9 hLie hs hO0 hcut hmin hn1 hln
  show Exit.then _ _ _ (⟨#[u 0, u 1, u 2, u 3, u 4, u 5, u 6, u 7, u 8, u 9, u 10, u 11, u 12, u 13, u 14, u 15, u 16, u 17, u 18, u 19, u 20, u 21, u 22, u 23, u 24, u 25, u 26, u 27, u 28, u 29, u 30, u 31, u 32, u 33, u 34, u 35, u 36, u 37, u 38, u 39, u 40, u 41, u 42, u 43, u 44, u 45, u 46, u 47, u 48, u 49, u 50, u 51, u 52, u 53, u 54, u 55, u 56, u 57, u 58, u 59, u 60, u 61, u 62, u 63, u 64, u 65, u 66, u 67], []⟩ : Act) _
  rw [e6, e7]
  clear e6 e7
  have zo : (spA ⟨⟨xh1, hb, ht, xf, hb⟩, id, some ⟨g8, 0, none⟩, 1 + k, c8⟩).size = 38 := spA_size i32
  have HX : Hid (spA ⟨⟨xh1, hb, ht, xf, hb⟩, id, some ⟨g8, 0, none⟩, 1 + k, c8⟩ = spA ⟨⟨xh1, hb, ht, xf, hb⟩, id, some ⟨g8, 0, none⟩, 1 + k, c8⟩) := Lib.hid rfl
  change SpAt v9 bO ⟨⟨xh1, hb, ht, xf, hb⟩, id, some ⟨g8, 0, none⟩, 1 + k, c8⟩ at hO9
  generalize hq : (⟨⟨xh1, hb, ht, xf, hb⟩, id, some ⟨g8, 0, none⟩, 1 + k, c8⟩ : Sp) = sq at hO9 zo
  have HQ := Lib.hid hq
  clear hq HX
  go_wp2_with (first
    | (with_reducible refine sp_load rfl _ rfl bO rfl hO9 zo ?_)
    | (with_reducible refine sp_store rfl _ _ rfl bR _ sq rfl rfl rfl zo hR9 z0 ?_))
  refine bodyPost_ret (v := .agg (spA sq)) (sp_results Tryz.results12 _ bR rfl (Has.row hR9 _) zo) rfl ⟨g8, c8, by rw [← HQ.out], hc8, ?_, below_setRow hB9 HBR.out _⟩
  have hwd := HLie.out.wide (lo' := w.heap.size) (hi' := v9.heap.size) HB0.out (Nat.le_refl _)
  rw [setRow_size]
  exact HLie.out.on (fun q h1 _ => setRow_other v9 bR q _ (by omega)) |>.wide HB0.out (Nat.le_refl _)
set_option maxRecDepth 100000 in
set_option maxHeartbeats 4000000 in
theorem behind_unlike (p : NN.Pr) (hz : (NN.prA p).size = 83) (xh xb xt xf xr : Int) (prev : List UInt8) (hp32 : prev.length = 32) (a : Option Addr) (n c : Nat) (h : Hd) (ho : h.ok) (id : List UInt8) (i32 : id.length = 32) (hb ht : Int) (eb : Hid (h.bits = hb)) (et : Hid (h.time = ht)) (e4 : Hid (p.easy = true)) (lim : Int) (e0 : Hid (p.lim = lim)) (t0 : (hb == lim) = false)
    (xh1 : Int) (wx : IntKind.i64.wrap (xh + 1) = xh1) (KS : Hid (∀ w, Calls Tryz.prog 28 #[.agg (NN.prA p), .int .i64 xh] w fun e w' => e = .returned (.bool false) ∧ Below w.heap.size w w')) (KI : Hid (∀ w, Tab w → Calls Tryz.prog 23 #[.agg (hdA h)] w fun e w' => e = .returned (.agg (bytesV id)) ∧ Below w.heap.size w w'))
    (ts : List Int) (hl : ts.length = n) (hc : n ≤ c) (hmax : n < 9223372036854775808) (hnil : a = none → n = 0 ∧ c = 0) (k : Nat) (hk : k = min n 10) (w : World) (hT : Tab w) (hL : MM.Lie w 0 w.heap.size a ts) :
    Calls Tryz.prog 12 #[.agg (NN.prA p), .agg (spA ⟨⟨xh, xb, xt, xf, xr⟩, prev, a, n, c⟩), .agg (hdA h)] w fun r w' => ∃ b' c', r = .returned (.agg (spA ⟨⟨xh1, hb, ht, xf, hb⟩, id, some ⟨b', 0, none⟩, 1 + k, c'⟩)) ∧ 1 + k ≤ c' ∧ MM.Lie w' w.heap.size w'.heap.size (some ⟨b', 0, none⟩) (ht :: ts.take k) ∧ Below w.heap.size w w' := by
  have za := hdA_size ho
  have so : (⟨⟨xh, xb, xt, xf, xr⟩, prev, a, n, c⟩ : Sp).ok := hp32
  have zs := spA_size so
  have z0 := spA_size spZ_ok
  have hTr : ∀ v, Below w.heap.size w v → Tab v := fun v hb => hT.below hb
  have HTr := Lib.hid hTr
  obtain ⟨p1, hcut, hL1, hnil1⟩ := cut_opt hl (by omega : k ≤ n) hc hL hnil
  have HL1 := Lib.hid hL1
  have HN1 := Lib.hid hnil1
  have hlen1 : (ts.take k).length = k := by simp; omega
  have HLN := Lib.hid hlen1
  have hmin := NN.min_is (P := Tryz.prog) (n : Int) 10 (k : Int) (by omega)
  have hk10 : k ≤ 10 := by omega
  have hkm : Hid ((k : Int) = min (n : Int) 10) := Lib.hid (by omega)
  generalize ts.take k = T at *
  clear hT hTr hL hL1 hnil hnil1 hlen1 hl hk
  go_enter Tryz.func12, Tryz.ntmps12
  go_upto_region 1 with fail
  generalize hw0 : World.alloc _ _ = v0
  obtain ⟨hB0, hP0, hA0, hH0, hR0⟩ : Below w.heap.size w v0 ∧ NN.PrAt v0 w.heap.size p ∧ SpAt v0 (w.heap.size + 1) ⟨⟨xh, xb, xt, xf, xr⟩, prev, a, n, c⟩ ∧ HdAt v0 (w.heap.size + 1 + 1) h ∧ SpAt v0 (w.heap.size + 1 + 1 + 1) spZ := by
    rw [← hw0]
    refine ⟨((((Below.refl _ _).alloc (Nat.le_refl _) _).alloc (by simp) _).alloc (by simp; omega) _).alloc (by simp; omega) _, (((NN.Has.new _ _).alloc _).alloc _).alloc _, ((Has.new1 _ _ _).alloc _).alloc _, (Has.new2 _ _ _ _).alloc _, ?_⟩
    have := sp_newz (((w.alloc (.cells (NN.prA p) 32)).alloc (.cells (spA ⟨⟨xh, xb, xt, xf, xr⟩, prev, a, n, c⟩) 43)).alloc (.cells (hdA h) 30))
    simpa using this
  clear hw0
  obtain ⟨bP, hbP⟩ : ∃ b, b = w.heap.size := ⟨_, rfl⟩
  obtain ⟨bA, hbA⟩ : ∃ b, b = w.heap.size + 1 := ⟨_, rfl⟩
  obtain ⟨bH, hbH⟩ : ∃ b, b = w.heap.size + 1 + 1 := ⟨_, rfl⟩
  obtain ⟨bR, hbR⟩ : ∃ b, b = w.heap.size + 1 + 1 + 1 := ⟨_, rfl⟩
  rw [← hbR] at hR0 ⊢
  rw [← hbH] at hH0 ⊢
  rw [← hbA] at hA0 ⊢
  rw [← hbP] at hP0 ⊢
  have hR1 := hR0.lt
  have HBR : Hid (w.heap.size ≤ bR) := Lib.hid (by omega)
  have HO : Hid (∀ bO, v0.heap.size ≤ bO → bP ≠ bO ∧ bA ≠ bO ∧ bH ≠ bO ∧ bR ≠ bO ∧ w.heap.size ≤ bO) := Lib.hid (fun bO hO => by omega)
  clear hbP hbA hbH hbR hR1
  -- the new spot
  refine wp_region_inv (by kernel_rfl) (fun w' => Below v0.heap.size v0 w') (fun i v' w' => MkR v0.heap.size bA ⟨⟨xh, xb, xt, xf, xr⟩, prev, a, n, c⟩ h ⟨⟨xh, xb, xt, xf, xr⟩, id, none, 0, 0⟩ i v' w') (fun l a w' => DoneS 6 7 v0.heap.size ⟨⟨xh, xb, xt, xf, xr⟩, id, none, 0, 0⟩ l a w') (SpStep v0.heap.size) (fun _ _ => SpStep.refl _ _) (fun _ _ _ _ _ hs h => MkR_stays _ _ _ _ hs h) (by kernel_rfl) (Below.refl _ _).drew ?_ ?_ ?_
  · exact fun l hl => fun hk => (by rw [hl] at hk; cases hk)
  · intro i o listed a wx ho' hn hdep hinv
    have hC := hinv.c
    have hi : i < 7 := (Array.getElem?_eq_some_iff.1 ho').1
    have zn : (spA ⟨⟨xh, xb, xt, xf, xr⟩, id, none, 0, 0⟩).size = 38 := spA_size i32
    obtain rfl | rfl | rfl | rfl | rfl | rfl | rfl : i = 0 ∨ i = 1 ∨ i = 2 ∨ i = 3 ∨ i = 4 ∨ i = 5 ∨ i = 6 := by omega
    all_goals obtain rfl := Option.some.inj ho'
    · exact duty_value ((fun _ _ => SpStep.refl _ _)) hC (wanted_free rfl) (ex_sfield0 rfl (hinv.old' 4 (by kernel_rfl))) rfl (DoneS.pre (hinv.aheadT 6 (by kernel_rfl) hn (by decide) (by decide)))
    · exact duty_value ((fun _ _ => SpStep.refl _ _)) hC (wanted_free rfl) (ex_load_pt rfl (hinv.got 0 _ 9 rfl (hdep ⟨0, .data⟩ (by simp) rfl) rfl) (hA0.on hC).pt) rfl (DoneS.pre (hinv.aheadT 6 (by kernel_rfl) hn (by decide) (by decide)))
    · exact duty_value ((fun _ _ => SpStep.refl _ _)) hC (wanted_free rfl) (ex_load_hd rfl (hinv.old' 5 (by kernel_rfl)) (hH0.on hC) za) rfl (DoneS.pre (hinv.aheadT 6 (by kernel_rfl) hn (by decide) (by decide)))
    · have e11 := hinv.got 2 _ 11 rfl (hdep ⟨2, .data⟩ (by simp) rfl) rfl
      exact duty_call (wanted_free rfl) (f := 23) (args := #[a.eval (.tmp 11)]) (by kernel_rfl) (by rw [show a.eval (.tmp 11) = _ from e11]; exact KI.out wx (HTr.out wx (hB0.trans (hC.mono hB0.size)))) (fun w' hb => ⟨hC.trans (hb.mono hC.size), SpStep.below hb, rfl, DoneS.pre (hinv.aheadT 6 (by kernel_rfl) hn (by decide) (by decide))⟩)
    · exact duty_value ((fun _ _ => SpStep.refl _ _)) hC (wanted_free rfl) (ex_build_sp rfl (hinv.got 1 _ 10 rfl (hdep ⟨1, .data⟩ (by simp) rfl) rfl) (hinv.got 3 _ 12 rfl (hdep ⟨3, .data⟩ (by simp) rfl) rfl) i32) rfl (DoneS.pre (hinv.aheadT 6 (by kernel_rfl) hn (by decide) (by decide)))
    · have hbel' : Below wx.heap.size wx (wx.alloc (.cells (spA spZ) 43)) := (Below.refl _ _).alloc (Nat.le_refl _) _
      exact duty_made (wanted_free rfl) (ex_alloc_sp rfl) (hC.trans (hbel'.mono hC.size)) (SpStep.below hbel') ⟨wx.heap.size, spA spZ, hC.size, rfl, Has.new _ _, z0⟩ (DoneS.pre (hinv.aheadT 6 (by kernel_rfl) hn (by decide) (by decide)))
    · obtain ⟨b, cs, hb, he, hh, hsz⟩ := hinv.got 5 _ 7 rfl (hdep ⟨5, .data⟩ (by simp) rfl) rfl
      exact duty_store (wanted_free rfl) (ex_store_sp rfl he (hinv.got 4 _ 13 rfl (hdep ⟨4, .data⟩ (by simp) rfl) rfl) hh hsz zn) (below_setRow hC hb _) (SpStep.row hh zn) trivial (fun _ => ⟨b, hb, he, Has.row hh _⟩)
  intro listed a' v1 hall hinv
  have hC := hinv.c
  obtain ⟨bO, hbO, e7, hO⟩ := hinv.i (hall 6 (by decide))
  have e3 : a'.eval (.tmp 3) = .pointer (some ⟨bP, 0, none⟩) := hinv.old' 3 (by kernel_rfl)
  have e4' : a'.eval (.tmp 4) = .pointer (some ⟨bA, 0, none⟩) := hinv.old' 4 (by kernel_rfl)
  have e5 : a'.eval (.tmp 5) = .pointer (some ⟨bH, 0, none⟩) := hinv.old' 5 (by kernel_rfl)
  have e6 : a'.eval (.tmp 6) = .pointer (some ⟨bR, 0, none⟩) := hinv.old' 6 (by kernel_rfl)
  obtain ⟨n1, n2, n3, n4, n5⟩ := HO.out bO hbO
  have hs : BhS w v1 bP bA bH bR bO p ⟨⟨xh, xb, xt, xf, xr⟩, prev, a, n, c⟩ h ⟨⟨xh, xb, xt, xf, xr⟩, id, none, 0, 0⟩ := ⟨hB0.trans (hC.mono hB0.size), hP0.on hC, hA0.on hC, hH0.on hC, hR0.on hC, hO⟩
  obtain ⟨u, hu⟩ : ∃ u : Nat → Value, ∀ t, u t = a'.eval (.tmp t) := ⟨_, fun _ => rfl⟩
  rw [rl_frame a' 68 u hinv.tsize hinv.defers hu]
  rw [← hu] at e3 e4' e5 e6 e7
  clear hu hinv hall hC hbO hO HO hB0 hP0 hA0 hH0 hR0
  show Exit.then _ _ _ (⟨#[u 0, u 1, u 2, u 3, u 4, u 5, u 6, u 7, u 8, u 9, u 10, u 11, u 12, u 13, u 14, u 15, u 16, u 17, u 18, u 19, u 20, u 21, u 22, u 23, u 24, u 25, u 26, u 27, u 28, u 29, u 30, u 31, u 32, u 33, u 34, u 35, u 36, u 37, u 38, u 39, u 40, u 41, u 42, u 43, u 44, u 45, u 46, u 47, u 48, u 49, u 50, u 51, u 52, u 53, u 54, u 55, u 56, u 57, u 58, u 59, u 60, u 61, u 62, u 63, u 64, u 65, u 66, u 67], []⟩ : Act) _
  rw [e3, e4', e5, e6, e7]
  clear e3 e4' e5 e6 e7
  have c0 := hs.a.c0 (z := xh) (Lib.hid rfl)
  have hpp := hs.p
  go_wp2_with (with_reducible refine NN.pr_load rfl _ rfl _ rfl hpp hz ?_)
  refine (KS.out _).mono ?_
  rintro r v2 ⟨rfl, hb2⟩
  replace hs := hs.on hb2
  clear hb2 c0 hpp
  have cH := hs.h.bits ho
  rw [eb.out] at cH
  have cT := hs.h.time ho
  rw [et.out] at cT
  have c := hs.o.c0 (z := xh) (Lib.hid rfl)
  have f := hs.o.free 0
  have hX := hs.o.setH xh1
  replace hs := hs.put 0 _ hX n1 n2 n3 n4 n5
  clear hX
  go_upto_region 4 with fail
  generalize World.setCell _ _ _ = v3 at *
  clear c f cH cT
  have cH := hs.h.bits ho
  rw [eb.out] at cH
  have cT := hs.h.time ho
  rw [et.out] at cT
  have c := hs.o.c1 (z := xb) (Lib.hid rfl)
  have f := hs.o.free 1
  have hX := hs.o.setB hb
  replace hs := hs.put 1 _ hX n1 n2 n3 n4 n5
  clear hX
  go_upto_region 5 with fail
  generalize World.setCell _ _ _ = v4 at *
  clear c f cH cT
  have cH := hs.h.bits ho
  rw [eb.out] at cH
  have cT := hs.h.time ho
  rw [et.out] at cT
  have c := hs.o.c2 (z := xt) (Lib.hid rfl)
  have f := hs.o.free 2
  have hX := hs.o.setT ht
  replace hs := hs.put 2 _ hX n1 n2 n3 n4 n5
  clear hX
  go_upto_region 6 with fail
  generalize World.setCell _ _ _ = v5 at *
  clear c f cH cT
  have cH := hs.h.bits ho
  rw [eb.out] at cH
  have cT := hs.h.time ho
  rw [et.out] at cT
  have cE := hs.p.c4 e4
  have cL := hs.p.c0 e0
  have c := hs.o.c4 (z := xr) (Lib.hid rfl)
  have f := hs.o.free 4
  have hX := hs.o.setR hb
  replace hs := hs.put 4 _ hX n1 n2 n3 n4 n5
  clear hX
  go_upto_region 10 with fail
  generalize World.setCell _ _ _ = v6 at *
  clear c f cH cT
  have cH := hs.h.bits ho
  rw [eb.out] at cH
  have cT := hs.h.time ho
  rw [et.out] at cT
  have hO0 := hs.o
  have hOl : bO < v6.heap.size := hO0.lt
  have hn1 := HN1.out
  have hln := HLN.out
  have m1 : 1 + k ≤ 1000 := by omega
  refine wp_region_inv (by kernel_rfl) (fun w' => v6.grownBy w' (some bO)) (fun i v' _ => TmR bA bH bO a n c p1 k ht i v') (fun l a w' => TmI v6.heap.size bO ⟨⟨xh1, hb, ht, xf, hb⟩, id, none, 0, 0⟩ ht T k l a w') (fun _ _ => True) (fun _ _ => trivial) (fun _ _ _ _ _ _ h => h) (by kernel_rfl) (gb_below (Below.refl _ _).drew _) ?_ ?_ ?_
  · exact fun l hl => ⟨fun h => (by rw [hl] at h; cases h), fun h => (by rw [hl] at h; cases h), fun _ => Has.drew hO0, fun h => (by rw [hl] at h; cases h)⟩
  · intro i o listed a' wx ho' hn hdep hinv
    have hC := hinv.c
    have hI := hinv.i
    have hi : i < 13 := (Array.getElem?_eq_some_iff.1 ho').1
    have hHx : HdAt wx bH h := gb_has hC hs.h (fun e => n3 (Option.some.inj e))
    have hAx : SpAt wx bA ⟨⟨xh, xb, xt, xf, xr⟩, prev, a, n, c⟩ := gb_has hC hs.a (fun e => n2 (Option.some.inj e))
    have cTx := hHx.time ho
    rw [et.out] at cTx
    have cAx := hAx.sl so
    have hlx : v6.heap.size ≤ wx.heap.size := hC.size
    obtain rfl | rfl | rfl | rfl | rfl | rfl | rfl | rfl | rfl | rfl | rfl | rfl | rfl : i = 0 ∨ i = 1 ∨ i = 2 ∨ i = 3 ∨ i = 4 ∨ i = 5 ∨ i = 6 ∨ i = 7 ∨ i = 8 ∨ i = 9 ∨ i = 10 ∨ i = 11 ∨ i = 12 := by omega
    all_goals obtain rfl := Option.some.inj ho'
    · have hsz0 : 0 < listed.size := by rw [hinv.size]; decide
      exact duty_value (C := fun w' => v6.grownBy w' (some bO)) (S := fun _ _ => True) (R := fun v' _ => TmR bA bH bO a n c p1 k ht 0 v') (J := fun a w' => TmI v6.heap.size bO ⟨⟨xh1, hb, ht, xf, hb⟩, id, none, 0, 0⟩ ht T k (listed.setIfInBounds 0 true) a w') (fun _ _ => trivial) hC (wanted_free rfl) (ex_hfield3 rfl (hinv.old' 5 (by kernel_rfl))) rfl (hI.keep 0 hsz0 (by decide) (by decide) (by decide) _ _ (by decide) (by decide))
    · have hsz1 : 1 < listed.size := by rw [hinv.size]; decide
      exact duty_value (C := fun w' => v6.grownBy w' (some bO)) (S := fun _ _ => True) (R := fun v' _ => TmR bA bH bO a n c p1 k ht 1 v') (J := fun a w' => TmI v6.heap.size bO ⟨⟨xh1, hb, ht, xf, hb⟩, id, none, 0, 0⟩ ht T k (listed.setIfInBounds 1 true) a w') (fun _ _ => trivial) hC (wanted_free rfl) (NN.ex_load_int rfl (hinv.got 0 _ 55 rfl (hdep ⟨0, .data⟩ (by simp) rfl) rfl) cTx) rfl (hI.keep 1 hsz1 (by decide) (by decide) (by decide) _ _ (by decide) (by decide))
    · have hsz : 2 < listed.size := by rw [hinv.size]; decide
      have h10 : (listed.setIfInBounds 2 true).getD 10 false = false := hinv.aheadT 12 (by kernel_rfl) hn (by decide) (by decide)
      have h12 : (listed.setIfInBounds 2 true).getD 12 false = false := hinv.aheadT 12 (by kernel_rfl) hn (by decide) (by decide)
      have h12' : listed.getD 12 false = false := by rw [← getD_none listed 2 12 hsz (by decide)]; exact h12
      have hbx : Below wx.heap.size wx (wx.alloc (.cells #[.int .i64 ht] 3)) := (Below.refl _ _).alloc (Nat.le_refl _) _
      refine duty_made (C := fun w' => v6.grownBy w' (some bO)) (S := fun _ _ => True) (R := fun v' _ => TmR bA bH bO a n c p1 k ht 2 v') (J := fun a w' => TmI v6.heap.size bO ⟨⟨xh1, hb, ht, xf, hb⟩, id, none, 0, 0⟩ ht T k (listed.setIfInBounds 2 true) a w') (wanted_free rfl) (ex_build_one rfl (hinv.got 1 _ 56 rfl (hdep ⟨1, .data⟩ (by simp) rfl) rfl)) (gb_trans hC (gb_below hbx _)) trivial trivial ⟨fun _ _ => ⟨wx.heap.size, hlx, put_same a' 57 _ (by rw [hinv.tsize]; exact (show 57 < 68 by decide)), Has.new _ _⟩, fun e => (by rw [h10] at e; cases e), fun _ => (hI.2.2.1 h12').on hbx, fun e => (by rw [h12] at e; cases e)⟩
    · have hsz3 : 3 < listed.size := by rw [hinv.size]; decide
      exact duty_value (C := fun w' => v6.grownBy w' (some bO)) (S := fun _ _ => True) (R := fun v' _ => TmR bA bH bO a n c p1 k ht 3 v') (J := fun a w' => TmI v6.heap.size bO ⟨⟨xh1, hb, ht, xf, hb⟩, id, none, 0, 0⟩ ht T k (listed.setIfInBounds 3 true) a w') (fun _ _ => trivial) hC (wanted_free rfl) (ex_sfield2 rfl (hinv.old' 4 (by kernel_rfl))) rfl (hI.keep 3 hsz3 (by decide) (by decide) (by decide) _ _ (by decide) (by decide))
    · have hsz4 : 4 < listed.size := by rw [hinv.size]; decide
      exact duty_value (C := fun w' => v6.grownBy w' (some bO)) (S := fun _ _ => True) (R := fun v' _ => TmR bA bH bO a n c p1 k ht 4 v') (J := fun a w' => TmI v6.heap.size bO ⟨⟨xh1, hb, ht, xf, hb⟩, id, none, 0, 0⟩ ht T k (listed.setIfInBounds 4 true) a w') (fun _ _ => trivial) hC (wanted_free rfl) (ex_load_ints rfl (hinv.got 3 _ 58 rfl (hdep ⟨3, .data⟩ (by simp) rfl) rfl) cAx) rfl (hI.keep 4 hsz4 (by decide) (by decide) (by decide) _ _ (by decide) (by decide))
    · have hsz5 : 5 < listed.size := by rw [hinv.size]; decide
      exact duty_value (C := fun w' => v6.grownBy w' (some bO)) (S := fun _ _ => True) (R := fun v' _ => TmR bA bH bO a n c p1 k ht 5 v') (J := fun a w' => TmI v6.heap.size bO ⟨⟨xh1, hb, ht, xf, hb⟩, id, none, 0, 0⟩ ht T k (listed.setIfInBounds 5 true) a w') (fun _ _ => trivial) hC (wanted_free rfl) (ex_sfield2 rfl (hinv.old' 4 (by kernel_rfl))) rfl (hI.keep 5 hsz5 (by decide) (by decide) (by decide) _ _ (by decide) (by decide))
    · have hsz6 : 6 < listed.size := by rw [hinv.size]; decide
      exact duty_value (C := fun w' => v6.grownBy w' (some bO)) (S := fun _ _ => True) (R := fun v' _ => TmR bA bH bO a n c p1 k ht 6 v') (J := fun a w' => TmI v6.heap.size bO ⟨⟨xh1, hb, ht, xf, hb⟩, id, none, 0, 0⟩ ht T k (listed.setIfInBounds 6 true) a w') (fun _ _ => trivial) hC (wanted_free rfl) (ex_load_ints rfl (hinv.got 5 _ 60 rfl (hdep ⟨5, .data⟩ (by simp) rfl) rfl) cAx) rfl (hI.keep 6 hsz6 (by decide) (by decide) (by decide) _ _ (by decide) (by decide))
    · have hsz7 : 7 < listed.size := by rw [hinv.size]; decide
      exact duty_value (C := fun w' => v6.grownBy w' (some bO)) (S := fun _ _ => True) (R := fun v' _ => TmR bA bH bO a n c p1 k ht 7 v') (J := fun a w' => TmI v6.heap.size bO ⟨⟨xh1, hb, ht, xf, hb⟩, id, none, 0, 0⟩ ht T k (listed.setIfInBounds 7 true) a w') (fun _ _ => trivial) hC (wanted_free rfl) (ex_len rfl (hinv.got 6 _ 61 rfl (hdep ⟨6, .data⟩ (by simp) rfl) rfl)) rfl (hI.keep 7 hsz7 (by decide) (by decide) (by decide) _ _ (by decide) (by decide))
    · have hsz8 : 8 < listed.size := by rw [hinv.size]; decide
      exact duty_value (C := fun w' => v6.grownBy w' (some bO)) (S := fun _ _ => True) (R := fun v' _ => TmR bA bH bO a n c p1 k ht 8 v') (J := fun a w' => TmI v6.heap.size bO ⟨⟨xh1, hb, ht, xf, hb⟩, id, none, 0, 0⟩ ht T k (listed.setIfInBounds 8 true) a w') (fun _ _ => trivial) hC (wanted_free rfl) (ex_min rfl (hinv.got 7 _ 62 rfl (hdep ⟨7, .data⟩ (by simp) rfl) rfl) rfl hkm.out) rfl (hI.keep 8 hsz8 (by decide) (by decide) (by decide) _ _ (by decide) (by decide))
    · have hsz9 : 9 < listed.size := by rw [hinv.size]; decide
      exact duty_value (C := fun w' => v6.grownBy w' (some bO)) (S := fun _ _ => True) (R := fun v' _ => TmR bA bH bO a n c p1 k ht 9 v') (J := fun a w' => TmI v6.heap.size bO ⟨⟨xh1, hb, ht, xf, hb⟩, id, none, 0, 0⟩ ht T k (listed.setIfInBounds 9 true) a w') (fun _ _ => trivial) hC (wanted_free rfl) (ex_slice rfl (hinv.got 4 _ 59 rfl (hdep ⟨4, .data⟩ (by simp) rfl) rfl) (hinv.got 8 _ 63 rfl (hdep ⟨8, .data⟩ (by simp) rfl) rfl) (hcut wx)) rfl (hI.keep 9 hsz9 (by decide) (by decide) (by decide) _ _ (by decide) (by decide))
    · have hsz : 10 < listed.size := by rw [hinv.size]; decide
      have h12 : (listed.setIfInBounds 10 true).getD 12 false = false := hinv.aheadT 12 (by kernel_rfl) hn (by decide) (by decide)
      have h12' : listed.getD 12 false = false := by rw [← getD_none listed 10 12 hsz (by decide)]; exact h12
      obtain ⟨g, hgB, e57, hg⟩ := hI.1 (hdep ⟨2, .data⟩ (by simp) rfl) hn
      have e64 := (hinv.got 9 _ 64 rfl (hdep ⟨9, .data⟩ (by simp) rfl) rfl)
      have hLx := (HL1.out.below hs.be (Nat.le_refl _)).grown hC hs.be.size (.inr n5)
      obtain ⟨v', w', hr, hown', hgr⟩ := ex_append (lo := 0) (hi := w.heap.size) (ρ := a'.eval) (.tmp 57) (.tmp 64) v6.heap.size (.slice (some ⟨g, 0, none⟩) 1 1) 1 [ht] e57 (owns_one hg hgB) p1 k c T e64 hn1 hln hLx m1 hlx
      obtain ⟨p8, c8, rfl⟩ := owns_slice_int hown'
      refine duty_made (C := fun w' => v6.grownBy w' (some bO)) (S := fun _ _ => True) (R := fun v' _ => TmR bA bH bO a n c p1 k ht 10 v') (J := fun a w' => TmI v6.heap.size bO ⟨⟨xh1, hb, ht, xf, hb⟩, id, none, 0, 0⟩ ht T k (listed.setIfInBounds 10 true) a w') (wanted_free rfl) (hr _ rfl rfl) (gb_past hC hgr hgB) trivial trivial ⟨fun _ e => (by rw [getD_set _ _ _ hsz, if_pos rfl] at e; cases e), fun _ _ => ⟨p8, c8, put_same a' 65 _ (by rw [hinv.tsize]; exact (show 65 < 68 by decide)), hown'⟩, fun _ => gb_has hgr (hI.2.2.1 h12') (fun e => by have : bO = g := Option.some.inj e; omega), fun e => (by rw [h12] at e; cases e)⟩
    · have hsz11 : 11 < listed.size := by rw [hinv.size]; decide
      exact duty_value (C := fun w' => v6.grownBy w' (some bO)) (S := fun _ _ => True) (R := fun v' _ => TmR bA bH bO a n c p1 k ht 11 v') (J := fun a w' => TmI v6.heap.size bO ⟨⟨xh1, hb, ht, xf, hb⟩, id, none, 0, 0⟩ ht T k (listed.setIfInBounds 11 true) a w') (fun _ _ => trivial) hC (wanted_free rfl) (ex_sfield2 rfl (hinv.old' 7 (by kernel_rfl))) rfl (hI.keep 11 hsz11 (by decide) (by decide) (by decide) _ _ (by decide) (by decide))
    · have hsz : 12 < listed.size := by rw [hinv.size]; decide
      have l10 : listed.getD 10 false = true := hdep ⟨10, .data⟩ (by simp) rfl
      obtain ⟨p8, c8, e65, hown8⟩ := hI.2.1 l10 hn
      have hOx := hI.2.2.1 hn
      refine duty_store (C := fun w' => v6.grownBy w' (some bO)) (S := fun _ _ => True) (R := fun v' _ => TmR bA bH bO a n c p1 k ht 12 v') (J := fun a w' => TmI v6.heap.size bO ⟨⟨xh1, hb, ht, xf, hb⟩, id, none, 0, 0⟩ ht T k (listed.setIfInBounds 12 true) a w') (wanted_free rfl) (ex_store_ints rfl (hinv.got 11 _ 66 rfl (hdep ⟨11, .data⟩ (by simp) rfl) rfl) e65 (hOx.free 37) (hOx.sl i32)) (gb_setCell hC 37 _) trivial trivial ⟨fun _ e => (by rw [getD_none _ _ _ hsz (by decide), l10] at e; cases e), fun _ e => (by rw [getD_set _ _ _ hsz, if_pos rfl] at e; cases e), fun e => (by rw [getD_set _ _ _ hsz, if_pos rfl] at e; cases e), fun _ => ⟨p8, c8, hOx.setS i32 p8 (1 + k) c8, hown8.kept (gb_setOne _ _ _ _) (.inr (fun e => by have := (hown8.lt bO e).1; omega))⟩⟩
  intro listed a' v9 hall hinv
  obtain ⟨p8, c8, hO9, hown9⟩ := hinv.i.2.2.2 (hall 12 (by decide))
  have hC := hinv.c
  have e6 : a'.eval (.tmp 6) = .pointer (some ⟨bR, 0, none⟩) := hinv.old' 6 (by kernel_rfl)
  have e7 : a'.eval (.tmp 7) = .pointer (some ⟨bO, 0, none⟩) := hinv.old' 7 (by kernel_rfl)
  have hR9 : SpAt v9 bR spZ := gb_has hC hs.r (fun e => n4 (Option.some.inj e))
  have hB9 : Below w.heap.size w v9 := hs.be.trans (gb_toBelow hC n5 hs.be.size)
  have hRl : bR < v6.heap.size := hs.r.lt
  obtain ⟨g8, rfl, hc8⟩ := owns_some hown9
  obtain ⟨q8, d8, eq8, _, _, hLie⟩ := MM.lie_of_owns (l := ht :: T) hown9
  cases eq8
  have HLie := Lib.hid hLie
  have HB0 := Lib.hid hs.be.size
  obtain ⟨u, hu⟩ : ∃ u : Nat → Value, ∀ t, u t = a'.eval (.tmp t) := ⟨_, fun _ => rfl⟩
  rw [rl_frame a' 68 u hinv.tsize hinv.defers hu]
  rw [← hu] at e6 e7
  clear hu hinv hall hC hown9 hLie hs hO0 hcut hmin hn1 hln
  show Exit.then _ _ _ (⟨#[u 0, u 1, u 2, u 3, u 4, u 5, u 6, u 7, u 8, u 9, u 10, u 11, u 12, u 13, u 14, u 15, u 16, u 17, u 18, u 19, u 20, u 21, u 22, u 23, u 24, u 25, u 26, u 27, u 28, u 29, u 30, u 31, u 32, u 33, u 34, u 35, u 36, u 37, u 38, u 39, u 40, u 41, u 42, u 43, u 44, u 45, u 46, u 47, u 48, u 49, u 50, u 51, u 52, u 53, u 54, u 55, u 56, u 57, u 58, u 59, u 60, u 61, u 62, u 63, u 64, u 65, u 66, u 67], []⟩ : Act) _
  rw [e6, e7]
  clear e6 e7
  have zo : (spA ⟨⟨xh1, hb, ht, xf, hb⟩, id, some ⟨g8, 0, none⟩, 1 + k, c8⟩).size = 38 := spA_size i32
  have HX : Hid (spA ⟨⟨xh1, hb, ht, xf, hb⟩, id, some ⟨g8, 0, none⟩, 1 + k, c8⟩ = spA ⟨⟨xh1, hb, ht, xf, hb⟩, id, some ⟨g8, 0, none⟩, 1 + k, c8⟩) := Lib.hid rfl
  change SpAt v9 bO ⟨⟨xh1, hb, ht, xf, hb⟩, id, some ⟨g8, 0, none⟩, 1 + k, c8⟩ at hO9
  generalize hq : (⟨⟨xh1, hb, ht, xf, hb⟩, id, some ⟨g8, 0, none⟩, 1 + k, c8⟩ : Sp) = sq at hO9 zo
  have HQ := Lib.hid hq
  clear hq HX
  go_wp2_with (first
    | (with_reducible refine sp_load rfl _ rfl bO rfl hO9 zo ?_)
    | (with_reducible refine sp_store rfl _ _ rfl bR _ sq rfl rfl rfl zo hR9 z0 ?_))
  refine bodyPost_ret (v := .agg (spA sq)) (sp_results Tryz.results12 _ bR rfl (Has.row hR9 _) zo) rfl ⟨g8, c8, by rw [← HQ.out], hc8, ?_, below_setRow hB9 HBR.out _⟩
  have hwd := HLie.out.wide (lo' := w.heap.size) (hi' := v9.heap.size) HB0.out (Nat.le_refl _)
  rw [setRow_size]
  exact HLie.out.on (fun q h1 _ => setRow_other v9 bR q _ (by omega)) |>.wide HB0.out (Nat.le_refl _)
set_option maxRecDepth 100000 in
set_option maxHeartbeats 4000000 in
theorem behind_easy (p : NN.Pr) (hz : (NN.prA p).size = 83) (xh xb xt xf xr : Int) (prev : List UInt8) (hp32 : prev.length = 32) (a : Option Addr) (n c : Nat) (h : Hd) (ho : h.ok) (id : List UInt8) (i32 : id.length = 32) (hb ht : Int) (eb : Hid (h.bits = hb)) (et : Hid (h.time = ht)) (e4 : Hid (p.easy = true)) (lim : Int) (e0 : Hid (p.lim = lim)) (t0 : (hb == lim) = true)
    (xh1 : Int) (wx : IntKind.i64.wrap (xh + 1) = xh1) (KS : Hid (∀ w, Calls Tryz.prog 28 #[.agg (NN.prA p), .int .i64 xh] w fun e w' => e = .returned (.bool false) ∧ Below w.heap.size w w')) (KI : Hid (∀ w, Tab w → Calls Tryz.prog 23 #[.agg (hdA h)] w fun e w' => e = .returned (.agg (bytesV id)) ∧ Below w.heap.size w w'))
    (ts : List Int) (hl : ts.length = n) (hc : n ≤ c) (hmax : n < 9223372036854775808) (hnil : a = none → n = 0 ∧ c = 0) (k : Nat) (hk : k = min n 10) (w : World) (hT : Tab w) (hL : MM.Lie w 0 w.heap.size a ts) :
    Calls Tryz.prog 12 #[.agg (NN.prA p), .agg (spA ⟨⟨xh, xb, xt, xf, xr⟩, prev, a, n, c⟩), .agg (hdA h)] w fun r w' => ∃ b' c', r = .returned (.agg (spA ⟨⟨xh1, hb, ht, xf, xr⟩, id, some ⟨b', 0, none⟩, 1 + k, c'⟩)) ∧ 1 + k ≤ c' ∧ MM.Lie w' w.heap.size w'.heap.size (some ⟨b', 0, none⟩) (ht :: ts.take k) ∧ Below w.heap.size w w' := by
  have za := hdA_size ho
  have so : (⟨⟨xh, xb, xt, xf, xr⟩, prev, a, n, c⟩ : Sp).ok := hp32
  have zs := spA_size so
  have z0 := spA_size spZ_ok
  have hTr : ∀ v, Below w.heap.size w v → Tab v := fun v hb => hT.below hb
  have HTr := Lib.hid hTr
  obtain ⟨p1, hcut, hL1, hnil1⟩ := cut_opt hl (by omega : k ≤ n) hc hL hnil
  have HL1 := Lib.hid hL1
  have HN1 := Lib.hid hnil1
  have hlen1 : (ts.take k).length = k := by simp; omega
  have HLN := Lib.hid hlen1
  have hmin := NN.min_is (P := Tryz.prog) (n : Int) 10 (k : Int) (by omega)
  have hk10 : k ≤ 10 := by omega
  have hkm : Hid ((k : Int) = min (n : Int) 10) := Lib.hid (by omega)
  generalize ts.take k = T at *
  clear hT hTr hL hL1 hnil hnil1 hlen1 hl hk
  go_enter Tryz.func12, Tryz.ntmps12
  go_upto_region 1 with fail
  generalize hw0 : World.alloc _ _ = v0
  obtain ⟨hB0, hP0, hA0, hH0, hR0⟩ : Below w.heap.size w v0 ∧ NN.PrAt v0 w.heap.size p ∧ SpAt v0 (w.heap.size + 1) ⟨⟨xh, xb, xt, xf, xr⟩, prev, a, n, c⟩ ∧ HdAt v0 (w.heap.size + 1 + 1) h ∧ SpAt v0 (w.heap.size + 1 + 1 + 1) spZ := by
    rw [← hw0]
    refine ⟨((((Below.refl _ _).alloc (Nat.le_refl _) _).alloc (by simp) _).alloc (by simp; omega) _).alloc (by simp; omega) _, (((NN.Has.new _ _).alloc _).alloc _).alloc _, ((Has.new1 _ _ _).alloc _).alloc _, (Has.new2 _ _ _ _).alloc _, ?_⟩
    have := sp_newz (((w.alloc (.cells (NN.prA p) 32)).alloc (.cells (spA ⟨⟨xh, xb, xt, xf, xr⟩, prev, a, n, c⟩) 43)).alloc (.cells (hdA h) 30))
    simpa using this
  clear hw0
  obtain ⟨bP, hbP⟩ : ∃ b, b = w.heap.size := ⟨_, rfl⟩
  obtain ⟨bA, hbA⟩ : ∃ b, b = w.heap.size + 1 := ⟨_, rfl⟩
  obtain ⟨bH, hbH⟩ : ∃ b, b = w.heap.size + 1 + 1 := ⟨_, rfl⟩
  obtain ⟨bR, hbR⟩ : ∃ b, b = w.heap.size + 1 + 1 + 1 := ⟨_, rfl⟩
  rw [← hbR] at hR0 ⊢
  rw [← hbH] at hH0 ⊢
  rw [← hbA] at hA0 ⊢
  rw [← hbP] at hP0 ⊢
  have hR1 := hR0.lt
  have HBR : Hid (w.heap.size ≤ bR) := Lib.hid (by omega)
  have HO : Hid (∀ bO, v0.heap.size ≤ bO → bP ≠ bO ∧ bA ≠ bO ∧ bH ≠ bO ∧ bR ≠ bO ∧ w.heap.size ≤ bO) := Lib.hid (fun bO hO => by omega)
  clear hbP hbA hbH hbR hR1
  -- the new spot
  refine wp_region_inv (by kernel_rfl) (fun w' => Below v0.heap.size v0 w') (fun i v' w' => MkR v0.heap.size bA ⟨⟨xh, xb, xt, xf, xr⟩, prev, a, n, c⟩ h ⟨⟨xh, xb, xt, xf, xr⟩, id, none, 0, 0⟩ i v' w') (fun l a w' => DoneS 6 7 v0.heap.size ⟨⟨xh, xb, xt, xf, xr⟩, id, none, 0, 0⟩ l a w') (SpStep v0.heap.size) (fun _ _ => SpStep.refl _ _) (fun _ _ _ _ _ hs h => MkR_stays _ _ _ _ hs h) (by kernel_rfl) (Below.refl _ _).drew ?_ ?_ ?_
  · exact fun l hl => fun hk => (by rw [hl] at hk; cases hk)
  · intro i o listed a wx ho' hn hdep hinv
    have hC := hinv.c
    have hi : i < 7 := (Array.getElem?_eq_some_iff.1 ho').1
    have zn : (spA ⟨⟨xh, xb, xt, xf, xr⟩, id, none, 0, 0⟩).size = 38 := spA_size i32
    obtain rfl | rfl | rfl | rfl | rfl | rfl | rfl : i = 0 ∨ i = 1 ∨ i = 2 ∨ i = 3 ∨ i = 4 ∨ i = 5 ∨ i = 6 := by omega
    all_goals obtain rfl := Option.some.inj ho'
    · exact duty_value ((fun _ _ => SpStep.refl _ _)) hC (wanted_free rfl) (ex_sfield0 rfl (hinv.old' 4 (by kernel_rfl))) rfl (DoneS.pre (hinv.aheadT 6 (by kernel_rfl) hn (by decide) (by decide)))
    · exact duty_value ((fun _ _ => SpStep.refl _ _)) hC (wanted_free rfl) (ex_load_pt rfl (hinv.got 0 _ 9 rfl (hdep ⟨0, .data⟩ (by simp) rfl) rfl) (hA0.on hC).pt) rfl (DoneS.pre (hinv.aheadT 6 (by kernel_rfl) hn (by decide) (by decide)))
    · exact duty_value ((fun _ _ => SpStep.refl _ _)) hC (wanted_free rfl) (ex_load_hd rfl (hinv.old' 5 (by kernel_rfl)) (hH0.on hC) za) rfl (DoneS.pre (hinv.aheadT 6 (by kernel_rfl) hn (by decide) (by decide)))
    · have e11 := hinv.got 2 _ 11 rfl (hdep ⟨2, .data⟩ (by simp) rfl) rfl
      exact duty_call (wanted_free rfl) (f := 23) (args := #[a.eval (.tmp 11)]) (by kernel_rfl) (by rw [show a.eval (.tmp 11) = _ from e11]; exact KI.out wx (HTr.out wx (hB0.trans (hC.mono hB0.size)))) (fun w' hb => ⟨hC.trans (hb.mono hC.size), SpStep.below hb, rfl, DoneS.pre (hinv.aheadT 6 (by kernel_rfl) hn (by decide) (by decide))⟩)
    · exact duty_value ((fun _ _ => SpStep.refl _ _)) hC (wanted_free rfl) (ex_build_sp rfl (hinv.got 1 _ 10 rfl (hdep ⟨1, .data⟩ (by simp) rfl) rfl) (hinv.got 3 _ 12 rfl (hdep ⟨3, .data⟩ (by simp) rfl) rfl) i32) rfl (DoneS.pre (hinv.aheadT 6 (by kernel_rfl) hn (by decide) (by decide)))
    · have hbel' : Below wx.heap.size wx (wx.alloc (.cells (spA spZ) 43)) := (Below.refl _ _).alloc (Nat.le_refl _) _
      exact duty_made (wanted_free rfl) (ex_alloc_sp rfl) (hC.trans (hbel'.mono hC.size)) (SpStep.below hbel') ⟨wx.heap.size, spA spZ, hC.size, rfl, Has.new _ _, z0⟩ (DoneS.pre (hinv.aheadT 6 (by kernel_rfl) hn (by decide) (by decide)))
    · obtain ⟨b, cs, hb, he, hh, hsz⟩ := hinv.got 5 _ 7 rfl (hdep ⟨5, .data⟩ (by simp) rfl) rfl
      exact duty_store (wanted_free rfl) (ex_store_sp rfl he (hinv.got 4 _ 13 rfl (hdep ⟨4, .data⟩ (by simp) rfl) rfl) hh hsz zn) (below_setRow hC hb _) (SpStep.row hh zn) trivial (fun _ => ⟨b, hb, he, Has.row hh _⟩)
  intro listed a' v1 hall hinv
  have hC := hinv.c
  obtain ⟨bO, hbO, e7, hO⟩ := hinv.i (hall 6 (by decide))
  have e3 : a'.eval (.tmp 3) = .pointer (some ⟨bP, 0, none⟩) := hinv.old' 3 (by kernel_rfl)
  have e4' : a'.eval (.tmp 4) = .pointer (some ⟨bA, 0, none⟩) := hinv.old' 4 (by kernel_rfl)
  have e5 : a'.eval (.tmp 5) = .pointer (some ⟨bH, 0, none⟩) := hinv.old' 5 (by kernel_rfl)
  have e6 : a'.eval (.tmp 6) = .pointer (some ⟨bR, 0, none⟩) := hinv.old' 6 (by kernel_rfl)
  obtain ⟨n1, n2, n3, n4, n5⟩ := HO.out bO hbO
  have hs : BhS w v1 bP bA bH bR bO p ⟨⟨xh, xb, xt, xf, xr⟩, prev, a, n, c⟩ h ⟨⟨xh, xb, xt, xf, xr⟩, id, none, 0, 0⟩ := ⟨hB0.trans (hC.mono hB0.size), hP0.on hC, hA0.on hC, hH0.on hC, hR0.on hC, hO⟩
  obtain ⟨u, hu⟩ : ∃ u : Nat → Value, ∀ t, u t = a'.eval (.tmp t) := ⟨_, fun _ => rfl⟩
  rw [rl_frame a' 68 u hinv.tsize hinv.defers hu]
  rw [← hu] at e3 e4' e5 e6 e7
  clear hu hinv hall hC hbO hO HO hB0 hP0 hA0 hH0 hR0
  show Exit.then _ _ _ (⟨#[u 0, u 1, u 2, u 3, u 4, u 5, u 6, u 7, u 8, u 9, u 10, u 11, u 12, u 13, u 14, u 15, u 16, u 17, u 18, u 19, u 20, u 21, u 22, u 23, u 24, u 25, u 26, u 27, u 28, u 29, u 30, u 31, u 32, u 33, u 34, u 35, u 36, u 37, u 38, u 39, u 40, u 41, u 42, u 43, u 44, u 45, u 46, u 47, u 48, u 49, u 50, u 51, u 52, u 53, u 54, u 55, u 56, u 57, u 58, u 59, u 60, u 61, u 62, u 63, u 64, u 65, u 66, u 67], []⟩ : Act) _
  rw [e3, e4', e5, e6, e7]
  clear e3 e4' e5 e6 e7
  have c0 := hs.a.c0 (z := xh) (Lib.hid rfl)
  have hpp := hs.p
  go_wp2_with (with_reducible refine NN.pr_load rfl _ rfl _ rfl hpp hz ?_)
  refine (KS.out _).mono ?_
  rintro r v2 ⟨rfl, hb2⟩
  replace hs := hs.on hb2
  clear hb2 c0 hpp
  have cH := hs.h.bits ho
  rw [eb.out] at cH
  have cT := hs.h.time ho
  rw [et.out] at cT
  have c := hs.o.c0 (z := xh) (Lib.hid rfl)
  have f := hs.o.free 0
  have hX := hs.o.setH xh1
  replace hs := hs.put 0 _ hX n1 n2 n3 n4 n5
  clear hX
  go_upto_region 4 with fail
  generalize World.setCell _ _ _ = v3 at *
  clear c f cH cT
  have cH := hs.h.bits ho
  rw [eb.out] at cH
  have cT := hs.h.time ho
  rw [et.out] at cT
  have c := hs.o.c1 (z := xb) (Lib.hid rfl)
  have f := hs.o.free 1
  have hX := hs.o.setB hb
  replace hs := hs.put 1 _ hX n1 n2 n3 n4 n5
  clear hX
  go_upto_region 5 with fail
  generalize World.setCell _ _ _ = v4 at *
  clear c f cH cT
  have cH := hs.h.bits ho
  rw [eb.out] at cH
  have cT := hs.h.time ho
  rw [et.out] at cT
  have c := hs.o.c2 (z := xt) (Lib.hid rfl)
  have f := hs.o.free 2
  have hX := hs.o.setT ht
  replace hs := hs.put 2 _ hX n1 n2 n3 n4 n5
  clear hX
  go_upto_region 6 with fail
  generalize World.setCell _ _ _ = v5 at *
  clear c f cH cT
  have cH := hs.h.bits ho
  rw [eb.out] at cH
  have cT := hs.h.time ho
  rw [et.out] at cT
  have cE := hs.p.c4 e4
  have cL := hs.p.c0 e0
  go_upto_region 10 with fail
  have hO0 := hs.o
  have hOl : bO < v5.heap.size := hO0.lt
  have hn1 := HN1.out
  have hln := HLN.out
  have m1 : 1 + k ≤ 1000 := by omega
  refine wp_region_inv (by kernel_rfl) (fun w' => v5.grownBy w' (some bO)) (fun i v' _ => TmR bA bH bO a n c p1 k ht i v') (fun l a w' => TmI v5.heap.size bO ⟨⟨xh1, hb, ht, xf, xr⟩, id, none, 0, 0⟩ ht T k l a w') (fun _ _ => True) (fun _ _ => trivial) (fun _ _ _ _ _ _ h => h) (by kernel_rfl) (gb_below (Below.refl _ _).drew _) ?_ ?_ ?_
  · exact fun l hl => ⟨fun h => (by rw [hl] at h; cases h), fun h => (by rw [hl] at h; cases h), fun _ => Has.drew hO0, fun h => (by rw [hl] at h; cases h)⟩
  · intro i o listed a' wx ho' hn hdep hinv
    have hC := hinv.c
    have hI := hinv.i
    have hi : i < 13 := (Array.getElem?_eq_some_iff.1 ho').1
    have hHx : HdAt wx bH h := gb_has hC hs.h (fun e => n3 (Option.some.inj e))
    have hAx : SpAt wx bA ⟨⟨xh, xb, xt, xf, xr⟩, prev, a, n, c⟩ := gb_has hC hs.a (fun e => n2 (Option.some.inj e))
    have cTx := hHx.time ho
    rw [et.out] at cTx
    have cAx := hAx.sl so
    have hlx : v5.heap.size ≤ wx.heap.size := hC.size
    obtain rfl | rfl | rfl | rfl | rfl | rfl | rfl | rfl | rfl | rfl | rfl | rfl | rfl : i = 0 ∨ i = 1 ∨ i = 2 ∨ i = 3 ∨ i = 4 ∨ i = 5 ∨ i = 6 ∨ i = 7 ∨ i = 8 ∨ i = 9 ∨ i = 10 ∨ i = 11 ∨ i = 12 := by omega
    all_goals obtain rfl := Option.some.inj ho'
    · have hsz0 : 0 < listed.size := by rw [hinv.size]; decide
      exact duty_value (C := fun w' => v5.grownBy w' (some bO)) (S := fun _ _ => True) (R := fun v' _ => TmR bA bH bO a n c p1 k ht 0 v') (J := fun a w' => TmI v5.heap.size bO ⟨⟨xh1, hb, ht, xf, xr⟩, id, none, 0, 0⟩ ht T k (listed.setIfInBounds 0 true) a w') (fun _ _ => trivial) hC (wanted_free rfl) (ex_hfield3 rfl (hinv.old' 5 (by kernel_rfl))) rfl (hI.keep 0 hsz0 (by decide) (by decide) (by decide) _ _ (by decide) (by decide))
    · have hsz1 : 1 < listed.size := by rw [hinv.size]; decide
      exact duty_value (C := fun w' => v5.grownBy w' (some bO)) (S := fun _ _ => True) (R := fun v' _ => TmR bA bH bO a n c p1 k ht 1 v') (J := fun a w' => TmI v5.heap.size bO ⟨⟨xh1, hb, ht, xf, xr⟩, id, none, 0, 0⟩ ht T k (listed.setIfInBounds 1 true) a w') (fun _ _ => trivial) hC (wanted_free rfl) (NN.ex_load_int rfl (hinv.got 0 _ 55 rfl (hdep ⟨0, .data⟩ (by simp) rfl) rfl) cTx) rfl (hI.keep 1 hsz1 (by decide) (by decide) (by decide) _ _ (by decide) (by decide))
    · have hsz : 2 < listed.size := by rw [hinv.size]; decide
      have h10 : (listed.setIfInBounds 2 true).getD 10 false = false := hinv.aheadT 12 (by kernel_rfl) hn (by decide) (by decide)
      have h12 : (listed.setIfInBounds 2 true).getD 12 false = false := hinv.aheadT 12 (by kernel_rfl) hn (by decide) (by decide)
      have h12' : listed.getD 12 false = false := by rw [← getD_none listed 2 12 hsz (by decide)]; exact h12
      have hbx : Below wx.heap.size wx (wx.alloc (.cells #[.int .i64 ht] 3)) := (Below.refl _ _).alloc (Nat.le_refl _) _
      refine duty_made (C := fun w' => v5.grownBy w' (some bO)) (S := fun _ _ => True) (R := fun v' _ => TmR bA bH bO a n c p1 k ht 2 v') (J := fun a w' => TmI v5.heap.size bO ⟨⟨xh1, hb, ht, xf, xr⟩, id, none, 0, 0⟩ ht T k (listed.setIfInBounds 2 true) a w') (wanted_free rfl) (ex_build_one rfl (hinv.got 1 _ 56 rfl (hdep ⟨1, .data⟩ (by simp) rfl) rfl)) (gb_trans hC (gb_below hbx _)) trivial trivial ⟨fun _ _ => ⟨wx.heap.size, hlx, put_same a' 57 _ (by rw [hinv.tsize]; exact (show 57 < 68 by decide)), Has.new _ _⟩, fun e => (by rw [h10] at e; cases e), fun _ => (hI.2.2.1 h12').on hbx, fun e => (by rw [h12] at e; cases e)⟩
    · have hsz3 : 3 < listed.size := by rw [hinv.size]; decide
      exact duty_value (C := fun w' => v5.grownBy w' (some bO)) (S := fun _ _ => True) (R := fun v' _ => TmR bA bH bO a n c p1 k ht 3 v') (J := fun a w' => TmI v5.heap.size bO ⟨⟨xh1, hb, ht, xf, xr⟩, id, none, 0, 0⟩ ht T k (listed.setIfInBounds 3 true) a w') (fun _ _ => trivial) hC (wanted_free rfl) (ex_sfield2 rfl (hinv.old' 4 (by kernel_rfl))) rfl (hI.keep 3 hsz3 (by decide) (by decide) (by decide) _ _ (by decide) (by decide))
    · have hsz4 : 4 < listed.size := by rw [hinv.size]; decide
      exact duty_value (C := fun w' => v5.grownBy w' (some bO)) (S := fun _ _ => True) (R := fun v' _ => TmR bA bH bO a n c p1 k ht 4 v') (J := fun a w' => TmI v5.heap.size bO ⟨⟨xh1, hb, ht, xf, xr⟩, id, none, 0, 0⟩ ht T k (listed.setIfInBounds 4 true) a w') (fun _ _ => trivial) hC (wanted_free rfl) (ex_load_ints rfl (hinv.got 3 _ 58 rfl (hdep ⟨3, .data⟩ (by simp) rfl) rfl) cAx) rfl (hI.keep 4 hsz4 (by decide) (by decide) (by decide) _ _ (by decide) (by decide))
    · have hsz5 : 5 < listed.size := by rw [hinv.size]; decide
      exact duty_value (C := fun w' => v5.grownBy w' (some bO)) (S := fun _ _ => True) (R := fun v' _ => TmR bA bH bO a n c p1 k ht 5 v') (J := fun a w' => TmI v5.heap.size bO ⟨⟨xh1, hb, ht, xf, xr⟩, id, none, 0, 0⟩ ht T k (listed.setIfInBounds 5 true) a w') (fun _ _ => trivial) hC (wanted_free rfl) (ex_sfield2 rfl (hinv.old' 4 (by kernel_rfl))) rfl (hI.keep 5 hsz5 (by decide) (by decide) (by decide) _ _ (by decide) (by decide))
    · have hsz6 : 6 < listed.size := by rw [hinv.size]; decide
      exact duty_value (C := fun w' => v5.grownBy w' (some bO)) (S := fun _ _ => True) (R := fun v' _ => TmR bA bH bO a n c p1 k ht 6 v') (J := fun a w' => TmI v5.heap.size bO ⟨⟨xh1, hb, ht, xf, xr⟩, id, none, 0, 0⟩ ht T k (listed.setIfInBounds 6 true) a w') (fun _ _ => trivial) hC (wanted_free rfl) (ex_load_ints rfl (hinv.got 5 _ 60 rfl (hdep ⟨5, .data⟩ (by simp) rfl) rfl) cAx) rfl (hI.keep 6 hsz6 (by decide) (by decide) (by decide) _ _ (by decide) (by decide))
    · have hsz7 : 7 < listed.size := by rw [hinv.size]; decide
      exact duty_value (C := fun w' => v5.grownBy w' (some bO)) (S := fun _ _ => True) (R := fun v' _ => TmR bA bH bO a n c p1 k ht 7 v') (J := fun a w' => TmI v5.heap.size bO ⟨⟨xh1, hb, ht, xf, xr⟩, id, none, 0, 0⟩ ht T k (listed.setIfInBounds 7 true) a w') (fun _ _ => trivial) hC (wanted_free rfl) (ex_len rfl (hinv.got 6 _ 61 rfl (hdep ⟨6, .data⟩ (by simp) rfl) rfl)) rfl (hI.keep 7 hsz7 (by decide) (by decide) (by decide) _ _ (by decide) (by decide))
    · have hsz8 : 8 < listed.size := by rw [hinv.size]; decide
      exact duty_value (C := fun w' => v5.grownBy w' (some bO)) (S := fun _ _ => True) (R := fun v' _ => TmR bA bH bO a n c p1 k ht 8 v') (J := fun a w' => TmI v5.heap.size bO ⟨⟨xh1, hb, ht, xf, xr⟩, id, none, 0, 0⟩ ht T k (listed.setIfInBounds 8 true) a w') (fun _ _ => trivial) hC (wanted_free rfl) (ex_min rfl (hinv.got 7 _ 62 rfl (hdep ⟨7, .data⟩ (by simp) rfl) rfl) rfl hkm.out) rfl (hI.keep 8 hsz8 (by decide) (by decide) (by decide) _ _ (by decide) (by decide))
    · have hsz9 : 9 < listed.size := by rw [hinv.size]; decide
      exact duty_value (C := fun w' => v5.grownBy w' (some bO)) (S := fun _ _ => True) (R := fun v' _ => TmR bA bH bO a n c p1 k ht 9 v') (J := fun a w' => TmI v5.heap.size bO ⟨⟨xh1, hb, ht, xf, xr⟩, id, none, 0, 0⟩ ht T k (listed.setIfInBounds 9 true) a w') (fun _ _ => trivial) hC (wanted_free rfl) (ex_slice rfl (hinv.got 4 _ 59 rfl (hdep ⟨4, .data⟩ (by simp) rfl) rfl) (hinv.got 8 _ 63 rfl (hdep ⟨8, .data⟩ (by simp) rfl) rfl) (hcut wx)) rfl (hI.keep 9 hsz9 (by decide) (by decide) (by decide) _ _ (by decide) (by decide))
    · have hsz : 10 < listed.size := by rw [hinv.size]; decide
      have h12 : (listed.setIfInBounds 10 true).getD 12 false = false := hinv.aheadT 12 (by kernel_rfl) hn (by decide) (by decide)
      have h12' : listed.getD 12 false = false := by rw [← getD_none listed 10 12 hsz (by decide)]; exact h12
      obtain ⟨g, hgB, e57, hg⟩ := hI.1 (hdep ⟨2, .data⟩ (by simp) rfl) hn
      have e64 := (hinv.got 9 _ 64 rfl (hdep ⟨9, .data⟩ (by simp) rfl) rfl)
      have hLx := (HL1.out.below hs.be (Nat.le_refl _)).grown hC hs.be.size (.inr n5)
      obtain ⟨v', w', hr, hown', hgr⟩ := ex_append (lo := 0) (hi := w.heap.size) (ρ := a'.eval) (.tmp 57) (.tmp 64) v5.heap.size (.slice (some ⟨g, 0, none⟩) 1 1) 1 [ht] e57 (owns_one hg hgB) p1 k c T e64 hn1 hln hLx m1 hlx
      obtain ⟨p8, c8, rfl⟩ := owns_slice_int hown'
      refine duty_made (C := fun w' => v5.grownBy w' (some bO)) (S := fun _ _ => True) (R := fun v' _ => TmR bA bH bO a n c p1 k ht 10 v') (J := fun a w' => TmI v5.heap.size bO ⟨⟨xh1, hb, ht, xf, xr⟩, id, none, 0, 0⟩ ht T k (listed.setIfInBounds 10 true) a w') (wanted_free rfl) (hr _ rfl rfl) (gb_past hC hgr hgB) trivial trivial ⟨fun _ e => (by rw [getD_set _ _ _ hsz, if_pos rfl] at e; cases e), fun _ _ => ⟨p8, c8, put_same a' 65 _ (by rw [hinv.tsize]; exact (show 65 < 68 by decide)), hown'⟩, fun _ => gb_has hgr (hI.2.2.1 h12') (fun e => by have : bO = g := Option.some.inj e; omega), fun e => (by rw [h12] at e; cases e)⟩
    · have hsz11 : 11 < listed.size := by rw [hinv.size]; decide
      exact duty_value (C := fun w' => v5.grownBy w' (some bO)) (S := fun _ _ => True) (R := fun v' _ => TmR bA bH bO a n c p1 k ht 11 v') (J := fun a w' => TmI v5.heap.size bO ⟨⟨xh1, hb, ht, xf, xr⟩, id, none, 0, 0⟩ ht T k (listed.setIfInBounds 11 true) a w') (fun _ _ => trivial) hC (wanted_free rfl) (ex_sfield2 rfl (hinv.old' 7 (by kernel_rfl))) rfl (hI.keep 11 hsz11 (by decide) (by decide) (by decide) _ _ (by decide) (by decide))
    · have hsz : 12 < listed.size := by rw [hinv.size]; decide
      have l10 : listed.getD 10 false = true := hdep ⟨10, .data⟩ (by simp) rfl
      obtain ⟨p8, c8, e65, hown8⟩ := hI.2.1 l10 hn
      have hOx := hI.2.2.1 hn
      refine duty_store (C := fun w' => v5.grownBy w' (some bO)) (S := fun _ _ => True) (R := fun v' _ => TmR bA bH bO a n c p1 k ht 12 v') (J := fun a w' => TmI v5.heap.size bO ⟨⟨xh1, hb, ht, xf, xr⟩, id, none, 0, 0⟩ ht T k (listed.setIfInBounds 12 true) a w') (wanted_free rfl) (ex_store_ints rfl (hinv.got 11 _ 66 rfl (hdep ⟨11, .data⟩ (by simp) rfl) rfl) e65 (hOx.free 37) (hOx.sl i32)) (gb_setCell hC 37 _) trivial trivial ⟨fun _ e => (by rw [getD_none _ _ _ hsz (by decide), l10] at e; cases e), fun _ e => (by rw [getD_set _ _ _ hsz, if_pos rfl] at e; cases e), fun e => (by rw [getD_set _ _ _ hsz, if_pos rfl] at e; cases e), fun _ => ⟨p8, c8, hOx.setS i32 p8 (1 + k) c8, hown8.kept (gb_setOne _ _ _ _) (.inr (fun e => by have := (hown8.lt bO e).1; omega))⟩⟩
  intro listed a' v9 hall hinv
  obtain ⟨p8, c8, hO9, hown9⟩ := hinv.i.2.2.2 (hall 12 (by decide))
  have hC := hinv.c
  have e6 : a'.eval (.tmp 6) = .pointer (some ⟨bR, 0, none⟩) := hinv.old' 6 (by kernel_rfl)
  have e7 : a'.eval (.tmp 7) = .pointer (some ⟨bO, 0, none⟩) := hinv.old' 7 (by kernel_rfl)
  have hR9 : SpAt v9 bR spZ := gb_has hC hs.r (fun e => n4 (Option.some.inj e))
  have hB9 : Below w.heap.size w v9 := hs.be.trans (gb_toBelow hC n5 hs.be.size)
  have hRl : bR < v5.heap.size := hs.r.lt
  obtain ⟨g8, rfl, hc8⟩ := owns_some hown9
  obtain ⟨q8, d8, eq8, _, _, hLie⟩ := MM.lie_of_owns (l := ht :: T) hown9
  cases eq8
  have HLie := Lib.hid hLie
  have HB0 := Lib.hid hs.be.size
  obtain ⟨u, hu⟩ : ∃ u : Nat → Value, ∀ t, u t = a'.eval (.tmp t) := ⟨_, fun _ => rfl⟩
  rw [rl_frame a' 68 u hinv.tsize hinv.defers hu]
  rw [← hu] at e6 e7
  clear hu hinv hall hC hown9 hLie hs hO0 hcut hmin hn1 hln
  show Exit.then _ _ _ (⟨#[u 0, u 1, u 2, u 3, u 4, u 5, u 6, u 7, u 8, u 9, u 10, u 11, u 12, u 13, u 14, u 15, u 16, u 17, u 18, u 19, u 20, u 21, u 22, u 23, u 24, u 25, u 26, u 27, u 28, u 29, u 30, u 31, u 32, u 33, u 34, u 35, u 36, u 37, u 38, u 39, u 40, u 41, u 42, u 43, u 44, u 45, u 46, u 47, u 48, u 49, u 50, u 51, u 52, u 53, u 54, u 55, u 56, u 57, u 58, u 59, u 60, u 61, u 62, u 63, u 64, u 65, u 66, u 67], []⟩ : Act) _
  rw [e6, e7]
  clear e6 e7
  have zo : (spA ⟨⟨xh1, hb, ht, xf, xr⟩, id, some ⟨g8, 0, none⟩, 1 + k, c8⟩).size = 38 := spA_size i32
  have HX : Hid (spA ⟨⟨xh1, hb, ht, xf, xr⟩, id, some ⟨g8, 0, none⟩, 1 + k, c8⟩ = spA ⟨⟨xh1, hb, ht, xf, xr⟩, id, some ⟨g8, 0, none⟩, 1 + k, c8⟩) := Lib.hid rfl
  change SpAt v9 bO ⟨⟨xh1, hb, ht, xf, xr⟩, id, some ⟨g8, 0, none⟩, 1 + k, c8⟩ at hO9
  generalize hq : (⟨⟨xh1, hb, ht, xf, xr⟩, id, some ⟨g8, 0, none⟩, 1 + k, c8⟩ : Sp) = sq at hO9 zo
  have HQ := Lib.hid hq
  clear hq HX
  go_wp2_with (first
    | (with_reducible refine sp_load rfl _ rfl bO rfl hO9 zo ?_)
    | (with_reducible refine sp_store rfl _ _ rfl bR _ sq rfl rfl rfl zo hR9 z0 ?_))
  refine bodyPost_ret (v := .agg (spA sq)) (sp_results Tryz.results12 _ bR rfl (Has.row hR9 _) zo) rfl ⟨g8, c8, by rw [← HQ.out], hc8, ?_, below_setRow hB9 HBR.out _⟩
  have hwd := HLie.out.wide (lo' := w.heap.size) (hi' := v9.heap.size) HB0.out (Nat.le_refl _)
  rw [setRow_size]
  exact HLie.out.on (fun q h1 _ => setRow_other v9 bR q _ (by omega)) |>.wide HB0.out (Nat.le_refl _)
end Go.Proofs.YtpophaejeklaoaaGreatDoor
/-
  rule: Behind as a whole; Begin; a law's row of headers.
-/
namespace Go.Proofs.YtpophaejeklaoaaGreatDoor
open Go.RowKit Mem Sc NN.Rg2
/-! ### plain mathematics -/
structure Ps where
  x : NN.Pt
  prev : List UInt8
  ts : List Int
def bhx (p : NN.Pr) (x : NN.Pt) (h : Hd) : NN.Pt :=
  ⟨x.h + 1, h.bits, h.time, if NN.starts p.ivl x.h = true then h.time else x.f, if NN.starts p.ivl x.h = true ∨ p.easy = false ∨ ¬ h.bits = p.lim then h.bits else x.r⟩
/-- the spot behind a header -/
def bh (p : NN.Pr) (s : Ps) (h : Hd) : Ps := ⟨bhx p s.x h, h.id, h.time :: s.ts.take 10⟩
def bgn (p : NN.Pr) (g : Hd) : Ps := bh p ⟨⟨0, 0, 0, 0, p.lim⟩, z32, []⟩ g
/-- the spot behind the genesis and so many headers -/
def way (p : NN.Pr) (g : Hd) (hs : List Hd) (k : Nat) : Ps := (hs.take k).foldl (bh p) (bgn p g)
theorem way_next (p : NN.Pr) (g : Hd) (hs : List Hd) (k : Nat) (hk : k < hs.length) : way p g hs (k + 1) = bh p (way p g hs k) (hs.getD k hdZ) := by
  have e : hs.take (k + 1) = hs.take k ++ [hs.getD k hdZ] := by
    rw [List.take_add_one, List.getElem?_eq_getElem hk, List.getD_eq_getElem?_getD, List.getElem?_eq_getElem hk]; rfl
  unfold way
  rw [e, List.foldl_append]
  rfl
theorem way_h (p : NN.Pr) (g : Hd) (hs : List Hd) : ∀ k, k ≤ hs.length → (way p g hs k).x.h = (k : Int) + 1
  | 0, _ => rfl
  | k + 1, h => by
    rw [way_next p g hs k (by omega)]
    show (way p g hs k).x.h + 1 = _
    rw [way_h p g hs k (by omega)]
    omega
theorem way_prev (p : NN.Pr) (g : Hd) (hs : List Hd) : ∀ k, k ≤ hs.length → (way p g hs k).prev.length = 32
  | 0, _ => id_length _
  | k + 1, h => by
    rw [way_next p g hs k (by omega)]
    exact id_length _
theorem way_ts (p : NN.Pr) (g : Hd) (hs : List Hd) : ∀ k, k ≤ hs.length → (way p g hs k).ts.length = min (k + 1) 11
  | 0, _ => rfl
  | k + 1, h => by
    rw [way_next p g hs k (by omega)]
    show (_ :: (way p g hs k).ts.take 10).length = _
    rw [List.length_cons, List.length_take, way_ts p g hs k (by omega)]
    omega
/-! ### Behind -/
theorem behind_at (p : NN.Pr) (hp : p.ok) (s : Sp) (so : s.ok) (ts : List Int) (hl : ts.length = s.n) (hc : s.n ≤ s.c) (hmax : s.n ≤ 1000) (hnil : s.a = none → s.n = 0 ∧ s.c = 0) (hx : 0 ≤ s.x.h) (hx2 : s.x.h ≤ 1000000) (h : Hd) (ho : h.ok) (w : World) (hT : Tab w) (hL : MM.Lie w 0 w.heap.size s.a ts) :
    Calls Tryz.prog 12 #[.agg (NN.prA p), .agg (spA s), .agg (hdA h)] w fun r w' => ∃ b' c', r = .returned (.agg (spA ⟨bhx p s.x h, h.id, some ⟨b', 0, none⟩, (h.time :: ts.take 10).length, c'⟩)) ∧ (h.time :: ts.take 10).length ≤ c' ∧ MM.Lie w' w.heap.size w'.heap.size (some ⟨b', 0, none⟩) (h.time :: ts.take 10) ∧ Below w.heap.size w w' := by
  obtain ⟨⟨xh, xb, xt, xf, xr⟩, prev, a, n, c⟩ := s
  simp only at hl hc hmax hnil hx hx2 hL
  obtain ⟨k, hk⟩ : ∃ k, k = min n 10 := ⟨_, rfl⟩
  have e10 : ts.take 10 = ts.take k := by
    by_cases h10 : n ≤ 10
    · rw [List.take_of_length_le (by omega), List.take_of_length_le (by omega)]
    · rw [show k = 10 by omega]
  have hz := NN.prA_size hp
  have hlk : (h.time :: ts.take k).length = 1 + k := by simp; omega
  have hw : IntKind.i64.wrap (xh + 1) = xh + 1 := by rw [IntKind.wrap_i64]; omega
  have i32 := id_length h
  rw [e10, hlk]
  unfold bhx
  simp only
  cases hs : NN.starts p.ivl xh
  · have KS := Lib.hid (NN.starts_at p xh false hs)
    rw [if_neg (by simp)]
    cases he : p.easy
    · rw [if_pos (.inr (.inl rfl))]
      exact behind_plain p hz xh xb xt xf xr prev so a n c h ho h.id i32 h.bits h.time (Lib.hid rfl) (Lib.hid rfl) (Lib.hid he) (xh + 1) hw KS (Lib.hid fun w hT => id_at h ho w hT) ts hl hc (by omega) hnil k hk w hT hL
    · by_cases hb : h.bits = p.lim
      · rw [if_neg (by simp [hb])]
        exact behind_easy p hz xh xb xt xf xr prev so a n c h ho h.id i32 h.bits h.time (Lib.hid rfl) (Lib.hid rfl) (Lib.hid he) p.lim (Lib.hid rfl) (by simp [hb]) (xh + 1) hw KS (Lib.hid fun w hT => id_at h ho w hT) ts hl hc (by omega) hnil k hk w hT hL
      · rw [if_pos (.inr (.inr hb))]
        exact behind_unlike p hz xh xb xt xf xr prev so a n c h ho h.id i32 h.bits h.time (Lib.hid rfl) (Lib.hid rfl) (Lib.hid he) p.lim (Lib.hid rfl) (by simp [hb]) (xh + 1) hw KS (Lib.hid fun w hT => id_at h ho w hT) ts hl hc (by omega) hnil k hk w hT hL
  · have KS := Lib.hid (NN.starts_at p xh true hs)
    rw [if_pos rfl, if_pos (.inl rfl)]
    exact behind_first p hz xh xb xt xf xr prev so a n c h ho h.id i32 h.bits h.time (Lib.hid rfl) (Lib.hid rfl) (xh + 1) hw KS (Lib.hid fun w hT => id_at h ho w hT) ts hl hc (by omega) hnil k hk w hT hL
/-! ### a chain's rules, all of them -/
structure Tl where
  ga : Option Addr
  gn : Nat
  gc : Nat
  ca : Option Addr
  cn : Nat
  cc : Nat
  nn : List Value
  g : Hd
def Tl.C (t : Tl) : List Value := .slice t.ga t.gn t.gc :: .slice t.ca t.cn t.cc :: (t.nn ++ hdC t.g)
def Tl.ok (t : Tl) : Prop := t.nn.length = 8 ∧ t.g.ok
theorem prA_at (p : NN.Pr) (j : Nat) : (NN.prA p)[5 + j]? = p.tl[j]? := by
  unfold NN.prA
  rw [List.getElem?_toArray, show 5 + j = j + 1 + 1 + 1 + 1 + 1 by omega]
  rfl
section
variable {w : World} {k : Nat} {p : NN.Pr} {t : Tl}
theorem pr_gates (h : NN.PrAt w k p) (e : p.tl = t.C) : w.cell? ⟨k, 5, none⟩ = some (.slice t.ga t.gn t.gc) := (NN.Has.cell h 5).trans (by rw [show 5 = 5 + 0 from rfl, prA_at, e]; rfl)
theorem pr_checks (h : NN.PrAt w k p) (e : p.tl = t.C) : w.cell? ⟨k, 6, none⟩ = some (.slice t.ca t.cn t.cc) := (NN.Has.cell h 6).trans (by rw [show 6 = 5 + 1 from rfl, prA_at, e]; rfl)
theorem pr_gen (h : NN.PrAt w k p) (e : p.tl = t.C) (ht : t.ok) : w.rangeAt k 15 (hdC t.g) := fun j u hu => by
  rw [NN.Has.cell h (15 + j), show 15 + j = 5 + (10 + j) by omega, prA_at, e, show 10 + j = (8 + j) + 1 + 1 by omega]
  show (t.nn ++ hdC t.g)[8 + j]? = some u
  rw [List.getElem?_append_right (by rw [ht.1]; omega), ht.1, Nat.add_sub_cancel_left]
  exact hu
end
/-! ### Begin -/
section
variable {w : World} {ops : Array Oper} {rest : List Oper} {o : Oper} {a : Act} {Q : Exit → Act → World → Prop}
theorem built_pt (z : Int) : Tryz.prog.built 40 [(4, .int .i64 z)] = some (NN.ptA ⟨0, 0, 0, 0, z⟩) := by kernel_rfl
theorem built_sp0 (x : NN.Pt) : Tryz.prog.built 43 [(0, .agg (NN.ptA x))] = some (spA ⟨x, z32, none, 0, 0⟩) := by kernel_rfl
theorem pt_build (hgd : o.guard = none) (x : Operand) (ho : o.op = .build 40 #[(4, x)]) (z : Int) (hx : a.eval x = .int .i64 z)
    (hk : wpList Tryz.prog ops Q rest (a.put o.dst (.agg (NN.ptA ⟨0, 0, 0, 0, z⟩))) w) : wpList Tryz.prog ops Q (o :: rest) a w :=
  wpList_plain hgd fun _ hK => by
    unfold Oper.wp execOp
    simp only [ho, Sem.run_bind]
    rw [show (#[(4, x)] : Array (Nat × Operand)).map (fun (i, x) => (i, a.eval x)) = #[(4, .int .i64 z)] by simp [hx], run_build w 40 _ _ (built_pt z)]
    exact hK _ _ hk
theorem sp_build0 (hgd : o.guard = none) (x : Operand) (ho : o.op = .build 43 #[(0, x)]) (y : NN.Pt) (hx : a.eval x = .agg (NN.ptA y))
    (hk : wpList Tryz.prog ops Q rest (a.put o.dst (.agg (spA ⟨y, z32, none, 0, 0⟩))) w) : wpList Tryz.prog ops Q (o :: rest) a w :=
  wpList_plain hgd fun _ hK => by
    unfold Oper.wp execOp
    simp only [ho, Sem.run_bind]
    rw [show (#[(0, x)] : Array (Nat × Operand)).map (fun (i, x) => (i, a.eval x)) = #[(0, .agg (NN.ptA y))] by simp [hx], run_build w 43 _ _ (built_sp0 y)]
    exact hK _ _ hk
end
/-- a spot in memory is this one -/
def SpIs (w : World) (lo : Nat) (s : Sp) (q : Ps) : Prop := s.x = q.x ∧ s.prev = q.prev ∧ q.ts.length = s.n ∧ s.n ≤ s.c ∧ (∃ b, s.a = some ⟨b, 0, none⟩) ∧ MM.Lie w lo w.heap.size s.a q.ts
theorem SpIs.on {w w' : World} {lo : Nat} {s : Sp} {q : Ps} (h : SpIs w lo s q) (hb : Below w.heap.size w w') : SpIs w' lo s q :=
  ⟨h.1, h.2.1, h.2.2.1, h.2.2.2.1, h.2.2.2.2.1, (h.2.2.2.2.2.below hb (Nat.le_refl _)).wide (Nat.le_refl _) hb.size⟩
theorem SpIs.row {w : World} {lo g : Nat} {s : Sp} {q : Ps} {cs : Array Value} (h : SpIs w lo s q) (hg : g < lo) : SpIs (w.setRow g cs) lo s q :=
  ⟨h.1, h.2.1, h.2.2.1, h.2.2.2.1, h.2.2.2.2.1, by rw [setRow_size]; exact h.2.2.2.2.2.on (fun k h1 _ => setRow_other w g k cs (by omega))⟩
theorem SpIs.wide {w : World} {lo lo' : Nat} {s : Sp} {q : Ps} (h : SpIs w lo s q) (hl : lo' ≤ lo) : SpIs w lo' s q :=
  ⟨h.1, h.2.1, h.2.2.1, h.2.2.2.1, h.2.2.2.2.1, h.2.2.2.2.2.wide hl (Nat.le_refl _)⟩
set_option maxRecDepth 100000 in
set_option maxHeartbeats 2000000 in
theorem begin_w (p : NN.Pr) (hp : p.ok) (t : Tl) (et : p.tl = t.C) (ht : t.ok) (lim : Int) (e0 : Hid (p.lim = lim)) (w : World)
    (KB : Hid (∀ w', Below w.heap.size w w' → Calls Tryz.prog 12 #[.agg (NN.prA p), .agg (spA ⟨⟨0, 0, 0, 0, lim⟩, z32, none, 0, 0⟩), .agg (hdA t.g)] w' fun r w'' => ∃ s, r = .returned (.agg (spA s)) ∧ (spA s).size = 38 ∧ SpIs w'' w'.heap.size s (bgn p t.g) ∧ Below w'.heap.size w' w'')) :
    Calls Tryz.prog 15 #[.agg (NN.prA p)] w fun r w' => ∃ s, r = .returned (.agg (spA s)) ∧ (spA s).size = 38 ∧ SpIs w' w.heap.size s (bgn p t.g) ∧ Below w.heap.size w w' := by
  have hz := NN.prA_size hp
  have z0 := spA_size spZ_ok
  have ET := Lib.hid et
  have HT := Lib.hid ht
  have s1 := hdC_length ht.2
  clear et
  go_enter Tryz.func15, Tryz.ntmps15
  go_upto_region 1 with fail
  generalize hw0 : World.alloc _ _ = v0
  have hB0 : Below w.heap.size w v0 := by rw [← hw0]; exact ((Below.refl _ _).alloc (Nat.le_refl _) _).alloc (by simp) _
  have hP : NN.PrAt v0 w.heap.size p := by rw [← hw0]; exact (NN.Has.new _ _).alloc _
  have hR : SpAt v0 (w.heap.size + 1) spZ := by rw [← hw0]; exact Has.new1 _ (spA spZ) _
  clear hw0
  have c0 := hP.c0 e0
  have r15 := pr_gen hP ET.out HT.out
  go_wp2_with (first
    | (with_reducible refine NN.pr_load rfl _ rfl _ rfl hP hz ?_)
    | (with_reducible refine pt_build rfl _ rfl lim rfl ?_)
    | (with_reducible refine sp_build0 rfl _ rfl ⟨0, 0, 0, 0, lim⟩ rfl ?_)
    | (with_reducible refine hd_load_mid rfl _ rfl _ 15 rfl t.g r15 s1 ?_))
  refine (KB.out v0 hB0).mono ?_
  rintro r v1 ⟨s, rfl, zs, hS, hb1⟩
  have hR1 := hR.on hb1
  have hRl := hR.lt
  have HB : Hid (Below w.heap.size w v1) := Lib.hid (hB0.trans (hb1.mono hB0.size))
  have HB0 := Lib.hid hB0.size
  clear hb1 hB0 hP hR c0 r15 KB
  go_wp2_with (with_reducible refine sp_store rfl _ _ rfl _ _ s rfl rfl rfl zs hR1 z0 ?_)
  refine bodyPost_ret (v := .agg (spA s)) (sp_results Tryz.results15 _ _ rfl (Has.row hR1 _) zs) rfl ⟨s, rfl, zs, ?_, below_setRow HB.out (by omega) _⟩
  obtain ⟨h1, h2, h3, h4, h5, h6⟩ := hS
  refine ⟨h1, h2, h3, h4, h5, ?_⟩
  rw [setRow_size]
  exact (h6.on (fun q hq _ => setRow_other v1 _ q _ (by omega))).wide HB0.out (Nat.le_refl _)
theorem begin_at (p : NN.Pr) (hp : p.ok) (t : Tl) (et : p.tl = t.C) (ht : t.ok) (w : World) (hT : Tab w) :
    Calls Tryz.prog 15 #[.agg (NN.prA p)] w fun r w' => ∃ s, r = .returned (.agg (spA s)) ∧ (spA s).size = 38 ∧ SpIs w' w.heap.size s (bgn p t.g) ∧ Below w.heap.size w w' := by
  refine begin_w p hp t et ht _ (Lib.hid rfl) w (Lib.hid fun w' hb => ?_)
  refine (behind_at p hp ⟨⟨0, 0, 0, 0, p.lim⟩, z32, none, 0, 0⟩ rfl [] rfl (Nat.le_refl _) (show 0 ≤ 1000 by omega) (fun _ => ⟨rfl, rfl⟩) (by simp) (by simp) t.g ht.2 w' (hT.below hb) MM.Lie.none).mono ?_
  rintro r w2 ⟨b', c', rfl, h1, h2, h3⟩
  exact ⟨_, rfl, spA_size (id_length _), ⟨rfl, rfl, rfl, h1, ⟨b', rfl⟩, h2⟩, h3⟩
end Go.Proofs.YtpophaejeklaoaaGreatDoor
/-
  rule: Check.
-/
namespace Go.Proofs.YtpophaejeklaoaaGreatDoor
open Go.RowKit Mem Sc NN.Rg2
/-- what stands while a header is checked -/
structure CkS (w wr : World) (bP bA bH : Nat) (p : NN.Pr) (s : Sp) (h : Hd) : Prop where
  be : Below w.heap.size w wr
  p : NN.PrAt wr bP p
  a : SpAt wr bA s
  h : HdAt wr bH h
theorem CkS.on {w wr w' : World} {bP bA bH : Nat} {p : NN.Pr} {s : Sp} {h : Hd} (hs : CkS w wr bP bA bH p s h) (hb : Below wr.heap.size wr w') : CkS w w' bP bA bH p s h :=
  ⟨hs.be.trans (hb.mono hs.be.size), hs.p.on hb, hs.a.on hb, hs.h.on hb⟩
set_option maxRecDepth 100000 in
set_option maxHeartbeats 4000000 in
theorem check_none (p : NN.Pr) (xh xb xt xf xr : Int) (prev : List UInt8) (hp32 : prev.length = 32) (a : Option Addr) (n c : Nat) (h : Hd) (ho : h.ok) (now : Int) (w : World)
    (KG : Hid (∀ w', Below w.heap.size w w' → Calls Tryz.prog 16 #[.agg (hdA h)] w' fun e w'' => e = .returned (.bool false) ∧ Below w'.heap.size w' w'')) :
    Calls Tryz.prog 9 #[.agg (NN.prA p), .agg (spA ⟨⟨xh, xb, xt, xf, xr⟩, prev, a, n, c⟩), .agg (hdA h), .int .i64 now] w fun e w' => e = .returned (.int .i64 1) ∧ Below w.heap.size w w' := by
  have za := hdA_size ho
  have so : (⟨⟨xh, xb, xt, xf, xr⟩, prev, a, n, c⟩ : Sp).ok := hp32
  go_enter Tryz.func9, Tryz.ntmps9
  go_upto_region 1 with fail
  generalize hw0 : World.alloc _ _ = v0
  have hs : CkS w v0 w.heap.size (w.heap.size + 1) (w.heap.size + 1 + 1) p ⟨⟨xh, xb, xt, xf, xr⟩, prev, a, n, c⟩ h := by
    rw [← hw0]
    exact ⟨(((Below.refl _ _).alloc (Nat.le_refl _) _).alloc (by simp) _).alloc (by simp; omega) _, ((NN.Has.new _ _).alloc _).alloc _, (Has.new1 _ _ _).alloc _, Has.new2 _ _ _ _⟩
  clear hw0
  obtain ⟨bP, hbP⟩ : ∃ b, b = w.heap.size := ⟨_, rfl⟩
  obtain ⟨bA, hbA⟩ : ∃ b, b = w.heap.size + 1 := ⟨_, rfl⟩
  obtain ⟨bH, hbH⟩ : ∃ b, b = w.heap.size + 1 + 1 := ⟨_, rfl⟩
  rw [← hbH, ← hbA, ← hbP] at hs ⊢
  clear hbP hbA hbH
  have hH := hs.h
  go_wp2_with (first | fail | (with_reducible refine hd_load rfl _ rfl bH rfl hH za ?_))
  refine (KG.out _ hs.be).mono ?_
  rintro e v1 ⟨rfl, hb1⟩
  replace hs := hs.on hb1
  clear hb1
  go_wp2_with fail
  go_ret
  exact ⟨rfl, hs.be⟩
set_option maxRecDepth 100000 in
set_option maxHeartbeats 4000000 in
theorem check_elsewhere (p : NN.Pr) (xh xb xt xf xr : Int) (prev : List UInt8) (hp32 : prev.length = 32) (a : Option Addr) (n c : Nat) (h : Hd) (ho : h.ok) (now : Int) (w : World)
    (KG : Hid (∀ w', Below w.heap.size w w' → Calls Tryz.prog 16 #[.agg (hdA h)] w' fun e w'' => e = .returned (.bool true) ∧ Below w'.heap.size w' w'')) (t1 : (!(h.prev == prev)) = true) :
    Calls Tryz.prog 9 #[.agg (NN.prA p), .agg (spA ⟨⟨xh, xb, xt, xf, xr⟩, prev, a, n, c⟩), .agg (hdA h), .int .i64 now] w fun e w' => e = .returned (.int .i64 2) ∧ Below w.heap.size w w' := by
  have za := hdA_size ho
  have so : (⟨⟨xh, xb, xt, xf, xr⟩, prev, a, n, c⟩ : Sp).ok := hp32
  have qn := hn_neq h.prev prev ho.1 hp32 _ t1
  go_enter Tryz.func9, Tryz.ntmps9
  go_upto_region 1 with fail
  generalize hw0 : World.alloc _ _ = v0
  have hs : CkS w v0 w.heap.size (w.heap.size + 1) (w.heap.size + 1 + 1) p ⟨⟨xh, xb, xt, xf, xr⟩, prev, a, n, c⟩ h := by
    rw [← hw0]
    exact ⟨(((Below.refl _ _).alloc (Nat.le_refl _) _).alloc (by simp) _).alloc (by simp; omega) _, ((NN.Has.new _ _).alloc _).alloc _, (Has.new1 _ _ _).alloc _, Has.new2 _ _ _ _⟩
  clear hw0
  obtain ⟨bP, hbP⟩ : ∃ b, b = w.heap.size := ⟨_, rfl⟩
  obtain ⟨bA, hbA⟩ : ∃ b, b = w.heap.size + 1 := ⟨_, rfl⟩
  obtain ⟨bH, hbH⟩ : ∃ b, b = w.heap.size + 1 + 1 := ⟨_, rfl⟩
  rw [← hbH, ← hbA, ← hbP] at hs ⊢
  clear hbP hbA hbH
  have hH := hs.h
  go_wp2_with (first | fail | (with_reducible refine hd_load rfl _ rfl bH rfl hH za ?_))
  refine (KG.out _ hs.be).mono ?_
  rintro e v1 ⟨rfl, hb1⟩
  replace hs := hs.on hb1
  clear hb1
  clear hH
  have r1 := range_prev hs.h.range
  rw [Nat.zero_add] at r1
  have r5 := hs.a.prev
  have s1 := byteCells_32 ho.1
  have s5 := byteCells_32 hp32
  go_wp2_with (first | (with_reducible refine hl_load_mid rfl _ rfl bH 1 rfl h.prev r1 s1 ?_) | (with_reducible refine hl_load_mid rfl _ rfl bA 5 rfl prev r5 s5 ?_) | (with_reducible refine hneq_g (by with_unfolding_all rfl) _ _ _ rfl _ _ _ rfl rfl qn ?_))
  go_ret
  exact ⟨rfl, hs.be⟩
set_option maxRecDepth 100000 in
set_option maxHeartbeats 4000000 in
theorem check_bits (p : NN.Pr) (hz : (NN.prA p).size = 83) (xh xb xt xf xr : Int) (prev : List UInt8) (hp32 : prev.length = 32) (a : Option Addr) (n c : Nat) (h : Hd) (ho : h.ok) (now : Int) (w : World)
    (KG : Hid (∀ w', Below w.heap.size w w' → Calls Tryz.prog 16 #[.agg (hdA h)] w' fun e w'' => e = .returned (.bool true) ∧ Below w'.heap.size w' w'')) (t1 : (!(h.prev == prev)) = false)
    (hb ht nb : Int) (eb : Hid (h.bits = hb)) (et : Hid (h.time = ht)) (KN : Hid (∀ w', Below w.heap.size w w' → Calls Tryz.prog 17 #[.agg (NN.prA p), .agg (NN.ptA ⟨xh, xb, xt, xf, xr⟩), .int .i64 ht] w' fun e w'' => e = .returned (.int .i64 nb) ∧ Below w'.heap.size w' w'')) (t2 : (hb == nb) = false) :
    Calls Tryz.prog 9 #[.agg (NN.prA p), .agg (spA ⟨⟨xh, xb, xt, xf, xr⟩, prev, a, n, c⟩), .agg (hdA h), .int .i64 now] w fun e w' => e = .returned (.int .i64 3) ∧ Below w.heap.size w w' := by
  have za := hdA_size ho
  have so : (⟨⟨xh, xb, xt, xf, xr⟩, prev, a, n, c⟩ : Sp).ok := hp32
  have qn := hn_neq h.prev prev ho.1 hp32 _ t1
  go_enter Tryz.func9, Tryz.ntmps9
  go_upto_region 1 with fail
  generalize hw0 : World.alloc _ _ = v0
  have hs : CkS w v0 w.heap.size (w.heap.size + 1) (w.heap.size + 1 + 1) p ⟨⟨xh, xb, xt, xf, xr⟩, prev, a, n, c⟩ h := by
    rw [← hw0]
    exact ⟨(((Below.refl _ _).alloc (Nat.le_refl _) _).alloc (by simp) _).alloc (by simp; omega) _, ((NN.Has.new _ _).alloc _).alloc _, (Has.new1 _ _ _).alloc _, Has.new2 _ _ _ _⟩
  clear hw0
  obtain ⟨bP, hbP⟩ : ∃ b, b = w.heap.size := ⟨_, rfl⟩
  obtain ⟨bA, hbA⟩ : ∃ b, b = w.heap.size + 1 := ⟨_, rfl⟩
  obtain ⟨bH, hbH⟩ : ∃ b, b = w.heap.size + 1 + 1 := ⟨_, rfl⟩
  rw [← hbH, ← hbA, ← hbP] at hs ⊢
  clear hbP hbA hbH
  have hH := hs.h
  go_wp2_with (first | fail | (with_reducible refine hd_load rfl _ rfl bH rfl hH za ?_))
  refine (KG.out _ hs.be).mono ?_
  rintro e v1 ⟨rfl, hb1⟩
  replace hs := hs.on hb1
  clear hb1
  clear hH
  have r1 := range_prev hs.h.range
  rw [Nat.zero_add] at r1
  have r5 := hs.a.prev
  have s1 := byteCells_32 ho.1
  have s5 := byteCells_32 hp32
  go_upto_region 5 with (first | (with_reducible refine hl_load_mid rfl _ rfl bH 1 rfl h.prev r1 s1 ?_) | (with_reducible refine hl_load_mid rfl _ rfl bA 5 rfl prev r5 s5 ?_) | (with_reducible refine hneq_g (by with_unfolding_all rfl) _ _ _ rfl _ _ _ rfl rfl qn ?_))
  clear r1 r5 s1 s5 qn
  have qb : ∀ d os, (Sort.grow (redrawn v1 d) os).cell? ⟨bH, 66, none⟩ = some (.int .i64 hb) := cell_regrown (by rw [← eb.out]; exact hs.h.bits ho)
  have qt : ∀ d os, (Sort.grow (redrawn v1 d) os).cell? ⟨bH, 65, none⟩ = some (.int .i64 ht) := cell_regrown (by rw [← et.out]; exact hs.h.time ho)
  have qp := hs.p.cls
  have qx := range_cls hs.a.pt (show 0 < 5 by decide)
  have hbr : ∀ d os, Below w.heap.size w (Sort.grow (redrawn v1 d) os) := fun d os => hs.be.trans ((below_regrown v1 d os).mono hs.be.size)
  refine wp_region_quiet_below (by kernel_rfl) (by kernel_rfl) ?_
  repeat (first
    | (go_big_quiet_want; (with_reducible refine NN.quiet_load_pr _ rfl _ rfl hz qp ?_); (simp only [Act.put, List.setIfInBounds_toArray, List.set_cons_zero, List.set_cons_succ]); go_big_quiet_on)
    | (go_big_quiet_want; (with_reducible refine quiet_pt _ rfl bA rfl ⟨xh, xb, xt, xf, xr⟩ qx ?_); (simp only [Act.put, List.setIfInBounds_toArray, List.set_cons_zero, List.set_cons_succ]); go_big_quiet_on)
    | go_big_quiet_step (first | (go_at_call 17; exact Calls.regrown_of (KN.out _ (hbr _ _)))))
  refine wpQuiet_nil ?_
  intro v2 hw'
  obtain ⟨rg, hw''⟩ := hw'
  have hb2 : Below v1.heap.size v1 v2 := by rw [hw'']; exact below_regrown v1 rg.d rg.os
  clear hw'' hbr
  replace hs := hs.on hb2
  clear hb2
  clear qb qt qp qx
  go_wp2_with fail
  go_ret
  exact ⟨rfl, hs.be⟩
set_option maxRecDepth 100000 in
set_option maxHeartbeats 4000000 in
theorem check_work (p : NN.Pr) (hz : (NN.prA p).size = 83) (xh xb xt xf xr : Int) (prev : List UInt8) (hp32 : prev.length = 32) (a : Option Addr) (n c : Nat) (h : Hd) (ho : h.ok) (now : Int) (w : World)
    (KG : Hid (∀ w', Below w.heap.size w w' → Calls Tryz.prog 16 #[.agg (hdA h)] w' fun e w'' => e = .returned (.bool true) ∧ Below w'.heap.size w' w'')) (t1 : (!(h.prev == prev)) = false)
    (hb ht nb : Int) (eb : Hid (h.bits = hb)) (et : Hid (h.time = ht)) (KN : Hid (∀ w', Below w.heap.size w w' → Calls Tryz.prog 17 #[.agg (NN.prA p), .agg (NN.ptA ⟨xh, xb, xt, xf, xr⟩), .int .i64 ht] w' fun e w'' => e = .returned (.int .i64 nb) ∧ Below w'.heap.size w' w'')) (t2 : (hb == nb) = true)
    (KW : Hid (∀ w', Below w.heap.size w w' → Calls Tryz.prog 18 #[.agg (NN.prA p), .agg (hdA h)] w' fun e w'' => e = .returned (.bool false) ∧ Below w'.heap.size w' w'')) :
    Calls Tryz.prog 9 #[.agg (NN.prA p), .agg (spA ⟨⟨xh, xb, xt, xf, xr⟩, prev, a, n, c⟩), .agg (hdA h), .int .i64 now] w fun e w' => e = .returned (.int .i64 4) ∧ Below w.heap.size w w' := by
  have za := hdA_size ho
  have so : (⟨⟨xh, xb, xt, xf, xr⟩, prev, a, n, c⟩ : Sp).ok := hp32
  have qn := hn_neq h.prev prev ho.1 hp32 _ t1
  go_enter Tryz.func9, Tryz.ntmps9
  go_upto_region 1 with fail
  generalize hw0 : World.alloc _ _ = v0
  have hs : CkS w v0 w.heap.size (w.heap.size + 1) (w.heap.size + 1 + 1) p ⟨⟨xh, xb, xt, xf, xr⟩, prev, a, n, c⟩ h := by
    rw [← hw0]
    exact ⟨(((Below.refl _ _).alloc (Nat.le_refl _) _).alloc (by simp) _).alloc (by simp; omega) _, ((NN.Has.new _ _).alloc _).alloc _, (Has.new1 _ _ _).alloc _, Has.new2 _ _ _ _⟩
  clear hw0
  obtain ⟨bP, hbP⟩ : ∃ b, b = w.heap.size := ⟨_, rfl⟩
  obtain ⟨bA, hbA⟩ : ∃ b, b = w.heap.size + 1 := ⟨_, rfl⟩
  obtain ⟨bH, hbH⟩ : ∃ b, b = w.heap.size + 1 + 1 := ⟨_, rfl⟩
  rw [← hbH, ← hbA, ← hbP] at hs ⊢
  clear hbP hbA hbH
  have hH := hs.h
  go_wp2_with (first | fail | (with_reducible refine hd_load rfl _ rfl bH rfl hH za ?_))
  refine (KG.out _ hs.be).mono ?_
  rintro e v1 ⟨rfl, hb1⟩
  replace hs := hs.on hb1
  clear hb1
  clear hH
  have r1 := range_prev hs.h.range
  rw [Nat.zero_add] at r1
  have r5 := hs.a.prev
  have s1 := byteCells_32 ho.1
  have s5 := byteCells_32 hp32
  go_upto_region 5 with (first | (with_reducible refine hl_load_mid rfl _ rfl bH 1 rfl h.prev r1 s1 ?_) | (with_reducible refine hl_load_mid rfl _ rfl bA 5 rfl prev r5 s5 ?_) | (with_reducible refine hneq_g (by with_unfolding_all rfl) _ _ _ rfl _ _ _ rfl rfl qn ?_))
  clear r1 r5 s1 s5 qn
  have qb : ∀ d os, (Sort.grow (redrawn v1 d) os).cell? ⟨bH, 66, none⟩ = some (.int .i64 hb) := cell_regrown (by rw [← eb.out]; exact hs.h.bits ho)
  have qt : ∀ d os, (Sort.grow (redrawn v1 d) os).cell? ⟨bH, 65, none⟩ = some (.int .i64 ht) := cell_regrown (by rw [← et.out]; exact hs.h.time ho)
  have qp := hs.p.cls
  have qx := range_cls hs.a.pt (show 0 < 5 by decide)
  have hbr : ∀ d os, Below w.heap.size w (Sort.grow (redrawn v1 d) os) := fun d os => hs.be.trans ((below_regrown v1 d os).mono hs.be.size)
  refine wp_region_quiet_below (by kernel_rfl) (by kernel_rfl) ?_
  repeat (first
    | (go_big_quiet_want; (with_reducible refine NN.quiet_load_pr _ rfl _ rfl hz qp ?_); (simp only [Act.put, List.setIfInBounds_toArray, List.set_cons_zero, List.set_cons_succ]); go_big_quiet_on)
    | (go_big_quiet_want; (with_reducible refine quiet_pt _ rfl bA rfl ⟨xh, xb, xt, xf, xr⟩ qx ?_); (simp only [Act.put, List.setIfInBounds_toArray, List.set_cons_zero, List.set_cons_succ]); go_big_quiet_on)
    | go_big_quiet_step (first | (go_at_call 17; exact Calls.regrown_of (KN.out _ (hbr _ _)))))
  refine wpQuiet_nil ?_
  intro v2 hw'
  obtain ⟨rg, hw''⟩ := hw'
  have hb2 : Below v1.heap.size v1 v2 := by rw [hw'']; exact below_regrown v1 rg.d rg.os
  clear hw'' hbr
  replace hs := hs.on hb2
  clear hb2
  clear qb qt qp qx
  have hH := hs.h
  have hP := hs.p
  go_wp2_with (first | fail | (with_reducible refine hd_load rfl _ rfl bH rfl hH za ?_) | (with_reducible refine NN.pr_load rfl _ rfl _ rfl hP hz ?_))
  refine (KW.out _ hs.be).mono ?_
  rintro e v3 ⟨rfl, hb3⟩
  replace hs := hs.on hb3
  clear hb3
  clear hH hP
  go_wp2_with fail
  go_ret
  exact ⟨rfl, hs.be⟩
set_option maxRecDepth 100000 in
set_option maxHeartbeats 4000000 in
theorem check_old (p : NN.Pr) (hz : (NN.prA p).size = 83) (xh xb xt xf xr : Int) (prev : List UInt8) (hp32 : prev.length = 32) (a : Option Addr) (n c : Nat) (h : Hd) (ho : h.ok) (now : Int) (w : World)
    (KG : Hid (∀ w', Below w.heap.size w w' → Calls Tryz.prog 16 #[.agg (hdA h)] w' fun e w'' => e = .returned (.bool true) ∧ Below w'.heap.size w' w'')) (t1 : (!(h.prev == prev)) = false)
    (hb ht nb : Int) (eb : Hid (h.bits = hb)) (et : Hid (h.time = ht)) (KN : Hid (∀ w', Below w.heap.size w w' → Calls Tryz.prog 17 #[.agg (NN.prA p), .agg (NN.ptA ⟨xh, xb, xt, xf, xr⟩), .int .i64 ht] w' fun e w'' => e = .returned (.int .i64 nb) ∧ Below w'.heap.size w' w'')) (t2 : (hb == nb) = true)
    (KW : Hid (∀ w', Below w.heap.size w w' → Calls Tryz.prog 18 #[.agg (NN.prA p), .agg (hdA h)] w' fun e w'' => e = .returned (.bool true) ∧ Below w'.heap.size w' w''))
    (KL : Hid (∀ w', Below w.heap.size w w' → Calls Tryz.prog 19 #[.int .i64 ht, .slice a n c] w' fun e w'' => e = .returned (.bool false) ∧ Below w'.heap.size w' w'')) :
    Calls Tryz.prog 9 #[.agg (NN.prA p), .agg (spA ⟨⟨xh, xb, xt, xf, xr⟩, prev, a, n, c⟩), .agg (hdA h), .int .i64 now] w fun e w' => e = .returned (.int .i64 5) ∧ Below w.heap.size w w' := by
  have za := hdA_size ho
  have so : (⟨⟨xh, xb, xt, xf, xr⟩, prev, a, n, c⟩ : Sp).ok := hp32
  have qn := hn_neq h.prev prev ho.1 hp32 _ t1
  go_enter Tryz.func9, Tryz.ntmps9
  go_upto_region 1 with fail
  generalize hw0 : World.alloc _ _ = v0
  have hs : CkS w v0 w.heap.size (w.heap.size + 1) (w.heap.size + 1 + 1) p ⟨⟨xh, xb, xt, xf, xr⟩, prev, a, n, c⟩ h := by
    rw [← hw0]
    exact ⟨(((Below.refl _ _).alloc (Nat.le_refl _) _).alloc (by simp) _).alloc (by simp; omega) _, ((NN.Has.new _ _).alloc _).alloc _, (Has.new1 _ _ _).alloc _, Has.new2 _ _ _ _⟩
  clear hw0
  obtain ⟨bP, hbP⟩ : ∃ b, b = w.heap.size := ⟨_, rfl⟩
  obtain ⟨bA, hbA⟩ : ∃ b, b = w.heap.size + 1 := ⟨_, rfl⟩
  obtain ⟨bH, hbH⟩ : ∃ b, b = w.heap.size + 1 + 1 := ⟨_, rfl⟩
  rw [← hbH, ← hbA, ← hbP] at hs ⊢
  clear hbP hbA hbH
  have hH := hs.h
  go_wp2_with (first | fail | (with_reducible refine hd_load rfl _ rfl bH rfl hH za ?_))
  refine (KG.out _ hs.be).mono ?_
  rintro e v1 ⟨rfl, hb1⟩
  replace hs := hs.on hb1
  clear hb1
  clear hH
  have r1 := range_prev hs.h.range
  rw [Nat.zero_add] at r1
  have r5 := hs.a.prev
  have s1 := byteCells_32 ho.1
  have s5 := byteCells_32 hp32
  go_upto_region 5 with (first | (with_reducible refine hl_load_mid rfl _ rfl bH 1 rfl h.prev r1 s1 ?_) | (with_reducible refine hl_load_mid rfl _ rfl bA 5 rfl prev r5 s5 ?_) | (with_reducible refine hneq_g (by with_unfolding_all rfl) _ _ _ rfl _ _ _ rfl rfl qn ?_))
  clear r1 r5 s1 s5 qn
  have qb : ∀ d os, (Sort.grow (redrawn v1 d) os).cell? ⟨bH, 66, none⟩ = some (.int .i64 hb) := cell_regrown (by rw [← eb.out]; exact hs.h.bits ho)
  have qt : ∀ d os, (Sort.grow (redrawn v1 d) os).cell? ⟨bH, 65, none⟩ = some (.int .i64 ht) := cell_regrown (by rw [← et.out]; exact hs.h.time ho)
  have qp := hs.p.cls
  have qx := range_cls hs.a.pt (show 0 < 5 by decide)
  have hbr : ∀ d os, Below w.heap.size w (Sort.grow (redrawn v1 d) os) := fun d os => hs.be.trans ((below_regrown v1 d os).mono hs.be.size)
  refine wp_region_quiet_below (by kernel_rfl) (by kernel_rfl) ?_
  repeat (first
    | (go_big_quiet_want; (with_reducible refine NN.quiet_load_pr _ rfl _ rfl hz qp ?_); (simp only [Act.put, List.setIfInBounds_toArray, List.set_cons_zero, List.set_cons_succ]); go_big_quiet_on)
    | (go_big_quiet_want; (with_reducible refine quiet_pt _ rfl bA rfl ⟨xh, xb, xt, xf, xr⟩ qx ?_); (simp only [Act.put, List.setIfInBounds_toArray, List.set_cons_zero, List.set_cons_succ]); go_big_quiet_on)
    | go_big_quiet_step (first | (go_at_call 17; exact Calls.regrown_of (KN.out _ (hbr _ _)))))
  refine wpQuiet_nil ?_
  intro v2 hw'
  obtain ⟨rg, hw''⟩ := hw'
  have hb2 : Below v1.heap.size v1 v2 := by rw [hw'']; exact below_regrown v1 rg.d rg.os
  clear hw'' hbr
  replace hs := hs.on hb2
  clear hb2
  clear qb qt qp qx
  have hH := hs.h
  have hP := hs.p
  go_wp2_with (first | fail | (with_reducible refine hd_load rfl _ rfl bH rfl hH za ?_) | (with_reducible refine NN.pr_load rfl _ rfl _ rfl hP hz ?_))
  refine (KW.out _ hs.be).mono ?_
  rintro e v3 ⟨rfl, hb3⟩
  replace hs := hs.on hb3
  clear hb3
  clear hH hP
  have cT : v3.cell? ⟨bH, 65, none⟩ = some (.int .i64 ht) := by rw [← et.out]; exact hs.h.time ho
  have cS := hs.a.sl so
  go_wp2_with (first | fail)
  refine (KL.out _ hs.be).mono ?_
  rintro e v4 ⟨rfl, hb4⟩
  replace hs := hs.on hb4
  clear hb4
  clear cT cS
  go_wp2_with fail
  go_ret
  exact ⟨rfl, hs.be⟩
set_option maxRecDepth 100000 in
set_option maxHeartbeats 4000000 in
theorem check_new (p : NN.Pr) (hz : (NN.prA p).size = 83) (xh xb xt xf xr : Int) (prev : List UInt8) (hp32 : prev.length = 32) (a : Option Addr) (n c : Nat) (h : Hd) (ho : h.ok) (now : Int) (w : World)
    (KG : Hid (∀ w', Below w.heap.size w w' → Calls Tryz.prog 16 #[.agg (hdA h)] w' fun e w'' => e = .returned (.bool true) ∧ Below w'.heap.size w' w'')) (t1 : (!(h.prev == prev)) = false)
    (hb ht nb : Int) (eb : Hid (h.bits = hb)) (et : Hid (h.time = ht)) (KN : Hid (∀ w', Below w.heap.size w w' → Calls Tryz.prog 17 #[.agg (NN.prA p), .agg (NN.ptA ⟨xh, xb, xt, xf, xr⟩), .int .i64 ht] w' fun e w'' => e = .returned (.int .i64 nb) ∧ Below w'.heap.size w' w'')) (t2 : (hb == nb) = true)
    (KW : Hid (∀ w', Below w.heap.size w w' → Calls Tryz.prog 18 #[.agg (NN.prA p), .agg (hdA h)] w' fun e w'' => e = .returned (.bool true) ∧ Below w'.heap.size w' w''))
    (KL : Hid (∀ w', Below w.heap.size w w' → Calls Tryz.prog 19 #[.int .i64 ht, .slice a n c] w' fun e w'' => e = .returned (.bool true) ∧ Below w'.heap.size w' w''))
    (fut : Int) (e3 : Hid (p.fut = fut)) (KE : Hid (∀ w', Below w.heap.size w w' → Calls Tryz.prog 20 #[.int .i64 ht, .int .i64 now, .int .i64 fut] w' fun e w'' => e = .returned (.bool false) ∧ Below w'.heap.size w' w'')) :
    Calls Tryz.prog 9 #[.agg (NN.prA p), .agg (spA ⟨⟨xh, xb, xt, xf, xr⟩, prev, a, n, c⟩), .agg (hdA h), .int .i64 now] w fun e w' => e = .returned (.int .i64 6) ∧ Below w.heap.size w w' := by
  have za := hdA_size ho
  have so : (⟨⟨xh, xb, xt, xf, xr⟩, prev, a, n, c⟩ : Sp).ok := hp32
  have qn := hn_neq h.prev prev ho.1 hp32 _ t1
  go_enter Tryz.func9, Tryz.ntmps9
  go_upto_region 1 with fail
  generalize hw0 : World.alloc _ _ = v0
  have hs : CkS w v0 w.heap.size (w.heap.size + 1) (w.heap.size + 1 + 1) p ⟨⟨xh, xb, xt, xf, xr⟩, prev, a, n, c⟩ h := by
    rw [← hw0]
    exact ⟨(((Below.refl _ _).alloc (Nat.le_refl _) _).alloc (by simp) _).alloc (by simp; omega) _, ((NN.Has.new _ _).alloc _).alloc _, (Has.new1 _ _ _).alloc _, Has.new2 _ _ _ _⟩
  clear hw0
  obtain ⟨bP, hbP⟩ : ∃ b, b = w.heap.size := ⟨_, rfl⟩
  obtain ⟨bA, hbA⟩ : ∃ b, b = w.heap.size + 1 := ⟨_, rfl⟩
  obtain ⟨bH, hbH⟩ : ∃ b, b = w.heap.size + 1 + 1 := ⟨_, rfl⟩
  rw [← hbH, ← hbA, ← hbP] at hs ⊢
  clear hbP hbA hbH
  have hH := hs.h
  go_wp2_with (first | fail | (with_reducible refine hd_load rfl _ rfl bH rfl hH za ?_))
  refine (KG.out _ hs.be).mono ?_
  rintro e v1 ⟨rfl, hb1⟩
  replace hs := hs.on hb1
  clear hb1
  clear hH
  have r1 := range_prev hs.h.range
  rw [Nat.zero_add] at r1
  have r5 := hs.a.prev
  have s1 := byteCells_32 ho.1
  have s5 := byteCells_32 hp32
  go_upto_region 5 with (first | (with_reducible refine hl_load_mid rfl _ rfl bH 1 rfl h.prev r1 s1 ?_) | (with_reducible refine hl_load_mid rfl _ rfl bA 5 rfl prev r5 s5 ?_) | (with_reducible refine hneq_g (by with_unfolding_all rfl) _ _ _ rfl _ _ _ rfl rfl qn ?_))
  clear r1 r5 s1 s5 qn
  have qb : ∀ d os, (Sort.grow (redrawn v1 d) os).cell? ⟨bH, 66, none⟩ = some (.int .i64 hb) := cell_regrown (by rw [← eb.out]; exact hs.h.bits ho)
  have qt : ∀ d os, (Sort.grow (redrawn v1 d) os).cell? ⟨bH, 65, none⟩ = some (.int .i64 ht) := cell_regrown (by rw [← et.out]; exact hs.h.time ho)
  have qp := hs.p.cls
  have qx := range_cls hs.a.pt (show 0 < 5 by decide)
  have hbr : ∀ d os, Below w.heap.size w (Sort.grow (redrawn v1 d) os) := fun d os => hs.be.trans ((below_regrown v1 d os).mono hs.be.size)
  refine wp_region_quiet_below (by kernel_rfl) (by kernel_rfl) ?_
  repeat (first
    | (go_big_quiet_want; (with_reducible refine NN.quiet_load_pr _ rfl _ rfl hz qp ?_); (simp only [Act.put, List.setIfInBounds_toArray, List.set_cons_zero, List.set_cons_succ]); go_big_quiet_on)
    | (go_big_quiet_want; (with_reducible refine quiet_pt _ rfl bA rfl ⟨xh, xb, xt, xf, xr⟩ qx ?_); (simp only [Act.put, List.setIfInBounds_toArray, List.set_cons_zero, List.set_cons_succ]); go_big_quiet_on)
    | go_big_quiet_step (first | (go_at_call 17; exact Calls.regrown_of (KN.out _ (hbr _ _)))))
  refine wpQuiet_nil ?_
  intro v2 hw'
  obtain ⟨rg, hw''⟩ := hw'
  have hb2 : Below v1.heap.size v1 v2 := by rw [hw'']; exact below_regrown v1 rg.d rg.os
  clear hw'' hbr
  replace hs := hs.on hb2
  clear hb2
  clear qb qt qp qx
  have hH := hs.h
  have hP := hs.p
  go_wp2_with (first | fail | (with_reducible refine hd_load rfl _ rfl bH rfl hH za ?_) | (with_reducible refine NN.pr_load rfl _ rfl _ rfl hP hz ?_))
  refine (KW.out _ hs.be).mono ?_
  rintro e v3 ⟨rfl, hb3⟩
  replace hs := hs.on hb3
  clear hb3
  clear hH hP
  have cT : v3.cell? ⟨bH, 65, none⟩ = some (.int .i64 ht) := by rw [← et.out]; exact hs.h.time ho
  have cS := hs.a.sl so
  go_wp2_with (first | fail)
  refine (KL.out _ hs.be).mono ?_
  rintro e v4 ⟨rfl, hb4⟩
  replace hs := hs.on hb4
  clear hb4
  clear cT cS
  have cT : v4.cell? ⟨bH, 65, none⟩ = some (.int .i64 ht) := by rw [← et.out]; exact hs.h.time ho
  have c3 := hs.p.c3 e3
  go_wp2_with (first | fail)
  refine (KE.out _ hs.be).mono ?_
  rintro e v5 ⟨rfl, hb5⟩
  replace hs := hs.on hb5
  clear hb5
  clear cT c3
  go_wp2_with fail
  go_ret
  exact ⟨rfl, hs.be⟩
set_option maxRecDepth 100000 in
set_option maxHeartbeats 4000000 in
theorem check_version (p : NN.Pr) (hz : (NN.prA p).size = 83) (xh xb xt xf xr : Int) (prev : List UInt8) (hp32 : prev.length = 32) (a : Option Addr) (n c : Nat) (h : Hd) (ho : h.ok) (now : Int) (w : World)
    (KG : Hid (∀ w', Below w.heap.size w w' → Calls Tryz.prog 16 #[.agg (hdA h)] w' fun e w'' => e = .returned (.bool true) ∧ Below w'.heap.size w' w'')) (t1 : (!(h.prev == prev)) = false)
    (hb ht nb : Int) (eb : Hid (h.bits = hb)) (et : Hid (h.time = ht)) (KN : Hid (∀ w', Below w.heap.size w w' → Calls Tryz.prog 17 #[.agg (NN.prA p), .agg (NN.ptA ⟨xh, xb, xt, xf, xr⟩), .int .i64 ht] w' fun e w'' => e = .returned (.int .i64 nb) ∧ Below w'.heap.size w' w'')) (t2 : (hb == nb) = true)
    (KW : Hid (∀ w', Below w.heap.size w w' → Calls Tryz.prog 18 #[.agg (NN.prA p), .agg (hdA h)] w' fun e w'' => e = .returned (.bool true) ∧ Below w'.heap.size w' w''))
    (KL : Hid (∀ w', Below w.heap.size w w' → Calls Tryz.prog 19 #[.int .i64 ht, .slice a n c] w' fun e w'' => e = .returned (.bool true) ∧ Below w'.heap.size w' w''))
    (fut : Int) (e3 : Hid (p.fut = fut)) (KE : Hid (∀ w', Below w.heap.size w w' → Calls Tryz.prog 20 #[.int .i64 ht, .int .i64 now, .int .i64 fut] w' fun e w'' => e = .returned (.bool true) ∧ Below w'.heap.size w' w''))
    (t : Tl) (tt : Hid (p.tl = t.C)) (hv v : Int) (ev : Hid (h.v = hv)) (KV : Hid (∀ w', Below w.heap.size w w' → Calls Tryz.prog 21 #[.int .i64 xh, .slice t.ga t.gn t.gc] w' fun e w'' => e = .returned (.int .i64 v) ∧ Below w'.heap.size w' w'')) (t6 : decide (hv < v) = true) :
    Calls Tryz.prog 9 #[.agg (NN.prA p), .agg (spA ⟨⟨xh, xb, xt, xf, xr⟩, prev, a, n, c⟩), .agg (hdA h), .int .i64 now] w fun e w' => e = .returned (.int .i64 7) ∧ Below w.heap.size w w' := by
  have za := hdA_size ho
  have so : (⟨⟨xh, xb, xt, xf, xr⟩, prev, a, n, c⟩ : Sp).ok := hp32
  have qn := hn_neq h.prev prev ho.1 hp32 _ t1
  obtain ⟨ga, hga⟩ : ∃ x, x = t.ga := ⟨_, rfl⟩
  obtain ⟨gn, hgn⟩ : ∃ x, x = t.gn := ⟨_, rfl⟩
  obtain ⟨gc, hgc⟩ : ∃ x, x = t.gc := ⟨_, rfl⟩
  rw [← hga, ← hgn, ← hgc] at KV
  have P5 : Hid (∀ wx b, NN.PrAt wx b p → wx.cell? ⟨b, 5, none⟩ = some (.slice ga gn gc)) := Lib.hid (fun wx b hh => by rw [hga, hgn, hgc]; exact pr_gates hh tt.out)
  clear hga hgn hgc
  go_enter Tryz.func9, Tryz.ntmps9
  go_upto_region 1 with fail
  generalize hw0 : World.alloc _ _ = v0
  have hs : CkS w v0 w.heap.size (w.heap.size + 1) (w.heap.size + 1 + 1) p ⟨⟨xh, xb, xt, xf, xr⟩, prev, a, n, c⟩ h := by
    rw [← hw0]
    exact ⟨(((Below.refl _ _).alloc (Nat.le_refl _) _).alloc (by simp) _).alloc (by simp; omega) _, ((NN.Has.new _ _).alloc _).alloc _, (Has.new1 _ _ _).alloc _, Has.new2 _ _ _ _⟩
  clear hw0
  obtain ⟨bP, hbP⟩ : ∃ b, b = w.heap.size := ⟨_, rfl⟩
  obtain ⟨bA, hbA⟩ : ∃ b, b = w.heap.size + 1 := ⟨_, rfl⟩
  obtain ⟨bH, hbH⟩ : ∃ b, b = w.heap.size + 1 + 1 := ⟨_, rfl⟩
  rw [← hbH, ← hbA, ← hbP] at hs ⊢
  clear hbP hbA hbH
  have hH := hs.h
  go_wp2_with (first | fail | (with_reducible refine hd_load rfl _ rfl bH rfl hH za ?_))
  refine (KG.out _ hs.be).mono ?_
  rintro e v1 ⟨rfl, hb1⟩
  replace hs := hs.on hb1
  clear hb1
  clear hH
  have r1 := range_prev hs.h.range
  rw [Nat.zero_add] at r1
  have r5 := hs.a.prev
  have s1 := byteCells_32 ho.1
  have s5 := byteCells_32 hp32
  go_upto_region 5 with (first | (with_reducible refine hl_load_mid rfl _ rfl bH 1 rfl h.prev r1 s1 ?_) | (with_reducible refine hl_load_mid rfl _ rfl bA 5 rfl prev r5 s5 ?_) | (with_reducible refine hneq_g (by with_unfolding_all rfl) _ _ _ rfl _ _ _ rfl rfl qn ?_))
  clear r1 r5 s1 s5 qn
  have qb : ∀ d os, (Sort.grow (redrawn v1 d) os).cell? ⟨bH, 66, none⟩ = some (.int .i64 hb) := cell_regrown (by rw [← eb.out]; exact hs.h.bits ho)
  have qt : ∀ d os, (Sort.grow (redrawn v1 d) os).cell? ⟨bH, 65, none⟩ = some (.int .i64 ht) := cell_regrown (by rw [← et.out]; exact hs.h.time ho)
  have qp := hs.p.cls
  have qx := range_cls hs.a.pt (show 0 < 5 by decide)
  have hbr : ∀ d os, Below w.heap.size w (Sort.grow (redrawn v1 d) os) := fun d os => hs.be.trans ((below_regrown v1 d os).mono hs.be.size)
  refine wp_region_quiet_below (by kernel_rfl) (by kernel_rfl) ?_
  repeat (first
    | (go_big_quiet_want; (with_reducible refine NN.quiet_load_pr _ rfl _ rfl hz qp ?_); (simp only [Act.put, List.setIfInBounds_toArray, List.set_cons_zero, List.set_cons_succ]); go_big_quiet_on)
    | (go_big_quiet_want; (with_reducible refine quiet_pt _ rfl bA rfl ⟨xh, xb, xt, xf, xr⟩ qx ?_); (simp only [Act.put, List.setIfInBounds_toArray, List.set_cons_zero, List.set_cons_succ]); go_big_quiet_on)
    | go_big_quiet_step (first | (go_at_call 17; exact Calls.regrown_of (KN.out _ (hbr _ _)))))
  refine wpQuiet_nil ?_
  intro v2 hw'
  obtain ⟨rg, hw''⟩ := hw'
  have hb2 : Below v1.heap.size v1 v2 := by rw [hw'']; exact below_regrown v1 rg.d rg.os
  clear hw'' hbr
  replace hs := hs.on hb2
  clear hb2
  clear qb qt qp qx
  have hH := hs.h
  have hP := hs.p
  go_wp2_with (first | fail | (with_reducible refine hd_load rfl _ rfl bH rfl hH za ?_) | (with_reducible refine NN.pr_load rfl _ rfl _ rfl hP hz ?_))
  refine (KW.out _ hs.be).mono ?_
  rintro e v3 ⟨rfl, hb3⟩
  replace hs := hs.on hb3
  clear hb3
  clear hH hP
  have cT : v3.cell? ⟨bH, 65, none⟩ = some (.int .i64 ht) := by rw [← et.out]; exact hs.h.time ho
  have cS := hs.a.sl so
  go_wp2_with (first | fail)
  refine (KL.out _ hs.be).mono ?_
  rintro e v4 ⟨rfl, hb4⟩
  replace hs := hs.on hb4
  clear hb4
  clear cT cS
  have cT : v4.cell? ⟨bH, 65, none⟩ = some (.int .i64 ht) := by rw [← et.out]; exact hs.h.time ho
  have c3 := hs.p.c3 e3
  go_wp2_with (first | fail)
  refine (KE.out _ hs.be).mono ?_
  rintro e v5 ⟨rfl, hb5⟩
  replace hs := hs.on hb5
  clear hb5
  clear cT c3
  go_upto_region 13 with fail
  have qv : ∀ d os, (Sort.grow (redrawn v5 d) os).cell? ⟨bH, 0, none⟩ = some (.int .i64 hv) := cell_regrown (by rw [← ev.out]; exact hs.h.v)
  have qh : ∀ d os, (Sort.grow (redrawn v5 d) os).cell? ⟨bA, 0, none⟩ = some (.int .i64 xh) := cell_regrown (hs.a.c0 (Lib.hid rfl))
  have qg : ∀ d os, (Sort.grow (redrawn v5 d) os).cell? ⟨bP, 5, none⟩ = some (.slice ga gn gc) := cell_regrown (P5.out _ _ hs.p)
  have hbr : ∀ d os, Below w.heap.size w (Sort.grow (redrawn v5 d) os) := fun d os => hs.be.trans ((below_regrown v5 d os).mono hs.be.size)
  refine wp_region_quiet_below (by kernel_rfl) (by kernel_rfl) ?_
  repeat (first
    | go_big_quiet_step (first | (go_at_call 21; exact Calls.regrown_of (KV.out _ (hbr _ _)))))
  refine wpQuiet_nil ?_
  intro v6 hw'
  obtain ⟨rg, hw''⟩ := hw'
  have hb6 : Below v5.heap.size v5 v6 := by rw [hw'']; exact below_regrown v5 rg.d rg.os
  clear hw'' hbr
  replace hs := hs.on hb6
  clear hb6
  clear qv qh qg
  go_wp2_with fail
  go_ret
  exact ⟨rfl, hs.be⟩
set_option maxRecDepth 100000 in
set_option maxHeartbeats 4000000 in
theorem check_track (p : NN.Pr) (hz : (NN.prA p).size = 83) (xh xb xt xf xr : Int) (prev : List UInt8) (hp32 : prev.length = 32) (a : Option Addr) (n c : Nat) (h : Hd) (ho : h.ok) (now : Int) (w : World)
    (KG : Hid (∀ w', Below w.heap.size w w' → Calls Tryz.prog 16 #[.agg (hdA h)] w' fun e w'' => e = .returned (.bool true) ∧ Below w'.heap.size w' w'')) (t1 : (!(h.prev == prev)) = false)
    (hb ht nb : Int) (eb : Hid (h.bits = hb)) (et : Hid (h.time = ht)) (KN : Hid (∀ w', Below w.heap.size w w' → Calls Tryz.prog 17 #[.agg (NN.prA p), .agg (NN.ptA ⟨xh, xb, xt, xf, xr⟩), .int .i64 ht] w' fun e w'' => e = .returned (.int .i64 nb) ∧ Below w'.heap.size w' w'')) (t2 : (hb == nb) = true)
    (KW : Hid (∀ w', Below w.heap.size w w' → Calls Tryz.prog 18 #[.agg (NN.prA p), .agg (hdA h)] w' fun e w'' => e = .returned (.bool true) ∧ Below w'.heap.size w' w''))
    (KL : Hid (∀ w', Below w.heap.size w w' → Calls Tryz.prog 19 #[.int .i64 ht, .slice a n c] w' fun e w'' => e = .returned (.bool true) ∧ Below w'.heap.size w' w''))
    (fut : Int) (e3 : Hid (p.fut = fut)) (KE : Hid (∀ w', Below w.heap.size w w' → Calls Tryz.prog 20 #[.int .i64 ht, .int .i64 now, .int .i64 fut] w' fun e w'' => e = .returned (.bool true) ∧ Below w'.heap.size w' w''))
    (t : Tl) (tt : Hid (p.tl = t.C)) (hv v : Int) (ev : Hid (h.v = hv)) (KV : Hid (∀ w', Below w.heap.size w w' → Calls Tryz.prog 21 #[.int .i64 xh, .slice t.ga t.gn t.gc] w' fun e w'' => e = .returned (.int .i64 v) ∧ Below w'.heap.size w' w'')) (t6 : decide (hv < v) = false)
    (id : List UInt8) (KI : Hid (∀ w', Below w.heap.size w w' → Calls Tryz.prog 23 #[.agg (hdA h)] w' fun e w'' => e = .returned (.agg (bytesV id)) ∧ Below w'.heap.size w' w'')) (KT : Hid (∀ w', Below w.heap.size w w' → Calls Tryz.prog 22 #[.int .i64 xh, .agg (bytesV id), .slice t.ca t.cn t.cc] w' fun e w'' => e = .returned (.bool false) ∧ Below w'.heap.size w' w'')) :
    Calls Tryz.prog 9 #[.agg (NN.prA p), .agg (spA ⟨⟨xh, xb, xt, xf, xr⟩, prev, a, n, c⟩), .agg (hdA h), .int .i64 now] w fun e w' => e = .returned (.int .i64 8) ∧ Below w.heap.size w w' := by
  have za := hdA_size ho
  have so : (⟨⟨xh, xb, xt, xf, xr⟩, prev, a, n, c⟩ : Sp).ok := hp32
  have qn := hn_neq h.prev prev ho.1 hp32 _ t1
  obtain ⟨ga, hga⟩ : ∃ x, x = t.ga := ⟨_, rfl⟩
  obtain ⟨gn, hgn⟩ : ∃ x, x = t.gn := ⟨_, rfl⟩
  obtain ⟨gc, hgc⟩ : ∃ x, x = t.gc := ⟨_, rfl⟩
  rw [← hga, ← hgn, ← hgc] at KV
  have P5 : Hid (∀ wx b, NN.PrAt wx b p → wx.cell? ⟨b, 5, none⟩ = some (.slice ga gn gc)) := Lib.hid (fun wx b hh => by rw [hga, hgn, hgc]; exact pr_gates hh tt.out)
  clear hga hgn hgc
  obtain ⟨ca, hca⟩ : ∃ x, x = t.ca := ⟨_, rfl⟩
  obtain ⟨cn, hcn⟩ : ∃ x, x = t.cn := ⟨_, rfl⟩
  obtain ⟨cc, hcc⟩ : ∃ x, x = t.cc := ⟨_, rfl⟩
  rw [← hca, ← hcn, ← hcc] at KT
  have P6 : Hid (∀ wx b, NN.PrAt wx b p → wx.cell? ⟨b, 6, none⟩ = some (.slice ca cn cc)) := Lib.hid (fun wx b hh => by rw [hca, hcn, hcc]; exact pr_checks hh tt.out)
  clear hca hcn hcc
  go_enter Tryz.func9, Tryz.ntmps9
  go_upto_region 1 with fail
  generalize hw0 : World.alloc _ _ = v0
  have hs : CkS w v0 w.heap.size (w.heap.size + 1) (w.heap.size + 1 + 1) p ⟨⟨xh, xb, xt, xf, xr⟩, prev, a, n, c⟩ h := by
    rw [← hw0]
    exact ⟨(((Below.refl _ _).alloc (Nat.le_refl _) _).alloc (by simp) _).alloc (by simp; omega) _, ((NN.Has.new _ _).alloc _).alloc _, (Has.new1 _ _ _).alloc _, Has.new2 _ _ _ _⟩
  clear hw0
  obtain ⟨bP, hbP⟩ : ∃ b, b = w.heap.size := ⟨_, rfl⟩
  obtain ⟨bA, hbA⟩ : ∃ b, b = w.heap.size + 1 := ⟨_, rfl⟩
  obtain ⟨bH, hbH⟩ : ∃ b, b = w.heap.size + 1 + 1 := ⟨_, rfl⟩
  rw [← hbH, ← hbA, ← hbP] at hs ⊢
  clear hbP hbA hbH
  have hH := hs.h
  go_wp2_with (first | fail | (with_reducible refine hd_load rfl _ rfl bH rfl hH za ?_))
  refine (KG.out _ hs.be).mono ?_
  rintro e v1 ⟨rfl, hb1⟩
  replace hs := hs.on hb1
  clear hb1
  clear hH
  have r1 := range_prev hs.h.range
  rw [Nat.zero_add] at r1
  have r5 := hs.a.prev
  have s1 := byteCells_32 ho.1
  have s5 := byteCells_32 hp32
  go_upto_region 5 with (first | (with_reducible refine hl_load_mid rfl _ rfl bH 1 rfl h.prev r1 s1 ?_) | (with_reducible refine hl_load_mid rfl _ rfl bA 5 rfl prev r5 s5 ?_) | (with_reducible refine hneq_g (by with_unfolding_all rfl) _ _ _ rfl _ _ _ rfl rfl qn ?_))
  clear r1 r5 s1 s5 qn
  have qb : ∀ d os, (Sort.grow (redrawn v1 d) os).cell? ⟨bH, 66, none⟩ = some (.int .i64 hb) := cell_regrown (by rw [← eb.out]; exact hs.h.bits ho)
  have qt : ∀ d os, (Sort.grow (redrawn v1 d) os).cell? ⟨bH, 65, none⟩ = some (.int .i64 ht) := cell_regrown (by rw [← et.out]; exact hs.h.time ho)
  have qp := hs.p.cls
  have qx := range_cls hs.a.pt (show 0 < 5 by decide)
  have hbr : ∀ d os, Below w.heap.size w (Sort.grow (redrawn v1 d) os) := fun d os => hs.be.trans ((below_regrown v1 d os).mono hs.be.size)
  refine wp_region_quiet_below (by kernel_rfl) (by kernel_rfl) ?_
  repeat (first
    | (go_big_quiet_want; (with_reducible refine NN.quiet_load_pr _ rfl _ rfl hz qp ?_); (simp only [Act.put, List.setIfInBounds_toArray, List.set_cons_zero, List.set_cons_succ]); go_big_quiet_on)
    | (go_big_quiet_want; (with_reducible refine quiet_pt _ rfl bA rfl ⟨xh, xb, xt, xf, xr⟩ qx ?_); (simp only [Act.put, List.setIfInBounds_toArray, List.set_cons_zero, List.set_cons_succ]); go_big_quiet_on)
    | go_big_quiet_step (first | (go_at_call 17; exact Calls.regrown_of (KN.out _ (hbr _ _)))))
  refine wpQuiet_nil ?_
  intro v2 hw'
  obtain ⟨rg, hw''⟩ := hw'
  have hb2 : Below v1.heap.size v1 v2 := by rw [hw'']; exact below_regrown v1 rg.d rg.os
  clear hw'' hbr
  replace hs := hs.on hb2
  clear hb2
  clear qb qt qp qx
  have hH := hs.h
  have hP := hs.p
  go_wp2_with (first | fail | (with_reducible refine hd_load rfl _ rfl bH rfl hH za ?_) | (with_reducible refine NN.pr_load rfl _ rfl _ rfl hP hz ?_))
  refine (KW.out _ hs.be).mono ?_
  rintro e v3 ⟨rfl, hb3⟩
  replace hs := hs.on hb3
  clear hb3
  clear hH hP
  have cT : v3.cell? ⟨bH, 65, none⟩ = some (.int .i64 ht) := by rw [← et.out]; exact hs.h.time ho
  have cS := hs.a.sl so
  go_wp2_with (first | fail)
  refine (KL.out _ hs.be).mono ?_
  rintro e v4 ⟨rfl, hb4⟩
  replace hs := hs.on hb4
  clear hb4
  clear cT cS
  have cT : v4.cell? ⟨bH, 65, none⟩ = some (.int .i64 ht) := by rw [← et.out]; exact hs.h.time ho
  have c3 := hs.p.c3 e3
  go_wp2_with (first | fail)
  refine (KE.out _ hs.be).mono ?_
  rintro e v5 ⟨rfl, hb5⟩
  replace hs := hs.on hb5
  clear hb5
  clear cT c3
  go_upto_region 13 with fail
  have qv : ∀ d os, (Sort.grow (redrawn v5 d) os).cell? ⟨bH, 0, none⟩ = some (.int .i64 hv) := cell_regrown (by rw [← ev.out]; exact hs.h.v)
  have qh : ∀ d os, (Sort.grow (redrawn v5 d) os).cell? ⟨bA, 0, none⟩ = some (.int .i64 xh) := cell_regrown (hs.a.c0 (Lib.hid rfl))
  have qg : ∀ d os, (Sort.grow (redrawn v5 d) os).cell? ⟨bP, 5, none⟩ = some (.slice ga gn gc) := cell_regrown (P5.out _ _ hs.p)
  have hbr : ∀ d os, Below w.heap.size w (Sort.grow (redrawn v5 d) os) := fun d os => hs.be.trans ((below_regrown v5 d os).mono hs.be.size)
  refine wp_region_quiet_below (by kernel_rfl) (by kernel_rfl) ?_
  repeat (first
    | go_big_quiet_step (first | (go_at_call 21; exact Calls.regrown_of (KV.out _ (hbr _ _)))))
  refine wpQuiet_nil ?_
  intro v6 hw'
  obtain ⟨rg, hw''⟩ := hw'
  have hb6 : Below v5.heap.size v5 v6 := by rw [hw'']; exact below_regrown v5 rg.d rg.os
  clear hw'' hbr
  replace hs := hs.on hb6
  clear hb6
  clear qv qh qg
  go_upto_region 15 with fail
  have qh : ∀ d os, (Sort.grow (redrawn v6 d) os).cell? ⟨bA, 0, none⟩ = some (.int .i64 xh) := cell_regrown (hs.a.c0 (Lib.hid rfl))
  have qc : ∀ d os, (Sort.grow (redrawn v6 d) os).cell? ⟨bP, 6, none⟩ = some (.slice ca cn cc) := cell_regrown (P6.out _ _ hs.p)
  have qd := range_cls hs.h.range (hdC_pos h)
  have sd := hdC_length ho
  have hbr : ∀ d os, Below w.heap.size w (Sort.grow (redrawn v6 d) os) := fun d os => hs.be.trans ((below_regrown v6 d os).mono hs.be.size)
  refine wp_region_quiet_below (by kernel_rfl) (by kernel_rfl) ?_
  repeat (first
    | (go_big_quiet_want; (with_reducible refine quiet_hd_mid _ rfl bH 0 rfl h sd qd ?_); (simp only [Act.put, List.setIfInBounds_toArray, List.set_cons_zero, List.set_cons_succ]); go_big_quiet_on)
    | go_big_quiet_step (first | (go_at_call 23; exact Calls.regrown_of (KI.out _ (hbr _ _))) | (go_at_call 22; exact Calls.regrown_of (KT.out _ (hbr _ _)))))
  refine wpQuiet_nil ?_
  intro v7 hw'
  obtain ⟨rg, hw''⟩ := hw'
  have hb7 : Below v6.heap.size v6 v7 := by rw [hw'']; exact below_regrown v6 rg.d rg.os
  clear hw'' hbr
  replace hs := hs.on hb7
  clear hb7
  clear qh qc qd sd
  go_wp2_with fail
  go_ret
  exact ⟨rfl, hs.be⟩
set_option maxRecDepth 100000 in
set_option maxHeartbeats 4000000 in
theorem check_fine (p : NN.Pr) (hz : (NN.prA p).size = 83) (xh xb xt xf xr : Int) (prev : List UInt8) (hp32 : prev.length = 32) (a : Option Addr) (n c : Nat) (h : Hd) (ho : h.ok) (now : Int) (w : World)
    (KG : Hid (∀ w', Below w.heap.size w w' → Calls Tryz.prog 16 #[.agg (hdA h)] w' fun e w'' => e = .returned (.bool true) ∧ Below w'.heap.size w' w'')) (t1 : (!(h.prev == prev)) = false)
    (hb ht nb : Int) (eb : Hid (h.bits = hb)) (et : Hid (h.time = ht)) (KN : Hid (∀ w', Below w.heap.size w w' → Calls Tryz.prog 17 #[.agg (NN.prA p), .agg (NN.ptA ⟨xh, xb, xt, xf, xr⟩), .int .i64 ht] w' fun e w'' => e = .returned (.int .i64 nb) ∧ Below w'.heap.size w' w'')) (t2 : (hb == nb) = true)
    (KW : Hid (∀ w', Below w.heap.size w w' → Calls Tryz.prog 18 #[.agg (NN.prA p), .agg (hdA h)] w' fun e w'' => e = .returned (.bool true) ∧ Below w'.heap.size w' w''))
    (KL : Hid (∀ w', Below w.heap.size w w' → Calls Tryz.prog 19 #[.int .i64 ht, .slice a n c] w' fun e w'' => e = .returned (.bool true) ∧ Below w'.heap.size w' w''))
    (fut : Int) (e3 : Hid (p.fut = fut)) (KE : Hid (∀ w', Below w.heap.size w w' → Calls Tryz.prog 20 #[.int .i64 ht, .int .i64 now, .int .i64 fut] w' fun e w'' => e = .returned (.bool true) ∧ Below w'.heap.size w' w''))
    (t : Tl) (tt : Hid (p.tl = t.C)) (hv v : Int) (ev : Hid (h.v = hv)) (KV : Hid (∀ w', Below w.heap.size w w' → Calls Tryz.prog 21 #[.int .i64 xh, .slice t.ga t.gn t.gc] w' fun e w'' => e = .returned (.int .i64 v) ∧ Below w'.heap.size w' w'')) (t6 : decide (hv < v) = false)
    (id : List UInt8) (KI : Hid (∀ w', Below w.heap.size w w' → Calls Tryz.prog 23 #[.agg (hdA h)] w' fun e w'' => e = .returned (.agg (bytesV id)) ∧ Below w'.heap.size w' w'')) (KT : Hid (∀ w', Below w.heap.size w w' → Calls Tryz.prog 22 #[.int .i64 xh, .agg (bytesV id), .slice t.ca t.cn t.cc] w' fun e w'' => e = .returned (.bool true) ∧ Below w'.heap.size w' w'')) :
    Calls Tryz.prog 9 #[.agg (NN.prA p), .agg (spA ⟨⟨xh, xb, xt, xf, xr⟩, prev, a, n, c⟩), .agg (hdA h), .int .i64 now] w fun e w' => e = .returned (.int .i64 0) ∧ Below w.heap.size w w' := by
  have za := hdA_size ho
  have so : (⟨⟨xh, xb, xt, xf, xr⟩, prev, a, n, c⟩ : Sp).ok := hp32
  have qn := hn_neq h.prev prev ho.1 hp32 _ t1
  obtain ⟨ga, hga⟩ : ∃ x, x = t.ga := ⟨_, rfl⟩
  obtain ⟨gn, hgn⟩ : ∃ x, x = t.gn := ⟨_, rfl⟩
  obtain ⟨gc, hgc⟩ : ∃ x, x = t.gc := ⟨_, rfl⟩
  rw [← hga, ← hgn, ← hgc] at KV
  have P5 : Hid (∀ wx b, NN.PrAt wx b p → wx.cell? ⟨b, 5, none⟩ = some (.slice ga gn gc)) := Lib.hid (fun wx b hh => by rw [hga, hgn, hgc]; exact pr_gates hh tt.out)
  clear hga hgn hgc
  obtain ⟨ca, hca⟩ : ∃ x, x = t.ca := ⟨_, rfl⟩
  obtain ⟨cn, hcn⟩ : ∃ x, x = t.cn := ⟨_, rfl⟩
  obtain ⟨cc, hcc⟩ : ∃ x, x = t.cc := ⟨_, rfl⟩
  rw [← hca, ← hcn, ← hcc] at KT
  have P6 : Hid (∀ wx b, NN.PrAt wx b p → wx.cell? ⟨b, 6, none⟩ = some (.slice ca cn cc)) := Lib.hid (fun wx b hh => by rw [hca, hcn, hcc]; exact pr_checks hh tt.out)
  clear hca hcn hcc
  go_enter Tryz.func9, Tryz.ntmps9
  go_upto_region 1 with fail
  generalize hw0 : World.alloc _ _ = v0
  have hs : CkS w v0 w.heap.size (w.heap.size + 1) (w.heap.size + 1 + 1) p ⟨⟨xh, xb, xt, xf, xr⟩, prev, a, n, c⟩ h := by
    rw [← hw0]
    exact ⟨(((Below.refl _ _).alloc (Nat.le_refl _) _).alloc (by simp) _).alloc (by simp; omega) _, ((NN.Has.new _ _).alloc _).alloc _, (Has.new1 _ _ _).alloc _, Has.new2 _ _ _ _⟩
  clear hw0
  obtain ⟨bP, hbP⟩ : ∃ b, b = w.heap.size := ⟨_, rfl⟩
  obtain ⟨bA, hbA⟩ : ∃ b, b = w.heap.size + 1 := ⟨_, rfl⟩
  obtain ⟨bH, hbH⟩ : ∃ b, b = w.heap.size + 1 + 1 := ⟨_, rfl⟩
  rw [← hbH, ← hbA, ← hbP] at hs ⊢
  clear hbP hbA hbH
  have hH := hs.h
  go_wp2_with (first | fail | (with_reducible refine hd_load rfl _ rfl bH rfl hH za ?_))
  refine (KG.out _ hs.be).mono ?_
  rintro e v1 ⟨rfl, hb1⟩
  replace hs := hs.on hb1
  clear hb1
  clear hH
  have r1 := range_prev hs.h.range
  rw [Nat.zero_add] at r1
  have r5 := hs.a.prev
  have s1 := byteCells_32 ho.1
  have s5 := byteCells_32 hp32
  go_upto_region 5 with (first | (with_reducible refine hl_load_mid rfl _ rfl bH 1 rfl h.prev r1 s1 ?_) | (with_reducible refine hl_load_mid rfl _ rfl bA 5 rfl prev r5 s5 ?_) | (with_reducible refine hneq_g (by with_unfolding_all rfl) _ _ _ rfl _ _ _ rfl rfl qn ?_))
  clear r1 r5 s1 s5 qn
  have qb : ∀ d os, (Sort.grow (redrawn v1 d) os).cell? ⟨bH, 66, none⟩ = some (.int .i64 hb) := cell_regrown (by rw [← eb.out]; exact hs.h.bits ho)
  have qt : ∀ d os, (Sort.grow (redrawn v1 d) os).cell? ⟨bH, 65, none⟩ = some (.int .i64 ht) := cell_regrown (by rw [← et.out]; exact hs.h.time ho)
  have qp := hs.p.cls
  have qx := range_cls hs.a.pt (show 0 < 5 by decide)
  have hbr : ∀ d os, Below w.heap.size w (Sort.grow (redrawn v1 d) os) := fun d os => hs.be.trans ((below_regrown v1 d os).mono hs.be.size)
  refine wp_region_quiet_below (by kernel_rfl) (by kernel_rfl) ?_
  repeat (first
    | (go_big_quiet_want; (with_reducible refine NN.quiet_load_pr _ rfl _ rfl hz qp ?_); (simp only [Act.put, List.setIfInBounds_toArray, List.set_cons_zero, List.set_cons_succ]); go_big_quiet_on)
    | (go_big_quiet_want; (with_reducible refine quiet_pt _ rfl bA rfl ⟨xh, xb, xt, xf, xr⟩ qx ?_); (simp only [Act.put, List.setIfInBounds_toArray, List.set_cons_zero, List.set_cons_succ]); go_big_quiet_on)
    | go_big_quiet_step (first | (go_at_call 17; exact Calls.regrown_of (KN.out _ (hbr _ _)))))
  refine wpQuiet_nil ?_
  intro v2 hw'
  obtain ⟨rg, hw''⟩ := hw'
  have hb2 : Below v1.heap.size v1 v2 := by rw [hw'']; exact below_regrown v1 rg.d rg.os
  clear hw'' hbr
  replace hs := hs.on hb2
  clear hb2
  clear qb qt qp qx
  have hH := hs.h
  have hP := hs.p
  go_wp2_with (first | fail | (with_reducible refine hd_load rfl _ rfl bH rfl hH za ?_) | (with_reducible refine NN.pr_load rfl _ rfl _ rfl hP hz ?_))
  refine (KW.out _ hs.be).mono ?_
  rintro e v3 ⟨rfl, hb3⟩
  replace hs := hs.on hb3
  clear hb3
  clear hH hP
  have cT : v3.cell? ⟨bH, 65, none⟩ = some (.int .i64 ht) := by rw [← et.out]; exact hs.h.time ho
  have cS := hs.a.sl so
  go_wp2_with (first | fail)
  refine (KL.out _ hs.be).mono ?_
  rintro e v4 ⟨rfl, hb4⟩
  replace hs := hs.on hb4
  clear hb4
  clear cT cS
  have cT : v4.cell? ⟨bH, 65, none⟩ = some (.int .i64 ht) := by rw [← et.out]; exact hs.h.time ho
  have c3 := hs.p.c3 e3
  go_wp2_with (first | fail)
  refine (KE.out _ hs.be).mono ?_
  rintro e v5 ⟨rfl, hb5⟩
  replace hs := hs.on hb5
  clear hb5
  clear cT c3
  go_upto_region 13 with fail
  have qv : ∀ d os, (Sort.grow (redrawn v5 d) os).cell? ⟨bH, 0, none⟩ = some (.int .i64 hv) := cell_regrown (by rw [← ev.out]; exact hs.h.v)
  have qh : ∀ d os, (Sort.grow (redrawn v5 d) os).cell? ⟨bA, 0, none⟩ = some (.int .i64 xh) := cell_regrown (hs.a.c0 (Lib.hid rfl))
  have qg : ∀ d os, (Sort.grow (redrawn v5 d) os).cell? ⟨bP, 5, none⟩ = some (.slice ga gn gc) := cell_regrown (P5.out _ _ hs.p)
  have hbr : ∀ d os, Below w.heap.size w (Sort.grow (redrawn v5 d) os) := fun d os => hs.be.trans ((below_regrown v5 d os).mono hs.be.size)
  refine wp_region_quiet_below (by kernel_rfl) (by kernel_rfl) ?_
  repeat (first
    | go_big_quiet_step (first | (go_at_call 21; exact Calls.regrown_of (KV.out _ (hbr _ _)))))
  refine wpQuiet_nil ?_
  intro v6 hw'
  obtain ⟨rg, hw''⟩ := hw'
  have hb6 : Below v5.heap.size v5 v6 := by rw [hw'']; exact below_regrown v5 rg.d rg.os
  clear hw'' hbr
  replace hs := hs.on hb6
  clear hb6
  clear qv qh qg
  go_upto_region 15 with fail
  have qh : ∀ d os, (Sort.grow (redrawn v6 d) os).cell? ⟨bA, 0, none⟩ = some (.int .i64 xh) := cell_regrown (hs.a.c0 (Lib.hid rfl))
  have qc : ∀ d os, (Sort.grow (redrawn v6 d) os).cell? ⟨bP, 6, none⟩ = some (.slice ca cn cc) := cell_regrown (P6.out _ _ hs.p)
  have qd := range_cls hs.h.range (hdC_pos h)
  have sd := hdC_length ho
  have hbr : ∀ d os, Below w.heap.size w (Sort.grow (redrawn v6 d) os) := fun d os => hs.be.trans ((below_regrown v6 d os).mono hs.be.size)
  refine wp_region_quiet_below (by kernel_rfl) (by kernel_rfl) ?_
  repeat (first
    | (go_big_quiet_want; (with_reducible refine quiet_hd_mid _ rfl bH 0 rfl h sd qd ?_); (simp only [Act.put, List.setIfInBounds_toArray, List.set_cons_zero, List.set_cons_succ]); go_big_quiet_on)
    | go_big_quiet_step (first | (go_at_call 23; exact Calls.regrown_of (KI.out _ (hbr _ _))) | (go_at_call 22; exact Calls.regrown_of (KT.out _ (hbr _ _)))))
  refine wpQuiet_nil ?_
  intro v7 hw'
  obtain ⟨rg, hw''⟩ := hw'
  have hb7 : Below v6.heap.size v6 v7 := by rw [hw'']; exact below_regrown v6 rg.d rg.os
  clear hw'' hbr
  replace hs := hs.on hb7
  clear hb7
  clear qh qc qd sd
  go_wp2_with fail
  go_ret
  exact ⟨rfl, hs.be⟩
/-- isn't a time too far ahead of a clock? -/
def nearB (t now fut : Int) : Bool := decide (0 ≤ fut) && decide (IntKind.i64.wrap (t - now) ≤ fut)
/-- the number of what is wrong with a header at a spot -/
def chk (p : NN.Pr) (gs : List Gt) (cs : List Ck) (q : Ps) (h : Hd) (now : Int) : Int :=
  if ¬ h.P then 1 else if ¬ h.prev = q.prev then 2 else if ¬ h.bits = NN.nx p q.x h.time then 3 else if wkd p.lim h = false then 4 else if MM.late h.time q.ts = false then 5 else if nearB h.time now p.fut = false then 6 else if h.v < vers q.x.h gs then 7 else if trk q.x.h h.id cs = false then 8 else 0
theorem check_at (p : NN.Pr) (hp : p.ok) (t : Tl) (tt : p.tl = t.C) (gs : List Gt) (cs : List Ck) (hgn : t.gn = gs.length) (hcn : t.cn = cs.length) (hgl : t.gn ≤ 1000) (hcl : t.cn ≤ 1000) (s : Sp) (q : Ps) (e1 : s.x = q.x) (e2 : s.prev = q.prev) (e3 : q.ts.length = s.n) (e4 : s.n ≤ s.c) (e5 : q.prev.length = 32) (e6 : s.n ≤ 1000) (h : Hd) (ho : h.ok) (now : Int) (w : World) (hT : Tab w) (hL : MM.Lie w 0 w.heap.size s.a q.ts) (hG : GatesAt w t.ga gs) (hC : ChecksAt w t.ca cs) :
    Calls Tryz.prog 9 #[.agg (NN.prA p), .agg (spA s), .agg (hdA h), .int .i64 now] w fun e w' => e = .returned (.int .i64 (chk p gs cs q h now)) ∧ Below w.heap.size w w' := by
  obtain ⟨x, prev, ts⟩ := q
  obtain ⟨x', prev', a, n, c⟩ := s
  simp only at e1 e2 e3 e4 e5 e6 hL
  subst e1 e2
  obtain ⟨xh, xb, xt, xf, xr⟩ := x'
  have hz := NN.prA_size hp
  have hTb : ∀ w', Below w.heap.size w w' → Tab w' := fun w' hb => hT.below hb
  have KG : ∀ g, decide h.P = g → Hid (∀ w', Below w.heap.size w w' → Calls Tryz.prog 16 #[.agg (hdA h)] w' fun e w'' => e = .returned (.bool g) ∧ Below w'.heap.size w' w'') := fun g hg => Lib.hid fun w' _ => by rw [← hg]; exact good_at h ho w'
  have KN : Hid (∀ w', Below w.heap.size w w' → Calls Tryz.prog 17 #[.agg (NN.prA p), .agg (NN.ptA ⟨xh, xb, xt, xf, xr⟩), .int .i64 h.time] w' fun e w'' => e = .returned (.int .i64 (NN.nx p ⟨xh, xb, xt, xf, xr⟩ h.time)) ∧ Below w'.heap.size w' w'') := Lib.hid fun w' _ => NN.next_at p hp _ _ w'
  have KW : ∀ g, wkd p.lim h = g → Hid (∀ w', Below w.heap.size w w' → Calls Tryz.prog 18 #[.agg (NN.prA p), .agg (hdA h)] w' fun e w'' => e = .returned (.bool g) ∧ Below w'.heap.size w' w'') := fun g hg => Lib.hid fun w' hb => worked_at p h ho g hg w' (hTb w' hb)
  have KL : ∀ g, MM.late h.time ts = g → Hid (∀ w', Below w.heap.size w w' → Calls Tryz.prog 19 #[.int .i64 h.time, .slice a n c] w' fun e w'' => e = .returned (.bool g) ∧ Below w'.heap.size w' w'') := fun g hg => Lib.hid fun w' hb => by rw [← hg]; exact MM.late_at h.time a n c 0 w.heap.size ts e3 e4 (by omega) w' (hL.below hb (Nat.le_refl _))
  have KE : ∀ g, nearB h.time now p.fut = g → Hid (∀ w', Below w.heap.size w w' → Calls Tryz.prog 20 #[.int .i64 h.time, .int .i64 now, .int .i64 p.fut] w' fun e w'' => e = .returned (.bool g) ∧ Below w'.heap.size w' w'') := fun g hg => Lib.hid fun w' _ => (MM.near_at h.time now p.fut _ rfl w').mono (fun e w'' ⟨h1, h2⟩ => ⟨by rw [h1, ← hg]; rfl, by rw [h2]; exact Below.refl _ _⟩)
  have KV : Hid (∀ w', Below w.heap.size w w' → Calls Tryz.prog 21 #[.int .i64 xh, .slice t.ga t.gn t.gc] w' fun e w'' => e = .returned (.int .i64 (vers xh gs)) ∧ Below w'.heap.size w' w'') := Lib.hid fun w' hb => version_at xh t.ga gs t.gn t.gc hgn (by omega) w' (hG.below hb) _ rfl
  have KI : Hid (∀ w', Below w.heap.size w w' → Calls Tryz.prog 23 #[.agg (hdA h)] w' fun e w'' => e = .returned (.agg (bytesV h.id)) ∧ Below w'.heap.size w' w'') := Lib.hid fun w' hb => id_at h ho w' (hTb w' hb)
  have KT : ∀ g, trk xh h.id cs = g → Hid (∀ w', Below w.heap.size w w' → Calls Tryz.prog 22 #[.int .i64 xh, .agg (bytesV h.id), .slice t.ca t.cn t.cc] w' fun e w'' => e = .returned (.bool g) ∧ Below w'.heap.size w' w'') := fun g hg => Lib.hid fun w' hb => tracked_at xh h.id (id_length h) t.ca cs t.cn t.cc hcn (by omega) w' (hC.below hb) g hg
  unfold chk
  simp only
  by_cases h0 : h.P
  · rw [if_neg (by simpa using h0)]
    have KG1 := KG true (decide_eq_true h0)
    by_cases h1 : h.prev = prev'
    · rw [if_neg (by simpa using h1)]
      have t1 : (!(h.prev == prev')) = false := by simp [h1]
      by_cases h2 : h.bits = NN.nx p ⟨xh, xb, xt, xf, xr⟩ h.time
      · rw [if_neg (by simpa using h2)]
        have t2 : (h.bits == NN.nx p ⟨xh, xb, xt, xf, xr⟩ h.time) = true := by simpa using h2
        cases h3 : wkd p.lim h
        · rw [if_pos rfl]
          exact check_work p hz xh xb xt xf xr prev' e5 a n c h ho now w KG1 t1 h.bits h.time _ (Lib.hid rfl) (Lib.hid rfl) KN t2 (KW false h3)
        · rw [if_neg (by simp)]
          cases h4 : MM.late h.time ts
          · rw [if_pos rfl]
            exact check_old p hz xh xb xt xf xr prev' e5 a n c h ho now w KG1 t1 h.bits h.time _ (Lib.hid rfl) (Lib.hid rfl) KN t2 (KW true h3) (KL false h4)
          · rw [if_neg (by simp)]
            cases h5 : nearB h.time now p.fut
            · rw [if_pos rfl]
              exact check_new p hz xh xb xt xf xr prev' e5 a n c h ho now w KG1 t1 h.bits h.time _ (Lib.hid rfl) (Lib.hid rfl) KN t2 (KW true h3) (KL true h4) p.fut (Lib.hid rfl) (KE false h5)
            · rw [if_neg (by simp)]
              by_cases h6 : h.v < vers xh gs
              · rw [if_pos h6]
                exact check_version p hz xh xb xt xf xr prev' e5 a n c h ho now w KG1 t1 h.bits h.time _ (Lib.hid rfl) (Lib.hid rfl) KN t2 (KW true h3) (KL true h4) p.fut (Lib.hid rfl) (KE true h5) t (Lib.hid tt) h.v _ (Lib.hid rfl) KV (decide_eq_true h6)
              · rw [if_neg h6]
                cases h7 : trk xh h.id cs
                · rw [if_pos rfl]
                  exact check_track p hz xh xb xt xf xr prev' e5 a n c h ho now w KG1 t1 h.bits h.time _ (Lib.hid rfl) (Lib.hid rfl) KN t2 (KW true h3) (KL true h4) p.fut (Lib.hid rfl) (KE true h5) t (Lib.hid tt) h.v _ (Lib.hid rfl) KV (decide_eq_false h6) h.id KI (KT false h7)
                · rw [if_neg (by simp)]
                  exact check_fine p hz xh xb xt xf xr prev' e5 a n c h ho now w KG1 t1 h.bits h.time _ (Lib.hid rfl) (Lib.hid rfl) KN t2 (KW true h3) (KL true h4) p.fut (Lib.hid rfl) (KE true h5) t (Lib.hid tt) h.v _ (Lib.hid rfl) KV (decide_eq_false h6) h.id KI (KT true h7)
      · rw [if_pos h2]
        exact check_bits p hz xh xb xt xf xr prev' e5 a n c h ho now w KG1 t1 h.bits h.time _ (Lib.hid rfl) (Lib.hid rfl) KN (by simpa using h2)
    · rw [if_pos h1]
      exact check_elsewhere p xh xb xt xf xr prev' e5 a n c h ho now w KG1 (by simp [h1])
  · rw [if_pos h0]
    exact check_none p xh xb xt xf xr prev' e5 a n c h ho now w (KG false (decide_eq_false h0))
end Go.Proofs.YtpophaejeklaoaaGreatDoor
/-
  Layer 11's laws: what the document tells, first.
-/
namespace Go.Proofs.YtpophaejeklaoaaGreatDoor
open Go.RowKit Mem Sc NN.Rg2
section
variable {w : World} {ops : Array Oper} {rest : List Oper} {o o2 o3 : Oper} {a : Act} {Q : Exit → Act → World → Prop}
theorem hd_load_mid_g (hw : Region.wanted o (yielded ops a.tmps) = true) (x : Operand) (ho : o.op = .load 30 x) (g off : Nat) (hx : a.eval x = .pointer (some ⟨g, off, none⟩)) (h : Hd) (hg : w.rangeAt g off (hdC h)) (hs : (hdC h).length = 68)
    (hk : wpList Tryz.prog ops Q rest (a.put o.dst (.agg (hdA h))) w) : wpList Tryz.prog ops Q (o :: rest) a w :=
  BigFrame.wpList_want hw fun _ hK => by
    unfold Oper.wp execOp
    simp only [ho, hx, Sem.run_bind, run_loadAt_mid w g off 30 (hdC h) _ hg Tryz.underlying30 rfl (hdinfo.trans (by rw [hs])), Result.andThen_ok]
    exact hK _ _ hk
/-- the header that the document tells of -/
def hd5 : Hd := ⟨0, z32, z32, 5, 545259519, 0⟩
theorem built_hd5 : Tryz.prog.built 30 [(4, .int .i64 545259519), (3, .int .i64 5)] = some (hdA hd5) := by kernel_rfl
theorem ex_alloc_hd {ρ : Operand → Value} {o : Oper} {w : World} (ho : o.op = .alloc 30) : (execOp ρ o).run Tryz.prog w = .ok (.value (.pointer (some ⟨w.heap.size, 0, none⟩))) (w.alloc (.cells (hdA hdZ) 30)) := by
  unfold execOp
  simp only [ho]
  kernel_rfl
theorem hd5_make (h1 : o.guard = none) (b1 : o.op = .build 30 #[(4, .const (.int .i64 545259519)), (3, .const (.int .i64 5))]) (h2 : o2.guard = none) (b2 : o2.op = .alloc 30) (h3 : o3.guard = none) (y z : Operand) (b3 : o3.op = .store 30 y z)
    (X : Nat) (hX : w.heap.size = X)
    (hy : ((a.put o.dst (.agg (hdA hd5))).put o2.dst (.pointer (some ⟨X, 0, none⟩))).eval y = .pointer (some ⟨X, 0, none⟩)) (hz : ((a.put o.dst (.agg (hdA hd5))).put o2.dst (.pointer (some ⟨X, 0, none⟩))).eval z = .agg (hdA hd5))
    (hk : ∀ w', HdAt w' X hd5 → Below w.heap.size w w' → wpList Tryz.prog ops Q rest (((a.put o.dst (.agg (hdA hd5))).put o2.dst (.pointer (some ⟨X, 0, none⟩))).put o3.dst undef) w') : wpList Tryz.prog ops Q (o :: o2 :: o3 :: rest) a w := by
  subst hX
  refine wpList_plain h1 fun _ hK => ?_
  unfold Oper.wp execOp
  simp only [b1, Sem.run_bind]
  rw [show (#[(4, .const (.int .i64 545259519)), (3, .const (.int .i64 5))] : Array (Nat × Operand)).map (fun (i, x) => (i, a.eval x)) = #[(4, .int .i64 545259519), (3, .int .i64 5)] by simp [Act.eval], run_build w 30 _ _ built_hd5]
  refine hK _ _ (wpList_plain h2 fun _ hK2 => ?_)
  unfold Oper.wp
  rw [ex_alloc_hd b2]
  refine hK2 _ _ ?_
  have hn := hd_new w hdZ
  exact hd_store h3 y z b3 w.heap.size _ hd5 hy hz rfl rfl hn rfl (hk _ (Has.row hn _) (below_setRow ((Below.refl _ _).alloc (Nat.le_refl _) _) (Nat.le_refl _) _))
end
/-! ### Good -/
set_option maxRecDepth 100000 in
set_option maxHeartbeats 400000 in
theorem gatesRise_nil (a : Option Addr) (c : Nat) (w : World) : Calls Tryz.prog 32 #[.slice a 0 c] w fun r w' => r = .returned (.bool true) ∧ Below w.heap.size w w' := by
  go_enter Tryz.func32, Tryz.ntmps32
  go_wp2_with fail
  go_loopw [8] (fun i wr => i = .int .i64 0 ∧ Below w.heap.size w wr) (fun _ _ => 0)
  case atStart => exact ⟨rfl, Below.refl _ _⟩
  case round =>
    obtain ⟨rfl, hB⟩ := hrel
    go_wp2_with fail
    go_ret
    exact ⟨rfl, hB⟩
set_option maxRecDepth 100000 in
set_option maxHeartbeats 400000 in
theorem checksRise_nil (a : Option Addr) (c : Nat) (w : World) : Calls Tryz.prog 33 #[.slice a 0 c] w fun r w' => r = .returned (.bool true) ∧ Below w.heap.size w w' := by
  go_enter Tryz.func33, Tryz.ntmps33
  go_wp2_with fail
  go_loopw [8] (fun i wr => i = .int .i64 0 ∧ Below w.heap.size w wr) (fun _ _ => 0)
  case atStart => exact ⟨rfl, Below.refl _ _⟩
  case round =>
    obtain ⟨rfl, hB⟩ := hrel
    go_wp2_with fail
    go_ret
    exact ⟨rfl, hB⟩
set_option maxRecDepth 100000 in
set_option maxHeartbeats 1000000 in
theorem rgood_nil (p : NN.Pr) (hz : (NN.prA p).size = 83) (t : Tl) (tt : p.tl = t.C) (ht : t.ok) (h1 : t.gn = 0) (h2 : t.cn = 0) (KP : Hid (∀ w, Calls Tryz.prog 31 #[.agg (NN.prA p)] w fun e w' => e = .returned (.bool true) ∧ Below w.heap.size w w')) (KH : Hid (∀ w, Calls Tryz.prog 16 #[.agg (hdA t.g)] w fun e w' => e = .returned (.bool true) ∧ Below w.heap.size w w')) (w : World) :
    Calls Tryz.prog 14 #[.agg (NN.prA p)] w fun e w' => e = .returned (.bool true) ∧ Below w.heap.size w w' := by
  have s1 := hdC_length ht.2
  obtain ⟨ga, gn, gc, ca, cn, cc, nn, g⟩ := t
  simp only at h1 h2
  subst h1 h2
  have HTT := Lib.hid tt
  have HT := Lib.hid ht
  clear tt ht
  go_enter Tryz.func14, Tryz.ntmps14
  go_upto_region 1 with fail
  generalize hw0 : World.alloc _ _ = v0
  have hB : Below w.heap.size w v0 := by rw [← hw0]; exact (Below.refl _ _).alloc (Nat.le_refl _) _
  have hP : NN.PrAt v0 w.heap.size p := by rw [← hw0]; exact NN.Has.new _ _
  clear hw0
  obtain ⟨bP, hbP⟩ : ∃ b, b = w.heap.size := ⟨_, rfl⟩
  rw [← hbP] at hP ⊢
  clear hbP
  go_wp2_with (first | fail | (with_reducible refine NN.pr_load rfl _ rfl _ rfl hP hz ?_))
  refine (KP.out _).mono ?_
  rintro e v1 ⟨rfl, hb⟩
  replace hP := hP.on hb
  replace hB := hB.trans (hb.mono hB.size)
  clear hb
  have r15 := pr_gen hP HTT.out HT.out
  go_wp2_with (first | fail | (with_reducible refine hd_load_mid_g (by with_unfolding_all rfl) _ rfl bP 15 rfl g r15 s1 ?_))
  refine (KH.out _).mono ?_
  rintro e v2 ⟨rfl, hb⟩
  replace hP := hP.on hb
  replace hB := hB.trans (hb.mono hB.size)
  clear hb r15
  have c5 : v2.cell? ⟨bP, 5, none⟩ = some (.slice ga 0 gc) := pr_gates hP HTT.out
  go_wp2_with fail
  refine (gatesRise_nil ga gc v2).mono ?_
  rintro e v3 ⟨rfl, hb⟩
  replace hP := hP.on hb
  replace hB := hB.trans (hb.mono hB.size)
  clear hb c5
  have c6 : v3.cell? ⟨bP, 6, none⟩ = some (.slice ca 0 cc) := pr_checks hP HTT.out
  go_wp2_with fail
  refine (checksRise_nil ca cc v3).mono ?_
  rintro e v4 ⟨rfl, hb⟩
  replace hB := hB.trans (hb.mono hB.size)
  go_wp2_with fail
  go_ret
  exact ⟨rfl, hB⟩
def tlN : Tl := ⟨none, 0, 0, none, 0, 0, List.replicate 8 (.int .u64 0), hdZ⟩
theorem tlN_is : NN.prL.tl = tlN.C := rfl
theorem tlN_ok : tlN.ok := ⟨rfl, hdZ_ok⟩
theorem id_not : ¬ z32 = hdZ.id := by decide +kernel
theorem duty_call_ex {P : Program} {ops : Array Oper} {o : Oper} {a : Act} {w : World} {Q : Exit → Act → World → Prop} {C : World → Prop} {S : World → World → Prop} {R : Value → World → Prop} {J : Act → World → Prop} {V : Value → Prop} {f : FuncId} {args : Array Value} (hn : Region.wanted o (yielded ops a.tmps) = true) (h : (execOp a.eval o).run P w = .ok (.enter f args) w) (hcall : Calls P f args w fun e w' => ∃ v, e = .returned v ∧ V v ∧ Below w.heap.size w w')
    (hr : ∀ v w', V v → Below w.heap.size w w' → C w' ∧ S w w' ∧ R v w' ∧ J (a.put o.dst v) w') :
    if Region.wanted o (yielded ops a.tmps) = true then o.wp P a w (fun a' w' => C w' ∧ S w w' ∧ ∃ v, a' = a.put o.dst v ∧ R v w' ∧ J a' w') Q else R undef w ∧ J (a.put o.dst undef) w := by
  rw [if_pos hn]
  unfold Oper.wp
  rw [h]
  refine Calls.mono hcall fun e w' he => ?_
  obtain ⟨v, rfl, hv, hb⟩ := he
  obtain ⟨h1, h2, h3, h4⟩ := hr v w' hv hb
  exact ⟨h1, h2, v, rfl, h3, h4⟩
theorem ex_eq2 {ρ : Operand → Value} {o : Oper} {w : World} {x y : Operand} (ho : o.op = .binOp .eql 37 x y 37) (hx : ρ x = .int .i64 2) (hy : ρ y = .int .i64 2) : (execOp ρ o).run Tryz.prog w = .ok (.value (.bool true)) w := by
  unfold execOp
  simp only [ho, hx, hy]
  kernel_rfl
def AlR (p : NN.Pr) (h : Hd) (id : List UInt8) : Nat → Value → Prop
  | 0, v => v = .agg (NN.prA p)
  | 1, v => v = .bool true
  | 2, v => v = .bool true
  | 3, v => v = .agg (NN.prA p)
  | 4, v => v = .agg (NN.prA p)
  | 5, v => ∃ s : Sp, v = .agg (spA s) ∧ s.prev = id
  | 6, v => v = .agg (hdA h)
  | 7, v => v = .int .i64 2
  | 8, v => v = .bool true
  | 9, v => v = .bool true
  | 10, v => v = .bool true
  | _, _ => True
set_option maxRecDepth 100000 in
set_option maxHeartbeats 2000000 in
theorem alive_w (p : NN.Pr) (hz : (NN.prA p).size = 83) (h : Hd) (ho : h.ok) (id : List UInt8) (ep : p = NN.prL) (eh : h = hd5) (KG : Hid (∀ w, Calls Tryz.prog 14 #[.agg (NN.prA p)] w fun e w' => e = .returned (.bool true) ∧ Below w.heap.size w w'))
    (KB : Hid (∀ w, Tab w → Calls Tryz.prog 15 #[.agg (NN.prA p)] w fun r w' => ∃ v, r = .returned v ∧ (∃ s : Sp, v = .agg (spA s) ∧ s.prev = id) ∧ Below w.heap.size w w'))
    (KC : Hid (∀ s : Sp, s.prev = id → ∀ w, Calls Tryz.prog 9 #[.agg (NN.prA p), .agg (spA s), .agg (hdA h), .int .i64 9] w fun e w' => e = .returned (.int .i64 2) ∧ Below w.heap.size w w')) (w : World) (hT : Tab w) :
    Calls Tryz.prog 6 #[] w fun e w' => e = .returned (.bool true) ∧ Below w.heap.size w w' := by
  have za := hdA_size ho
  have HTb := Lib.hid (fun w' (hb : Below w.heap.size w w') => hT.below hb)
  clear hT
  go_enter Tryz.func6, Tryz.ntmps6
  go_upto_region 1 with fail
  refine wp_region_lit ?_
  refine NN.pr_make rfl rfl rfl rfl rfl _ _ rfl w.heap.size rfl rfl rfl ?_
  intro v0 hP hB
  simp only [Act.put, List.setIfInBounds_toArray, List.set_cons_zero, List.set_cons_succ]
  rw [← ep] at hP ⊢
  go_upto_region 2 with fail
  refine wp_region_lit ?_
  refine hd5_make rfl rfl rfl rfl rfl _ _ rfl v0.heap.size rfl rfl rfl ?_
  intro v1 hH hb
  simp only [Act.put, List.setIfInBounds_toArray, List.set_cons_zero, List.set_cons_succ]
  rw [← eh] at hH ⊢
  replace hP := hP.on hb
  replace hB := hB.trans (hb.mono hB.size)
  obtain ⟨bP, hbP⟩ : ∃ b, b = w.heap.size := ⟨_, rfl⟩
  obtain ⟨bH, hbH⟩ : ∃ b, b = v0.heap.size := ⟨_, rfl⟩
  rw [← hbH] at hH ⊢
  rw [← hbP] at hP ⊢
  clear hbP hbH hb ep eh
  go_upto_region 3 with fail
  refine wp_region_inv (by kernel_rfl) (fun w' => Below v1.heap.size v1 w') (fun i v' _ => AlR p h id i v') (fun _ _ _ => True) (fun _ _ => True) (fun _ _ => trivial) (fun _ _ _ _ _ _ h => h) (by kernel_rfl) (Below.refl _ _).drew (fun _ _ => trivial) ?_ ?_
  · intro i o listed a wx ho' hn hdep hinv
    have hC := hinv.c
    have hi : i < 11 := (Array.getElem?_eq_some_iff.1 ho').1
    obtain rfl | rfl | rfl | rfl | rfl | rfl | rfl | rfl | rfl | rfl | rfl : i = 0 ∨ i = 1 ∨ i = 2 ∨ i = 3 ∨ i = 4 ∨ i = 5 ∨ i = 6 ∨ i = 7 ∨ i = 8 ∨ i = 9 ∨ i = 10 := by omega
    all_goals obtain rfl := Option.some.inj ho'
    · exact duty_value (C := fun w' => Below v1.heap.size v1 w') (S := fun _ _ => True) (R := fun v' _ => AlR p h id 0 v') (J := fun _ _ => True) (fun _ _ => trivial) hC (wanted_free rfl) (NN.ex_load_pr rfl (hinv.old' 1 (by kernel_rfl)) (hP.on hC) hz) rfl trivial
    · have e5 : a.eval (.tmp 5) = .agg (NN.prA p) := (hinv.got 0 _ 5 rfl (hdep ⟨0, .data⟩ (by simp) rfl) rfl)
      exact duty_call (C := fun w' => Below v1.heap.size v1 w') (S := fun _ _ => True) (R := fun v' _ => AlR p h id 1 v') (J := fun _ _ => True) (wanted_free rfl) (f := 14) (args := #[a.eval (.tmp 5)]) (by kernel_rfl) (by rw [e5]; exact KG.out wx) (fun w' hb => ⟨hC.trans (hb.mono hC.size), trivial, rfl, trivial⟩)
    · exact duty_value (C := fun w' => Below v1.heap.size v1 w') (S := fun _ _ => True) (R := fun v' _ => AlR p h id 2 v') (J := fun _ _ => True) (fun _ _ => trivial) hC (wanted_free rfl) (NN.ex_move rfl) (hinv.got 1 _ 6 rfl (hdep ⟨1, .data⟩ (by simp) rfl) rfl) trivial
    · exact duty_value (C := fun w' => Below v1.heap.size v1 w') (S := fun _ _ => True) (R := fun v' _ => AlR p h id 3 v') (J := fun _ _ => True) (fun _ _ => trivial) hC (wanted_of rfl (yielded_of (o := _) (d := 7) rfl rfl (hinv.got 2 _ 7 rfl (hdep ⟨2, .guard⟩ (by simp) rfl) rfl))) (NN.ex_load_pr rfl (hinv.old' 1 (by kernel_rfl)) (hP.on hC) hz) rfl trivial
    · exact duty_value (C := fun w' => Below v1.heap.size v1 w') (S := fun _ _ => True) (R := fun v' _ => AlR p h id 4 v') (J := fun _ _ => True) (fun _ _ => trivial) hC (wanted_of rfl (yielded_of (o := _) (d := 7) rfl rfl (hinv.got 2 _ 7 rfl (hdep ⟨2, .guard⟩ (by simp) rfl) rfl))) (NN.ex_load_pr rfl (hinv.old' 1 (by kernel_rfl)) (hP.on hC) hz) rfl trivial
    · have e9 : a.eval (.tmp 9) = .agg (NN.prA p) := (hinv.got 4 _ 9 rfl (hdep ⟨4, .data⟩ (by simp) rfl) rfl)
      exact duty_call_ex (V := fun v => ∃ s : Sp, v = .agg (spA s) ∧ s.prev = id) (C := fun w' => Below v1.heap.size v1 w') (S := fun _ _ => True) (R := fun v' _ => AlR p h id 5 v') (J := fun _ _ => True) (wanted_of rfl (yielded_of (o := _) (d := 7) rfl rfl (hinv.got 2 _ 7 rfl (hdep ⟨2, .guard⟩ (by simp) rfl) rfl))) (f := 15) (args := #[a.eval (.tmp 9)]) (by kernel_rfl) (by rw [e9]; exact KB.out wx (HTb.out wx (hB.trans (hC.mono hB.size)))) (fun v w' hv hb => ⟨hC.trans (hb.mono hC.size), trivial, hv, trivial⟩)
    · exact duty_value (C := fun w' => Below v1.heap.size v1 w') (S := fun _ _ => True) (R := fun v' _ => AlR p h id 6 v') (J := fun _ _ => True) (fun _ _ => trivial) hC (wanted_of rfl (yielded_of (o := _) (d := 7) rfl rfl (hinv.got 2 _ 7 rfl (hdep ⟨2, .guard⟩ (by simp) rfl) rfl))) (ex_load_hd rfl (hinv.old' 2 (by kernel_rfl)) (hH.on hC) za) rfl trivial
    · have e8 : a.eval (.tmp 8) = .agg (NN.prA p) := (hinv.got 3 _ 8 rfl (hdep ⟨3, .data⟩ (by simp) rfl) rfl)
      obtain ⟨s, e10, hs⟩ : ∃ s : Sp, a.eval (.tmp 10) = .agg (spA s) ∧ s.prev = id := (hinv.got 5 _ 10 rfl (hdep ⟨5, .data⟩ (by simp) rfl) rfl)
      have e11 : a.eval (.tmp 11) = .agg (hdA h) := (hinv.got 6 _ 11 rfl (hdep ⟨6, .data⟩ (by simp) rfl) rfl)
      exact duty_call (C := fun w' => Below v1.heap.size v1 w') (S := fun _ _ => True) (R := fun v' _ => AlR p h id 7 v') (J := fun _ _ => True) (wanted_of rfl (yielded_of (o := _) (d := 7) rfl rfl (hinv.got 2 _ 7 rfl (hdep ⟨2, .guard⟩ (by simp) rfl) rfl))) (f := 9) (args := #[a.eval (.tmp 8), a.eval (.tmp 10), a.eval (.tmp 11), .int .i64 9]) (by kernel_rfl) (by rw [e8, e10, e11]; exact KC.out s hs wx) (fun w' hb => ⟨hC.trans (hb.mono hC.size), trivial, rfl, trivial⟩)
    · exact duty_value (C := fun w' => Below v1.heap.size v1 w') (S := fun _ _ => True) (R := fun v' _ => AlR p h id 8 v') (J := fun _ _ => True) (fun _ _ => trivial) hC (wanted_of rfl (yielded_of (o := _) (d := 7) rfl rfl (hinv.got 2 _ 7 rfl (hdep ⟨2, .guard⟩ (by simp) rfl) rfl))) (ex_eq2 rfl (hinv.got 7 _ 12 rfl (hdep ⟨7, .data⟩ (by simp) rfl) rfl) rfl) rfl trivial
    · have e7 : a.eval (.tmp 7) = .bool true := (hinv.got 2 _ 7 rfl (hdep ⟨2, .data⟩ (by simp) rfl) rfl)
      have e13 : a.eval (.tmp 13) = .bool true := (hinv.got 8 _ 13 rfl (hdep ⟨8, .data⟩ (by simp) rfl) rfl)
      exact duty_value (C := fun w' => Below v1.heap.size v1 w') (S := fun _ _ => True) (R := fun v' _ => AlR p h id 9 v') (J := fun _ _ => True) (fun _ _ => trivial) hC (wanted_free rfl) (ex_pick rfl e7) (by rw [if_pos rfl]; exact e13) trivial
    · exact duty_value (C := fun w' => Below v1.heap.size v1 w') (S := fun _ _ => True) (R := fun v' _ => AlR p h id 10 v') (J := fun _ _ => True) (fun _ _ => trivial) hC (wanted_free rfl) (NN.ex_assign rfl) (hinv.got 9 _ 14 rfl (hdep ⟨9, .data⟩ (by simp) rfl) rfl) trivial
  intro listed a v2 hall hinv
  have hC := hinv.c
  have e0 : a.eval (.tmp 0) = .bool true := hinv.got 10 _ 0 rfl (hall 10 (by decide)) rfl
  replace hB := hB.trans (hC.mono hB.size)
  obtain ⟨u, hu⟩ : ∃ u : Nat → Value, ∀ t, u t = a.eval (.tmp t) := ⟨_, fun _ => rfl⟩
  rw [rl_frame a 15 u hinv.tsize hinv.defers hu]
  rw [← hu] at e0
  clear hu hinv hall hC hP hH
  show Exit.then _ _ _ (⟨#[u 0, u 1, u 2, u 3, u 4, u 5, u 6, u 7, u 8, u 9, u 10, u 11, u 12, u 13, u 14], []⟩ : Act) _
  rw [e0]
  clear e0
  go_wp2_with fail
  go_ret
  exact ⟨rfl, hB⟩
set_option maxRecDepth 100000 in
theorem alive11 (w : World) (hT : Tab w) : Calls Tryz.prog 6 #[] w fun e w' => e = .returned (.bool true) ∧ Below w.heap.size w w' := by
  have hpok : NN.prL.ok := NN.tlZ_ok _ _ _ _ _
  have hz := NN.prA_size hpok
  have kp := NN.pgood_at NN.prL
  rw [show NN.prL.good = true by decide +kernel] at kp
  have KG : Hid (∀ w, Calls Tryz.prog 16 #[.agg (hdA hdZ)] w fun e w' => e = .returned (.bool true) ∧ Below w.heap.size w w') := Lib.hid fun w => by have := good_at hdZ hdZ_ok w; rwa [decide_eq_true hdZ_P] at this
  have h5 : hd5.ok := ⟨rfl, rfl⟩
  have h5P : hd5.P := by decide
  refine alive_w NN.prL hz hd5 h5 hdZ.id rfl rfl (Lib.hid (rgood_nil NN.prL hz tlN tlN_is tlN_ok rfl rfl (Lib.hid kp) KG)) (Lib.hid fun w hT => ?_) (Lib.hid fun s hs w => ?_) w hT
  · refine (begin_at NN.prL hpok tlN tlN_is tlN_ok w hT).mono ?_
    rintro r w' ⟨s, rfl, _, hS, hb⟩
    exact ⟨_, rfl, ⟨s, rfl, hS.2.1⟩, hb⟩
  · obtain ⟨⟨xh, xb, xt, xf, xr⟩, prev, a, n, c⟩ := s
    simp only at hs
    subst hs
    exact check_elsewhere NN.prL xh xb xt xf xr hdZ.id (id_length _) a n c hd5 h5 9 w (Lib.hid fun w' _ => by have := good_at hd5 h5 w'; rwa [decide_eq_true h5P] at this) (by have := id_not; show (!(z32 == hdZ.id)) = true; simpa using this)
end Go.Proofs.YtpophaejeklaoaaGreatDoor
/-
  The laws' spot behind a row of headers; their bound.
-/
namespace Go.Proofs.YtpophaejeklaoaaGreatDoor
open Go.RowKit Mem Sc NN.Rg2
set_option maxRecDepth 100000 in
set_option maxHeartbeats 1000000 in
theorem great_w (p : NN.Pr) (t : Tl) (et : p.tl = t.C) (n : Nat) (a : Option Addr) (c : Nat) (gn cn : Nat) (eg : t.gn = gn) (ec : t.cn = cn) (g1 g2 g3 : Bool) (h1 : decide ((20 : Int) < (gn : Int)) = g1) (h2 : decide ((20 : Int) < (cn : Int)) = g2) (h3 : decide ((40 : Int) < (n : Int)) = g3) (w : World) :
    Calls Tryz.prog 7 #[.agg (NN.prA p), .slice a n c] w fun r w' => r = .returned (.bool (g1 || g2 || g3)) ∧ Below w.heap.size w w' := by
  have hP : NN.PrAt (w.alloc (.cells (NN.prA p) 32)) w.heap.size p := NN.pr_new w p
  have hB : Below w.heap.size w (w.alloc (.cells (NN.prA p) 32)) := (Below.refl _ _).alloc (Nat.le_refl _) _
  have c5 := pr_gates hP et
  have c6 := pr_checks hP et
  rw [eg] at c5
  rw [ec] at c6
  generalize t.ga = ga at *
  generalize t.gc = gc at *
  generalize t.ca = ca at *
  generalize t.cc = cc at *
  clear hP et eg ec
  cases g1
  · cases g2
    · cases g3
      all_goals
        go_enter Tryz.func7, Tryz.ntmps7
        go_wp2_with fail
        go_ret
        exact ⟨rfl, hB⟩
    · go_enter Tryz.func7, Tryz.ntmps7
      go_wp2_with fail
      go_ret
      exact ⟨rfl, hB⟩
  · go_enter Tryz.func7, Tryz.ntmps7
    go_wp2_with fail
    go_ret
    exact ⟨rfl, hB⟩
theorem great_is (p : NN.Pr) (t : Tl) (et : p.tl = t.C) (n : Nat) (a : Option Addr) (c : Nat) (g : Bool) (hg : (decide (20 < t.gn) || decide (20 < t.cn) || decide (40 < n)) = g) (w : World) :
    Calls Tryz.prog 7 #[.agg (NN.prA p), .slice a n c] w fun r w' => r = .returned (.bool g) ∧ Below w.heap.size w w' := by
  rw [← hg]
  refine great_w p t et n a c _ _ rfl rfl _ _ _ ?_ ?_ ?_ w
  · exact decide_eq_decide.2 (by omega)
  · exact decide_eq_decide.2 (by omega)
  · exact decide_eq_decide.2 (by omega)
set_option maxRecDepth 100000 in
set_option maxHeartbeats 2000000 in
theorem spot_at (p : NN.Pr) (hp : p.ok) (t : Tl) (et : p.tl = t.C) (ht : t.ok) (a : Option Addr) (hs : List Hd) (n c : Nat) (hn : n = hs.length) (hl : n ≤ 40) (w : World) (hT : Tab w) (hA : HeadersAt w a hs) :
    Calls Tryz.prog 10 #[.agg (NN.prA p), .slice a n c] w fun r w' => ∃ s, r = .returned (.agg (spA s)) ∧ (spA s).size = 38 ∧ SpIs w' w.heap.size s (way p t.g hs n) ∧ Below w.heap.size w w' := by
  have hz := NN.prA_size hp
  have z0 := spA_size spZ_ok
  have KG := Lib.hid (fun w' (hb : Below w.heap.size w w') => begin_at p hp t et ht w' (hT.below hb))
  have HP := Lib.hid hp
  have HN := Lib.hid hn
  have HA := Lib.hid hA
  have HTb := Lib.hid (fun w' (hb : Below w.heap.size w w') => hT.below hb)
  clear hn hA et ht hp hT
  go_enter Tryz.func10, Tryz.ntmps10
  go_upto_region 1 with fail
  generalize hw0 : World.alloc _ _ = v0
  have hB0 : Below w.heap.size w v0 := by rw [← hw0]; exact ((Below.refl _ _).alloc (Nat.le_refl _) _).alloc (by simp) _
  have hP0 : NN.PrAt v0 w.heap.size p := by rw [← hw0]; exact (NN.Has.new _ _).alloc _
  have hR0 : SpAt v0 (w.heap.size + 1) spZ := by rw [← hw0]; exact Has.new1 _ (spA spZ) _
  clear hw0
  obtain ⟨bP, hbP⟩ : ∃ b, b = w.heap.size := ⟨_, rfl⟩
  obtain ⟨bR, hbR⟩ : ∃ b, b = w.heap.size + 1 := ⟨_, rfl⟩
  rw [← hbR] at hR0 ⊢
  rw [← hbP] at hP0 ⊢
  have HBR : Hid (w.heap.size ≤ bR) := Lib.hid (by omega)
  clear hbR hbP
  go_wp2_with (first | fail | (with_reducible refine NN.pr_load rfl _ rfl _ rfl hP0 hz ?_))
  refine (KG.out v0 hB0).mono ?_
  rintro r v1 ⟨s, rfl, zs, hS, hb1⟩
  have hP1 := hP0.on hb1
  have hR1 := hR0.on hb1
  have hB1 := hB0.trans (hb1.mono hB0.size)
  have hnew := sp_newz v1
  have hb2 : Below v1.heap.size v1 ((v1.alloc (.cells #[.int .i64 0, .int .i64 0, .int .i64 0, .int .i64 0, .int .i64 0, .int .u8 0, .int .u8 0, .int .u8 0, .int .u8 0, .int .u8 0, .int .u8 0, .int .u8 0, .int .u8 0, .int .u8 0, .int .u8 0, .int .u8 0, .int .u8 0, .int .u8 0, .int .u8 0, .int .u8 0, .int .u8 0, .int .u8 0, .int .u8 0, .int .u8 0, .int .u8 0, .int .u8 0, .int .u8 0, .int .u8 0, .int .u8 0, .int .u8 0, .int .u8 0, .int .u8 0, .int .u8 0, .int .u8 0, .int .u8 0, .int .u8 0, .int .u8 0, .slice none 0 0] 43)).setRow v1.heap.size (spA s)) := below_setRow ((Below.refl _ _).alloc (Nat.le_refl _) _) (Nat.le_refl _) _
  go_upto_region 2 with (with_reducible refine sp_store rfl _ _ rfl _ _ s rfl rfl rfl zs hnew z0 ?_)
  generalize hw2 : World.setRow _ _ _ = v2
  rw [hw2] at hb2
  have hS2 : SpAt v2 v1.heap.size s := by rw [← hw2]; exact Has.row hnew _
  have hP2 := hP1.on hb2
  have hR2 := hR1.on hb2
  have hB2 := hB1.trans (hb2.mono hB1.size)
  have hI2 : SpIs v2 (bR + 1) s (bgn p t.g) := (hS.on hb2).wide hR0.lt
  have hRl := hR1.lt
  have hPl := hP1.lt
  obtain ⟨bS, hbS⟩ : ∃ b, b = v1.heap.size := ⟨_, rfl⟩
  rw [← hbS] at hS2 ⊢
  have n1 : bP ≠ bS := by omega
  have n2 : bR ≠ bS := by omega
  have HLT : Hid (bR < bS) := Lib.hid (by omega)
  have HBS : Hid (w.heap.size ≤ bS) := Lib.hid (by rw [hbS]; exact hB1.size)
  clear hw2 hb1 hb2 hP0 hP1 hR0 hR1 hB0 hB1 hnew hS KG hRl hPl hbS zs
  go_wp2_with fail
  go_loopw [12] (fun i wr => ∃ k : Nat, k ≤ n ∧ i = .int .i64 (k : Int) ∧ ∃ s, (spA s).size = 38 ∧ SpAt wr bS s ∧ SpIs wr (bR + 1) s (way p t.g hs k) ∧ NN.PrAt wr bP p ∧ SpAt wr bR spZ ∧ Below w.heap.size w wr) (fun i _ => n - (intOf i).toNat)
  case atStart =>
    have hso : (spA s).size = 38 := spA_size (show s.prev.length = 32 by rw [hI2.2.1]; exact id_length _)
    exact ⟨0, by omega, rfl, s, hso, hS2, hI2, hP2, hR2, hB2⟩
  case round =>
    clear hS2 hP2 hR2 hB2 hI2
    obtain ⟨k, hk, rfl, s, zs, hS, hI, hP, hR, hB⟩ := hrel
    by_cases hlt : k < n
    · obtain ⟨ab, ao, rfl, habl, hc⟩ := (HA.out.below hB) (by rw [← HN.out]; omega)
      have q : (hs.getD k hdZ).ok ∧ wr.rangeAt ab (ao + k * 68) (hdC (hs.getD k hdZ)) := by
        rw [getD_lt (show k < hs.length by rw [← HN.out]; omega)]; exact hc k _
      have hnx := way_next p t.g hs k (by rw [← HN.out]; omega)
      have hh := way_h p t.g hs k (by rw [← HN.out]; omega)
      have hpv := way_prev p t.g hs k (by rw [← HN.out]; omega)
      have hts := way_ts p t.g hs k (by rw [← HN.out]; omega)
      generalize hs.getD k hdZ = y at *
      generalize way p t.g hs k = W at *
      have HX := Lib.hid hnx
      have q1 := hdC_length q.1
      have q2 := hdA_size q.1
      have qz := hdA_size hdZ_ok
      have hnew := hd_newz wr
      have hb1 : Below wr.heap.size wr ((wr.alloc (.cells Tryz.zeroCells30 30)).setRow wr.heap.size (hdA y)) := below_setRow ((Below.refl _ _).alloc (Nat.le_refl _) _) (Nat.le_refl _) _
      have hY : HdAt ((wr.alloc (.cells Tryz.zeroCells30 30)).setRow wr.heap.size (hdA y)) wr.heap.size y := Has.row hnew _
      have hS1 := hS.on hb1
      have hP1 := hP.on hb1
      have hR1 := hR.on hb1
      have hB1 := hB.trans (hb1.mono hB.size)
      have hI1 := hI.on hb1
      have r := q.2
      have KB := behind_at p HP.out s (show s.prev.length = 32 by rw [hI1.2.1]; exact hpv) W.ts hI1.2.2.1 hI1.2.2.2.1 (by rw [← hI1.2.2.1, hts]; omega) (by obtain ⟨b, e⟩ := hI1.2.2.2.2.1; rw [e]; intro h; cases h) (by rw [hI1.1, hh]; omega) (by rw [hI1.1, hh]; omega) y q.1 _ (HTb.out _ hB1) (hI1.2.2.2.2.2.wide (Nat.zero_le _) (Nat.le_refl _))
      rw [hI1.1] at KB
      have HB := Lib.hid KB
      clear KB hnx hh hpv hts hc hI hI1 q
      go_wp2_with (first
        | (with_reducible refine hd_load_mid rfl _ rfl ab (ao + k * 68) rfl y r q1 ?_)
        | (with_reducible refine hd_store rfl _ _ rfl _ _ y rfl rfl rfl q2 hnew qz ?_)
        | (with_reducible refine NN.pr_load rfl _ rfl _ rfl hP1 hz ?_)
        | (with_reducible refine sp_load rfl _ rfl _ rfl hS1 zs ?_)
        | (with_reducible refine hd_load rfl _ rfl _ rfl hY q2 ?_))
      refine HB.out.mono ?_
      rintro r v9 ⟨b', c', rfl, hc', hL', hb9⟩
      have z9 := spA_size (s := ⟨bhx p W.x y, y.id, some ⟨b', 0, none⟩, (y.time :: W.ts.take 10).length, c'⟩) (id_length y)
      have hS9 := hS1.on hb9
      have hP9 := hP1.on hb9
      have hR9 := hR1.on hb9
      have hB9 := hB1.trans (hb9.mono hB1.size)
      have hI9 : SpIs v9 ((wr.alloc (.cells Tryz.zeroCells30 30)).setRow wr.heap.size (hdA y)).heap.size ⟨bhx p W.x y, y.id, some ⟨b', 0, none⟩, (y.time :: W.ts.take 10).length, c'⟩ (bh p W y) := ⟨rfl, rfl, rfl, hc', ⟨b', rfl⟩, hL'⟩
      rw [← HX.out] at hI9
      have hbS : bS < ((wr.alloc (.cells Tryz.zeroCells30 30)).setRow wr.heap.size (hdA y)).heap.size := hS1.lt
      have HI9 := Lib.hid (fun cs => (hI9.row (cs := cs) hbS).wide (show bR + 1 ≤ _ from Nat.le_trans HLT.out (Nat.le_of_lt hbS)))
      clear hI9 hL' hbS
      generalize (⟨bhx p W.x y, y.id, some ⟨b', 0, none⟩, (y.time :: W.ts.take 10).length, c'⟩ : Sp) = s9 at *
      clear hb1 hb9 hY hP1 hR1 hS1 hB1 HB hnew
      go_wp2_with (with_reducible refine sp_store rfl _ _ rfl _ _ s9 rfl rfl rfl z9 hS9 zs ?_)
      go_roundw
      case rel => exact ⟨k + 1, by omega, by go_num, s9, z9, Has.row hS9 _, HI9.out _, NN.Has.otherRow hP9 _ _ n1, Has.otherRow hR9 _ _ n2, below_setRow hB9 HBS.out _⟩
      case measure => simp [intOf]; omega
    · obtain rfl : k = n := by omega
      go_wp2_with (first
        | (with_reducible refine sp_load rfl _ rfl _ rfl hS zs ?_)
        | (with_reducible refine sp_store rfl _ _ rfl _ _ s rfl rfl rfl zs hR z0 ?_))
      refine bodyPost_ret (v := .agg (spA s)) (sp_results Tryz.results10 _ _ rfl (Has.row hR _) zs) rfl ⟨s, rfl, zs, (hI.row (Nat.lt_succ_self _)).wide (Nat.le_succ_of_le HBR.out), below_setRow hB HBR.out _⟩
end Go.Proofs.YtpophaejeklaoaaGreatDoor
/-
  RuleSpots: the walk.
-/
namespace Go.Proofs.YtpophaejeklaoaaGreatDoor
open Go.RowKit Mem Sc NN.Rg2
theorem append_ints_op {lo hi : Nat} {w : World} {ops : Array Oper} {rest : List Oper} {o : Oper} {a : Act} {Q : Exit → Act → World → Prop} (hgd : o.guard = none) (s x : Operand) (ho : o.op = .call { callee := .builtin .append, args := #[s, x], argTypes := #[41, 41] }) (hty : o.type = 41) (base : Nat) (v : Value) (n : Nat) (l : List Int) (hs : a.eval s = v) (hown : w.ownsRow base 3 1 v n (l.map (Value.int .i64)))
    (ad : Option Addr) (m c : Nat) (z : List Int) (hx : a.eval x = .slice ad m c) (hnil : ad = none → m = 0 ∧ c = 0) (hz : z.length = m) (hL : MM.Lie w lo hi ad z) (hn : n + m ≤ 1000) (hbase : base ≤ w.heap.size)
    (h : ∀ v' w', w'.ownsRow base 3 1 v' (n + m) ((l ++ z).map (Value.int .i64)) → w.grownBy w' v.ownBlock → wpList Tryz.prog ops Q rest (a.put o.dst v') w') : wpList Tryz.prog ops Q (o :: rest) a w := by
  obtain ⟨v', w', hr, g1, g2⟩ := ex_append (lo := lo) (hi := hi) (ρ := a.eval) (w := w) s x base v n l hs hown ad m c z hx hnil hz hL hn hbase
  refine wpList_plain hgd fun _ hK => ?_
  unfold Oper.wp
  rw [hr o ho hty]
  exact hK _ _ (h v' w' g1 g2)
set_option maxRecDepth 100000 in
set_option maxHeartbeats 4000000 in
theorem spots_out (p : NN.Pr) (hz : (NN.prA p).size = 83) (a : Option Addr) (n c : Nat) (h : Hd) (w : World)
    (KA : Hid (∀ w', Below w.heap.size w w' → Calls Tryz.prog 6 #[] w' fun e w'' => e = .returned (.bool true) ∧ Below w'.heap.size w' w''))
    (KG : Hid (∀ w', Below w.heap.size w w' → Calls Tryz.prog 7 #[.agg (NN.prA p), .slice a n c] w' fun e w'' => e = .returned (.bool true) ∧ Below w'.heap.size w' w'')) :
    Calls Tryz.prog 4 #[.agg (NN.prA p), .slice a n c, .agg (hdA h)] w fun e w' => e = .returned (.bool true) ∧ Below w.heap.size w w' := by
  go_enter Tryz.func4, Tryz.ntmps4
  go_upto_region 1 with fail
  generalize hw0 : World.alloc _ _ = v0
  have hB : Below w.heap.size w v0 := by rw [← hw0]; exact ((Below.refl _ _).alloc (Nat.le_refl _) _).alloc (by simp) _
  have hP : NN.PrAt v0 w.heap.size p := by rw [← hw0]; exact (NN.Has.new _ _).alloc _
  clear hw0
  obtain ⟨bP, hbP⟩ : ∃ b, b = w.heap.size := ⟨_, rfl⟩
  rw [← hbP] at hP ⊢
  clear hbP
  go_wp2_with fail
  refine (KA.out _ hB).mono ?_
  rintro e v1 ⟨rfl, hb⟩
  replace hP := hP.on hb
  replace hB := hB.trans (hb.mono hB.size)
  clear hb
  go_wp2_with (first | fail | (with_reducible refine NN.pr_load rfl _ rfl _ rfl hP hz ?_))
  refine (KG.out _ hB).mono ?_
  rintro e v2 ⟨rfl, hb⟩
  replace hP := hP.on hb
  replace hB := hB.trans (hb.mono hB.size)
  clear hb
  go_wp2_with fail
  go_ret
  exact ⟨rfl, hB⟩
set_option maxRecDepth 100000 in
set_option maxHeartbeats 4000000 in
theorem spots_main (p : NN.Pr) (hz : (NN.prA p).size = 83) (a : Option Addr) (n c : Nat) (h : Hd) (w : World)
    (KA : Hid (∀ w', Below w.heap.size w w' → Calls Tryz.prog 6 #[] w' fun e w'' => e = .returned (.bool true) ∧ Below w'.heap.size w' w''))
    (KG : Hid (∀ w', Below w.heap.size w w' → Calls Tryz.prog 7 #[.agg (NN.prA p), .slice a n c] w' fun e w'' => e = .returned (.bool false) ∧ Below w'.heap.size w' w'')) (ho : h.ok)
    (q q9 : Ps) (KS : Hid (∀ w', Below w.heap.size w w' → Calls Tryz.prog 10 #[.agg (NN.prA p), .slice a n c] w' fun r w'' => ∃ s, r = .returned (.agg (spA s)) ∧ (spA s).size = 38 ∧ SpIs w'' w'.heap.size s q ∧ Below w'.heap.size w' w''))
    (KB : Hid (∀ s wS lo, SpIs wS lo s q → Below w.heap.size w wS → ∀ w', Below wS.heap.size wS w' → Calls Tryz.prog 12 #[.agg (NN.prA p), .agg (spA s), .agg (hdA h)] w' fun r w'' => ∃ s9, r = .returned (.agg (spA s9)) ∧ (spA s9).size = 38 ∧ SpIs w'' w'.heap.size s9 q9 ∧ Below w'.heap.size w' w''))
    (id : List UInt8) (i32 : id.length = 32) (KR : Hid (∀ w, Calls Tryz.prog 13 #[.agg (hdA h)] w fun e w' => e = .returned (.agg (bytesV id)) ∧ Below w.heap.size w w'))
    (hb ht H7 H9 : Int) (eb : Hid (h.bits = hb)) (et : Hid (h.time = ht)) (e1 : q.x.h = H7) (e2 : q9.x.h = H9) (e3 : q9.x.b = hb) (e4 : q9.x.t = ht) (e5 : q9.prev = id) (w1 : IntKind.i64.wrap ((n : Int) + 2) = H9) (w2 : IntKind.i64.wrap (H7 + 1) = H9)
    (N7 N9 : Nat) (l7 : q.ts.length = N7) (l9 : q9.ts.length = N9) (q32 : q.prev.length = 32) (g7 : 1 ≤ N7) (g8 : N7 ≤ 11) (hmn : N9 = min (N7 + 1) 11) (hcons : q9.ts = ht :: q.ts.take 10) :
    Calls Tryz.prog 4 #[.agg (NN.prA p), .slice a n c, .agg (hdA h)] w fun e w' => e = .returned (.bool true) ∧ Below w.heap.size w w' := by
  have za := hdA_size ho
  have z0 := spA_size spZ_ok
  go_enter Tryz.func4, Tryz.ntmps4
  go_upto_region 1 with fail
  generalize hw0 : World.alloc _ _ = v0
  have hB : Below w.heap.size w v0 := by rw [← hw0]; exact ((Below.refl _ _).alloc (Nat.le_refl _) _).alloc (by simp) _
  have hP : NN.PrAt v0 w.heap.size p := by rw [← hw0]; exact (NN.Has.new _ _).alloc _
  have hH : HdAt v0 (w.heap.size + 1) h := by rw [← hw0]; exact hd_new1 w _ h
  clear hw0
  obtain ⟨bP, hbP⟩ : ∃ b, b = w.heap.size := ⟨_, rfl⟩
  obtain ⟨bH, hbH⟩ : ∃ b, b = w.heap.size + 1 := ⟨_, rfl⟩
  rw [← hbH] at hH ⊢
  rw [← hbP] at hP ⊢
  clear hbP hbH
  go_wp2_with fail
  refine (KA.out _ hB).mono ?_
  rintro e v1 ⟨rfl, hb⟩
  replace hP := hP.on hb
  replace hH := hH.on hb
  replace hB := hB.trans (hb.mono hB.size)
  clear hb
  go_wp2_with (first | fail | (with_reducible refine NN.pr_load rfl _ rfl _ rfl hP hz ?_))
  refine (KG.out _ hB).mono ?_
  rintro e v2 ⟨rfl, hb⟩
  replace hP := hP.on hb
  replace hH := hH.on hb
  replace hB := hB.trans (hb.mono hB.size)
  clear hb
  go_wp2_with (first | fail | (with_reducible refine NN.pr_load rfl _ rfl _ rfl hP hz ?_))
  refine (KS.out _ hB).mono ?_
  rintro e v3 ⟨s, rfl, zs, hS, hb⟩
  replace hP := hP.on hb
  replace hH := hH.on hb
  replace hB := hB.trans (hb.mono hB.size)
  clear hb
  have hnew := sp_newz v3
  have hb2 : Below v3.heap.size v3 ((v3.alloc (.cells #[.int .i64 0, .int .i64 0, .int .i64 0, .int .i64 0, .int .i64 0, .int .u8 0, .int .u8 0, .int .u8 0, .int .u8 0, .int .u8 0, .int .u8 0, .int .u8 0, .int .u8 0, .int .u8 0, .int .u8 0, .int .u8 0, .int .u8 0, .int .u8 0, .int .u8 0, .int .u8 0, .int .u8 0, .int .u8 0, .int .u8 0, .int .u8 0, .int .u8 0, .int .u8 0, .int .u8 0, .int .u8 0, .int .u8 0, .int .u8 0, .int .u8 0, .int .u8 0, .int .u8 0, .int .u8 0, .int .u8 0, .int .u8 0, .int .u8 0, .slice none 0 0] 43)).setRow v3.heap.size (spA s)) := below_setRow ((Below.refl _ _).alloc (Nat.le_refl _) _) (Nat.le_refl _) _
  go_upto_region 6 with (with_reducible refine sp_store rfl _ _ rfl _ _ s rfl rfl rfl zs hnew z0 ?_)
  generalize hw4 : World.setRow _ _ _ = v4
  rw [hw4] at hb2
  have hA : SpAt v4 v3.heap.size s := by rw [← hw4]; exact Has.row hnew _
  replace hP := hP.on hb2
  replace hH := hH.on hb2
  replace hS := hS.on hb2
  replace hB := hB.trans (hb2.mono hB.size)
  clear hw4 hb2 hnew
  obtain ⟨bA, hbA⟩ : ∃ b, b = v3.heap.size := ⟨_, rfl⟩
  rw [← hbA] at hA ⊢
  clear hbA
  simp only [Act.put]
  have KB4 := Lib.hid (fun w' hb => KB.out s v4 _ hS hB w' hb)
  have so : s.ok := by have := hS.2.1; unfold Sp.ok; rw [this]; exact q32
  obtain ⟨⟨xh, xb, xt, xf, xr⟩, prev, a7, n7, c7⟩ := s
  obtain ⟨f1, f2, f3, f4, ⟨b7, f5⟩, f6⟩ := hS
  simp only at f1 f2 f3 f4 f5 f6
  obtain rfl : n7 = N7 := by omega
  obtain rfl : xh = H7 := by rw [← e1, ← f1]
  subst f5
  obtain ⟨b7', off7, eq7, _, hb7, hcell7⟩ := f6 (by omega)
  obtain rfl : b7' = b7 := by cases eq7; rfl
  obtain rfl : off7 = 0 := by cases eq7; rfl
  have HC7 : Hid (∀ w', Below v4.heap.size v4 w' → ∀ j, j < n7 → w'.cell? ⟨b7', j, none⟩ = some (.int .i64 (q.ts.getD j 0))) := Lib.hid (fun w' hb j hj => by
    rw [hb.cell (p := ⟨b7', j, none⟩) hb7]
    have := hcell7 j (by omega)
    rwa [Nat.zero_add] at this)
  clear f1 f2 f4 eq7 hcell7 e1
  -- times
  have cA := hA.sl so
  have hmk : ∀ w, (Instr.buildSlice 41 0 #[]).run Tryz.prog w = .ok (.slice (some ⟨w.heap.size, 0, none⟩) 0 0) (w.alloc (.cells #[] 3)) := fun _ => by kernel_rfl
  have hb6 : Below v4.heap.size v4 (v4.alloc (.cells #[] 3)) := (Below.refl _ _).alloc (Nat.le_refl _) _
  have cA6 := (hA.on hb6).sl so
  have hown6 : (v4.alloc (.cells #[] 3)).ownsRow v4.heap.size 3 1 (.slice (some ⟨v4.heap.size, 0, none⟩) 0 0) 0 (([] : List Int).map (Value.int .i64)) := World.ownsRow_made v4 #[] 0 (Nat.le_refl _) (by decide) rfl
  have hL6 := f6.below hb6 (Nat.le_refl _)
  have hs6 : v4.heap.size ≤ (v4.alloc (.cells #[] 3)).heap.size := by rw [World.size_alloc]; exact Nat.le_succ _
  have m1 : 0 + n7 ≤ 1000 := by omega
  have hsome : (some (⟨b7', 0, none⟩ : Addr) : Option Addr) = none → n7 = 0 ∧ c7 = 0 := fun e => by cases e
  have L7 := Lib.hid l7
  have hl7 := l7
  generalize q.ts = TS at *
  go_upto_region 7 with ((with_reducible refine append_ints_op rfl _ _ rfl rfl v4.heap.size (.slice (some ⟨v4.heap.size, 0, none⟩) 0 0) 0 [] rfl hown6 (some ⟨b7', 0, none⟩) n7 c7 TS rfl hsome hl7 hL6 m1 hs6 ?_); intro v8 w8 hown8 hgr8; obtain ⟨p8, c8, rfl⟩ := owns_slice_int hown8)
  have hb8 : Below v4.heap.size v4 w8 := hb6.grown hgr8 hb6.size (fun q hq => (hown6.lt q hq).1)
  rw [Nat.zero_add, List.nil_append] at hown8
  clear hmk hb6 cA6 hown6 hL6 hs6 m1 hsome hgr8 cA f6 hl7
  -- the header's spot
  replace hP := hP.on hb8
  replace hH := hH.on hb8
  replace hA := hA.on hb8
  replace hB := hB.trans (hb8.mono hB.size)
  obtain ⟨q8, d8, eq8, _, _, hLie8⟩ := MM.lie_of_owns hown8
  cases eq8
  obtain ⟨b8, off8, rfl, _, hb8l, hcell8⟩ := hLie8 (by omega)
  have HC8 : Hid (∀ w', Below w8.heap.size w8 w' → ∀ j, j < n7 → w'.cell? ⟨b8, off8 + j, none⟩ = some (.int .i64 (TS.getD j 0))) := Lib.hid (fun w' hb j hj => by
    rw [hb.cell (p := ⟨b8, off8 + j, none⟩) hb8l]
    exact hcell8 j (by omega))
  have HC7' : Hid (∀ w', Below w8.heap.size w8 w' → ∀ j, j < n7 → w'.cell? ⟨b7', j, none⟩ = some (.int .i64 (TS.getD j 0))) := Lib.hid (fun w' hb j hj => HC7.out w' (hb8.trans (hb.mono hb8.size)) j hj)
  have KB8 := Lib.hid (KB4.out w8 hb8)
  clear hown8 hLie8 hcell8 hb8l HC7 KB4 hb8 hb7
  go_wp2_with (first
    | fail
    | (with_reducible refine NN.pr_load rfl _ rfl _ rfl hP hz ?_)
    | (with_reducible refine sp_load rfl _ rfl _ rfl hA zs ?_)
    | (with_reducible refine hd_load rfl _ rfl _ rfl hH za ?_))
  refine KB8.out.mono ?_
  rintro e v9 ⟨s9, rfl, z9, hS9, hb⟩
  replace hH := hH.on hb
  replace hA := hA.on hb
  replace hB := hB.trans (hb.mono hB.size)
  have hw9 : Below w8.heap.size w8 v9 := hb
  clear hb hP
  have hnew := sp_newz v9
  have hb2 : Below v9.heap.size v9 ((v9.alloc (.cells #[.int .i64 0, .int .i64 0, .int .i64 0, .int .i64 0, .int .i64 0, .int .u8 0, .int .u8 0, .int .u8 0, .int .u8 0, .int .u8 0, .int .u8 0, .int .u8 0, .int .u8 0, .int .u8 0, .int .u8 0, .int .u8 0, .int .u8 0, .int .u8 0, .int .u8 0, .int .u8 0, .int .u8 0, .int .u8 0, .int .u8 0, .int .u8 0, .int .u8 0, .int .u8 0, .int .u8 0, .int .u8 0, .int .u8 0, .int .u8 0, .int .u8 0, .int .u8 0, .int .u8 0, .int .u8 0, .int .u8 0, .int .u8 0, .int .u8 0, .slice none 0 0] 43)).setRow v9.heap.size (spA s9)) := below_setRow ((Below.refl _ _).alloc (Nat.le_refl _) _) (Nat.le_refl _) _
  go_upto_region 8 with (with_reducible refine sp_store rfl _ _ rfl _ _ s9 rfl rfl rfl z9 hnew z0 ?_)
  generalize hw4 : World.setRow _ _ _ = v10
  rw [hw4] at hb2
  have hN : SpAt v10 v9.heap.size s9 := by rw [← hw4]; exact Has.row hnew _
  replace hH := hH.on hb2
  replace hA := hA.on hb2
  replace hS9 := hS9.on hb2
  replace hB := hB.trans (hb2.mono hB.size)
  have hw10 : Below w8.heap.size w8 v10 := hw9.trans (hb2.mono hw9.size)
  clear hw4 hb2 hnew hw9 KB8
  obtain ⟨bN, hbN⟩ : ∃ b, b = v9.heap.size := ⟨_, rfl⟩
  rw [← hbN] at hN ⊢
  clear hbN
  simp only [Act.put]
  have so9 : s9.ok := by have := hS9.2.1; unfold Sp.ok; rw [this, e5]; exact i32
  obtain ⟨⟨yh, yb, yt, yf, yr⟩, prev9, a9, n9, c9⟩ := s9
  obtain ⟨f1, f2, f3, f4, ⟨b9, f5⟩, f6⟩ := hS9
  simp only at f1 f2 f3 f4 f5 f6
  obtain rfl : n9 = N9 := by omega
  obtain rfl : yh = H9 := by rw [← e2, ← f1]
  obtain rfl : yb = hb := by rw [← e3, ← f1]
  obtain rfl : yt = ht := by rw [← e4, ← f1]
  obtain rfl : prev9 = id := by rw [← e5, ← f2]
  subst f5
  obtain ⟨b9', off9, eq9, _, hb9, hcell9⟩ := f6 (by omega)
  obtain rfl : b9' = b9 := by cases eq9; rfl
  obtain rfl : off9 = 0 := by cases eq9; rfl
  have HC9 : Hid (∀ w', Below v10.heap.size v10 w' → ∀ j, j < n9 → w'.cell? ⟨b9', j, none⟩ = some (.int .i64 (q9.ts.getD j 0))) := Lib.hid (fun w' hb j hj => by
    rw [hb.cell (p := ⟨b9', j, none⟩) hb9]
    have := hcell9 j (by omega)
    rwa [Nat.zero_add] at this)
  have HC8' : Hid (∀ w', Below v10.heap.size v10 w' → ∀ j, j < n7 → w'.cell? ⟨b8, off8 + j, none⟩ = some (.int .i64 (TS.getD j 0))) := Lib.hid (fun w' hb j hj => HC8.out w' (hw10.trans (hb.mono hw10.size)) j hj)
  have HC7'' : Hid (∀ w', Below v10.heap.size v10 w' → ∀ j, j < n7 → w'.cell? ⟨b7', j, none⟩ = some (.int .i64 (TS.getD j 0))) := Lib.hid (fun w' hb j hj => HC7'.out w' (hw10.trans (hb.mono hw10.size)) j hj)
  have HQ : Hid (∀ j, j + 1 < n9 → q9.ts.getD (j + 1) 0 = TS.getD j 0) := Lib.hid (fun j hj => by
    rw [hcons, List.getD_eq_getElem?_getD, List.getElem?_cons_succ, List.getElem?_take, if_pos (by omega), ← List.getD_eq_getElem?_getD])
  have HQ0 : q9.ts.getD 0 0 = yt := by rw [hcons]; rfl
  have HMN := Lib.hid hmn
  have g9 : 1 ≤ n9 := by omega
  have g10 : n9 ≤ 11 := by omega
  clear f1 f2 f3 f4 eq9 hcell9 HC7' HC8 e2 e3 e4 e5 f6 hb9 hw10 hcons l7 l9
  have wm : IntKind.i64.wrap ((n7 : Int) + 1) = ((n7 + 1 : Nat) : Int) := by rw [IntKind.wrap_i64]; omega
  obtain ⟨m7, hm7⟩ : ∃ m, m = n7 + 1 := ⟨_, rfl⟩
  rw [← hm7] at wm
  have hmin := NN.min_is (P := Tryz.prog) (m7 : Int) 11 (n9 : Int) (by have := HMN.out; omega)
  clear hmn hm7
  have hne := hneq_self prev9 i32
  have q1 : ∀ d os, (Sort.grow (redrawn v10 d) os).cell? ⟨bN, 0, none⟩ = some (.int .i64 yh) := cell_regrown (hN.c0 (Lib.hid rfl))
  have q2 : ∀ d os, (Sort.grow (redrawn v10 d) os).cell? ⟨bN, 1, none⟩ = some (.int .i64 yb) := cell_regrown (hN.c1 (Lib.hid rfl))
  have q3 : ∀ d os, (Sort.grow (redrawn v10 d) os).cell? ⟨bN, 2, none⟩ = some (.int .i64 yt) := cell_regrown (hN.c2 (Lib.hid rfl))
  have q4 : ∀ d os, (Sort.grow (redrawn v10 d) os).cell? ⟨bN, 37, none⟩ = some (.slice (some ⟨b9', 0, none⟩) n9 c9) := cell_regrown (hN.sl so9)
  have q5 : ∀ d os, (Sort.grow (redrawn v10 d) os).cell? ⟨bA, 0, none⟩ = some (.int .i64 xh) := cell_regrown (hA.c0 (Lib.hid rfl))
  have q6 : ∀ d os, (Sort.grow (redrawn v10 d) os).cell? ⟨bH, 66, none⟩ = some (.int .i64 yb) := cell_regrown (by rw [← eb.out]; exact hH.bits ho)
  have q7 : ∀ d os, (Sort.grow (redrawn v10 d) os).cell? ⟨bH, 65, none⟩ = some (.int .i64 yt) := cell_regrown (by rw [← et.out]; exact hH.time ho)
  have q8 : ∀ d os, (Sort.grow (redrawn v10 d) os).cell? ⟨b9', 0, none⟩ = some (.int .i64 yt) := cell_regrown (by have := HC9.out v10 (Below.refl _ _) 0 (by omega); rwa [HQ0] at this)
  have qr := range_cls hN.prev (by rw [Lib.byteCells_length]; show 0 < prev9.length; omega)
  have s1 := byteCells_32 i32
  have qh := range_cls hH.range (hdC_pos h)
  have sh := hdC_length ho
  clear HQ0
  refine wp_region_quiet_below (by kernel_rfl) (by kernel_rfl) ?_
  repeat (first
    | (go_big_quiet_want; (with_reducible refine quiet_hl_mid _ rfl bN 5 rfl prev9 s1 qr ?_); (simp only [Act.put, List.setIfInBounds_toArray, List.set_cons_zero, List.set_cons_succ]); go_big_quiet_on)
    | (go_big_quiet_want; (with_reducible refine quiet_hd_mid _ rfl bH 0 rfl h sh qh ?_); (simp only [Act.put, List.setIfInBounds_toArray, List.set_cons_zero, List.set_cons_succ]); go_big_quiet_on)
    | (go_big_quiet_want; (with_reducible refine quiet_hneq _ _ _ rfl _ _ _ rfl rfl hne ?_); (simp only [Act.put, List.setIfInBounds_toArray, List.set_cons_zero, List.set_cons_succ]); go_big_quiet_on)
    | go_big_quiet_step ((go_at_call 13; exact Calls.regrown_of (KR.out _))))
  refine wpQuiet_nil ?_
  intro v11 hw'
  obtain ⟨rg, hw''⟩ := hw'
  have hb : Below v10.heap.size v10 v11 := by rw [hw'']; exact below_regrown v10 rg.d rg.os
  clear hw'' q1 q2 q3 q4 q5 q6 q7 q8 qr s1 qh sh hne hmin wm
  have cA := (hA.on hb).sl so
  have cN := (hN.on hb).sl so9
  replace hB := hB.trans (hb.mono hB.size)
  have HB := Lib.hid hb
  clear hb hA hN hH
  go_wp2_with fail
  go_loopw [88] (fun i wr => ∃ k : Nat, k ≤ n7 ∧ i = .int .i64 (k : Int) ∧ Below v11.heap.size v11 wr) (fun i _ => n7 - (intOf i).toNat)
  case atStart => exact ⟨0, by omega, rfl, Below.refl _ _⟩
  case round =>
    obtain ⟨k, hk, rfl, hb⟩ := hrel
    have hbb := HB.out.trans (hb.mono HB.out.size)
    by_cases hlt : k < n7
    · have k7 := HC7''.out wr hbb k hlt
      have k8 := HC8'.out wr hbb k hlt
      have cA' : wr.cell? ⟨bA, 37, none⟩ = some (.slice (some ⟨b7', 0, none⟩) n7 c7) := (hb.cell (p := ⟨bA, 37, none⟩) (block_lt_of_cell cA)).trans cA
      have cN' : wr.cell? ⟨bN, 37, none⟩ = some (.slice (some ⟨b9', 0, none⟩) n9 c9) := (hb.cell (p := ⟨bN, 37, none⟩) (block_lt_of_cell cN)).trans cN
      obtain ⟨x, hx⟩ : ∃ x, x = TS.getD k 0 := ⟨_, rfl⟩
      rw [← hx] at k7 k8
      have wk : IntKind.i64.wrap ((k : Int) + 1) = ((k + 1 : Nat) : Int) := by rw [IntKind.wrap_i64]; omega
      obtain ⟨k1, hk1⟩ : ∃ k1, k1 = k + 1 := ⟨_, rfl⟩
      rw [← hk1] at wk
      have HK1 := Lib.hid hk1
      by_cases h9 : k1 < n9
      · have k9 := HC9.out wr hbb k1 h9
        rw [hk1, HQ.out k (by omega), ← hx, ← hk1] at k9
        have d9 : decide ((k1 : Int) < (n9 : Int)) = true := decide_eq_true (by omega)
        clear hx hk1
        have u7 := cell_regrown k7
        have u8 := cell_regrown k8
        have u9 := cell_regrown k9
        have uA := cell_regrown cA'
        have uN := cell_regrown cN'
        go_upto_region 13 with fail
        refine wp_region_quiet_below (by kernel_rfl) (by kernel_rfl) ?_
        repeat (first
          | go_big_quiet_step (fail))
        refine wpQuiet_nil ?_
        intro w12 hw'
        obtain ⟨rg, hw''⟩ := hw'
        have hb12 : Below v11.heap.size v11 w12 := hb.trans (by rw [hw'']; exact (below_regrown wr rg.d rg.os).mono hb.size)
        clear hw'' u7 u8 u9 uA uN
        go_wp2_with fail
        go_roundw
        case rel => exact ⟨k1, by have := HK1.out; omega, rfl, hb12⟩
        case measure => have := HK1.out; simp [intOf]; omega
      · have d9 : decide ((k1 : Int) < (n9 : Int)) = false := decide_eq_false (by omega)
        clear hx hk1
        have u7 := cell_regrown k7
        have u8 := cell_regrown k8
        have uA := cell_regrown cA'
        have uN := cell_regrown cN'
        go_upto_region 13 with fail
        refine wp_region_quiet_below (by kernel_rfl) (by kernel_rfl) ?_
        repeat (first
          | go_big_quiet_step (fail))
        refine wpQuiet_nil ?_
        intro w12 hw'
        obtain ⟨rg, hw''⟩ := hw'
        have hb12 : Below v11.heap.size v11 w12 := hb.trans (by rw [hw'']; exact (below_regrown wr rg.d rg.os).mono hb.size)
        clear hw'' u7 u8  uA uN
        go_wp2_with fail
        go_roundw
        case rel => exact ⟨k1, by have := HK1.out; omega, rfl, hb12⟩
        case measure => have := HK1.out; simp [intOf]; omega
    · obtain rfl : k = n7 := by omega
      go_wp2_with fail
      go_ret
      exact ⟨rfl, hB.trans (hb.mono hB.size)⟩
theorem spots_walk (p : NN.Pr) (hp : p.ok) (t : Tl) (tt : p.tl = t.C) (ht : t.ok) (a : Option Addr) (hs : List Hd) (n c : Nat) (hn : n = hs.length) (h : Hd) (ho : h.ok) (w : World) (hT : Tab w) (hA : HeadersAt w a hs) :
    Calls Tryz.prog 4 #[.agg (NN.prA p), .slice a n c, .agg (hdA h)] w fun e w' => e = .returned (.bool true) ∧ Below w.heap.size w w' := by
  have hz := NN.prA_size hp
  have KA : Hid (∀ w', Below w.heap.size w w' → Calls Tryz.prog 6 #[] w' fun e w'' => e = .returned (.bool true) ∧ Below w'.heap.size w' w'') := Lib.hid fun w' hb => alive11 w' (hT.below hb)
  have KG : ∀ g, (decide (20 < t.gn) || decide (20 < t.cn) || decide (40 < n)) = g → Hid (∀ w', Below w.heap.size w w' → Calls Tryz.prog 7 #[.agg (NN.prA p), .slice a n c] w' fun e w'' => e = .returned (.bool g) ∧ Below w'.heap.size w' w'') := fun g hg => Lib.hid fun w' _ => great_is p t tt n a c g hg w'
  cases hg : (decide (20 < t.gn) || decide (20 < t.cn) || decide (40 < n))
  · have KG1 := KG false hg
    simp only [Bool.or_eq_false_iff, decide_eq_false_iff_not] at hg
    have KS : Hid (∀ w', Below w.heap.size w w' → Calls Tryz.prog 10 #[.agg (NN.prA p), .slice a n c] w' fun r w'' => ∃ s, r = .returned (.agg (spA s)) ∧ (spA s).size = 38 ∧ SpIs w'' w'.heap.size s (way p t.g hs n) ∧ Below w'.heap.size w' w'') := Lib.hid fun w' hb => spot_at p hp t tt ht a hs n c hn (by omega) w' (hT.below hb) (hA.below hb)
    have q5 := way_prev p t.g hs n (by omega)
    have q6 := way_ts p t.g hs n (by omega)
    have q7 := way_h p t.g hs n (by omega)
    generalize way p t.g hs n = q at *
    have KB : Hid (∀ s wS lo, SpIs wS lo s q → Below w.heap.size w wS → ∀ w', Below wS.heap.size wS w' → Calls Tryz.prog 12 #[.agg (NN.prA p), .agg (spA s), .agg (hdA h)] w' fun r w'' => ∃ s9, r = .returned (.agg (spA s9)) ∧ (spA s9).size = 38 ∧ SpIs w'' w'.heap.size s9 (bh p q h) ∧ Below w'.heap.size w' w'') := Lib.hid fun s wS lo hS hb w' hb' => by
      have hI := hS.on hb'
      have hbb : Below w.heap.size w w' := hb.trans (hb'.mono hb.size)
      refine (behind_at p hp s (by unfold Sp.ok; rw [hI.2.1]; exact q5) q.ts hI.2.2.1 hI.2.2.2.1 (by rw [← hI.2.2.1, q6]; omega) (by obtain ⟨b, e⟩ := hI.2.2.2.2.1; rw [e]; intro h; cases h) (by rw [hI.1, q7]; omega) (by rw [hI.1, q7]; omega) h ho w' (hT.below hbb) (hI.2.2.2.2.2.wide (Nat.zero_le _) (Nat.le_refl _))).mono ?_
      rintro r w2 ⟨b', c', rfl, h1, h2, h3⟩
      exact ⟨_, rfl, spA_size (id_length h), ⟨by show bhx p s.x h = bhx p q.x h; rw [hI.1], rfl, rfl, h1, ⟨b', rfl⟩, h2⟩, h3⟩
    exact spots_main p hz a n c h w KA KG1 ho q (bh p q h) KS KB h.id (id_length h) (Lib.hid fun w => rid_at h ho w) h.bits h.time q.x.h (q.x.h + 1) (Lib.hid rfl) (Lib.hid rfl) rfl rfl rfl rfl rfl (by rw [q7, IntKind.wrap_i64]; omega) (by rw [q7, IntKind.wrap_i64]; omega) q.ts.length (bh p q h).ts.length rfl rfl q5 (by rw [q6]; omega) (by rw [q6]; omega) (by show (h.time :: q.ts.take 10).length = _; rw [List.length_cons, List.length_take, q6]; omega) rfl
  · exact spots_out p hz a n c h w KA (KG true hg)
end Go.Proofs.YtpophaejeklaoaaGreatDoor
/-
  RuleLater: the walk.
-/
namespace Go.Proofs.YtpophaejeklaoaaGreatDoor
open Go.RowKit Mem Sc NN.Rg2
/-! ### plain mathematics -/
/-- ahead of the clock's test -/
def chk1 (p : NN.Pr) (q : Ps) (h : Hd) : Int :=
  if ¬ h.P then 1 else if ¬ h.prev = q.prev then 2 else if ¬ h.bits = NN.nx p q.x h.time then 3 else if wkd p.lim h = false then 4 else if MM.late h.time q.ts = false then 5 else 0
/-- behind it -/
def chk2 (gs : List Gt) (cs : List Ck) (q : Ps) (h : Hd) : Int := if h.v < vers q.x.h gs then 7 else if trk q.x.h h.id cs = false then 8 else 0
theorem chk_is (p : NN.Pr) (gs : List Gt) (cs : List Ck) (q : Ps) (h : Hd) (now : Int) : chk p gs cs q h now = if chk1 p q h = 0 then (if nearB h.time now p.fut = false then 6 else chk2 gs cs q h) else chk1 p q h := by
  unfold chk chk1 chk2
  split
  · simp
  · split
    · simp
    · split
      · simp
      · split
        · simp
        · split
          · simp
          · simp
theorem chk1_0 {p : NN.Pr} {q : Ps} {h : Hd} (h0 : chk1 p q h = 0) : h.P := by
  unfold chk1 at h0
  split at h0
  · cases h0
  · rename_i hp; exact Classical.not_not.1 hp
theorem chk1_6 (p : NN.Pr) (q : Ps) (h : Hd) : chk1 p q h ≠ 6 := by
  unfold chk1
  split
  · decide
  · split
    · decide
    · split
      · decide
      · split
        · decide
        · split <;> decide
theorem chk2_6 (gs : List Gt) (cs : List Ck) (q : Ps) (h : Hd) : chk2 gs cs q h ≠ 6 := by
  unfold chk2
  split
  · decide
  · split <;> decide
theorem near_far {h : Hd} {fut : Int} (hp : h.P) (hf : 0 ≤ fut) : nearB h.time 1099511627776 fut = true := by
  obtain ⟨_, _, h3, h4, _⟩ := hp
  unfold nearB
  rw [decide_eq_true hf, Bool.true_and]
  refine decide_eq_true ?_
  rw [IntKind.wrap_i64]; omega
theorem near_mono {h : Hd} {fut a b : Int} (hp : h.P) (h0 : 0 ≤ a) (hab : a ≤ b) (hb : b ≤ 2199023255552) (hn : nearB h.time a fut = true) : nearB h.time b fut = true := by
  obtain ⟨_, _, h3, h4, _⟩ := hp
  unfold nearB at *
  simp only [Bool.and_eq_true, decide_eq_true_eq] at hn ⊢
  refine ⟨hn.1, ?_⟩
  have h2 := hn.2
  rw [IntKind.wrap_i64] at h2 ⊢
  omega
theorem near_neg {h : Hd} {fut a : Int} (hf : fut < 0) : nearB h.time a fut = false := by
  unfold nearB
  rw [decide_eq_false (by omega), Bool.false_and]
/-- what the three answers are to one another -/
theorem later_three (p : NN.Pr) (gs : List Gt) (cs : List Ck) (q : Ps) (h : Hd) (now more : Int) (h0 : 0 ≤ now) (h1 : now ≤ 1099511627776) (h2 : 0 ≤ more) (h3 : more ≤ 1099511627776) :
    (chk p gs cs q h now ≠ 6 ∧ chk p gs cs q h (now + more) = chk p gs cs q h now ∧ chk p gs cs q h 1099511627776 = chk p gs cs q h now) ∨
    (chk p gs cs q h now = 6 ∧ p.fut < 0 ∧ chk p gs cs q h (now + more) = 6 ∧ chk p gs cs q h 1099511627776 = 6) ∨
    (chk p gs cs q h now = 6 ∧ 0 ≤ p.fut ∧ chk p gs cs q h 1099511627776 ≠ 6 ∧ (chk p gs cs q h (now + more) = 6 ∨ (chk p gs cs q h (now + more) ≠ 6 ∧ chk p gs cs q h (now + more) = chk p gs cs q h 1099511627776))) := by
  simp only [chk_is]
  by_cases hc : chk1 p q h = 0
  · rw [if_pos hc, if_pos hc, if_pos hc]
    have hp := chk1_0 hc
    have h6 := chk2_6 gs cs q h
    by_cases hf : p.fut < 0
    · rw [near_neg hf, near_neg hf, near_neg hf]
      exact .inr (.inl ⟨rfl, hf, rfl, rfl⟩)
    · have hfar := near_far (h := h) hp (by omega : 0 ≤ p.fut)
      cases hn : nearB h.time now p.fut
      · refine .inr (.inr ⟨rfl, by omega, ?_, ?_⟩)
        · rw [hfar]; simpa using h6
        · rw [hfar]
          cases hm : nearB h.time (now + more) p.fut
          · exact .inl rfl
          · exact .inr ⟨by simpa using h6, rfl⟩
      · rw [near_mono hp h0 (by omega : now ≤ now + more) (by omega) hn, hfar]
        exact .inl ⟨by simpa using h6, rfl, rfl⟩
  · rw [if_neg hc, if_neg hc, if_neg hc]
    exact .inl ⟨chk1_6 p q h, rfl, rfl⟩
set_option maxRecDepth 100000 in
set_option maxHeartbeats 4000000 in
theorem later_out0 (p : NN.Pr) (hz : (NN.prA p).size = 83) (a : Option Addr) (n c : Nat) (h : Hd) (now more : Int) (w : World)
    (KA : Hid (∀ w', Below w.heap.size w w' → Calls Tryz.prog 6 #[] w' fun e w'' => e = .returned (.bool true) ∧ Below w'.heap.size w' w''))
    (KG : Hid (∀ w', Below w.heap.size w w' → Calls Tryz.prog 7 #[.agg (NN.prA p), .slice a n c] w' fun e w'' => e = .returned (.bool true) ∧ Below w'.heap.size w' w'')) :
    Calls Tryz.prog 5 #[.agg (NN.prA p), .slice a n c, .agg (hdA h), .int .i64 now, .int .i64 more] w fun e w' => e = .returned (.bool true) ∧ Below w.heap.size w w' := by
  go_enter Tryz.func5, Tryz.ntmps5
  go_upto_region 1 with fail
  generalize hw0 : World.alloc _ _ = v0
  have hB : Below w.heap.size w v0 := by rw [← hw0]; exact ((Below.refl _ _).alloc (Nat.le_refl _) _).alloc (by simp) _
  have hP : NN.PrAt v0 w.heap.size p := by rw [← hw0]; exact (NN.Has.new _ _).alloc _
  clear hw0
  obtain ⟨bP, hbP⟩ : ∃ b, b = w.heap.size := ⟨_, rfl⟩
  rw [← hbP] at hP ⊢
  clear hbP
  go_wp2_with fail
  refine (KA.out _ hB).mono ?_
  rintro e v1 ⟨rfl, hb⟩
  replace hP := hP.on hb
  replace hB := hB.trans (hb.mono hB.size)
  clear hb
  go_wp2_with (first | fail | (with_reducible refine NN.pr_load rfl _ rfl _ rfl hP hz ?_))
  refine (KG.out _ hB).mono ?_
  rintro e v2 ⟨rfl, hb⟩
  replace hP := hP.on hb
  replace hB := hB.trans (hb.mono hB.size)
  clear hb
  go_wp2_with fail
  go_ret
  exact ⟨rfl, hB⟩
set_option maxRecDepth 100000 in
set_option maxHeartbeats 4000000 in
theorem later_out1 (p : NN.Pr) (hz : (NN.prA p).size = 83) (a : Option Addr) (n c : Nat) (h : Hd) (now more : Int) (w : World)
    (KA : Hid (∀ w', Below w.heap.size w w' → Calls Tryz.prog 6 #[] w' fun e w'' => e = .returned (.bool true) ∧ Below w'.heap.size w' w''))
    (KG : Hid (∀ w', Below w.heap.size w w' → Calls Tryz.prog 7 #[.agg (NN.prA p), .slice a n c] w' fun e w'' => e = .returned (.bool false) ∧ Below w'.heap.size w' w'')) (d0 : decide (now < (0 : Int)) = true) :
    Calls Tryz.prog 5 #[.agg (NN.prA p), .slice a n c, .agg (hdA h), .int .i64 now, .int .i64 more] w fun e w' => e = .returned (.bool true) ∧ Below w.heap.size w w' := by
  go_enter Tryz.func5, Tryz.ntmps5
  go_upto_region 1 with fail
  generalize hw0 : World.alloc _ _ = v0
  have hB : Below w.heap.size w v0 := by rw [← hw0]; exact ((Below.refl _ _).alloc (Nat.le_refl _) _).alloc (by simp) _
  have hP : NN.PrAt v0 w.heap.size p := by rw [← hw0]; exact (NN.Has.new _ _).alloc _
  clear hw0
  obtain ⟨bP, hbP⟩ : ∃ b, b = w.heap.size := ⟨_, rfl⟩
  rw [← hbP] at hP ⊢
  clear hbP
  go_wp2_with fail
  refine (KA.out _ hB).mono ?_
  rintro e v1 ⟨rfl, hb⟩
  replace hP := hP.on hb
  replace hB := hB.trans (hb.mono hB.size)
  clear hb
  go_wp2_with (first | fail | (with_reducible refine NN.pr_load rfl _ rfl _ rfl hP hz ?_))
  refine (KG.out _ hB).mono ?_
  rintro e v2 ⟨rfl, hb⟩
  replace hP := hP.on hb
  replace hB := hB.trans (hb.mono hB.size)
  clear hb
  go_wp2_with fail
  go_ret
  exact ⟨rfl, hB⟩
set_option maxRecDepth 100000 in
set_option maxHeartbeats 4000000 in
theorem later_out2 (p : NN.Pr) (hz : (NN.prA p).size = 83) (a : Option Addr) (n c : Nat) (h : Hd) (now more : Int) (w : World)
    (KA : Hid (∀ w', Below w.heap.size w w' → Calls Tryz.prog 6 #[] w' fun e w'' => e = .returned (.bool true) ∧ Below w'.heap.size w' w''))
    (KG : Hid (∀ w', Below w.heap.size w w' → Calls Tryz.prog 7 #[.agg (NN.prA p), .slice a n c] w' fun e w'' => e = .returned (.bool false) ∧ Below w'.heap.size w' w'')) (d0 : decide (now < (0 : Int)) = false) (d1 : decide ((1099511627776 : Int) < now) = true) :
    Calls Tryz.prog 5 #[.agg (NN.prA p), .slice a n c, .agg (hdA h), .int .i64 now, .int .i64 more] w fun e w' => e = .returned (.bool true) ∧ Below w.heap.size w w' := by
  go_enter Tryz.func5, Tryz.ntmps5
  go_upto_region 1 with fail
  generalize hw0 : World.alloc _ _ = v0
  have hB : Below w.heap.size w v0 := by rw [← hw0]; exact ((Below.refl _ _).alloc (Nat.le_refl _) _).alloc (by simp) _
  have hP : NN.PrAt v0 w.heap.size p := by rw [← hw0]; exact (NN.Has.new _ _).alloc _
  clear hw0
  obtain ⟨bP, hbP⟩ : ∃ b, b = w.heap.size := ⟨_, rfl⟩
  rw [← hbP] at hP ⊢
  clear hbP
  go_wp2_with fail
  refine (KA.out _ hB).mono ?_
  rintro e v1 ⟨rfl, hb⟩
  replace hP := hP.on hb
  replace hB := hB.trans (hb.mono hB.size)
  clear hb
  go_wp2_with (first | fail | (with_reducible refine NN.pr_load rfl _ rfl _ rfl hP hz ?_))
  refine (KG.out _ hB).mono ?_
  rintro e v2 ⟨rfl, hb⟩
  replace hP := hP.on hb
  replace hB := hB.trans (hb.mono hB.size)
  clear hb
  go_wp2_with fail
  go_ret
  exact ⟨rfl, hB⟩
set_option maxRecDepth 100000 in
set_option maxHeartbeats 4000000 in
theorem later_out3 (p : NN.Pr) (hz : (NN.prA p).size = 83) (a : Option Addr) (n c : Nat) (h : Hd) (now more : Int) (w : World)
    (KA : Hid (∀ w', Below w.heap.size w w' → Calls Tryz.prog 6 #[] w' fun e w'' => e = .returned (.bool true) ∧ Below w'.heap.size w' w''))
    (KG : Hid (∀ w', Below w.heap.size w w' → Calls Tryz.prog 7 #[.agg (NN.prA p), .slice a n c] w' fun e w'' => e = .returned (.bool false) ∧ Below w'.heap.size w' w'')) (d0 : decide (now < (0 : Int)) = false) (d1 : decide ((1099511627776 : Int) < now) = false) (d2 : decide (more < (0 : Int)) = true) :
    Calls Tryz.prog 5 #[.agg (NN.prA p), .slice a n c, .agg (hdA h), .int .i64 now, .int .i64 more] w fun e w' => e = .returned (.bool true) ∧ Below w.heap.size w w' := by
  go_enter Tryz.func5, Tryz.ntmps5
  go_upto_region 1 with fail
  generalize hw0 : World.alloc _ _ = v0
  have hB : Below w.heap.size w v0 := by rw [← hw0]; exact ((Below.refl _ _).alloc (Nat.le_refl _) _).alloc (by simp) _
  have hP : NN.PrAt v0 w.heap.size p := by rw [← hw0]; exact (NN.Has.new _ _).alloc _
  clear hw0
  obtain ⟨bP, hbP⟩ : ∃ b, b = w.heap.size := ⟨_, rfl⟩
  rw [← hbP] at hP ⊢
  clear hbP
  go_wp2_with fail
  refine (KA.out _ hB).mono ?_
  rintro e v1 ⟨rfl, hb⟩
  replace hP := hP.on hb
  replace hB := hB.trans (hb.mono hB.size)
  clear hb
  go_wp2_with (first | fail | (with_reducible refine NN.pr_load rfl _ rfl _ rfl hP hz ?_))
  refine (KG.out _ hB).mono ?_
  rintro e v2 ⟨rfl, hb⟩
  replace hP := hP.on hb
  replace hB := hB.trans (hb.mono hB.size)
  clear hb
  go_wp2_with fail
  go_ret
  exact ⟨rfl, hB⟩
set_option maxRecDepth 100000 in
set_option maxHeartbeats 4000000 in
theorem later_out4 (p : NN.Pr) (hz : (NN.prA p).size = 83) (a : Option Addr) (n c : Nat) (h : Hd) (now more : Int) (w : World)
    (KA : Hid (∀ w', Below w.heap.size w w' → Calls Tryz.prog 6 #[] w' fun e w'' => e = .returned (.bool true) ∧ Below w'.heap.size w' w''))
    (KG : Hid (∀ w', Below w.heap.size w w' → Calls Tryz.prog 7 #[.agg (NN.prA p), .slice a n c] w' fun e w'' => e = .returned (.bool false) ∧ Below w'.heap.size w' w'')) (d0 : decide (now < (0 : Int)) = false) (d1 : decide ((1099511627776 : Int) < now) = false) (d2 : decide (more < (0 : Int)) = false) (d3 : decide ((1099511627776 : Int) < more) = true) :
    Calls Tryz.prog 5 #[.agg (NN.prA p), .slice a n c, .agg (hdA h), .int .i64 now, .int .i64 more] w fun e w' => e = .returned (.bool true) ∧ Below w.heap.size w w' := by
  go_enter Tryz.func5, Tryz.ntmps5
  go_upto_region 1 with fail
  generalize hw0 : World.alloc _ _ = v0
  have hB : Below w.heap.size w v0 := by rw [← hw0]; exact ((Below.refl _ _).alloc (Nat.le_refl _) _).alloc (by simp) _
  have hP : NN.PrAt v0 w.heap.size p := by rw [← hw0]; exact (NN.Has.new _ _).alloc _
  clear hw0
  obtain ⟨bP, hbP⟩ : ∃ b, b = w.heap.size := ⟨_, rfl⟩
  rw [← hbP] at hP ⊢
  clear hbP
  go_wp2_with fail
  refine (KA.out _ hB).mono ?_
  rintro e v1 ⟨rfl, hb⟩
  replace hP := hP.on hb
  replace hB := hB.trans (hb.mono hB.size)
  clear hb
  go_wp2_with (first | fail | (with_reducible refine NN.pr_load rfl _ rfl _ rfl hP hz ?_))
  refine (KG.out _ hB).mono ?_
  rintro e v2 ⟨rfl, hb⟩
  replace hP := hP.on hb
  replace hB := hB.trans (hb.mono hB.size)
  clear hb
  go_wp2_with fail
  go_ret
  exact ⟨rfl, hB⟩
set_option maxRecDepth 100000 in
set_option maxHeartbeats 4000000 in
theorem later_same (p : NN.Pr) (hz : (NN.prA p).size = 83) (a : Option Addr) (n c : Nat) (h : Hd) (ho : h.ok) (now more : Int) (w : World)
    (KA : Hid (∀ w', Below w.heap.size w w' → Calls Tryz.prog 6 #[] w' fun e w'' => e = .returned (.bool true) ∧ Below w'.heap.size w' w''))
    (KG : Hid (∀ w', Below w.heap.size w w' → Calls Tryz.prog 7 #[.agg (NN.prA p), .slice a n c] w' fun e w'' => e = .returned (.bool false) ∧ Below w'.heap.size w' w'')) (d0 : decide (now < (0 : Int)) = false) (d1 : decide ((1099511627776 : Int) < now) = false) (d2 : decide (more < (0 : Int)) = false) (d3 : decide ((1099511627776 : Int) < more) = false) (nm : Int) (hnm : IntKind.i64.wrap (now + more) = nm)
    (q : Ps) (KS : Hid (∀ w', Below w.heap.size w w' → Calls Tryz.prog 10 #[.agg (NN.prA p), .slice a n c] w' fun r w'' => ∃ s, r = .returned (.agg (spA s)) ∧ (spA s).size = 38 ∧ SpIs w'' w'.heap.size s q ∧ Below w'.heap.size w' w''))
    (x : Int) (t1 : (x == (6 : Int)) = false)
    (K1 : Hid (∀ s wS lo, SpIs wS lo s q → Below w.heap.size w wS → ∀ w', Below wS.heap.size wS w' → Calls Tryz.prog 9 #[.agg (NN.prA p), .agg (spA s), .agg (hdA h), .int .i64 now] w' fun e w'' => e = .returned (.int .i64 x) ∧ Below w'.heap.size w' w''))
    (K2 : Hid (∀ s wS lo, SpIs wS lo s q → Below w.heap.size w wS → ∀ w', Below wS.heap.size wS w' → Calls Tryz.prog 9 #[.agg (NN.prA p), .agg (spA s), .agg (hdA h), .int .i64 nm] w' fun e w'' => e = .returned (.int .i64 x) ∧ Below w'.heap.size w' w''))
    (K3 : Hid (∀ s wS lo, SpIs wS lo s q → Below w.heap.size w wS → ∀ w', Below wS.heap.size wS w' → Calls Tryz.prog 9 #[.agg (NN.prA p), .agg (spA s), .agg (hdA h), .int .i64 1099511627776] w' fun e w'' => e = .returned (.int .i64 x) ∧ Below w'.heap.size w' w'')) :
    Calls Tryz.prog 5 #[.agg (NN.prA p), .slice a n c, .agg (hdA h), .int .i64 now, .int .i64 more] w fun e w' => e = .returned (.bool true) ∧ Below w.heap.size w w' := by
  have za := hdA_size ho
  go_enter Tryz.func5, Tryz.ntmps5
  go_upto_region 1 with fail
  generalize hw0 : World.alloc _ _ = v0
  have hB : Below w.heap.size w v0 := by rw [← hw0]; exact ((Below.refl _ _).alloc (Nat.le_refl _) _).alloc (by simp) _
  have hP : NN.PrAt v0 w.heap.size p := by rw [← hw0]; exact (NN.Has.new _ _).alloc _
  have hH : HdAt v0 (w.heap.size + 1) h := by rw [← hw0]; exact hd_new1 w _ h
  clear hw0
  obtain ⟨bP, hbP⟩ : ∃ b, b = w.heap.size := ⟨_, rfl⟩
  obtain ⟨bH, hbH⟩ : ∃ b, b = w.heap.size + 1 := ⟨_, rfl⟩
  rw [← hbH] at hH ⊢
  rw [← hbP] at hP ⊢
  clear hbP hbH
  go_wp2_with fail
  refine (KA.out _ hB).mono ?_
  rintro e v1 ⟨rfl, hb⟩
  replace hP := hP.on hb
  replace hH := hH.on hb
  replace hB := hB.trans (hb.mono hB.size)
  clear hb
  go_wp2_with (first | fail | (with_reducible refine NN.pr_load rfl _ rfl _ rfl hP hz ?_))
  refine (KG.out _ hB).mono ?_
  rintro e v2 ⟨rfl, hb⟩
  replace hP := hP.on hb
  replace hH := hH.on hb
  replace hB := hB.trans (hb.mono hB.size)
  clear hb
  go_wp2_with (first | fail | (with_reducible refine NN.pr_load rfl _ rfl _ rfl hP hz ?_))
  refine (KS.out _ hB).mono ?_
  rintro e v3 ⟨s, rfl, zs, hS, hb⟩
  replace hP := hP.on hb
  replace hH := hH.on hb
  replace hB := hB.trans (hb.mono hB.size)
  clear hb
  have z0 := spA_size spZ_ok
  have hnew := sp_newz v3
  have hb2 : Below v3.heap.size v3 ((v3.alloc (.cells #[.int .i64 0, .int .i64 0, .int .i64 0, .int .i64 0, .int .i64 0, .int .u8 0, .int .u8 0, .int .u8 0, .int .u8 0, .int .u8 0, .int .u8 0, .int .u8 0, .int .u8 0, .int .u8 0, .int .u8 0, .int .u8 0, .int .u8 0, .int .u8 0, .int .u8 0, .int .u8 0, .int .u8 0, .int .u8 0, .int .u8 0, .int .u8 0, .int .u8 0, .int .u8 0, .int .u8 0, .int .u8 0, .int .u8 0, .int .u8 0, .int .u8 0, .int .u8 0, .int .u8 0, .int .u8 0, .int .u8 0, .int .u8 0, .int .u8 0, .slice none 0 0] 43)).setRow v3.heap.size (spA s)) := below_setRow ((Below.refl _ _).alloc (Nat.le_refl _) _) (Nat.le_refl _) _
  go_upto_region 6 with (with_reducible refine sp_store rfl _ _ rfl _ _ s rfl rfl rfl zs hnew z0 ?_)
  generalize hw4 : World.setRow _ _ _ = v4
  rw [hw4] at hb2
  have hA : SpAt v4 v3.heap.size s := by rw [← hw4]; exact Has.row hnew _
  replace hP := hP.on hb2
  replace hH := hH.on hb2
  replace hS := hS.on hb2
  replace hB := hB.trans (hb2.mono hB.size)
  clear hw4 hb2 hnew
  obtain ⟨bA, hbA⟩ : ∃ b, b = v3.heap.size := ⟨_, rfl⟩
  rw [← hbA] at hA ⊢
  clear hbA
  have C1 := Lib.hid (fun d os => K1.out s v4 _ hS hB _ (below_regrown v4 d os))
  have C2 := Lib.hid (fun d os => K2.out s v4 _ hS hB _ (below_regrown v4 d os))
  have C3 := Lib.hid (fun d os => K3.out s v4 _ hS hB _ (below_regrown v4 d os))
  have qp := hP.cls
  have qa := hA.cls
  have qh := range_cls hH.range (hdC_pos h)
  have sh := hdC_length ho
  clear hS K1 K2 K3 hA
  simp only [Act.put]
  refine wp_region_quiet_below (by kernel_rfl) (by kernel_rfl) ?_
  repeat (first
    | (go_big_quiet_want; (with_reducible refine NN.quiet_load_pr _ rfl _ rfl hz qp ?_); (simp only [Act.put, List.setIfInBounds_toArray, List.set_cons_zero, List.set_cons_succ]); go_big_quiet_on)
    | (go_big_quiet_want; (with_reducible refine quiet_load_sp _ rfl _ rfl zs qa ?_); (simp only [Act.put, List.setIfInBounds_toArray, List.set_cons_zero, List.set_cons_succ]); go_big_quiet_on)
    | (go_big_quiet_want; (with_reducible refine quiet_hd_mid _ rfl bH 0 rfl h sh qh ?_); (simp only [Act.put, List.setIfInBounds_toArray, List.set_cons_zero, List.set_cons_succ]); go_big_quiet_on)
    | go_big_quiet_step (first
      | (go_at_call 9; with_reducible exact Calls.regrown_of (C1.out _ _))
      | (go_at_call 9; with_reducible exact Calls.regrown_of (C2.out _ _))
      | (go_at_call 9; with_reducible exact Calls.regrown_of (C3.out _ _))))
  refine wpQuiet_nil ?_
  intro v5 hw'
  obtain ⟨rg, hw''⟩ := hw'
  have hb : Below v4.heap.size v4 v5 := by rw [hw'']; exact below_regrown v4 rg.d rg.os
  clear hw'' C1 C2 C3 qp qa qh
  replace hP := hP.on hb
  replace hB := hB.trans (hb.mono hB.size)
  clear hb hH
  go_wp2_with fail
  go_ret
  exact ⟨rfl, hB⟩
set_option maxRecDepth 100000 in
set_option maxHeartbeats 4000000 in
theorem later_never (p : NN.Pr) (hz : (NN.prA p).size = 83) (a : Option Addr) (n c : Nat) (h : Hd) (ho : h.ok) (now more : Int) (w : World)
    (KA : Hid (∀ w', Below w.heap.size w w' → Calls Tryz.prog 6 #[] w' fun e w'' => e = .returned (.bool true) ∧ Below w'.heap.size w' w''))
    (KG : Hid (∀ w', Below w.heap.size w w' → Calls Tryz.prog 7 #[.agg (NN.prA p), .slice a n c] w' fun e w'' => e = .returned (.bool false) ∧ Below w'.heap.size w' w'')) (d0 : decide (now < (0 : Int)) = false) (d1 : decide ((1099511627776 : Int) < now) = false) (d2 : decide (more < (0 : Int)) = false) (d3 : decide ((1099511627776 : Int) < more) = false) (nm : Int) (hnm : IntKind.i64.wrap (now + more) = nm)
    (q : Ps) (KS : Hid (∀ w', Below w.heap.size w w' → Calls Tryz.prog 10 #[.agg (NN.prA p), .slice a n c] w' fun r w'' => ∃ s, r = .returned (.agg (spA s)) ∧ (spA s).size = 38 ∧ SpIs w'' w'.heap.size s q ∧ Below w'.heap.size w' w''))
    (fut : Int) (e3 : Hid (p.fut = fut)) (tf : decide (fut < (0 : Int)) = true)
    (K1 : Hid (∀ s wS lo, SpIs wS lo s q → Below w.heap.size w wS → ∀ w', Below wS.heap.size wS w' → Calls Tryz.prog 9 #[.agg (NN.prA p), .agg (spA s), .agg (hdA h), .int .i64 now] w' fun e w'' => e = .returned (.int .i64 6) ∧ Below w'.heap.size w' w''))
    (K2 : Hid (∀ s wS lo, SpIs wS lo s q → Below w.heap.size w wS → ∀ w', Below wS.heap.size wS w' → Calls Tryz.prog 9 #[.agg (NN.prA p), .agg (spA s), .agg (hdA h), .int .i64 nm] w' fun e w'' => e = .returned (.int .i64 6) ∧ Below w'.heap.size w' w''))
    (K3 : Hid (∀ s wS lo, SpIs wS lo s q → Below w.heap.size w wS → ∀ w', Below wS.heap.size wS w' → Calls Tryz.prog 9 #[.agg (NN.prA p), .agg (spA s), .agg (hdA h), .int .i64 1099511627776] w' fun e w'' => e = .returned (.int .i64 6) ∧ Below w'.heap.size w' w'')) :
    Calls Tryz.prog 5 #[.agg (NN.prA p), .slice a n c, .agg (hdA h), .int .i64 now, .int .i64 more] w fun e w' => e = .returned (.bool true) ∧ Below w.heap.size w w' := by
  have za := hdA_size ho
  go_enter Tryz.func5, Tryz.ntmps5
  go_upto_region 1 with fail
  generalize hw0 : World.alloc _ _ = v0
  have hB : Below w.heap.size w v0 := by rw [← hw0]; exact ((Below.refl _ _).alloc (Nat.le_refl _) _).alloc (by simp) _
  have hP : NN.PrAt v0 w.heap.size p := by rw [← hw0]; exact (NN.Has.new _ _).alloc _
  have hH : HdAt v0 (w.heap.size + 1) h := by rw [← hw0]; exact hd_new1 w _ h
  clear hw0
  obtain ⟨bP, hbP⟩ : ∃ b, b = w.heap.size := ⟨_, rfl⟩
  obtain ⟨bH, hbH⟩ : ∃ b, b = w.heap.size + 1 := ⟨_, rfl⟩
  rw [← hbH] at hH ⊢
  rw [← hbP] at hP ⊢
  clear hbP hbH
  go_wp2_with fail
  refine (KA.out _ hB).mono ?_
  rintro e v1 ⟨rfl, hb⟩
  replace hP := hP.on hb
  replace hH := hH.on hb
  replace hB := hB.trans (hb.mono hB.size)
  clear hb
  go_wp2_with (first | fail | (with_reducible refine NN.pr_load rfl _ rfl _ rfl hP hz ?_))
  refine (KG.out _ hB).mono ?_
  rintro e v2 ⟨rfl, hb⟩
  replace hP := hP.on hb
  replace hH := hH.on hb
  replace hB := hB.trans (hb.mono hB.size)
  clear hb
  go_wp2_with (first | fail | (with_reducible refine NN.pr_load rfl _ rfl _ rfl hP hz ?_))
  refine (KS.out _ hB).mono ?_
  rintro e v3 ⟨s, rfl, zs, hS, hb⟩
  replace hP := hP.on hb
  replace hH := hH.on hb
  replace hB := hB.trans (hb.mono hB.size)
  clear hb
  have z0 := spA_size spZ_ok
  have hnew := sp_newz v3
  have hb2 : Below v3.heap.size v3 ((v3.alloc (.cells #[.int .i64 0, .int .i64 0, .int .i64 0, .int .i64 0, .int .i64 0, .int .u8 0, .int .u8 0, .int .u8 0, .int .u8 0, .int .u8 0, .int .u8 0, .int .u8 0, .int .u8 0, .int .u8 0, .int .u8 0, .int .u8 0, .int .u8 0, .int .u8 0, .int .u8 0, .int .u8 0, .int .u8 0, .int .u8 0, .int .u8 0, .int .u8 0, .int .u8 0, .int .u8 0, .int .u8 0, .int .u8 0, .int .u8 0, .int .u8 0, .int .u8 0, .int .u8 0, .int .u8 0, .int .u8 0, .int .u8 0, .int .u8 0, .int .u8 0, .slice none 0 0] 43)).setRow v3.heap.size (spA s)) := below_setRow ((Below.refl _ _).alloc (Nat.le_refl _) _) (Nat.le_refl _) _
  go_upto_region 6 with (with_reducible refine sp_store rfl _ _ rfl _ _ s rfl rfl rfl zs hnew z0 ?_)
  generalize hw4 : World.setRow _ _ _ = v4
  rw [hw4] at hb2
  have hA : SpAt v4 v3.heap.size s := by rw [← hw4]; exact Has.row hnew _
  replace hP := hP.on hb2
  replace hH := hH.on hb2
  replace hS := hS.on hb2
  replace hB := hB.trans (hb2.mono hB.size)
  clear hw4 hb2 hnew
  obtain ⟨bA, hbA⟩ : ∃ b, b = v3.heap.size := ⟨_, rfl⟩
  rw [← hbA] at hA ⊢
  clear hbA
  have C1 := Lib.hid (fun d os => K1.out s v4 _ hS hB _ (below_regrown v4 d os))
  have C2 := Lib.hid (fun d os => K2.out s v4 _ hS hB _ (below_regrown v4 d os))
  have C3 := Lib.hid (fun d os => K3.out s v4 _ hS hB _ (below_regrown v4 d os))
  have qp := hP.cls
  have qa := hA.cls
  have qh := range_cls hH.range (hdC_pos h)
  have sh := hdC_length ho
  clear hS K1 K2 K3 hA
  simp only [Act.put]
  refine wp_region_quiet_below (by kernel_rfl) (by kernel_rfl) ?_
  repeat (first
    | (go_big_quiet_want; (with_reducible refine NN.quiet_load_pr _ rfl _ rfl hz qp ?_); (simp only [Act.put, List.setIfInBounds_toArray, List.set_cons_zero, List.set_cons_succ]); go_big_quiet_on)
    | (go_big_quiet_want; (with_reducible refine quiet_load_sp _ rfl _ rfl zs qa ?_); (simp only [Act.put, List.setIfInBounds_toArray, List.set_cons_zero, List.set_cons_succ]); go_big_quiet_on)
    | (go_big_quiet_want; (with_reducible refine quiet_hd_mid _ rfl bH 0 rfl h sh qh ?_); (simp only [Act.put, List.setIfInBounds_toArray, List.set_cons_zero, List.set_cons_succ]); go_big_quiet_on)
    | go_big_quiet_step (first
      | (go_at_call 9; with_reducible exact Calls.regrown_of (C1.out _ _))
      | (go_at_call 9; with_reducible exact Calls.regrown_of (C2.out _ _))
      | (go_at_call 9; with_reducible exact Calls.regrown_of (C3.out _ _))))
  refine wpQuiet_nil ?_
  intro v5 hw'
  obtain ⟨rg, hw''⟩ := hw'
  have hb : Below v4.heap.size v4 v5 := by rw [hw'']; exact below_regrown v4 rg.d rg.os
  clear hw'' C1 C2 C3 qp qa qh
  replace hP := hP.on hb
  replace hB := hB.trans (hb.mono hB.size)
  clear hb hH
  have c3 := hP.c3 e3
  go_wp2_with fail
  go_ret
  exact ⟨rfl, hB⟩
set_option maxRecDepth 100000 in
set_option maxHeartbeats 4000000 in
theorem later_yet (p : NN.Pr) (hz : (NN.prA p).size = 83) (a : Option Addr) (n c : Nat) (h : Hd) (ho : h.ok) (now more : Int) (w : World)
    (KA : Hid (∀ w', Below w.heap.size w w' → Calls Tryz.prog 6 #[] w' fun e w'' => e = .returned (.bool true) ∧ Below w'.heap.size w' w''))
    (KG : Hid (∀ w', Below w.heap.size w w' → Calls Tryz.prog 7 #[.agg (NN.prA p), .slice a n c] w' fun e w'' => e = .returned (.bool false) ∧ Below w'.heap.size w' w'')) (d0 : decide (now < (0 : Int)) = false) (d1 : decide ((1099511627776 : Int) < now) = false) (d2 : decide (more < (0 : Int)) = false) (d3 : decide ((1099511627776 : Int) < more) = false) (nm : Int) (hnm : IntKind.i64.wrap (now + more) = nm)
    (q : Ps) (KS : Hid (∀ w', Below w.heap.size w w' → Calls Tryz.prog 10 #[.agg (NN.prA p), .slice a n c] w' fun r w'' => ∃ s, r = .returned (.agg (spA s)) ∧ (spA s).size = 38 ∧ SpIs w'' w'.heap.size s q ∧ Below w'.heap.size w' w''))
    (fut : Int) (e3 : Hid (p.fut = fut)) (tf : decide (fut < (0 : Int)) = false) (x : Int) (t1 : (x == (6 : Int)) = false)
    (K1 : Hid (∀ s wS lo, SpIs wS lo s q → Below w.heap.size w wS → ∀ w', Below wS.heap.size wS w' → Calls Tryz.prog 9 #[.agg (NN.prA p), .agg (spA s), .agg (hdA h), .int .i64 now] w' fun e w'' => e = .returned (.int .i64 6) ∧ Below w'.heap.size w' w''))
    (K2 : Hid (∀ s wS lo, SpIs wS lo s q → Below w.heap.size w wS → ∀ w', Below wS.heap.size wS w' → Calls Tryz.prog 9 #[.agg (NN.prA p), .agg (spA s), .agg (hdA h), .int .i64 nm] w' fun e w'' => e = .returned (.int .i64 6) ∧ Below w'.heap.size w' w''))
    (K3 : Hid (∀ s wS lo, SpIs wS lo s q → Below w.heap.size w wS → ∀ w', Below wS.heap.size wS w' → Calls Tryz.prog 9 #[.agg (NN.prA p), .agg (spA s), .agg (hdA h), .int .i64 1099511627776] w' fun e w'' => e = .returned (.int .i64 x) ∧ Below w'.heap.size w' w'')) :
    Calls Tryz.prog 5 #[.agg (NN.prA p), .slice a n c, .agg (hdA h), .int .i64 now, .int .i64 more] w fun e w' => e = .returned (.bool true) ∧ Below w.heap.size w w' := by
  have za := hdA_size ho
  go_enter Tryz.func5, Tryz.ntmps5
  go_upto_region 1 with fail
  generalize hw0 : World.alloc _ _ = v0
  have hB : Below w.heap.size w v0 := by rw [← hw0]; exact ((Below.refl _ _).alloc (Nat.le_refl _) _).alloc (by simp) _
  have hP : NN.PrAt v0 w.heap.size p := by rw [← hw0]; exact (NN.Has.new _ _).alloc _
  have hH : HdAt v0 (w.heap.size + 1) h := by rw [← hw0]; exact hd_new1 w _ h
  clear hw0
  obtain ⟨bP, hbP⟩ : ∃ b, b = w.heap.size := ⟨_, rfl⟩
  obtain ⟨bH, hbH⟩ : ∃ b, b = w.heap.size + 1 := ⟨_, rfl⟩
  rw [← hbH] at hH ⊢
  rw [← hbP] at hP ⊢
  clear hbP hbH
  go_wp2_with fail
  refine (KA.out _ hB).mono ?_
  rintro e v1 ⟨rfl, hb⟩
  replace hP := hP.on hb
  replace hH := hH.on hb
  replace hB := hB.trans (hb.mono hB.size)
  clear hb
  go_wp2_with (first | fail | (with_reducible refine NN.pr_load rfl _ rfl _ rfl hP hz ?_))
  refine (KG.out _ hB).mono ?_
  rintro e v2 ⟨rfl, hb⟩
  replace hP := hP.on hb
  replace hH := hH.on hb
  replace hB := hB.trans (hb.mono hB.size)
  clear hb
  go_wp2_with (first | fail | (with_reducible refine NN.pr_load rfl _ rfl _ rfl hP hz ?_))
  refine (KS.out _ hB).mono ?_
  rintro e v3 ⟨s, rfl, zs, hS, hb⟩
  replace hP := hP.on hb
  replace hH := hH.on hb
  replace hB := hB.trans (hb.mono hB.size)
  clear hb
  have z0 := spA_size spZ_ok
  have hnew := sp_newz v3
  have hb2 : Below v3.heap.size v3 ((v3.alloc (.cells #[.int .i64 0, .int .i64 0, .int .i64 0, .int .i64 0, .int .i64 0, .int .u8 0, .int .u8 0, .int .u8 0, .int .u8 0, .int .u8 0, .int .u8 0, .int .u8 0, .int .u8 0, .int .u8 0, .int .u8 0, .int .u8 0, .int .u8 0, .int .u8 0, .int .u8 0, .int .u8 0, .int .u8 0, .int .u8 0, .int .u8 0, .int .u8 0, .int .u8 0, .int .u8 0, .int .u8 0, .int .u8 0, .int .u8 0, .int .u8 0, .int .u8 0, .int .u8 0, .int .u8 0, .int .u8 0, .int .u8 0, .int .u8 0, .int .u8 0, .slice none 0 0] 43)).setRow v3.heap.size (spA s)) := below_setRow ((Below.refl _ _).alloc (Nat.le_refl _) _) (Nat.le_refl _) _
  go_upto_region 6 with (with_reducible refine sp_store rfl _ _ rfl _ _ s rfl rfl rfl zs hnew z0 ?_)
  generalize hw4 : World.setRow _ _ _ = v4
  rw [hw4] at hb2
  have hA : SpAt v4 v3.heap.size s := by rw [← hw4]; exact Has.row hnew _
  replace hP := hP.on hb2
  replace hH := hH.on hb2
  replace hS := hS.on hb2
  replace hB := hB.trans (hb2.mono hB.size)
  clear hw4 hb2 hnew
  obtain ⟨bA, hbA⟩ : ∃ b, b = v3.heap.size := ⟨_, rfl⟩
  rw [← hbA] at hA ⊢
  clear hbA
  have C1 := Lib.hid (fun d os => K1.out s v4 _ hS hB _ (below_regrown v4 d os))
  have C2 := Lib.hid (fun d os => K2.out s v4 _ hS hB _ (below_regrown v4 d os))
  have C3 := Lib.hid (fun d os => K3.out s v4 _ hS hB _ (below_regrown v4 d os))
  have qp := hP.cls
  have qa := hA.cls
  have qh := range_cls hH.range (hdC_pos h)
  have sh := hdC_length ho
  clear hS K1 K2 K3 hA
  simp only [Act.put]
  refine wp_region_quiet_below (by kernel_rfl) (by kernel_rfl) ?_
  repeat (first
    | (go_big_quiet_want; (with_reducible refine NN.quiet_load_pr _ rfl _ rfl hz qp ?_); (simp only [Act.put, List.setIfInBounds_toArray, List.set_cons_zero, List.set_cons_succ]); go_big_quiet_on)
    | (go_big_quiet_want; (with_reducible refine quiet_load_sp _ rfl _ rfl zs qa ?_); (simp only [Act.put, List.setIfInBounds_toArray, List.set_cons_zero, List.set_cons_succ]); go_big_quiet_on)
    | (go_big_quiet_want; (with_reducible refine quiet_hd_mid _ rfl bH 0 rfl h sh qh ?_); (simp only [Act.put, List.setIfInBounds_toArray, List.set_cons_zero, List.set_cons_succ]); go_big_quiet_on)
    | go_big_quiet_step (first
      | (go_at_call 9; with_reducible exact Calls.regrown_of (C1.out _ _))
      | (go_at_call 9; with_reducible exact Calls.regrown_of (C2.out _ _))
      | (go_at_call 9; with_reducible exact Calls.regrown_of (C3.out _ _))))
  refine wpQuiet_nil ?_
  intro v5 hw'
  obtain ⟨rg, hw''⟩ := hw'
  have hb : Below v4.heap.size v4 v5 := by rw [hw'']; exact below_regrown v4 rg.d rg.os
  clear hw'' C1 C2 C3 qp qa qh
  replace hP := hP.on hb
  replace hB := hB.trans (hb.mono hB.size)
  clear hb hH
  have c3 := hP.c3 e3
  go_wp2_with fail
  go_ret
  exact ⟨rfl, hB⟩
set_option maxRecDepth 100000 in
set_option maxHeartbeats 4000000 in
theorem later_then (p : NN.Pr) (hz : (NN.prA p).size = 83) (a : Option Addr) (n c : Nat) (h : Hd) (ho : h.ok) (now more : Int) (w : World)
    (KA : Hid (∀ w', Below w.heap.size w w' → Calls Tryz.prog 6 #[] w' fun e w'' => e = .returned (.bool true) ∧ Below w'.heap.size w' w''))
    (KG : Hid (∀ w', Below w.heap.size w w' → Calls Tryz.prog 7 #[.agg (NN.prA p), .slice a n c] w' fun e w'' => e = .returned (.bool false) ∧ Below w'.heap.size w' w'')) (d0 : decide (now < (0 : Int)) = false) (d1 : decide ((1099511627776 : Int) < now) = false) (d2 : decide (more < (0 : Int)) = false) (d3 : decide ((1099511627776 : Int) < more) = false) (nm : Int) (hnm : IntKind.i64.wrap (now + more) = nm)
    (q : Ps) (KS : Hid (∀ w', Below w.heap.size w w' → Calls Tryz.prog 10 #[.agg (NN.prA p), .slice a n c] w' fun r w'' => ∃ s, r = .returned (.agg (spA s)) ∧ (spA s).size = 38 ∧ SpIs w'' w'.heap.size s q ∧ Below w'.heap.size w' w''))
    (fut : Int) (e3 : Hid (p.fut = fut)) (tf : decide (fut < (0 : Int)) = false) (x : Int) (t1 : (x == (6 : Int)) = false)
    (K1 : Hid (∀ s wS lo, SpIs wS lo s q → Below w.heap.size w wS → ∀ w', Below wS.heap.size wS w' → Calls Tryz.prog 9 #[.agg (NN.prA p), .agg (spA s), .agg (hdA h), .int .i64 now] w' fun e w'' => e = .returned (.int .i64 6) ∧ Below w'.heap.size w' w''))
    (K2 : Hid (∀ s wS lo, SpIs wS lo s q → Below w.heap.size w wS → ∀ w', Below wS.heap.size wS w' → Calls Tryz.prog 9 #[.agg (NN.prA p), .agg (spA s), .agg (hdA h), .int .i64 nm] w' fun e w'' => e = .returned (.int .i64 x) ∧ Below w'.heap.size w' w''))
    (K3 : Hid (∀ s wS lo, SpIs wS lo s q → Below w.heap.size w wS → ∀ w', Below wS.heap.size wS w' → Calls Tryz.prog 9 #[.agg (NN.prA p), .agg (spA s), .agg (hdA h), .int .i64 1099511627776] w' fun e w'' => e = .returned (.int .i64 x) ∧ Below w'.heap.size w' w'')) :
    Calls Tryz.prog 5 #[.agg (NN.prA p), .slice a n c, .agg (hdA h), .int .i64 now, .int .i64 more] w fun e w' => e = .returned (.bool true) ∧ Below w.heap.size w w' := by
  have za := hdA_size ho
  go_enter Tryz.func5, Tryz.ntmps5
  go_upto_region 1 with fail
  generalize hw0 : World.alloc _ _ = v0
  have hB : Below w.heap.size w v0 := by rw [← hw0]; exact ((Below.refl _ _).alloc (Nat.le_refl _) _).alloc (by simp) _
  have hP : NN.PrAt v0 w.heap.size p := by rw [← hw0]; exact (NN.Has.new _ _).alloc _
  have hH : HdAt v0 (w.heap.size + 1) h := by rw [← hw0]; exact hd_new1 w _ h
  clear hw0
  obtain ⟨bP, hbP⟩ : ∃ b, b = w.heap.size := ⟨_, rfl⟩
  obtain ⟨bH, hbH⟩ : ∃ b, b = w.heap.size + 1 := ⟨_, rfl⟩
  rw [← hbH] at hH ⊢
  rw [← hbP] at hP ⊢
  clear hbP hbH
  go_wp2_with fail
  refine (KA.out _ hB).mono ?_
  rintro e v1 ⟨rfl, hb⟩
  replace hP := hP.on hb
  replace hH := hH.on hb
  replace hB := hB.trans (hb.mono hB.size)
  clear hb
  go_wp2_with (first | fail | (with_reducible refine NN.pr_load rfl _ rfl _ rfl hP hz ?_))
  refine (KG.out _ hB).mono ?_
  rintro e v2 ⟨rfl, hb⟩
  replace hP := hP.on hb
  replace hH := hH.on hb
  replace hB := hB.trans (hb.mono hB.size)
  clear hb
  go_wp2_with (first | fail | (with_reducible refine NN.pr_load rfl _ rfl _ rfl hP hz ?_))
  refine (KS.out _ hB).mono ?_
  rintro e v3 ⟨s, rfl, zs, hS, hb⟩
  replace hP := hP.on hb
  replace hH := hH.on hb
  replace hB := hB.trans (hb.mono hB.size)
  clear hb
  have z0 := spA_size spZ_ok
  have hnew := sp_newz v3
  have hb2 : Below v3.heap.size v3 ((v3.alloc (.cells #[.int .i64 0, .int .i64 0, .int .i64 0, .int .i64 0, .int .i64 0, .int .u8 0, .int .u8 0, .int .u8 0, .int .u8 0, .int .u8 0, .int .u8 0, .int .u8 0, .int .u8 0, .int .u8 0, .int .u8 0, .int .u8 0, .int .u8 0, .int .u8 0, .int .u8 0, .int .u8 0, .int .u8 0, .int .u8 0, .int .u8 0, .int .u8 0, .int .u8 0, .int .u8 0, .int .u8 0, .int .u8 0, .int .u8 0, .int .u8 0, .int .u8 0, .int .u8 0, .int .u8 0, .int .u8 0, .int .u8 0, .int .u8 0, .int .u8 0, .slice none 0 0] 43)).setRow v3.heap.size (spA s)) := below_setRow ((Below.refl _ _).alloc (Nat.le_refl _) _) (Nat.le_refl _) _
  go_upto_region 6 with (with_reducible refine sp_store rfl _ _ rfl _ _ s rfl rfl rfl zs hnew z0 ?_)
  generalize hw4 : World.setRow _ _ _ = v4
  rw [hw4] at hb2
  have hA : SpAt v4 v3.heap.size s := by rw [← hw4]; exact Has.row hnew _
  replace hP := hP.on hb2
  replace hH := hH.on hb2
  replace hS := hS.on hb2
  replace hB := hB.trans (hb2.mono hB.size)
  clear hw4 hb2 hnew
  obtain ⟨bA, hbA⟩ : ∃ b, b = v3.heap.size := ⟨_, rfl⟩
  rw [← hbA] at hA ⊢
  clear hbA
  have C1 := Lib.hid (fun d os => K1.out s v4 _ hS hB _ (below_regrown v4 d os))
  have C2 := Lib.hid (fun d os => K2.out s v4 _ hS hB _ (below_regrown v4 d os))
  have C3 := Lib.hid (fun d os => K3.out s v4 _ hS hB _ (below_regrown v4 d os))
  have qp := hP.cls
  have qa := hA.cls
  have qh := range_cls hH.range (hdC_pos h)
  have sh := hdC_length ho
  clear hS K1 K2 K3 hA
  simp only [Act.put]
  refine wp_region_quiet_below (by kernel_rfl) (by kernel_rfl) ?_
  repeat (first
    | (go_big_quiet_want; (with_reducible refine NN.quiet_load_pr _ rfl _ rfl hz qp ?_); (simp only [Act.put, List.setIfInBounds_toArray, List.set_cons_zero, List.set_cons_succ]); go_big_quiet_on)
    | (go_big_quiet_want; (with_reducible refine quiet_load_sp _ rfl _ rfl zs qa ?_); (simp only [Act.put, List.setIfInBounds_toArray, List.set_cons_zero, List.set_cons_succ]); go_big_quiet_on)
    | (go_big_quiet_want; (with_reducible refine quiet_hd_mid _ rfl bH 0 rfl h sh qh ?_); (simp only [Act.put, List.setIfInBounds_toArray, List.set_cons_zero, List.set_cons_succ]); go_big_quiet_on)
    | go_big_quiet_step (first
      | (go_at_call 9; with_reducible exact Calls.regrown_of (C1.out _ _))
      | (go_at_call 9; with_reducible exact Calls.regrown_of (C2.out _ _))
      | (go_at_call 9; with_reducible exact Calls.regrown_of (C3.out _ _))))
  refine wpQuiet_nil ?_
  intro v5 hw'
  obtain ⟨rg, hw''⟩ := hw'
  have hb : Below v4.heap.size v4 v5 := by rw [hw'']; exact below_regrown v4 rg.d rg.os
  clear hw'' C1 C2 C3 qp qa qh
  replace hP := hP.on hb
  replace hB := hB.trans (hb.mono hB.size)
  clear hb hH
  have c3 := hP.c3 e3
  go_wp2_with fail
  go_ret
  exact ⟨rfl, hB⟩
theorem later_walk (p : NN.Pr) (hp : p.ok) (t : Tl) (tt : p.tl = t.C) (ht : t.ok) (gs : List Gt) (cs : List Ck) (hgn : t.gn = gs.length) (hcn : t.cn = cs.length) (a : Option Addr) (hs : List Hd) (n c : Nat) (hn : n = hs.length) (h : Hd) (ho : h.ok) (now more : Int) (w : World) (hT : Tab w) (hA : HeadersAt w a hs) (hG : GatesAt w t.ga gs) (hC : ChecksAt w t.ca cs) :
    Calls Tryz.prog 5 #[.agg (NN.prA p), .slice a n c, .agg (hdA h), .int .i64 now, .int .i64 more] w fun e w' => e = .returned (.bool true) ∧ Below w.heap.size w w' := by
  have hz := NN.prA_size hp
  have KA : Hid (∀ w', Below w.heap.size w w' → Calls Tryz.prog 6 #[] w' fun e w'' => e = .returned (.bool true) ∧ Below w'.heap.size w' w'') := Lib.hid fun w' hb => alive11 w' (hT.below hb)
  have KG : ∀ g, (decide (20 < t.gn) || decide (20 < t.cn) || decide (40 < n)) = g → Hid (∀ w', Below w.heap.size w w' → Calls Tryz.prog 7 #[.agg (NN.prA p), .slice a n c] w' fun e w'' => e = .returned (.bool g) ∧ Below w'.heap.size w' w'') := fun g hg => Lib.hid fun w' _ => great_is p t tt n a c g hg w'
  cases hg : (decide (20 < t.gn) || decide (20 < t.cn) || decide (40 < n))
  · have KG1 := KG false hg
    simp only [Bool.or_eq_false_iff, decide_eq_false_iff_not] at hg
    by_cases d0 : now < 0
    · exact later_out1 p hz a n c h now more w KA KG1 (decide_eq_true d0)
    by_cases d1 : 1099511627776 < now
    · exact later_out2 p hz a n c h now more w KA KG1 (decide_eq_false d0) (decide_eq_true d1)
    by_cases d2 : more < 0
    · exact later_out3 p hz a n c h now more w KA KG1 (decide_eq_false d0) (decide_eq_false d1) (decide_eq_true d2)
    by_cases d3 : 1099511627776 < more
    · exact later_out4 p hz a n c h now more w KA KG1 (decide_eq_false d0) (decide_eq_false d1) (decide_eq_false d2) (decide_eq_true d3)
    have e0 := decide_eq_false d0
    have e1 := decide_eq_false d1
    have e2 := decide_eq_false d2
    have e3 := decide_eq_false d3
    have hnm : IntKind.i64.wrap (now + more) = now + more := by rw [IntKind.wrap_i64]; omega
    have KS : Hid (∀ w', Below w.heap.size w w' → Calls Tryz.prog 10 #[.agg (NN.prA p), .slice a n c] w' fun r w'' => ∃ s, r = .returned (.agg (spA s)) ∧ (spA s).size = 38 ∧ SpIs w'' w'.heap.size s (way p t.g hs n) ∧ Below w'.heap.size w' w'') := Lib.hid fun w' hb => spot_at p hp t tt ht a hs n c hn (by omega) w' (hT.below hb) (hA.below hb)
    have q5 := way_prev p t.g hs n (by omega)
    have q6 := way_ts p t.g hs n (by omega)
    generalize way p t.g hs n = q at *
    have KC : ∀ now x, chk p gs cs q h now = x → Hid (∀ s wS lo, SpIs wS lo s q → Below w.heap.size w wS → ∀ w', Below wS.heap.size wS w' → Calls Tryz.prog 9 #[.agg (NN.prA p), .agg (spA s), .agg (hdA h), .int .i64 now] w' fun e w'' => e = .returned (.int .i64 x) ∧ Below w'.heap.size w' w'') := fun now x hx => Lib.hid fun s wS lo hS hb w' hb' => by
      have hI := hS.on hb'
      have hbb : Below w.heap.size w w' := hb.trans (hb'.mono hb.size)
      rw [← hx]
      exact check_at p hp t tt gs cs hgn hcn (by omega) (by omega) s q hI.1 hI.2.1 hI.2.2.1 hI.2.2.2.1 q5 (by rw [← hI.2.2.1, q6]; omega) h ho now w' (hT.below hbb) (hI.2.2.2.2.2.wide (Nat.zero_le _) (Nat.le_refl _)) (hG.below hbb) (hC.below hbb)
    rcases later_three p gs cs q h now more (by omega) (by omega) (by omega) (by omega) with ⟨r1, r2, r3⟩ | ⟨r1, r2, r3, r4⟩ | ⟨r1, r2, r3, r4 | ⟨r4, r5⟩⟩
    · exact later_same p hz a n c h ho now more w KA KG1 e0 e1 e2 e3 _ hnm q KS _ (by simpa using r1) (KC _ _ rfl) (KC _ _ r2) (KC _ _ r3)
    · exact later_never p hz a n c h ho now more w KA KG1 e0 e1 e2 e3 _ hnm q KS _ (Lib.hid rfl) (decide_eq_true r2) (KC _ _ r1) (KC _ _ r3) (KC _ _ r4)
    · exact later_yet p hz a n c h ho now more w KA KG1 e0 e1 e2 e3 _ hnm q KS _ (Lib.hid rfl) (decide_eq_false (by omega)) _ (by simpa using r3) (KC _ _ r1) (KC _ _ r4) (KC _ _ rfl)
    · exact later_then p hz a n c h ho now more w KA KG1 e0 e1 e2 e3 _ hnm q KS _ (Lib.hid rfl) (decide_eq_false (by omega)) _ (by simpa using r3) (KC _ _ r1) (KC _ _ r5) (KC _ _ rfl)
  · exact later_out0 p hz a n c h now more w KA (KG true hg)
end Go.Proofs.YtpophaejeklaoaaGreatDoor
