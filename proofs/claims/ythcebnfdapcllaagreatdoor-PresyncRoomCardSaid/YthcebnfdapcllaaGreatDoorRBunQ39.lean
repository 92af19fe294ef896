import Derived.Test.YthcebnfdapcllaaGreatDoorRBunQ37
import Derived.Test.YthcebnfdapcllaaGreatDoorRBunQ14
import Derived.Laws.AppendOwnNone
import Derived.Maps.AppendAt
import Derived.Test.YthcebnfdapcllaaGreatDoorRBunQ36
import Derived.Test.YthcebnfdapcllaaGreatDoorRBunQ12
import Derived.Test.YthcebnfdapcllaaGreatDoorRBunQ29
import Derived.Test.YthcebnfdapcllaaGreatDoorRBunQ34
import Derived.Test.YthcebnfdapcllaaGreatDoorRBunQ23
namespace Go.Proofs.YthcebnfdapcllaaGreatDoor
open Go.RowKit Mem Sc NN.Rg2
theorem rl_frame (a : Act) (n : Nat) (u : Nat → Value) (hs : a.tmps.size = n) (hd : a.defers = []) (hu : ∀ t, u t = a.eval (.tmp t)) : a = ⟨((List.range n).map u).toArray, []⟩ := by
  obtain ⟨tm, df⟩ := a
  obtain rfl : df = [] := hd
  congr 1
  apply Array.ext
  · simpa using hs
  · intro i h1 h2
    simp only [List.getElem_toArray, List.getElem_map, List.getElem_range, hu]
    simp [Act.eval, Array.getD_eq_getD_getElem?, h1]
def SpStep (B : Nat) (w w' : World) : Prop := ∀ b cs, B ≤ b → Has w b cs 60 → cs.size = 38 → ∃ cs', Has w' b cs' 60 ∧ cs'.size = 38
theorem SpStep.refl (B : Nat) (w : World) : SpStep B w w := fun _ cs _ h hs => ⟨cs, h, hs⟩
theorem SpStep.below {B : Nat} {w w' : World} (h : Below w.heap.size w w') : SpStep B w w' := fun _ cs _ h' hs => ⟨cs, below_has h h' h'.lt, hs⟩
theorem SpStep.row {B g : Nat} {s : Sp} {cs : Array Value} {w : World} (hg : Has w g cs 60) (hs : (spA s).size = 38) : SpStep B w (w.setRow g (spA s)) := fun b cs' _ h h' => by
  by_cases e : b = g
  · subst e; exact ⟨_, Has.row hg _, hs⟩
  · exact ⟨cs', Has.otherRow h _ _ e, h'⟩
def MkR (B bA : Nat) (s : Sp) (h : Hd) (s' : Sp) : Nat → Value → World → Prop
  | 0, v, _ => v = .pointer (some ⟨bA, 0, none⟩)
  | 1, v, _ => v = .agg (NN.ptA s.x)
  | 2, v, _ => v = .agg (hdA h)
  | 3, v, _ => v = .agg (bytesV s'.prev)
  | 4, v, _ => v = .agg (spA s')
  | 5, v, w => ∃ b cs, B ≤ b ∧ v = .pointer (some ⟨b, 0, none⟩) ∧ Has w b cs 60 ∧ cs.size = 38
  | _, _, _ => True
theorem MkR_stays {B bA : Nat} {s s' : Sp} {h : Hd} (i : Nat) (v : Value) (w w' : World) (hs : SpStep B w w') (hr : MkR B bA s h s' i v w) : MkR B bA s h s' i v w' := by
  match i, hr with
  | 0, hr => exact hr
  | 1, hr => exact hr
  | 2, hr => exact hr
  | 3, hr => exact hr
  | 4, hr => exact hr
  | 5, ⟨b, cs, h1, h2, h3, h4⟩ =>
    obtain ⟨cs', h5, h6⟩ := hs b cs h1 h3 h4
    exact ⟨b, cs', h1, h2, h5, h6⟩
  | _ + 6, _ => trivial
def DoneS (k : Nat) (p : Tmp) (B : Nat) (s : Sp) (listed : Array Bool) (a : Act) (w : World) : Prop := listed.getD k false = true → ∃ b, B ≤ b ∧ a.eval (.tmp p) = .pointer (some ⟨b, 0, none⟩) ∧ SpAt w b s
theorem DoneS.pre {k i : Nat} {p : Tmp} {B : Nat} {s : Sp} {listed : Array Bool} {a : Act} {w : World} (h : (listed.setIfInBounds i true).getD k false = false) : DoneS k p B s (listed.setIfInBounds i true) a w := fun hl => by rw [h] at hl; cases hl
section
variable {ρ : Operand → Value} {o : Oper} {w : World}
theorem sfield0 (w : World) (g : Nat) : (Instr.fieldAt 60 (.pointer (some ⟨g, 0, none⟩)) 0).run Tryz.prog w = .ok (.pointer (some ⟨g, 0, none⟩)) w := by kernel_rfl
theorem ex_sfield0 {x : Operand} {g : Nat} (ho : o.op = .fieldAddr 60 x 0) (hx : ρ x = .pointer (some ⟨g, 0, none⟩)) : (execOp ρ o).run Tryz.prog w = .ok (.value (.pointer (some ⟨g, 0, none⟩))) w := by
  unfold execOp
  simp only [ho, hx, Sem.run_bind, sfield0, Result.andThen_ok]
  rfl
theorem ex_load_pt {x : Operand} {g : Nat} {y : NN.Pt} (ho : o.op = .load 57 x) (hx : ρ x = .pointer (some ⟨g, 0, none⟩)) (hg : w.rangeAt g 0 (NN.ptA y).toList) : (execOp ρ o).run Tryz.prog w = .ok (.value (.agg (NN.ptA y))) w := by
  unfold execOp
  simp only [ho, hx, Sem.run_bind, run_pt w g y hg, Result.andThen_ok]
  rfl
theorem ex_load_hd {x : Operand} {g : Nat} {h : Hd} (ho : o.op = .load 30 x) (hx : ρ x = .pointer (some ⟨g, 0, none⟩)) (hg : HdAt w g h) (hs : (hdA h).size = 68) : (execOp ρ o).run Tryz.prog w = .ok (.value (.agg (hdA h))) w := by
  have hl : (loadVar 30 ⟨g, 0, none⟩).run Tryz.prog w = .ok (.agg (hdA h)) w := run_loadVar_row w g 30 30 (hdA h) (0, 0) _ (Has.out hg) Tryz.underlying30 rfl (hdinfo.trans (by rw [hs]))
  unfold execOp
  simp only [ho, hx, Instr.loadAt, Instr.sureAddr, Sem.run_bind, Sem.run_pure, Result.andThen_ok, hl]
theorem ex_alloc_sp (ho : o.op = .alloc 60) : (execOp ρ o).run Tryz.prog w = .ok (.value (.pointer (some ⟨w.heap.size, 0, none⟩))) (w.alloc (.cells (spA spZ) 60)) := by
  unfold execOp
  simp only [ho]
  kernel_rfl
theorem ex_store_sp {x y : Operand} {g : Nat} {s : Sp} {cs : Array Value} (ho : o.op = .store 60 x y) (hx : ρ x = .pointer (some ⟨g, 0, none⟩)) (hy : ρ y = .agg (spA s)) (hg : Has w g cs 60) (hs : cs.size = 38) (hs' : (spA s).size = 38) : (execOp ρ o).run Tryz.prog w = .ok .skip (w.setRow g (spA s)) := by
  unfold execOp
  simp only [ho, hx, hy, Instr.storeAt, Instr.sureAddr, Sem.run_bind, Sem.run_pure, Result.andThen_ok, run_storeVar_row w g 60 60 cs (spA s) (Has.out hg) (spinfo.trans (by rw [hs'])) (by rw [hs, hs']) (spA_one s)]
theorem len_cons {n : Nat} {l : List UInt8} (h : l.length = n + 1) : ∃ a r, l = a :: r ∧ r.length = n := by
  cases l with
  | nil => simp at h
  | cons a r => exact ⟨a, r, rfl, by simpa using h⟩
set_option maxRecDepth 100000 in
theorem built_sp (x : NN.Pt) (l : List UInt8) (hl : l.length = 32) : Tryz.prog.built 60 [(0, .agg (NN.ptA x)), (1, .agg (bytesV l))] = some (spA ⟨x, l, none, 0, 0⟩) := by
  obtain ⟨a0, l0, rfl, h0⟩ := len_cons hl
  obtain ⟨a1, l1, rfl, h1⟩ := len_cons h0
  obtain ⟨a2, l2, rfl, h2⟩ := len_cons h1
  obtain ⟨a3, l3, rfl, h3⟩ := len_cons h2
  obtain ⟨a4, l4, rfl, h4⟩ := len_cons h3
  obtain ⟨a5, l5, rfl, h5⟩ := len_cons h4
  obtain ⟨a6, l6, rfl, h6⟩ := len_cons h5
  obtain ⟨a7, l7, rfl, h7⟩ := len_cons h6
  obtain ⟨a8, l8, rfl, h8⟩ := len_cons h7
  obtain ⟨a9, l9, rfl, h9⟩ := len_cons h8
  obtain ⟨a10, l10, rfl, h10⟩ := len_cons h9
  obtain ⟨a11, l11, rfl, h11⟩ := len_cons h10
  obtain ⟨a12, l12, rfl, h12⟩ := len_cons h11
  obtain ⟨a13, l13, rfl, h13⟩ := len_cons h12
  obtain ⟨a14, l14, rfl, h14⟩ := len_cons h13
  obtain ⟨a15, l15, rfl, h15⟩ := len_cons h14
  obtain ⟨a16, l16, rfl, h16⟩ := len_cons h15
  obtain ⟨a17, l17, rfl, h17⟩ := len_cons h16
  obtain ⟨a18, l18, rfl, h18⟩ := len_cons h17
  obtain ⟨a19, l19, rfl, h19⟩ := len_cons h18
  obtain ⟨a20, l20, rfl, h20⟩ := len_cons h19
  obtain ⟨a21, l21, rfl, h21⟩ := len_cons h20
  obtain ⟨a22, l22, rfl, h22⟩ := len_cons h21
  obtain ⟨a23, l23, rfl, h23⟩ := len_cons h22
  obtain ⟨a24, l24, rfl, h24⟩ := len_cons h23
  obtain ⟨a25, l25, rfl, h25⟩ := len_cons h24
  obtain ⟨a26, l26, rfl, h26⟩ := len_cons h25
  obtain ⟨a27, l27, rfl, h27⟩ := len_cons h26
  obtain ⟨a28, l28, rfl, h28⟩ := len_cons h27
  obtain ⟨a29, l29, rfl, h29⟩ := len_cons h28
  obtain ⟨a30, l30, rfl, h30⟩ := len_cons h29
  obtain ⟨a31, l31, rfl, h31⟩ := len_cons h30
  obtain rfl := List.eq_nil_of_length_eq_zero h31
  clear hl h0 h1 h2 h3 h4 h5 h6 h7 h8 h9 h10 h11 h12 h13 h14 h15 h16 h17 h18 h19 h20 h21 h22 h23 h24 h25 h26 h27 h28 h29 h30 h31
  kernel_rfl
theorem ex_build_sp {x y : Operand} {p : NN.Pt} {l : List UInt8} (ho : o.op = .build 60 #[(0, x), (1, y)]) (hx : ρ x = .agg (NN.ptA p)) (hy : ρ y = .agg (bytesV l)) (hl : l.length = 32) : (execOp ρ o).run Tryz.prog w = .ok (.value (.agg (spA ⟨p, l, none, 0, 0⟩))) w := by
  unfold execOp
  simp only [ho, Sem.run_bind]
  rw [show (#[(0, x), (1, y)] : Array (Nat × Operand)).map (fun (i, x) => (i, ρ x)) = #[(0, .agg (NN.ptA p)), (1, .agg (bytesV l))] by simp [hx, hy], run_build w 60 _ _ (built_sp p l hl)]
  rfl
end
end Go.Proofs.YthcebnfdapcllaaGreatDoor
namespace Go.Proofs.YthcebnfdapcllaaGreatDoor
open Go.RowKit Mem Sc NN.Rg2
theorem rl_int_info : ∃ i z, Tryz.prog.info? 3 = some i ∧ i.zero = some z ∧ i.size = 1 ∧ i.bytes = 8 ∧ z.cells.size = 1 := by
  have h1 : (Tryz.prog.info? 3).map (·.size) = some 1 := by kernel_rfl
  have h2 : ((Tryz.prog.info? 3).bind (·.zero)) = some (.int .i64 0) := by kernel_rfl
  have h3 : (Tryz.prog.info? 3).map (·.bytes) = some 8 := by kernel_rfl
  cases hi : Tryz.prog.info? 3 with
  | none => rw [hi] at h1; cases h1
  | some i =>
    rw [hi] at h1 h2 h3
    exact ⟨i, .int .i64 0, rfl, by simpa using h2, by simpa using h1, by simpa using h3, rfl⟩
section
variable {w : World} {lo hi n cap k : Nat} {l : List Int}
theorem cut_opt {p : Option Addr} (hl : l.length = n) (hk : k ≤ n) (hc : n ≤ cap) (h : MM.Lie w lo hi p l) (hp : p = none → n = 0 ∧ cap = 0) :
    ∃ p', (∀ w' : World, (Instr.sliceAt 58 (.slice p n cap) none (some (.int .i64 (k : Int))) none).run Tryz.prog w' = .ok (.slice p' k cap) w') ∧ MM.Lie w lo hi p' (l.take k) ∧ (p' = none → k = 0 ∧ cap = 0) := by
  obtain ⟨p', h1, h2⟩ := MM.cut_take hl hk hc h
  cases p with
  | none =>
    obtain ⟨rfl, rfl⟩ := hp rfl
    exact ⟨p', h1, h2, fun _ => ⟨by omega, rfl⟩⟩
  | some a =>
    by_cases h0 : 0 < k
    · obtain ⟨b, off, rfl, _⟩ := h2 (by simp; omega)
      exact ⟨_, h1, h2, fun e => by cases e⟩
    · obtain rfl : k = 0 := by omega
      refine ⟨some (if cap = 0 then a else a.add 0), fun w' => ?_, by rw [List.take_zero]; exact MM.Lie.none, fun e => by cases e⟩
      rw [run_sliceAt_slice w' 58 _ _ _ _ (by kernel_rfl), run_slice_h w' 58 (some a) n cap (by kernel_rfl) .i64 ((0 : Nat) : Int) (by omega) (by omega)]
      rw [show Tryz.prog.elem 58 = 3 by kernel_rfl]
      by_cases hc0 : cap = 0 <;> simp [sliced, Tryz.sizeOf3, hc0]
end
theorem owns_slice_int {w : World} {base : Nat} {v : Value} {n : Nat} {xs : List Value} {e : Nat} (h : w.ownsRow base e 1 v n xs) : ∃ p cap, v = .slice p n cap := by
  rcases h.2 with ⟨rfl, rfl⟩ | ⟨g, c, cur, rfl, _⟩
  · exact ⟨_, _, rfl⟩
  · exact ⟨_, _, rfl⟩
def TmI (B bO : Nat) (o : Sp) (ht : Int) (T : List Int) (k : Nat) (l : Array Bool) (a : Act) (w : World) : Prop :=
  (l.getD 2 false = true → l.getD 10 false = false → ∃ g, B ≤ g ∧ a.eval (.tmp 57) = .slice (some ⟨g, 0, none⟩) 1 1 ∧ Has w g #[.int .i64 ht] 3) ∧
  (l.getD 10 false = true → l.getD 12 false = false → ∃ p c, a.eval (.tmp 65) = .slice p (1 + k) c ∧ w.ownsRow B 3 1 (.slice p (1 + k) c) (1 + k) ((ht :: T).map (Value.int .i64))) ∧
  (l.getD 12 false = false → SpAt w bO o) ∧
  (l.getD 12 false = true → ∃ p c, SpAt w bO { o with a := p, n := 1 + k, c := c } ∧ w.ownsRow B 3 1 (.slice p (1 + k) c) (1 + k) ((ht :: T).map (Value.int .i64)))
theorem getD_none (l : Array Bool) (i j : Nat) (hi : i < l.size) (h : i ≠ j) : (l.setIfInBounds i true).getD j false = l.getD j false := by rw [getD_set _ _ _ hi, if_neg h]
theorem TmI.keep {B bO : Nat} {o : Sp} {ht : Int} {T : List Int} {k : Nat} {l : Array Bool} {a : Act} {w : World} (h : TmI B bO o ht T k l a w) (i : Nat) (hi : i < l.size) (h2 : i ≠ 2) (h10 : i ≠ 10) (h12 : i ≠ 12) (d : Option Tmp) (v : Value) (hd : d ≠ some 57) (hd2 : d ≠ some 65) :
    TmI B bO o ht T k (l.setIfInBounds i true) (a.put d v) w := by
  obtain ⟨p1, p2, p3, p4⟩ := h
  unfold TmI
  rw [getD_none l i 2 hi h2, getD_none l i 10 hi h10, getD_none l i 12 hi h12, Act.eval_put (fun d' hdd e => hd (by rw [hdd]; cases e; rfl)), Act.eval_put (fun d' hdd e => hd2 (by rw [hdd]; cases e; rfl))]
  exact ⟨p1, p2, p3, p4⟩
def TmR (bA bH bO : Nat) (a : Option Addr) (n c : Nat) (p1 : Option Addr) (k : Nat) (ht : Int) : Nat → Value → Prop
  | 0, v => v = .pointer (some ⟨bH, 65, none⟩)
  | 1, v => v = .int .i64 ht
  | 3, v => v = .pointer (some ⟨bA, 37, none⟩)
  | 4, v => v = .slice a n c
  | 5, v => v = .pointer (some ⟨bA, 37, none⟩)
  | 6, v => v = .slice a n c
  | 7, v => v = .int .i64 (n : Int)
  | 8, v => v = .int .i64 (k : Int)
  | 9, v => v = .slice p1 k c
  | 11, v => v = .pointer (some ⟨bO, 37, none⟩)
  | _, _ => True
section
variable {ρ : Operand → Value} {o : Oper} {w : World}
theorem hfield3 (w : World) (g : Nat) : (Instr.fieldAt 30 (.pointer (some ⟨g, 0, none⟩)) 3).run Tryz.prog w = .ok (.pointer (some ⟨g, 65, none⟩)) w := by kernel_rfl
theorem sfield2 (w : World) (g : Nat) : (Instr.fieldAt 60 (.pointer (some ⟨g, 0, none⟩)) 2).run Tryz.prog w = .ok (.pointer (some ⟨g, 37, none⟩)) w := by kernel_rfl
theorem ex_hfield3 {x : Operand} {g : Nat} (ho : o.op = .fieldAddr 30 x 3) (hx : ρ x = .pointer (some ⟨g, 0, none⟩)) : (execOp ρ o).run Tryz.prog w = .ok (.value (.pointer (some ⟨g, 65, none⟩))) w := by
  unfold execOp
  simp only [ho, hx, Sem.run_bind, hfield3, Result.andThen_ok]
  rfl
theorem ex_sfield2 {x : Operand} {g : Nat} (ho : o.op = .fieldAddr 60 x 2) (hx : ρ x = .pointer (some ⟨g, 0, none⟩)) : (execOp ρ o).run Tryz.prog w = .ok (.value (.pointer (some ⟨g, 37, none⟩))) w := by
  unfold execOp
  simp only [ho, hx, Sem.run_bind, sfield2, Result.andThen_ok]
  rfl
theorem load_ints {p : Addr} {a : Option Addr} {n c : Nat} (h : w.cell? p = some (.slice a n c)) : (loadVar 58 p).run Tryz.prog w = .ok (.slice a n c) w := by
  go_simp
theorem ex_load_ints {x : Operand} {p : Addr} {a : Option Addr} {n c : Nat} (ho : o.op = .load 58 x) (hx : ρ x = .pointer (some p)) (hc : w.cell? p = some (.slice a n c)) : (execOp ρ o).run Tryz.prog w = .ok (.value (.slice a n c)) w := by
  unfold execOp
  simp only [ho, hx, Instr.loadAt, Instr.sureAddr, Sem.run_bind, Sem.run_pure, Result.andThen_ok, load_ints hc]
theorem store_ints {p : Addr} {a : Option Addr} {n c : Nat} {u : Value} (hf : w.frozen? p = false) (hc : w.cell? p = some u) : (storeVar 58 p (.slice a n c)).run Tryz.prog w = .ok () (w.setCell p (.slice a n c)) := by
  go_simp
theorem ex_store_ints {x y : Operand} {p : Addr} {a : Option Addr} {n c : Nat} {u : Value} (ho : o.op = .store 58 x y) (hx : ρ x = .pointer (some p)) (hy : ρ y = .slice a n c) (hf : w.frozen? p = false) (hc : w.cell? p = some u) : (execOp ρ o).run Tryz.prog w = .ok .skip (w.setCell p (.slice a n c)) := by
  unfold execOp
  simp only [ho, hx, hy, Instr.storeAt, Instr.sureAddr, Sem.run_bind, Sem.run_pure, Result.andThen_ok, store_ints hf hc]
theorem build_one (w : World) (z : Int) : (Instr.buildSlice 58 1 #[(0, .int .i64 z)]).run Tryz.prog w = .ok (.slice (some ⟨w.heap.size, 0, none⟩) 1 1) (w.alloc (.cells #[.int .i64 z] 3)) := by kernel_rfl
theorem ex_build_one {x : Operand} {z : Int} (ho : o.op = .buildSlice 58 1 #[(0, x)]) (hx : ρ x = .int .i64 z) : (execOp ρ o).run Tryz.prog w = .ok (.value (.slice (some ⟨w.heap.size, 0, none⟩) 1 1)) (w.alloc (.cells #[.int .i64 z] 3)) := by
  unfold execOp
  simp only [ho, Sem.run_bind]
  rw [show (#[(0, x)] : Array (Nat × Operand)).map (fun (i, x) => (i, ρ x)) = #[(0, .int .i64 z)] by simp [hx], build_one w z]
  rfl
theorem ex_len {x : Operand} {a : Option Addr} {n c : Nat} (ho : o.op = .call { callee := .builtin .len, args := #[x], argTypes := #[58] }) (hx : ρ x = .slice a n c) : (execOp ρ o).run Tryz.prog w = .ok (.value (.int .i64 (n : Int))) w := by
  unfold execOp
  simp only [ho, resolve, invoke, builtin, Sem.run_bind, Sem.run_pure, Result.andThen_ok, List.map_toArray, List.map_cons, List.map_nil, hx]
  kernel_rfl
theorem ex_min {x y : Operand} {a b m : Int} (ho : o.op = .call { callee := .builtin .min, args := #[x, y], argTypes := #[3, 3] }) (hx : ρ x = .int .i64 a) (hy : ρ y = .int .i64 b) (hm : m = min a b) : (execOp ρ o).run Tryz.prog w = .ok (.value (.int .i64 m)) w := by
  have hr := NN.min_is (P := Tryz.prog) a b m hm #[3, 3] o.type w
  unfold execOp
  simp only [ho, resolve, invoke, builtin, Sem.run_bind, Sem.run_pure, Result.andThen_ok, List.map_toArray, List.map_cons, List.map_nil, hx, hy, hr]
theorem ex_slice {s h : Operand} {p p' : Option Addr} {n c k : Nat} (ho : o.op = .slice 58 s none (some h) none) (hs : ρ s = .slice p n c) (hh : ρ h = .int .i64 (k : Int)) (hr : (Instr.sliceAt 58 (.slice p n c) none (some (.int .i64 (k : Int))) none).run Tryz.prog w = .ok (.slice p' k c) w) : (execOp ρ o).run Tryz.prog w = .ok (.value (.slice p' k c)) w := by
  unfold execOp
  simp only [ho, hs, hh, Option.map_some, Option.map_none, Sem.run_bind, Sem.run_pure, hr, Result.andThen_ok]
theorem ex_append {lo hi : Nat} (s x : Operand) (base : Nat) (v : Value) (n : Nat) (l : List Int) (hs : ρ s = v) (hown : w.ownsRow base 3 1 v n (l.map (Value.int .i64)))
    (ad : Option Addr) (m c : Nat) (z : List Int) (hx : ρ x = .slice ad m c) (hnil : ad = none → m = 0 ∧ c = 0) (hz : z.length = m) (hL : MM.Lie w lo hi ad z) (hn : n + m ≤ 1000) (hbase : base ≤ w.heap.size) :
    ∃ v' w', (∀ o : Oper, o.op = .call { callee := .builtin .append, args := #[s, x], argTypes := #[58, 58] } → o.type = 58 → (execOp ρ o).run Tryz.prog w = .ok (.value v') w') ∧ w'.ownsRow base 3 1 v' (n + m) ((l ++ z).map (Value.int .i64)) ∧ w.grownBy w' v.ownBlock := by
  obtain ⟨i, y, hi, hzz, h1, h2, h3⟩ := rl_int_info
  cases ad with
  | none =>
    obtain ⟨rfl, rfl⟩ := hnil rfl
    obtain rfl : z = [] := List.eq_nil_of_length_eq_zero hz
    have hrun := run_append_owned_none (P := Tryz.prog) (w := w) base 58 58 3 i 1 Tryz.underlying58 hi v n _ hown
    refine ⟨v, w, fun o ho hty => ?_, by simpa using hown, ⟨rfl, rfl, rfl, Nat.le_refl _, fun _ _ _ => rfl⟩⟩
    unfold execOp
    simp only [ho, hty, resolve, invoke, builtin, Sem.run_bind, Sem.run_pure, Result.andThen_ok, List.map_toArray, List.map_cons, List.map_nil, hs, hx, hrun]
  | some ad =>
    obtain ⟨v', w', hr, g1, g2, _⟩ := run_append_own_at (P := Tryz.prog) w base 58 58 3 i y 1 8 Tryz.underlying58 hi hzz h1 h2 h3 (by decide) v n _ hown ad m c (z.map (Value.int .i64)) (by simpa using hz) (fun j u hj => by
      have hj0 : j < z.length := by have := (List.getElem?_eq_some_iff.1 hj).1; simpa using this
      obtain ⟨b, off, e, _, _, hc⟩ := hL (by omega)
      cases e
      rw [MM.add_at, hc j hj0, ← hj]
      simp [List.getD_eq_getElem?_getD, hj0]) (fun u hu => by obtain ⟨q, _, rfl⟩ := List.mem_map.1 hu; rfl) (by unfold maxLen; omega) (by omega) hbase
    refine ⟨v', w', fun o ho hty => ?_, by rw [List.map_append]; exact g1, g2⟩
    unfold execOp
    simp only [ho, hty, resolve, invoke, builtin, Sem.run_bind, Sem.run_pure, Result.andThen_ok, List.map_toArray, List.map_cons, List.map_nil, hs, hx, hr]
end
theorem owns_one {w : World} {B g : Nat} {z : Int} (hg : Has w g #[.int .i64 z] 3) (hB : B ≤ g) : w.ownsRow B 3 1 (.slice (some ⟨g, 0, none⟩) 1 1) 1 ([z].map (Value.int .i64)) :=
  ⟨rfl, .inr ⟨g, 1, #[.int .i64 z], rfl, hB, hg, Nat.le_refl _, by decide, rfl, rfl⟩⟩
theorem owns_some {w : World} {B k c : Nat} {p : Option Addr} {xs : List Value} (h : w.ownsRow B 3 1 (.slice p (1 + k) c) (1 + k) xs) : ∃ g, p = some ⟨g, 0, none⟩ ∧ 1 + k ≤ c := by
  rcases h.2 with ⟨e, h0⟩ | ⟨g, cap, cur, e, _, _, hn, _⟩
  · omega
  · cases e
    exact ⟨g, rfl, hn⟩
theorem gb_past {v w w' : World} {r g : Nat} (h : v.grownBy w (some r)) (h' : w.grownBy w' (some g)) (hg : v.heap.size ≤ g) : v.grownBy w' (some r) :=
  ⟨h'.os.trans h.os, h'.tape.trans h.tape, h'.output.trans h.output, Nat.le_trans h.size h'.size, fun q hq hne => (h'.block q (Nat.lt_of_lt_of_le hq h.size) (by intro e; cases e; omega)).trans (h.block q hq hne)⟩
theorem gb_setOne (w : World) (g o : Nat) (v : Value) : w.grownBy (w.setCell ⟨g, o, none⟩ v) (some g) := gb_setCell (gb_refl w _) o v
end Go.Proofs.YthcebnfdapcllaaGreatDoor
namespace Go.Proofs.YthcebnfdapcllaaGreatDoor
open Go.RowKit Mem Sc NN.Rg2
structure BhS (w wr : World) (bP bA bH bR bO : Nat) (p : NN.Pr) (s : Sp) (h : Hd) (o : Sp) : Prop where
  be : Below w.heap.size w wr
  p : NN.PrAt wr bP p
  a : SpAt wr bA s
  h : HdAt wr bH h
  r : SpAt wr bR spZ
  o : SpAt wr bO o
theorem BhS.on {w wr w' : World} {bP bA bH bR bO : Nat} {p : NN.Pr} {s : Sp} {h : Hd} {o : Sp} (hs : BhS w wr bP bA bH bR bO p s h o) (hb : Below wr.heap.size wr w') : BhS w w' bP bA bH bR bO p s h o :=
  ⟨hs.be.trans (hb.mono hs.be.size), hs.p.on hb, hs.a.on hb, hs.h.on hb, hs.r.on hb, hs.o.on hb⟩
theorem BhS.put {w wr : World} {bP bA bH bR bO : Nat} {p : NN.Pr} {s : Sp} {h : Hd} {o o' : Sp} (hs : BhS w wr bP bA bH bR bO p s h o) (j : Nat) (u : Value) (hX : SpAt (wr.setCell ⟨bO, j, none⟩ u) bO o') (h1 : bP ≠ bO) (h2 : bA ≠ bO) (h3 : bH ≠ bO) (h4 : bR ≠ bO) (h5 : w.heap.size ≤ bO) : BhS w (wr.setCell ⟨bO, j, none⟩ u) bP bA bH bR bO p s h o' :=
  ⟨hs.be.setCell h5 u, NN.Has.other hs.p _ _ h1, hs.a.other _ _ h2, Has.other hs.h _ _ h3, hs.r.other _ _ h4, hX⟩
set_option maxRecDepth 100000 in
set_option maxHeartbeats 4000000 in
theorem behind_w (p : NN.Pr) (hz : (NN.prA p).size = 83) (xh xb xt xf xr : Int) (prev : List UInt8) (hp32 : prev.length = 32) (a : Option Addr) (n c : Nat) (h : Hd) (ho : h.ok) (id : List UInt8) (i32 : id.length = 32) (hb ht : Int) (eb : Hid (h.bits = hb)) (et : Hid (h.time = ht)) (st ez ne : Bool) (E4 : Hid (Hid (p.easy = ez))) (lim : Int) (E0 : Hid (Hid (p.lim = lim))) (T0 : Hid ((hb == lim) = ne)) (zf zr : Int) (HF : Hid (zf = if st = true then ht else xf)) (HR : Hid (zr = if st = true ∨ ez = false ∨ ne = false then hb else xr))
    (xh1 : Int) (wx : IntKind.i64.wrap (xh + 1) = xh1) (KS : Hid (∀ w, Calls Tryz.prog 35 #[.agg (NN.prA p), .int .i64 xh] w fun e w' => e = .returned (.bool st) ∧ Below w.heap.size w w')) (KI : Hid (∀ w, Tab w → Calls Tryz.prog 34 #[.agg (hdA h)] w fun e w' => e = .returned (.agg (bytesV id)) ∧ Below w.heap.size w w'))
    (ts : List Int) (hl : ts.length = n) (hc : n ≤ c) (hmax : n < 9223372036854775808) (hnil : a = none → n = 0 ∧ c = 0) (k : Nat) (hk : k = min n 10) (w : World) (hT : Tab w) (hL : MM.Lie w 0 w.heap.size a ts) :
    Calls Tryz.prog 18 #[.agg (NN.prA p), .agg (spA ⟨⟨xh, xb, xt, xf, xr⟩, prev, a, n, c⟩), .agg (hdA h)] w fun r w' => ∃ b' c', r = .returned (.agg (spA ⟨⟨xh1, hb, ht, zf, zr⟩, id, some ⟨b', 0, none⟩, 1 + k, c'⟩)) ∧ 1 + k ≤ c' ∧ MM.Lie w' w.heap.size w'.heap.size (some ⟨b', 0, none⟩) (ht :: ts.take k) ∧ Below w.heap.size w w' := by
  have za := hdA_size ho
  have so : (⟨⟨xh, xb, xt, xf, xr⟩, prev, a, n, c⟩ : Sp).ok := hp32
  have zs := spA_size so
  have z0 := spA_size spZ_ok
  have hTr : ∀ v, Below w.heap.size w v → Tab v := fun v hb => hT.below hb
  have HTr := Lib.hid hTr
  obtain ⟨p1, hcut, hL1, hnil1⟩ := cut_opt hl (by omega : k ≤ n) hc hL hnil
  have HL1 := Lib.hid hL1
  have HN1 := Lib.hid hnil1
  have hlen1 : (ts.take k).length = k := by simp; omega
  have HLN := Lib.hid hlen1
  have hmin := NN.min_is (P := Tryz.prog) (n : Int) 10 (k : Int) (by omega)
  have hk10 : k ≤ 10 := by omega
  have hkm : Hid ((k : Int) = min (n : Int) 10) := Lib.hid (by omega)
  generalize ts.take k = T at *
  clear hT hTr hL hL1 hnil hnil1 hlen1 hl hk
  go_enter Tryz.func18, Tryz.ntmps18
  go_upto_region 1 with fail
  generalize hw0 : World.alloc _ _ = v0
  obtain ⟨hB0, hP0, hA0, hH0, hR0⟩ : Below w.heap.size w v0 ∧ NN.PrAt v0 w.heap.size p ∧ SpAt v0 (w.heap.size + 1) ⟨⟨xh, xb, xt, xf, xr⟩, prev, a, n, c⟩ ∧ HdAt v0 (w.heap.size + 1 + 1) h ∧ SpAt v0 (w.heap.size + 1 + 1 + 1) spZ := by
    rw [← hw0]
    refine ⟨((((Below.refl _ _).alloc (Nat.le_refl _) _).alloc (by simp) _).alloc (by simp; omega) _).alloc (by simp; omega) _, (((NN.Has.new _ _).alloc _).alloc _).alloc _, ((Has.new1 _ _ _).alloc _).alloc _, (Has.new2 _ _ _ _).alloc _, ?_⟩
    have := sp_newz (((w.alloc (.cells (NN.prA p) 32)).alloc (.cells (spA ⟨⟨xh, xb, xt, xf, xr⟩, prev, a, n, c⟩) 60)).alloc (.cells (hdA h) 30))
    simpa using this
  clear hw0
  obtain ⟨bP, hbP⟩ : ∃ b, b = w.heap.size := ⟨_, rfl⟩
  obtain ⟨bA, hbA⟩ : ∃ b, b = w.heap.size + 1 := ⟨_, rfl⟩
  obtain ⟨bH, hbH⟩ : ∃ b, b = w.heap.size + 1 + 1 := ⟨_, rfl⟩
  obtain ⟨bR, hbR⟩ : ∃ b, b = w.heap.size + 1 + 1 + 1 := ⟨_, rfl⟩
  rw [← hbR] at hR0 ⊢
  rw [← hbH] at hH0 ⊢
  rw [← hbA] at hA0 ⊢
  rw [← hbP] at hP0 ⊢
  have hR1 := hR0.lt
  have HBR : Hid (w.heap.size ≤ bR) := Lib.hid (by omega)
  have HO : Hid (∀ bO, v0.heap.size ≤ bO → bP ≠ bO ∧ bA ≠ bO ∧ bH ≠ bO ∧ bR ≠ bO ∧ w.heap.size ≤ bO) := Lib.hid (fun bO hO => by omega)
  clear hbP hbA hbH hbR hR1
  -- the new spot
  refine wp_region_inv (by kernel_rfl) (fun w' => Below v0.heap.size v0 w') (fun i v' w' => MkR v0.heap.size bA ⟨⟨xh, xb, xt, xf, xr⟩, prev, a, n, c⟩ h ⟨⟨xh, xb, xt, xf, xr⟩, id, none, 0, 0⟩ i v' w') (fun l a w' => DoneS 6 7 v0.heap.size ⟨⟨xh, xb, xt, xf, xr⟩, id, none, 0, 0⟩ l a w') (SpStep v0.heap.size) (fun _ _ => SpStep.refl _ _) (fun _ _ _ _ _ hs h => MkR_stays _ _ _ _ hs h) (by kernel_rfl) (Below.refl _ _).drew ?_ ?_ ?_
  · exact fun l hl => fun hk => (by rw [hl] at hk; cases hk)
  · intro i o listed a wx ho' hn hdep hinv
    have hC := hinv.c
    have hi : i < 7 := (Array.getElem?_eq_some_iff.1 ho').1
    have zn : (spA ⟨⟨xh, xb, xt, xf, xr⟩, id, none, 0, 0⟩).size = 38 := spA_size i32
    obtain rfl | rfl | rfl | rfl | rfl | rfl | rfl : i = 0 ∨ i = 1 ∨ i = 2 ∨ i = 3 ∨ i = 4 ∨ i = 5 ∨ i = 6 := by omega
    all_goals obtain rfl := Option.some.inj ho'
    · exact duty_value ((fun _ _ => SpStep.refl _ _)) hC (wanted_free rfl) (ex_sfield0 rfl (hinv.old' 4 (by kernel_rfl))) rfl (DoneS.pre (hinv.aheadT 6 (by kernel_rfl) hn (by decide) (by decide)))
    · exact duty_value ((fun _ _ => SpStep.refl _ _)) hC (wanted_free rfl) (ex_load_pt rfl (hinv.got 0 _ 9 rfl (hdep ⟨0, .data⟩ (by simp) rfl) rfl) (hA0.on hC).pt) rfl (DoneS.pre (hinv.aheadT 6 (by kernel_rfl) hn (by decide) (by decide)))
    · exact duty_value ((fun _ _ => SpStep.refl _ _)) hC (wanted_free rfl) (ex_load_hd rfl (hinv.old' 5 (by kernel_rfl)) (hH0.on hC) za) rfl (DoneS.pre (hinv.aheadT 6 (by kernel_rfl) hn (by decide) (by decide)))
    · have e11 := hinv.got 2 _ 11 rfl (hdep ⟨2, .data⟩ (by simp) rfl) rfl
      exact duty_call (wanted_free rfl) (f := 34) (args := #[a.eval (.tmp 11)]) (by kernel_rfl) (by rw [show a.eval (.tmp 11) = _ from e11]; exact KI.out wx (HTr.out wx (hB0.trans (hC.mono hB0.size)))) (fun w' hb => ⟨hC.trans (hb.mono hC.size), SpStep.below hb, rfl, DoneS.pre (hinv.aheadT 6 (by kernel_rfl) hn (by decide) (by decide))⟩)
    · exact duty_value ((fun _ _ => SpStep.refl _ _)) hC (wanted_free rfl) (ex_build_sp rfl (hinv.got 1 _ 10 rfl (hdep ⟨1, .data⟩ (by simp) rfl) rfl) (hinv.got 3 _ 12 rfl (hdep ⟨3, .data⟩ (by simp) rfl) rfl) i32) rfl (DoneS.pre (hinv.aheadT 6 (by kernel_rfl) hn (by decide) (by decide)))
    · have hbel' : Below wx.heap.size wx (wx.alloc (.cells (spA spZ) 60)) := (Below.refl _ _).alloc (Nat.le_refl _) _
      exact duty_made (wanted_free rfl) (ex_alloc_sp rfl) (hC.trans (hbel'.mono hC.size)) (SpStep.below hbel') ⟨wx.heap.size, spA spZ, hC.size, rfl, Has.new _ _, z0⟩ (DoneS.pre (hinv.aheadT 6 (by kernel_rfl) hn (by decide) (by decide)))
    · obtain ⟨b, cs, hb, he, hh, hsz⟩ := hinv.got 5 _ 7 rfl (hdep ⟨5, .data⟩ (by simp) rfl) rfl
      exact duty_store (wanted_free rfl) (ex_store_sp rfl he (hinv.got 4 _ 13 rfl (hdep ⟨4, .data⟩ (by simp) rfl) rfl) hh hsz zn) (below_setRow hC hb _) (SpStep.row hh zn) trivial (fun _ => ⟨b, hb, he, Has.row hh _⟩)
  intro listed a' v1 hall hinv
  have hC := hinv.c
  obtain ⟨bO, hbO, e7, hO⟩ := hinv.i (hall 6 (by decide))
  have e3 : a'.eval (.tmp 3) = .pointer (some ⟨bP, 0, none⟩) := hinv.old' 3 (by kernel_rfl)
  have e4' : a'.eval (.tmp 4) = .pointer (some ⟨bA, 0, none⟩) := hinv.old' 4 (by kernel_rfl)
  have e5 : a'.eval (.tmp 5) = .pointer (some ⟨bH, 0, none⟩) := hinv.old' 5 (by kernel_rfl)
  have e6 : a'.eval (.tmp 6) = .pointer (some ⟨bR, 0, none⟩) := hinv.old' 6 (by kernel_rfl)
  obtain ⟨n1, n2, n3, n4, n5⟩ := HO.out bO hbO
  have hs : BhS w v1 bP bA bH bR bO p ⟨⟨xh, xb, xt, xf, xr⟩, prev, a, n, c⟩ h ⟨⟨xh, xb, xt, xf, xr⟩, id, none, 0, 0⟩ := ⟨hB0.trans (hC.mono hB0.size), hP0.on hC, hA0.on hC, hH0.on hC, hR0.on hC, hO⟩
  obtain ⟨u, hu⟩ : ∃ u : Nat → Value, ∀ t, u t = a'.eval (.tmp t) := ⟨_, fun _ => rfl⟩
  rw [rl_frame a' 68 u hinv.tsize hinv.defers hu]
  rw [← hu] at e3 e4' e5 e6 e7
  clear hu hinv hall hC hbO hO HO hB0 hP0 hA0 hH0 hR0
  show Exit.then _ _ _ (⟨#[u 0, u 1, u 2, u 3, u 4, u 5, u 6, u 7, u 8, u 9, u 10, u 11, u 12, u 13, u 14, u 15, u 16, u 17, u 18, u 19, u 20, u 21, u 22, u 23, u 24, u 25, u 26, u 27, u 28, u 29, u 30, u 31, u 32, u 33, u 34, u 35, u 36, u 37, u 38, u 39, u 40, u 41, u 42, u 43, u 44, u 45, u 46, u 47, u 48, u 49, u 50, u 51, u 52, u 53, u 54, u 55, u 56, u 57, u 58, u 59, u 60, u 61, u 62, u 63, u 64, u 65, u 66, u 67], []⟩ : Act) _
  rw [e3, e4', e5, e6, e7]
  clear e3 e4' e5 e6 e7
  have c0 := hs.a.c0 (z := xh) (Lib.hid rfl)
  have hpp := hs.p
  go_wp2_with (with_reducible refine NN.pr_load rfl _ rfl _ rfl hpp hz ?_)
  refine (KS.out _).mono ?_
  rintro r v2 ⟨rfl, hb2⟩
  replace hs := hs.on hb2
  clear hb2 c0 hpp
  have cH := hs.h.bits ho
  rw [eb.out] at cH
  have cT := hs.h.time ho
  rw [et.out] at cT
  have c := hs.o.c0 (z := xh) (Lib.hid rfl)
  have f := hs.o.free 0
  have hX := hs.o.setH xh1
  replace hs := hs.put 0 _ hX n1 n2 n3 n4 n5
  clear hX
  go_upto_region 4 with fail
  generalize World.setCell _ _ _ = v3 at *
  clear c f cH cT
  have cH := hs.h.bits ho
  rw [eb.out] at cH
  have cT := hs.h.time ho
  rw [et.out] at cT
  have c := hs.o.c1 (z := xb) (Lib.hid rfl)
  have f := hs.o.free 1
  have hX := hs.o.setB hb
  replace hs := hs.put 1 _ hX n1 n2 n3 n4 n5
  clear hX
  go_upto_region 5 with fail
  generalize World.setCell _ _ _ = v4 at *
  clear c f cH cT
  have cH := hs.h.bits ho
  rw [eb.out] at cH
  have cT := hs.h.time ho
  rw [et.out] at cT
  have c := hs.o.c2 (z := xt) (Lib.hid rfl)
  have f := hs.o.free 2
  have hX := hs.o.setT ht
  replace hs := hs.put 2 _ hX n1 n2 n3 n4 n5
  clear hX
  go_upto_region 6 with fail
  generalize World.setCell _ _ _ = v5 at *
  clear c f cH cT
  have cH := hs.h.bits ho
  rw [eb.out] at cH
  have cT := hs.h.time ho
  rw [et.out] at cT
  have HS := Lib.hid hs
  clear hs cH cT
  cases st
  case' true =>
    have hs := HS.out
    have cH := hs.h.bits ho
    rw [eb.out] at cH
    have cT := hs.h.time ho
    rw [et.out] at cT
    have c := hs.o.c3 (z := xf) (Lib.hid rfl)
    have f := hs.o.free 3
    have hX := hs.o.setF ht
    replace hs := hs.put 3 _ hX n1 n2 n3 n4 n5
    clear hX
    go_upto_region 8 with fail
    generalize World.setCell _ _ _ = v6 at *
    clear c f cH cT
    have cH := hs.h.bits ho
    rw [eb.out] at cH
    have cT := hs.h.time ho
    rw [et.out] at cT
    have c := hs.o.c4 (z := xr) (Lib.hid rfl)
    have f := hs.o.free 4
    have hX := hs.o.setR hb
    replace hs := hs.put 4 _ hX n1 n2 n3 n4 n5
    clear hX
    go_upto_region 10 with fail
    generalize World.setCell _ _ _ = v7 at *
    clear c f cH cT
    have cH := hs.h.bits ho
    rw [eb.out] at cH
    have cT := hs.h.time ho
    rw [et.out] at cT
    have hs : BhS w v7 bP bA bH bR bO p ⟨⟨xh, xb, xt, xf, xr⟩, prev, a, n, c⟩ h ⟨⟨xh1, hb, ht, zf, zr⟩, id, none, 0, 0⟩ := by rw [show zf = ht from by simpa using HF.out, show zr = hb from by simpa using HR.out]; exact hs
    clear cH cT HS
    rename World => vz
  case' false =>
    cases ez
    case' false =>
      have hs := HS.out
      have cH := hs.h.bits ho
      rw [eb.out] at cH
      have cT := hs.h.time ho
      rw [et.out] at cT
      have e4 := E4.out
      have cE := hs.p.c4 e4
      clear e4
      have c := hs.o.c4 (z := xr) (Lib.hid rfl)
      have f := hs.o.free 4
      have hX := hs.o.setR hb
      replace hs := hs.put 4 _ hX n1 n2 n3 n4 n5
      clear hX
      go_upto_region 10 with fail
      generalize World.setCell _ _ _ = v6 at *
      clear c f cH cT
      have cH := hs.h.bits ho
      rw [eb.out] at cH
      have cT := hs.h.time ho
      rw [et.out] at cT
      have hs : BhS w v6 bP bA bH bR bO p ⟨⟨xh, xb, xt, xf, xr⟩, prev, a, n, c⟩ h ⟨⟨xh1, hb, ht, zf, zr⟩, id, none, 0, 0⟩ := by rw [show zf = xf from by simpa using HF.out, show zr = hb from by simpa using HR.out]; exact hs
      clear cH cT HS
      clear cE
      rename World => vz
    case' true =>
      cases ne
      case' false =>
        have hs := HS.out
        have cH := hs.h.bits ho
        rw [eb.out] at cH
        have cT := hs.h.time ho
        rw [et.out] at cT
        have e4 := E4.out
        have cE := hs.p.c4 e4
        clear e4
        have e0 := E0.out
        have cL := hs.p.c0 e0
        clear e0
        have t0 := T0.out
        have c := hs.o.c4 (z := xr) (Lib.hid rfl)
        have f := hs.o.free 4
        have hX := hs.o.setR hb
        replace hs := hs.put 4 _ hX n1 n2 n3 n4 n5
        clear hX
        go_upto_region 10 with fail
        generalize World.setCell _ _ _ = v6 at *
        clear c f cH cT
        have cH := hs.h.bits ho
        rw [eb.out] at cH
        have cT := hs.h.time ho
        rw [et.out] at cT
        have hs : BhS w v6 bP bA bH bR bO p ⟨⟨xh, xb, xt, xf, xr⟩, prev, a, n, c⟩ h ⟨⟨xh1, hb, ht, zf, zr⟩, id, none, 0, 0⟩ := by rw [show zf = xf from by simpa using HF.out, show zr = hb from by simpa using HR.out]; exact hs
        clear cH cT HS
        clear cE cL
        rename World => vz
      case' true =>
        have hs := HS.out
        have cH := hs.h.bits ho
        rw [eb.out] at cH
        have cT := hs.h.time ho
        rw [et.out] at cT
        have e4 := E4.out
        have cE := hs.p.c4 e4
        clear e4
        have e0 := E0.out
        have cL := hs.p.c0 e0
        clear e0
        have t0 := T0.out
        go_upto_region 10 with fail
        have hs : BhS w v5 bP bA bH bR bO p ⟨⟨xh, xb, xt, xf, xr⟩, prev, a, n, c⟩ h ⟨⟨xh1, hb, ht, zf, zr⟩, id, none, 0, 0⟩ := by rw [show zf = xf from by simpa using HF.out, show zr = xr from by simpa using HR.out]; exact hs
        clear cH cT HS
        clear cE cL
        rename World => vz
  all_goals
    have hO0 := hs.o
    have hOl : bO < vz.heap.size := hO0.lt
    have hn1 := HN1.out
    have hln := HLN.out
    have m1 : 1 + k ≤ 1000 := by omega
    refine wp_region_inv (by kernel_rfl) (fun w' => vz.grownBy w' (some bO)) (fun i v' _ => TmR bA bH bO a n c p1 k ht i v') (fun l a w' => TmI vz.heap.size bO ⟨⟨xh1, hb, ht, zf, zr⟩, id, none, 0, 0⟩ ht T k l a w') (fun _ _ => True) (fun _ _ => trivial) (fun _ _ _ _ _ _ h => h) (by kernel_rfl) (gb_below (Below.refl _ _).drew _) ?_ ?_ ?_
    · exact fun l hl => ⟨fun h => (by rw [hl] at h; cases h), fun h => (by rw [hl] at h; cases h), fun _ => Has.drew hO0, fun h => (by rw [hl] at h; cases h)⟩
    · intro i o listed a' wx ho' hn hdep hinv
      have hC := hinv.c
      have hI := hinv.i
      have hi : i < 13 := (Array.getElem?_eq_some_iff.1 ho').1
      have hHx : HdAt wx bH h := gb_has hC hs.h (fun e => n3 (Option.some.inj e))
      have hAx : SpAt wx bA ⟨⟨xh, xb, xt, xf, xr⟩, prev, a, n, c⟩ := gb_has hC hs.a (fun e => n2 (Option.some.inj e))
      have cTx := hHx.time ho
      rw [et.out] at cTx
      have cAx := hAx.sl so
      have hlx : vz.heap.size ≤ wx.heap.size := hC.size
      obtain rfl | rfl | rfl | rfl | rfl | rfl | rfl | rfl | rfl | rfl | rfl | rfl | rfl : i = 0 ∨ i = 1 ∨ i = 2 ∨ i = 3 ∨ i = 4 ∨ i = 5 ∨ i = 6 ∨ i = 7 ∨ i = 8 ∨ i = 9 ∨ i = 10 ∨ i = 11 ∨ i = 12 := by omega
      all_goals obtain rfl := Option.some.inj ho'
      · have hsz0 : 0 < listed.size := by rw [hinv.size]; decide
        exact duty_value (C := fun w' => vz.grownBy w' (some bO)) (S := fun _ _ => True) (R := fun v' _ => TmR bA bH bO a n c p1 k ht 0 v') (J := fun a w' => TmI vz.heap.size bO ⟨⟨xh1, hb, ht, zf, zr⟩, id, none, 0, 0⟩ ht T k (listed.setIfInBounds 0 true) a w') (fun _ _ => trivial) hC (wanted_free rfl) (ex_hfield3 rfl (hinv.old' 5 (by kernel_rfl))) rfl (hI.keep 0 hsz0 (by decide) (by decide) (by decide) _ _ (by decide) (by decide))
      · have hsz1 : 1 < listed.size := by rw [hinv.size]; decide
        exact duty_value (C := fun w' => vz.grownBy w' (some bO)) (S := fun _ _ => True) (R := fun v' _ => TmR bA bH bO a n c p1 k ht 1 v') (J := fun a w' => TmI vz.heap.size bO ⟨⟨xh1, hb, ht, zf, zr⟩, id, none, 0, 0⟩ ht T k (listed.setIfInBounds 1 true) a w') (fun _ _ => trivial) hC (wanted_free rfl) (NN.ex_load_int rfl (hinv.got 0 _ 55 rfl (hdep ⟨0, .data⟩ (by simp) rfl) rfl) cTx) rfl (hI.keep 1 hsz1 (by decide) (by decide) (by decide) _ _ (by decide) (by decide))
      · have hsz : 2 < listed.size := by rw [hinv.size]; decide
        have h10 : (listed.setIfInBounds 2 true).getD 10 false = false := hinv.aheadT 12 (by kernel_rfl) hn (by decide) (by decide)
        have h12 : (listed.setIfInBounds 2 true).getD 12 false = false := hinv.aheadT 12 (by kernel_rfl) hn (by decide) (by decide)
        have h12' : listed.getD 12 false = false := by rw [← getD_none listed 2 12 hsz (by decide)]; exact h12
        have hbx : Below wx.heap.size wx (wx.alloc (.cells #[.int .i64 ht] 3)) := (Below.refl _ _).alloc (Nat.le_refl _) _
        refine duty_made (C := fun w' => vz.grownBy w' (some bO)) (S := fun _ _ => True) (R := fun v' _ => TmR bA bH bO a n c p1 k ht 2 v') (J := fun a w' => TmI vz.heap.size bO ⟨⟨xh1, hb, ht, zf, zr⟩, id, none, 0, 0⟩ ht T k (listed.setIfInBounds 2 true) a w') (wanted_free rfl) (ex_build_one rfl (hinv.got 1 _ 56 rfl (hdep ⟨1, .data⟩ (by simp) rfl) rfl)) (gb_trans hC (gb_below hbx _)) trivial trivial ⟨fun _ _ => ⟨wx.heap.size, hlx, put_same a' 57 _ (by rw [hinv.tsize]; exact (show 57 < 68 by decide)), Has.new _ _⟩, fun e => (by rw [h10] at e; cases e), fun _ => (hI.2.2.1 h12').on hbx, fun e => (by rw [h12] at e; cases e)⟩
      · have hsz3 : 3 < listed.size := by rw [hinv.size]; decide
        exact duty_value (C := fun w' => vz.grownBy w' (some bO)) (S := fun _ _ => True) (R := fun v' _ => TmR bA bH bO a n c p1 k ht 3 v') (J := fun a w' => TmI vz.heap.size bO ⟨⟨xh1, hb, ht, zf, zr⟩, id, none, 0, 0⟩ ht T k (listed.setIfInBounds 3 true) a w') (fun _ _ => trivial) hC (wanted_free rfl) (ex_sfield2 rfl (hinv.old' 4 (by kernel_rfl))) rfl (hI.keep 3 hsz3 (by decide) (by decide) (by decide) _ _ (by decide) (by decide))
      · have hsz4 : 4 < listed.size := by rw [hinv.size]; decide
        exact duty_value (C := fun w' => vz.grownBy w' (some bO)) (S := fun _ _ => True) (R := fun v' _ => TmR bA bH bO a n c p1 k ht 4 v') (J := fun a w' => TmI vz.heap.size bO ⟨⟨xh1, hb, ht, zf, zr⟩, id, none, 0, 0⟩ ht T k (listed.setIfInBounds 4 true) a w') (fun _ _ => trivial) hC (wanted_free rfl) (ex_load_ints rfl (hinv.got 3 _ 58 rfl (hdep ⟨3, .data⟩ (by simp) rfl) rfl) cAx) rfl (hI.keep 4 hsz4 (by decide) (by decide) (by decide) _ _ (by decide) (by decide))
      · have hsz5 : 5 < listed.size := by rw [hinv.size]; decide
        exact duty_value (C := fun w' => vz.grownBy w' (some bO)) (S := fun _ _ => True) (R := fun v' _ => TmR bA bH bO a n c p1 k ht 5 v') (J := fun a w' => TmI vz.heap.size bO ⟨⟨xh1, hb, ht, zf, zr⟩, id, none, 0, 0⟩ ht T k (listed.setIfInBounds 5 true) a w') (fun _ _ => trivial) hC (wanted_free rfl) (ex_sfield2 rfl (hinv.old' 4 (by kernel_rfl))) rfl (hI.keep 5 hsz5 (by decide) (by decide) (by decide) _ _ (by decide) (by decide))
      · have hsz6 : 6 < listed.size := by rw [hinv.size]; decide
        exact duty_value (C := fun w' => vz.grownBy w' (some bO)) (S := fun _ _ => True) (R := fun v' _ => TmR bA bH bO a n c p1 k ht 6 v') (J := fun a w' => TmI vz.heap.size bO ⟨⟨xh1, hb, ht, zf, zr⟩, id, none, 0, 0⟩ ht T k (listed.setIfInBounds 6 true) a w') (fun _ _ => trivial) hC (wanted_free rfl) (ex_load_ints rfl (hinv.got 5 _ 60 rfl (hdep ⟨5, .data⟩ (by simp) rfl) rfl) cAx) rfl (hI.keep 6 hsz6 (by decide) (by decide) (by decide) _ _ (by decide) (by decide))
      · have hsz7 : 7 < listed.size := by rw [hinv.size]; decide
        exact duty_value (C := fun w' => vz.grownBy w' (some bO)) (S := fun _ _ => True) (R := fun v' _ => TmR bA bH bO a n c p1 k ht 7 v') (J := fun a w' => TmI vz.heap.size bO ⟨⟨xh1, hb, ht, zf, zr⟩, id, none, 0, 0⟩ ht T k (listed.setIfInBounds 7 true) a w') (fun _ _ => trivial) hC (wanted_free rfl) (ex_len rfl (hinv.got 6 _ 61 rfl (hdep ⟨6, .data⟩ (by simp) rfl) rfl)) rfl (hI.keep 7 hsz7 (by decide) (by decide) (by decide) _ _ (by decide) (by decide))
      · have hsz8 : 8 < listed.size := by rw [hinv.size]; decide
        exact duty_value (C := fun w' => vz.grownBy w' (some bO)) (S := fun _ _ => True) (R := fun v' _ => TmR bA bH bO a n c p1 k ht 8 v') (J := fun a w' => TmI vz.heap.size bO ⟨⟨xh1, hb, ht, zf, zr⟩, id, none, 0, 0⟩ ht T k (listed.setIfInBounds 8 true) a w') (fun _ _ => trivial) hC (wanted_free rfl) (ex_min rfl (hinv.got 7 _ 62 rfl (hdep ⟨7, .data⟩ (by simp) rfl) rfl) rfl hkm.out) rfl (hI.keep 8 hsz8 (by decide) (by decide) (by decide) _ _ (by decide) (by decide))
      · have hsz9 : 9 < listed.size := by rw [hinv.size]; decide
        exact duty_value (C := fun w' => vz.grownBy w' (some bO)) (S := fun _ _ => True) (R := fun v' _ => TmR bA bH bO a n c p1 k ht 9 v') (J := fun a w' => TmI vz.heap.size bO ⟨⟨xh1, hb, ht, zf, zr⟩, id, none, 0, 0⟩ ht T k (listed.setIfInBounds 9 true) a w') (fun _ _ => trivial) hC (wanted_free rfl) (ex_slice rfl (hinv.got 4 _ 59 rfl (hdep ⟨4, .data⟩ (by simp) rfl) rfl) (hinv.got 8 _ 63 rfl (hdep ⟨8, .data⟩ (by simp) rfl) rfl) (hcut wx)) rfl (hI.keep 9 hsz9 (by decide) (by decide) (by decide) _ _ (by decide) (by decide))
      · have hsz : 10 < listed.size := by rw [hinv.size]; decide
        have h12 : (listed.setIfInBounds 10 true).getD 12 false = false := hinv.aheadT 12 (by kernel_rfl) hn (by decide) (by decide)
        have h12' : listed.getD 12 false = false := by rw [← getD_none listed 10 12 hsz (by decide)]; exact h12
        obtain ⟨g, hgB, e57, hg⟩ := hI.1 (hdep ⟨2, .data⟩ (by simp) rfl) hn
        have e64 := (hinv.got 9 _ 64 rfl (hdep ⟨9, .data⟩ (by simp) rfl) rfl)
        have hLx := (HL1.out.below hs.be (Nat.le_refl _)).grown hC hs.be.size (.inr n5)
        obtain ⟨v', w', hr, hown', hgr⟩ := ex_append (lo := 0) (hi := w.heap.size) (ρ := a'.eval) (.tmp 57) (.tmp 64) vz.heap.size (.slice (some ⟨g, 0, none⟩) 1 1) 1 [ht] e57 (owns_one hg hgB) p1 k c T e64 hn1 hln hLx m1 hlx
        obtain ⟨p8, c8, rfl⟩ := owns_slice_int hown'
        refine duty_made (C := fun w' => vz.grownBy w' (some bO)) (S := fun _ _ => True) (R := fun v' _ => TmR bA bH bO a n c p1 k ht 10 v') (J := fun a w' => TmI vz.heap.size bO ⟨⟨xh1, hb, ht, zf, zr⟩, id, none, 0, 0⟩ ht T k (listed.setIfInBounds 10 true) a w') (wanted_free rfl) (hr _ rfl rfl) (gb_past hC hgr hgB) trivial trivial ⟨fun _ e => (by rw [getD_set _ _ _ hsz, if_pos rfl] at e; cases e), fun _ _ => ⟨p8, c8, put_same a' 65 _ (by rw [hinv.tsize]; exact (show 65 < 68 by decide)), hown'⟩, fun _ => gb_has hgr (hI.2.2.1 h12') (fun e => by have : bO = g := Option.some.inj e; omega), fun e => (by rw [h12] at e; cases e)⟩
      · have hsz11 : 11 < listed.size := by rw [hinv.size]; decide
        exact duty_value (C := fun w' => vz.grownBy w' (some bO)) (S := fun _ _ => True) (R := fun v' _ => TmR bA bH bO a n c p1 k ht 11 v') (J := fun a w' => TmI vz.heap.size bO ⟨⟨xh1, hb, ht, zf, zr⟩, id, none, 0, 0⟩ ht T k (listed.setIfInBounds 11 true) a w') (fun _ _ => trivial) hC (wanted_free rfl) (ex_sfield2 rfl (hinv.old' 7 (by kernel_rfl))) rfl (hI.keep 11 hsz11 (by decide) (by decide) (by decide) _ _ (by decide) (by decide))
      · have hsz : 12 < listed.size := by rw [hinv.size]; decide
        have l10 : listed.getD 10 false = true := hdep ⟨10, .data⟩ (by simp) rfl
        obtain ⟨p8, c8, e65, hown8⟩ := hI.2.1 l10 hn
        have hOx := hI.2.2.1 hn
        refine duty_store (C := fun w' => vz.grownBy w' (some bO)) (S := fun _ _ => True) (R := fun v' _ => TmR bA bH bO a n c p1 k ht 12 v') (J := fun a w' => TmI vz.heap.size bO ⟨⟨xh1, hb, ht, zf, zr⟩, id, none, 0, 0⟩ ht T k (listed.setIfInBounds 12 true) a w') (wanted_free rfl) (ex_store_ints rfl (hinv.got 11 _ 66 rfl (hdep ⟨11, .data⟩ (by simp) rfl) rfl) e65 (hOx.free 37) (hOx.sl i32)) (gb_setCell hC 37 _) trivial trivial ⟨fun _ e => (by rw [getD_none _ _ _ hsz (by decide), l10] at e; cases e), fun _ e => (by rw [getD_set _ _ _ hsz, if_pos rfl] at e; cases e), fun e => (by rw [getD_set _ _ _ hsz, if_pos rfl] at e; cases e), fun _ => ⟨p8, c8, hOx.setS i32 p8 (1 + k) c8, hown8.kept (gb_setOne _ _ _ _) (.inr (fun e => by have := (hown8.lt bO e).1; omega))⟩⟩
    intro listed a' v9 hall hinv
    obtain ⟨p8, c8, hO9, hown9⟩ := hinv.i.2.2.2 (hall 12 (by decide))
    have hC := hinv.c
    have e6 : a'.eval (.tmp 6) = .pointer (some ⟨bR, 0, none⟩) := hinv.old' 6 (by kernel_rfl)
    have e7 : a'.eval (.tmp 7) = .pointer (some ⟨bO, 0, none⟩) := hinv.old' 7 (by kernel_rfl)
    have hR9 : SpAt v9 bR spZ := gb_has hC hs.r (fun e => n4 (Option.some.inj e))
    have hB9 : Below w.heap.size w v9 := hs.be.trans (gb_toBelow hC n5 hs.be.size)
    have hRl : bR < vz.heap.size := hs.r.lt
    obtain ⟨g8, rfl, hc8⟩ := owns_some hown9
    obtain ⟨q8, d8, eq8, _, _, hLie⟩ := MM.lie_of_owns (l := ht :: T) hown9
    cases eq8
    have HLie := Lib.hid hLie
    have HB0 := Lib.hid hs.be.size
    obtain ⟨u, hu⟩ : ∃ u : Nat → Value, ∀ t, u t = a'.eval (.tmp t) := ⟨_, fun _ => rfl⟩
    rw [rl_frame a' 68 u hinv.tsize hinv.defers hu]
    rw [← hu] at e6 e7
    clear hu hinv hall hC hown9 hLie hs hO0 hcut hmin hn1 hln
    show Exit.then _ _ _ (⟨#[u 0, u 1, u 2, u 3, u 4, u 5, u 6, u 7, u 8, u 9, u 10, u 11, u 12, u 13, u 14, u 15, u 16, u 17, u 18, u 19, u 20, u 21, u 22, u 23, u 24, u 25, u 26, u 27, u 28, u 29, u 30, u 31, u 32, u 33, u 34, u 35, u 36, u 37, u 38, u 39, u 40, u 41, u 42, u 43, u 44, u 45, u 46, u 47, u 48, u 49, u 50, u 51, u 52, u 53, u 54, u 55, u 56, u 57, u 58, u 59, u 60, u 61, u 62, u 63, u 64, u 65, u 66, u 67], []⟩ : Act) _
    rw [e6, e7]
    clear e6 e7
    have zo : (spA ⟨⟨xh1, hb, ht, zf, zr⟩, id, some ⟨g8, 0, none⟩, 1 + k, c8⟩).size = 38 := spA_size i32
    have HX : Hid (spA ⟨⟨xh1, hb, ht, zf, zr⟩, id, some ⟨g8, 0, none⟩, 1 + k, c8⟩ = spA ⟨⟨xh1, hb, ht, zf, zr⟩, id, some ⟨g8, 0, none⟩, 1 + k, c8⟩) := Lib.hid rfl
    change SpAt v9 bO ⟨⟨xh1, hb, ht, zf, zr⟩, id, some ⟨g8, 0, none⟩, 1 + k, c8⟩ at hO9
    generalize hq : (⟨⟨xh1, hb, ht, zf, zr⟩, id, some ⟨g8, 0, none⟩, 1 + k, c8⟩ : Sp) = sq at hO9 zo
    have HQ := Lib.hid hq
    clear hq HX
    go_wp2_with (first
      | (with_reducible refine sp_load rfl _ rfl bO rfl hO9 zo ?_)
      | (with_reducible refine sp_store rfl _ _ rfl bR _ sq rfl rfl rfl zo hR9 z0 ?_))
    refine bodyPost_ret (v := .agg (spA sq)) (sp_results Tryz.results18 _ bR rfl (Has.row hR9 _) zo) rfl ⟨g8, c8, by rw [← HQ.out], hc8, ?_, below_setRow hB9 HBR.out _⟩
    have hwd := HLie.out.wide (lo' := w.heap.size) (hi' := v9.heap.size) HB0.out (Nat.le_refl _)
    rw [setRow_size]
    exact HLie.out.on (fun q h1 _ => setRow_other v9 bR q _ (by omega)) |>.wide HB0.out (Nat.le_refl _)
end Go.Proofs.YthcebnfdapcllaaGreatDoor
namespace Go.Proofs.YthcebnfdapcllaaGreatDoor
open Go.RowKit Mem Sc NN.Rg2
structure Ps where
  x : NN.Pt
  prev : List UInt8
  ts : List Int
def bhx (p : NN.Pr) (x : NN.Pt) (h : Hd) : NN.Pt :=
  ⟨x.h + 1, h.bits, h.time, if NN.starts p.ivl x.h = true then h.time else x.f, if NN.starts p.ivl x.h = true ∨ p.easy = false ∨ ¬ h.bits = p.lim then h.bits else x.r⟩
def bh (p : NN.Pr) (s : Ps) (h : Hd) : Ps := ⟨bhx p s.x h, h.id, h.time :: s.ts.take 10⟩
def bgn (p : NN.Pr) (g : Hd) : Ps := bh p ⟨⟨0, 0, 0, 0, p.lim⟩, z32, []⟩ g
theorem behind_at (p : NN.Pr) (hp : p.ok) (s : Sp) (so : s.ok) (ts : List Int) (hl : ts.length = s.n) (hc : s.n ≤ s.c) (hmax : s.n ≤ 1000) (hnil : s.a = none → s.n = 0 ∧ s.c = 0) (hx : 0 ≤ s.x.h) (hx2 : s.x.h ≤ 1000000) (h : Hd) (ho : h.ok) (w : World) (hT : Tab w) (hL : MM.Lie w 0 w.heap.size s.a ts) :
    Calls Tryz.prog 18 #[.agg (NN.prA p), .agg (spA s), .agg (hdA h)] w fun r w' => ∃ b' c', r = .returned (.agg (spA ⟨bhx p s.x h, h.id, some ⟨b', 0, none⟩, (h.time :: ts.take 10).length, c'⟩)) ∧ (h.time :: ts.take 10).length ≤ c' ∧ MM.Lie w' w.heap.size w'.heap.size (some ⟨b', 0, none⟩) (h.time :: ts.take 10) ∧ Below w.heap.size w w' := by
  obtain ⟨⟨xh, xb, xt, xf, xr⟩, prev, a, n, c⟩ := s
  simp only at hl hc hmax hnil hx hx2 hL
  obtain ⟨k, hk⟩ : ∃ k, k = min n 10 := ⟨_, rfl⟩
  have e10 : ts.take 10 = ts.take k := by
    by_cases h10 : n ≤ 10
    · rw [List.take_of_length_le (by omega), List.take_of_length_le (by omega)]
    · rw [show k = 10 by omega]
  have hz := NN.prA_size hp
  have hlk : (h.time :: ts.take k).length = 1 + k := by simp; omega
  have hw : IntKind.i64.wrap (xh + 1) = xh + 1 := by rw [IntKind.wrap_i64]; omega
  have i32 := id_length h
  rw [e10, hlk]
  unfold bhx
  simp only
  exact behind_w p hz xh xb xt xf xr prev so a n c h ho h.id i32 h.bits h.time (Lib.hid rfl) (Lib.hid rfl) (NN.starts p.ivl xh) p.easy (h.bits == p.lim) (Lib.hid (Lib.hid rfl)) p.lim (Lib.hid (Lib.hid rfl)) (Lib.hid rfl) _ _ (Lib.hid rfl) (Lib.hid (by simp only [beq_eq_false_iff_ne, ne_eq])) (xh + 1) hw (Lib.hid (NN.starts_at p xh _ rfl)) (Lib.hid fun w hT => id_at h ho w hT) ts hl hc (by omega) hnil k hk w hT hL
structure Tl where
  ga : Option Addr
  gn : Nat
  gc : Nat
  ca : Option Addr
  cn : Nat
  cc : Nat
  nn : List Value
  g : Hd
def Tl.C (t : Tl) : List Value := .slice t.ga t.gn t.gc :: .slice t.ca t.cn t.cc :: (t.nn ++ hdC t.g)
def Tl.ok (t : Tl) : Prop := t.nn.length = 8 ∧ t.g.ok
theorem prA_at (p : NN.Pr) (j : Nat) : (NN.prA p)[5 + j]? = p.tl[j]? := by
  unfold NN.prA
  rw [List.getElem?_toArray, show 5 + j = j + 1 + 1 + 1 + 1 + 1 by omega]
  rfl
section
variable {w : World} {k : Nat} {p : NN.Pr} {t : Tl}
theorem pr_gates (h : NN.PrAt w k p) (e : p.tl = t.C) : w.cell? ⟨k, 5, none⟩ = some (.slice t.ga t.gn t.gc) := (NN.Has.cell h 5).trans (by rw [show 5 = 5 + 0 from rfl, prA_at, e]; rfl)
theorem pr_checks (h : NN.PrAt w k p) (e : p.tl = t.C) : w.cell? ⟨k, 6, none⟩ = some (.slice t.ca t.cn t.cc) := (NN.Has.cell h 6).trans (by rw [show 6 = 5 + 1 from rfl, prA_at, e]; rfl)
theorem pr_gen (h : NN.PrAt w k p) (e : p.tl = t.C) (ht : t.ok) : w.rangeAt k 15 (hdC t.g) := fun j u hu => by
  rw [NN.Has.cell h (15 + j), show 15 + j = 5 + (10 + j) by omega, prA_at, e, show 10 + j = (8 + j) + 1 + 1 by omega]
  show (t.nn ++ hdC t.g)[8 + j]? = some u
  rw [List.getElem?_append_right (by rw [ht.1]; omega), ht.1, Nat.add_sub_cancel_left]
  exact hu
end
section
variable {w : World} {ops : Array Oper} {rest : List Oper} {o : Oper} {a : Act} {Q : Exit → Act → World → Prop}
theorem built_pt (z : Int) : Tryz.prog.built 57 [(4, .int .i64 z)] = some (NN.ptA ⟨0, 0, 0, 0, z⟩) := by kernel_rfl
theorem built_sp0 (x : NN.Pt) : Tryz.prog.built 60 [(0, .agg (NN.ptA x))] = some (spA ⟨x, z32, none, 0, 0⟩) := by kernel_rfl
theorem pt_build (hgd : o.guard = none) (x : Operand) (ho : o.op = .build 57 #[(4, x)]) (z : Int) (hx : a.eval x = .int .i64 z)
    (hk : wpList Tryz.prog ops Q rest (a.put o.dst (.agg (NN.ptA ⟨0, 0, 0, 0, z⟩))) w) : wpList Tryz.prog ops Q (o :: rest) a w :=
  wpList_plain hgd fun _ hK => by
    unfold Oper.wp execOp
    simp only [ho, Sem.run_bind]
    rw [show (#[(4, x)] : Array (Nat × Operand)).map (fun (i, x) => (i, a.eval x)) = #[(4, .int .i64 z)] by simp [hx], run_build w 57 _ _ (built_pt z)]
    exact hK _ _ hk
theorem sp_build0 (hgd : o.guard = none) (x : Operand) (ho : o.op = .build 60 #[(0, x)]) (y : NN.Pt) (hx : a.eval x = .agg (NN.ptA y))
    (hk : wpList Tryz.prog ops Q rest (a.put o.dst (.agg (spA ⟨y, z32, none, 0, 0⟩))) w) : wpList Tryz.prog ops Q (o :: rest) a w :=
  wpList_plain hgd fun _ hK => by
    unfold Oper.wp execOp
    simp only [ho, Sem.run_bind]
    rw [show (#[(0, x)] : Array (Nat × Operand)).map (fun (i, x) => (i, a.eval x)) = #[(0, .agg (NN.ptA y))] by simp [hx], run_build w 60 _ _ (built_sp0 y)]
    exact hK _ _ hk
end
def SpIs (w : World) (lo : Nat) (s : Sp) (q : Ps) : Prop := s.x = q.x ∧ s.prev = q.prev ∧ q.ts.length = s.n ∧ s.n ≤ s.c ∧ (∃ b, s.a = some ⟨b, 0, none⟩) ∧ MM.Lie w lo w.heap.size s.a q.ts
theorem SpIs.on {w w' : World} {lo : Nat} {s : Sp} {q : Ps} (h : SpIs w lo s q) (hb : Below w.heap.size w w') : SpIs w' lo s q :=
  ⟨h.1, h.2.1, h.2.2.1, h.2.2.2.1, h.2.2.2.2.1, (h.2.2.2.2.2.below hb (Nat.le_refl _)).wide (Nat.le_refl _) hb.size⟩
theorem SpIs.row {w : World} {lo g : Nat} {s : Sp} {q : Ps} {cs : Array Value} (h : SpIs w lo s q) (hg : g < lo) : SpIs (w.setRow g cs) lo s q :=
  ⟨h.1, h.2.1, h.2.2.1, h.2.2.2.1, h.2.2.2.2.1, by rw [setRow_size]; exact h.2.2.2.2.2.on (fun k h1 _ => setRow_other w g k cs (by omega))⟩
theorem SpIs.wide {w : World} {lo lo' : Nat} {s : Sp} {q : Ps} (h : SpIs w lo s q) (hl : lo' ≤ lo) : SpIs w lo' s q :=
  ⟨h.1, h.2.1, h.2.2.1, h.2.2.2.1, h.2.2.2.2.1, h.2.2.2.2.2.wide hl (Nat.le_refl _)⟩
set_option maxRecDepth 100000 in
set_option maxHeartbeats 2000000 in
theorem begin_w (p : NN.Pr) (hp : p.ok) (t : Tl) (et : p.tl = t.C) (ht : t.ok) (lim : Int) (e0 : Hid (p.lim = lim)) (w : World)
    (KB : Hid (∀ w', Below w.heap.size w w' → Calls Tryz.prog 18 #[.agg (NN.prA p), .agg (spA ⟨⟨0, 0, 0, 0, lim⟩, z32, none, 0, 0⟩), .agg (hdA t.g)] w' fun r w'' => ∃ s, r = .returned (.agg (spA s)) ∧ (spA s).size = 38 ∧ SpIs w'' w'.heap.size s (bgn p t.g) ∧ Below w'.heap.size w' w'')) :
    Calls Tryz.prog 13 #[.agg (NN.prA p)] w fun r w' => ∃ s, r = .returned (.agg (spA s)) ∧ (spA s).size = 38 ∧ SpIs w' w.heap.size s (bgn p t.g) ∧ Below w.heap.size w w' := by
  have hz := NN.prA_size hp
  have z0 := spA_size spZ_ok
  have ET := Lib.hid et
  have HT := Lib.hid ht
  have s1 := hdC_length ht.2
  clear et
  go_enter Tryz.func13, Tryz.ntmps13
  go_upto_region 1 with fail
  generalize hw0 : World.alloc _ _ = v0
  have hB0 : Below w.heap.size w v0 := by rw [← hw0]; exact ((Below.refl _ _).alloc (Nat.le_refl _) _).alloc (by simp) _
  have hP : NN.PrAt v0 w.heap.size p := by rw [← hw0]; exact (NN.Has.new _ _).alloc _
  have hR : SpAt v0 (w.heap.size + 1) spZ := by rw [← hw0]; exact Has.new1 _ (spA spZ) _
  clear hw0
  have c0 := hP.c0 e0
  have r15 := pr_gen hP ET.out HT.out
  go_wp2_with (first
    | (with_reducible refine NN.pr_load rfl _ rfl _ rfl hP hz ?_)
    | (with_reducible refine pt_build rfl _ rfl lim rfl ?_)
    | (with_reducible refine sp_build0 rfl _ rfl ⟨0, 0, 0, 0, lim⟩ rfl ?_)
    | (with_reducible refine hd_load_mid rfl _ rfl _ 15 rfl t.g r15 s1 ?_))
  refine (KB.out v0 hB0).mono ?_
  rintro r v1 ⟨s, rfl, zs, hS, hb1⟩
  have hR1 := hR.on hb1
  have hRl := hR.lt
  have HB : Hid (Below w.heap.size w v1) := Lib.hid (hB0.trans (hb1.mono hB0.size))
  have HB0 := Lib.hid hB0.size
  clear hb1 hB0 hP hR c0 r15 KB
  go_wp2_with (with_reducible refine sp_store rfl _ _ rfl _ _ s rfl rfl rfl zs hR1 z0 ?_)
  refine bodyPost_ret (v := .agg (spA s)) (sp_results Tryz.results13 _ _ rfl (Has.row hR1 _) zs) rfl ⟨s, rfl, zs, ?_, below_setRow HB.out (by omega) _⟩
  obtain ⟨h1, h2, h3, h4, h5, h6⟩ := hS
  refine ⟨h1, h2, h3, h4, h5, ?_⟩
  rw [setRow_size]
  exact (h6.on (fun q hq _ => setRow_other v1 _ q _ (by omega))).wide HB0.out (Nat.le_refl _)
theorem begin_at (p : NN.Pr) (hp : p.ok) (t : Tl) (et : p.tl = t.C) (ht : t.ok) (w : World) (hT : Tab w) :
    Calls Tryz.prog 13 #[.agg (NN.prA p)] w fun r w' => ∃ s, r = .returned (.agg (spA s)) ∧ (spA s).size = 38 ∧ SpIs w' w.heap.size s (bgn p t.g) ∧ Below w.heap.size w w' := by
  refine begin_w p hp t et ht _ (Lib.hid rfl) w (Lib.hid fun w' hb => ?_)
  refine (behind_at p hp ⟨⟨0, 0, 0, 0, p.lim⟩, z32, none, 0, 0⟩ rfl [] rfl (Nat.le_refl _) (show 0 ≤ 1000 by omega) (fun _ => ⟨rfl, rfl⟩) (by simp) (by simp) t.g ht.2 w' (hT.below hb) MM.Lie.none).mono ?_
  rintro r w2 ⟨b', c', rfl, h1, h2, h3⟩
  exact ⟨_, rfl, spA_size (id_length _), ⟨rfl, rfl, rfl, h1, ⟨b', rfl⟩, h2⟩, h3⟩
end Go.Proofs.YthcebnfdapcllaaGreatDoor
namespace Go.Proofs.YthcebnfdapcllaaGreatDoor.An
open Go.RowKit Mem Sc
def Sup (I : Nat → Prop) (P : World → Prop) (w : World) : Prop := ∀ w', Kp (fun i => ¬ I i) w w' → P w'
section
variable {w w' : World} {I J G : Nat → Prop} {P P' : World → Prop}
theorem Sup.now (h : Sup I P w) : P w := h w (Kp.refl _ w)
theorem Sup.on (h : Sup I P w) (k : Kp G w w') (hG : ∀ i, I i → ¬ G i) : Sup I P w' := fun w2 k2 => h w2 ((k.mono (fun i hi _ => fun h => hG i h hi)).trans k2 (fun _ hi _ => hi))
theorem Sup.wide (h : Sup I P w) (hI : ∀ i, I i → J i) : Sup J P w := fun w2 k2 => h w2 (k2.mono fun i hi _ => fun h => hi (hI i h))
theorem Sup.imp (h : Sup I P w) (hP : ∀ w', P w' → P' w') : Sup I P' w := fun w2 k2 => hP w2 (h w2 k2)
theorem Sup.and (h : Sup I P w) (h' : Sup I P' w) : Sup I (fun w => P w ∧ P' w) w := fun w2 k2 => ⟨h w2 k2, h' w2 k2⟩
end
theorem kp_range {w w' : World} {F : Nat → Prop} {b o : Nat} {cs : List Value} (h : w.rangeAt b o cs) (k : Kp F w w') (hb : b < w.heap.size) (hn : ¬ F b) : w'.rangeAt b o cs := fun j u hu => (World.cell?_of_block (k.block b hb hn)).trans (h j u hu)
theorem sup_gates {w : World} {I : Nat → Prop} {a : Option Addr} {gs : List Gt} (h : GatesAt w a gs) (hI : 0 < gs.length → ∀ ad, a = some ad → I ad.block) : Sup I (fun w => GatesAt w a gs) w := fun w' k h0 => by
  obtain ⟨ab, ao, ha, hlt, hc⟩ := h h0
  have := hI h0 _ ha
  exact ⟨ab, ao, ha, Nat.lt_of_lt_of_le hlt k.size, fun i hi => kp_range (hc i hi) k hlt (fun hn => hn this)⟩
theorem sup_checks {w : World} {I : Nat → Prop} {a : Option Addr} {gs : List Ck} (h : ChecksAt w a gs) (hI : 0 < gs.length → ∀ ad, a = some ad → I ad.block) : Sup I (fun w => ChecksAt w a gs) w := fun w' k h0 => by
  obtain ⟨ab, ao, ha, hlt, hc⟩ := h h0
  have := hI h0 _ ha
  exact ⟨ab, ao, ha, Nat.lt_of_lt_of_le hlt k.size, fun i hi => ⟨(hc i hi).1, kp_range (hc i hi).2 k hlt (fun hn => hn this)⟩⟩
theorem sup_spot {w : World} {I : Nat → Prop} {s : Sp} {q : Ps} {lo : Nat} (h : SpIs w lo s q) (hI : ∀ i, lo ≤ i → i < w.heap.size → I i) : Sup I (fun w => SpIs w 0 s q) w := fun w' k => by
  obtain ⟨h1, h2, h3, h4, h5, h6⟩ := h
  refine ⟨h1, h2, h3, h4, h5, fun h0 => ?_⟩
  obtain ⟨b, off, e, g1, g2, hc⟩ := h6 h0
  exact ⟨b, off, e, Nat.zero_le _, Nat.lt_of_lt_of_le g2 k.size, fun j hj => (World.cell?_of_block (w := w) (a := ⟨b, off + j, none⟩) (k.block b g2 (fun hn => hn (hI b g1 g2)))).trans (hc j hj)⟩
theorem kp_row {w w' : World} {F : Nat → Prop} {base : Nat} {v : Value} {e size n : Nat} {xs : List Value} (h : w.ownsRow base e size v n xs) (k : Kp F w w') (hF : ∀ i, v.ownBlock = some i → ¬ F i) : w'.ownsRow base e size v n xs := by
  refine ⟨h.1, ?_⟩
  rcases h.2 with h | ⟨g, c, cur, rfl, h1, h2, h3⟩
  · exact .inl h
  · have hg : g < w.heap.size := (Array.getElem?_eq_some_iff.1 h2).1
    exact .inr ⟨g, c, cur, rfl, h1, (k.block g hg (hF g rfl)).trans h2, h3⟩
theorem row_lt {w : World} {base : Nat} {v : Value} {e size n : Nat} {xs : List Value} (h : w.ownsRow base e size v n xs) {i : Nat} (hi : v.ownBlock = some i) : i < w.heap.size ∧ base ≤ i := by
  rcases h.2 with ⟨rfl, _⟩ | ⟨g, c, cur, rfl, h1, h2, h3⟩
  · cases hi
  · cases hi
    exact ⟨(Array.getElem?_eq_some_iff.1 h2).1, h1⟩
end Go.Proofs.YthcebnfdapcllaaGreatDoor.An
namespace Go.Proofs.YthcebnfdapcllaaGreatDoor
open Go.RowKit Mem Sc NN.Rg2
structure CkS (w wr : World) (bP bA bH : Nat) (p : NN.Pr) (s : Sp) (h : Hd) : Prop where
  be : Below w.heap.size w wr
  p : NN.PrAt wr bP p
  a : SpAt wr bA s
  h : HdAt wr bH h
theorem CkS.on {w wr w' : World} {bP bA bH : Nat} {p : NN.Pr} {s : Sp} {h : Hd} (hs : CkS w wr bP bA bH p s h) (hb : Below wr.heap.size wr w') : CkS w w' bP bA bH p s h :=
  ⟨hs.be.trans (hb.mono hs.be.size), hs.p.on hb, hs.a.on hb, hs.h.on hb⟩
def cres (g0 b1 b2 g3 g4 g5 b6 g7 : Bool) : Int :=
  if g0 = false then 1 else if b1 = true then 2 else if b2 = false then 3 else if g3 = false then 4 else if g4 = false then 5 else if g5 = false then 6 else if b6 = true then 7 else if g7 = false then 8 else 0
set_option maxRecDepth 100000 in
set_option maxHeartbeats 4000000 in
theorem check_w (p : NN.Pr) (hz : (NN.prA p).size = 83) (xh xb xt xf xr : Int) (prev : List UInt8) (hp32 : prev.length = 32) (a : Option Addr) (n c : Nat) (h : Hd) (ho : h.ok) (now : Int) (w : World) (g0 b1 b2 g3 g4 g5 b6 g7 : Bool)
    (KG : Hid (∀ w', Below w.heap.size w w' → Calls Tryz.prog 41 #[.agg (hdA h)] w' fun e w'' => e = .returned (.bool g0) ∧ Below w'.heap.size w' w'')) (t1 : (!(h.prev == prev)) = b1)
    (hb ht nb : Int) (eb : Hid (h.bits = hb)) (et : Hid (h.time = ht)) (KN : Hid (∀ w', Below w.heap.size w w' → Calls Tryz.prog 94 #[.agg (NN.prA p), .agg (NN.ptA ⟨xh, xb, xt, xf, xr⟩), .int .i64 ht] w' fun e w'' => e = .returned (.int .i64 nb) ∧ Below w'.heap.size w' w'')) (t2 : (hb == nb) = b2)
    (KW : Hid (∀ w', Below w.heap.size w w' → Calls Tryz.prog 95 #[.agg (NN.prA p), .agg (hdA h)] w' fun e w'' => e = .returned (.bool g3) ∧ Below w'.heap.size w' w''))
    (KL : Hid (∀ w', Below w.heap.size w w' → Calls Tryz.prog 96 #[.int .i64 ht, .slice a n c] w' fun e w'' => e = .returned (.bool g4) ∧ Below w'.heap.size w' w''))
    (fut : Int) (e3 : Hid (p.fut = fut)) (KE : Hid (∀ w', Below w.heap.size w w' → Calls Tryz.prog 97 #[.int .i64 ht, .int .i64 now, .int .i64 fut] w' fun e w'' => e = .returned (.bool g5) ∧ Below w'.heap.size w' w''))
    (t : Tl) (tt : Hid (p.tl = t.C)) (hv v : Int) (ev : Hid (h.v = hv)) (KV : Hid (∀ w', Below w.heap.size w w' → Calls Tryz.prog 98 #[.int .i64 xh, .slice t.ga t.gn t.gc] w' fun e w'' => e = .returned (.int .i64 v) ∧ Below w'.heap.size w' w'')) (t6 : decide (hv < v) = b6)
    (id : List UInt8) (KI : Hid (∀ w', Below w.heap.size w w' → Calls Tryz.prog 34 #[.agg (hdA h)] w' fun e w'' => e = .returned (.agg (bytesV id)) ∧ Below w'.heap.size w' w'')) (KT : Hid (∀ w', Below w.heap.size w w' → Calls Tryz.prog 99 #[.int .i64 xh, .agg (bytesV id), .slice t.ca t.cn t.cc] w' fun e w'' => e = .returned (.bool g7) ∧ Below w'.heap.size w' w'')) :
    Calls Tryz.prog 67 #[.agg (NN.prA p), .agg (spA ⟨⟨xh, xb, xt, xf, xr⟩, prev, a, n, c⟩), .agg (hdA h), .int .i64 now] w fun e w' => e = .returned (.int .i64 (cres g0 b1 b2 g3 g4 g5 b6 g7)) ∧ Below w.heap.size w w' := by
  have za := hdA_size ho
  have so : (⟨⟨xh, xb, xt, xf, xr⟩, prev, a, n, c⟩ : Sp).ok := hp32
  have qn := hn_neq h.prev prev ho.1 hp32 _ t1
  obtain ⟨ga, hga⟩ : ∃ x, x = t.ga := ⟨_, rfl⟩
  obtain ⟨gn, hgn⟩ : ∃ x, x = t.gn := ⟨_, rfl⟩
  obtain ⟨gc, hgc⟩ : ∃ x, x = t.gc := ⟨_, rfl⟩
  rw [← hga, ← hgn, ← hgc] at KV
  have P5 : Hid (∀ wx b, NN.PrAt wx b p → wx.cell? ⟨b, 5, none⟩ = some (.slice ga gn gc)) := Lib.hid (fun wx b hh => by rw [hga, hgn, hgc]; exact pr_gates hh tt.out)
  clear hga hgn hgc
  obtain ⟨ca, hca⟩ : ∃ x, x = t.ca := ⟨_, rfl⟩
  obtain ⟨cn, hcn⟩ : ∃ x, x = t.cn := ⟨_, rfl⟩
  obtain ⟨cc, hcc⟩ : ∃ x, x = t.cc := ⟨_, rfl⟩
  rw [← hca, ← hcn, ← hcc] at KT
  have P6 : Hid (∀ wx b, NN.PrAt wx b p → wx.cell? ⟨b, 6, none⟩ = some (.slice ca cn cc)) := Lib.hid (fun wx b hh => by rw [hca, hcn, hcc]; exact pr_checks hh tt.out)
  clear hca hcn hcc
  go_enter Tryz.func67, Tryz.ntmps67
  go_upto_region 1 with fail
  generalize hw0 : World.alloc _ _ = v0
  have hs : CkS w v0 w.heap.size (w.heap.size + 1) (w.heap.size + 1 + 1) p ⟨⟨xh, xb, xt, xf, xr⟩, prev, a, n, c⟩ h := by
    rw [← hw0]
    exact ⟨(((Below.refl _ _).alloc (Nat.le_refl _) _).alloc (by simp) _).alloc (by simp; omega) _, ((NN.Has.new _ _).alloc _).alloc _, (Has.new1 _ _ _).alloc _, Has.new2 _ _ _ _⟩
  clear hw0
  obtain ⟨bP, hbP⟩ : ∃ b, b = w.heap.size := ⟨_, rfl⟩
  obtain ⟨bA, hbA⟩ : ∃ b, b = w.heap.size + 1 := ⟨_, rfl⟩
  obtain ⟨bH, hbH⟩ : ∃ b, b = w.heap.size + 1 + 1 := ⟨_, rfl⟩
  rw [← hbH, ← hbA, ← hbP] at hs ⊢
  clear hbP hbA hbH
  have hH := hs.h
  go_wp2_with (first | fail | (with_reducible refine hd_load rfl _ rfl bH rfl hH za ?_))
  refine (KG.out _ hs.be).mono ?_
  rintro e v1 ⟨rfl, hb1⟩
  replace hs := hs.on hb1
  clear hb1
  cases g0
  case false =>
    go_wp2_with fail
    go_ret
    exact ⟨rfl, hs.be⟩
  clear hH
  have r1 := range_prev hs.h.range
  rw [Nat.zero_add] at r1
  have r5 := hs.a.prev
  have s1 := byteCells_32 ho.1
  have s5 := byteCells_32 hp32
  cases b1
  case true =>
    go_wp2_with (first | (with_reducible refine hl_load_mid rfl _ rfl bH 1 rfl h.prev r1 s1 ?_) | (with_reducible refine hl_load_mid rfl _ rfl bA 5 rfl prev r5 s5 ?_) | (with_reducible refine hneq_g (by with_unfolding_all rfl) _ _ _ rfl _ _ _ rfl rfl qn ?_))
    go_ret
    exact ⟨rfl, hs.be⟩
  go_upto_region 5 with (first | (with_reducible refine hl_load_mid rfl _ rfl bH 1 rfl h.prev r1 s1 ?_) | (with_reducible refine hl_load_mid rfl _ rfl bA 5 rfl prev r5 s5 ?_) | (with_reducible refine hneq_g (by with_unfolding_all rfl) _ _ _ rfl _ _ _ rfl rfl qn ?_))
  clear r1 r5 s1 s5 qn
  have qb : ∀ d os, (Sort.grow (redrawn v1 d) os).cell? ⟨bH, 66, none⟩ = some (.int .i64 hb) := cell_regrown (by rw [← eb.out]; exact hs.h.bits ho)
  have qt : ∀ d os, (Sort.grow (redrawn v1 d) os).cell? ⟨bH, 65, none⟩ = some (.int .i64 ht) := cell_regrown (by rw [← et.out]; exact hs.h.time ho)
  have qp := hs.p.cls
  have qx := range_cls hs.a.pt (show 0 < 5 by decide)
  have hbr : ∀ d os, Below w.heap.size w (Sort.grow (redrawn v1 d) os) := fun d os => hs.be.trans ((below_regrown v1 d os).mono hs.be.size)
  refine wp_region_quiet_below (by kernel_rfl) (by kernel_rfl) ?_
  repeat (first
    | (go_big_quiet_want; (with_reducible refine NN.quiet_load_pr _ rfl _ rfl hz qp ?_); (simp only [Act.put, List.setIfInBounds_toArray, List.set_cons_zero, List.set_cons_succ]); go_big_quiet_on)
    | (go_big_quiet_want; (with_reducible refine quiet_pt _ rfl bA rfl ⟨xh, xb, xt, xf, xr⟩ qx ?_); (simp only [Act.put, List.setIfInBounds_toArray, List.set_cons_zero, List.set_cons_succ]); go_big_quiet_on)
    | go_big_quiet_step (first | (go_at_call 94; exact Calls.regrown_of (KN.out _ (hbr _ _)))))
  refine wpQuiet_nil ?_
  intro v2 hw'
  obtain ⟨rg, hw''⟩ := hw'
  have hb2 : Below v1.heap.size v1 v2 := by rw [hw'']; exact below_regrown v1 rg.d rg.os
  clear hw'' hbr
  replace hs := hs.on hb2
  clear hb2
  clear qb qt qp qx
  cases b2
  case false =>
    go_wp2_with fail
    go_ret
    exact ⟨rfl, hs.be⟩
  have hH := hs.h
  have hP := hs.p
  go_wp2_with (first | fail | (with_reducible refine hd_load rfl _ rfl bH rfl hH za ?_) | (with_reducible refine NN.pr_load rfl _ rfl _ rfl hP hz ?_))
  refine (KW.out _ hs.be).mono ?_
  rintro e v3 ⟨rfl, hb3⟩
  replace hs := hs.on hb3
  clear hb3
  clear hH hP
  cases g3
  case false =>
    go_wp2_with fail
    go_ret
    exact ⟨rfl, hs.be⟩
  have cT : v3.cell? ⟨bH, 65, none⟩ = some (.int .i64 ht) := by rw [← et.out]; exact hs.h.time ho
  have cS := hs.a.sl so
  go_wp2_with (first | fail)
  refine (KL.out _ hs.be).mono ?_
  rintro e v4 ⟨rfl, hb4⟩
  replace hs := hs.on hb4
  clear hb4
  clear cT cS
  cases g4
  case false =>
    go_wp2_with fail
    go_ret
    exact ⟨rfl, hs.be⟩
  have cT : v4.cell? ⟨bH, 65, none⟩ = some (.int .i64 ht) := by rw [← et.out]; exact hs.h.time ho
  have c3 := hs.p.c3 e3
  go_wp2_with (first | fail)
  refine (KE.out _ hs.be).mono ?_
  rintro e v5 ⟨rfl, hb5⟩
  replace hs := hs.on hb5
  clear hb5
  clear cT c3
  cases g5
  case false =>
    go_wp2_with fail
    go_ret
    exact ⟨rfl, hs.be⟩
  go_upto_region 13 with fail
  have qv : ∀ d os, (Sort.grow (redrawn v5 d) os).cell? ⟨bH, 0, none⟩ = some (.int .i64 hv) := cell_regrown (by rw [← ev.out]; exact hs.h.v)
  have qh : ∀ d os, (Sort.grow (redrawn v5 d) os).cell? ⟨bA, 0, none⟩ = some (.int .i64 xh) := cell_regrown (hs.a.c0 (Lib.hid rfl))
  have qg : ∀ d os, (Sort.grow (redrawn v5 d) os).cell? ⟨bP, 5, none⟩ = some (.slice ga gn gc) := cell_regrown (P5.out _ _ hs.p)
  have hbr : ∀ d os, Below w.heap.size w (Sort.grow (redrawn v5 d) os) := fun d os => hs.be.trans ((below_regrown v5 d os).mono hs.be.size)
  refine wp_region_quiet_below (by kernel_rfl) (by kernel_rfl) ?_
  repeat (first
    | go_big_quiet_step (first | (go_at_call 98; exact Calls.regrown_of (KV.out _ (hbr _ _)))))
  refine wpQuiet_nil ?_
  intro v6 hw'
  obtain ⟨rg, hw''⟩ := hw'
  have hb6 : Below v5.heap.size v5 v6 := by rw [hw'']; exact below_regrown v5 rg.d rg.os
  clear hw'' hbr
  replace hs := hs.on hb6
  clear hb6
  clear qv qh qg
  cases b6
  case true =>
    go_wp2_with fail
    go_ret
    exact ⟨rfl, hs.be⟩
  go_upto_region 15 with fail
  have qh : ∀ d os, (Sort.grow (redrawn v6 d) os).cell? ⟨bA, 0, none⟩ = some (.int .i64 xh) := cell_regrown (hs.a.c0 (Lib.hid rfl))
  have qc : ∀ d os, (Sort.grow (redrawn v6 d) os).cell? ⟨bP, 6, none⟩ = some (.slice ca cn cc) := cell_regrown (P6.out _ _ hs.p)
  have qd := range_cls hs.h.range (hdC_pos h)
  have sd := hdC_length ho
  have hbr : ∀ d os, Below w.heap.size w (Sort.grow (redrawn v6 d) os) := fun d os => hs.be.trans ((below_regrown v6 d os).mono hs.be.size)
  refine wp_region_quiet_below (by kernel_rfl) (by kernel_rfl) ?_
  repeat (first
    | (go_big_quiet_want; (with_reducible refine quiet_hd_mid _ rfl bH 0 rfl h sd qd ?_); (simp only [Act.put, List.setIfInBounds_toArray, List.set_cons_zero, List.set_cons_succ]); go_big_quiet_on)
    | go_big_quiet_step (first | (go_at_call 34; exact Calls.regrown_of (KI.out _ (hbr _ _))) | (go_at_call 99; exact Calls.regrown_of (KT.out _ (hbr _ _)))))
  refine wpQuiet_nil ?_
  intro v7 hw'
  obtain ⟨rg, hw''⟩ := hw'
  have hb7 : Below v6.heap.size v6 v7 := by rw [hw'']; exact below_regrown v6 rg.d rg.os
  clear hw'' hbr
  replace hs := hs.on hb7
  clear hb7
  clear qh qc qd sd
  cases g7
  case false =>
    go_wp2_with fail
    go_ret
    exact ⟨rfl, hs.be⟩
  go_wp2_with fail
  go_ret
  exact ⟨rfl, hs.be⟩
def nearB (t now fut : Int) : Bool := decide (0 ≤ fut) && decide (IntKind.i64.wrap (t - now) ≤ fut)
def chk (p : NN.Pr) (gs : List Gt) (cs : List Ck) (q : Ps) (h : Hd) (now : Int) : Int :=
  if ¬ h.P then 1 else if ¬ h.prev = q.prev then 2 else if ¬ h.bits = NN.nx p q.x h.time then 3 else if wkd p.lim h = false then 4 else if MM.late h.time q.ts = false then 5 else if nearB h.time now p.fut = false then 6 else if h.v < vers q.x.h gs then 7 else if trk q.x.h h.id cs = false then 8 else 0
theorem check_at (p : NN.Pr) (hp : p.ok) (t : Tl) (tt : p.tl = t.C) (gs : List Gt) (cs : List Ck) (hgn : t.gn = gs.length) (hcn : t.cn = cs.length) (hgl : t.gn ≤ 1000) (hcl : t.cn ≤ 1000) (s : Sp) (q : Ps) (e1 : s.x = q.x) (e2 : s.prev = q.prev) (e3 : q.ts.length = s.n) (e4 : s.n ≤ s.c) (e5 : q.prev.length = 32) (e6 : s.n ≤ 1000) (h : Hd) (ho : h.ok) (now : Int) (w : World) (hT : Tab w) (hL : MM.Lie w 0 w.heap.size s.a q.ts) (hG : GatesAt w t.ga gs) (hC : ChecksAt w t.ca cs) :
    Calls Tryz.prog 67 #[.agg (NN.prA p), .agg (spA s), .agg (hdA h), .int .i64 now] w fun e w' => e = .returned (.int .i64 (chk p gs cs q h now)) ∧ Below w.heap.size w w' := by
  obtain ⟨x, prev, ts⟩ := q
  obtain ⟨x', prev', a, n, c⟩ := s
  simp only at e1 e2 e3 e4 e5 e6 hL
  subst e1 e2
  obtain ⟨xh, xb, xt, xf, xr⟩ := x'
  have hz := NN.prA_size hp
  have hTb : ∀ w', Below w.heap.size w w' → Tab w' := fun w' hb => hT.below hb
  have KG : Hid (∀ w', Below w.heap.size w w' → Calls Tryz.prog 41 #[.agg (hdA h)] w' fun e w'' => e = .returned (.bool (decide h.P)) ∧ Below w'.heap.size w' w'') := Lib.hid fun w' _ => good_at h ho w'
  have KN : Hid (∀ w', Below w.heap.size w w' → Calls Tryz.prog 94 #[.agg (NN.prA p), .agg (NN.ptA ⟨xh, xb, xt, xf, xr⟩), .int .i64 h.time] w' fun e w'' => e = .returned (.int .i64 (NN.nx p ⟨xh, xb, xt, xf, xr⟩ h.time)) ∧ Below w'.heap.size w' w'') := Lib.hid fun w' _ => NN.next_at p hp _ _ w'
  have KW : Hid (∀ w', Below w.heap.size w w' → Calls Tryz.prog 95 #[.agg (NN.prA p), .agg (hdA h)] w' fun e w'' => e = .returned (.bool (wkd p.lim h)) ∧ Below w'.heap.size w' w'') := Lib.hid fun w' hb => worked_at p h ho _ rfl w' (hTb w' hb)
  have KL : Hid (∀ w', Below w.heap.size w w' → Calls Tryz.prog 96 #[.int .i64 h.time, .slice a n c] w' fun e w'' => e = .returned (.bool (MM.late h.time ts)) ∧ Below w'.heap.size w' w'') := Lib.hid fun w' hb => MM.late_at h.time a n c 0 w.heap.size ts e3 e4 (by omega) w' (hL.below hb (Nat.le_refl _))
  have KE : Hid (∀ w', Below w.heap.size w w' → Calls Tryz.prog 97 #[.int .i64 h.time, .int .i64 now, .int .i64 p.fut] w' fun e w'' => e = .returned (.bool (nearB h.time now p.fut)) ∧ Below w'.heap.size w' w'') := Lib.hid fun w' _ => (MM.near_at h.time now p.fut _ rfl w').mono (fun e w'' ⟨h1, h2⟩ => ⟨by rw [h1]; rfl, by rw [h2]; exact Below.refl _ _⟩)
  have KV : Hid (∀ w', Below w.heap.size w w' → Calls Tryz.prog 98 #[.int .i64 xh, .slice t.ga t.gn t.gc] w' fun e w'' => e = .returned (.int .i64 (vers xh gs)) ∧ Below w'.heap.size w' w'') := Lib.hid fun w' hb => version_at xh t.ga gs t.gn t.gc hgn (by omega) w' (hG.below hb) _ rfl
  have KI : Hid (∀ w', Below w.heap.size w w' → Calls Tryz.prog 34 #[.agg (hdA h)] w' fun e w'' => e = .returned (.agg (bytesV h.id)) ∧ Below w'.heap.size w' w'') := Lib.hid fun w' hb => id_at h ho w' (hTb w' hb)
  have KT : Hid (∀ w', Below w.heap.size w w' → Calls Tryz.prog 99 #[.int .i64 xh, .agg (bytesV h.id), .slice t.ca t.cn t.cc] w' fun e w'' => e = .returned (.bool (trk xh h.id cs)) ∧ Below w'.heap.size w' w'') := Lib.hid fun w' hb => tracked_at xh h.id (id_length h) t.ca cs t.cn t.cc hcn (by omega) w' (hC.below hb) _ rfl
  have e : chk p gs cs ⟨⟨xh, xb, xt, xf, xr⟩, prev', ts⟩ h now = cres (decide h.P) (!(h.prev == prev')) (h.bits == NN.nx p ⟨xh, xb, xt, xf, xr⟩ h.time) (wkd p.lim h) (MM.late h.time ts) (nearB h.time now p.fut) (decide (h.v < vers xh gs)) (trk xh h.id cs) := by
    unfold chk cres
    simp only [decide_eq_false_iff_not, Bool.not_eq_true', beq_eq_false_iff_ne, ne_eq, decide_eq_true_eq]
  rw [e]
  exact check_w p hz xh xb xt xf xr prev' e5 a n c h ho now w _ _ _ _ _ _ _ _ KG rfl h.bits h.time _ (Lib.hid rfl) (Lib.hid rfl) KN rfl KW KL p.fut (Lib.hid rfl) KE t (Lib.hid tt) h.v _ (Lib.hid rfl) KV rfl h.id KI KT
end Go.Proofs.YthcebnfdapcllaaGreatDoor
namespace Go.Proofs.YthcebnfdapcllaaGreatDoor.An
open Go.RowKit Mem Sc NN.Rg2
def Ph (k : Nat) (Pre Post : World → Prop) (l : Array Bool) (w : World) : Prop := (l.getD k false = false → Pre w) ∧ (l.getD k false = true → Post w)
section
variable {k i : Nat} {Pre Post : World → Prop} {l : Array Bool} {w w' : World}
theorem Ph.keep (h : Ph k Pre Post l w) (hi : i < l.size) (hk : i ≠ k) : Ph k Pre Post (l.setIfInBounds i true) w := by
  unfold Ph at *
  rwa [getD_none l i k hi hk]
theorem Ph.pre (h : Ph k Pre Post l w) (hl : (l.setIfInBounds i true).getD k false = false) (hi : i < l.size) (hk : i ≠ k) : Pre w := h.1 (by rw [← getD_none l i k hi hk]; exact hl)
theorem Ph.made (hl : (l.setIfInBounds i true).getD k false = false) (hp : Pre w') : Ph k Pre Post (l.setIfInBounds i true) w' := ⟨fun _ => hp, fun h => by rw [hl] at h; cases h⟩
theorem Ph.last (hi : k < l.size) (hp : Post w') : Ph k Pre Post (l.setIfInBounds k true) w' := ⟨fun h => (by rw [getD_set _ _ _ hi, if_pos rfl] at h; cases h), fun _ => hp⟩
theorem Ph.zero (hl : ∀ i, l.getD i false = false) (hp : Pre w) : Ph k Pre Post l w := ⟨fun _ => hp, fun h => by rw [hl] at h; cases h⟩
end
section
variable {k i s : Nat} {Pre : World → Prop} {Post : Value → World → Prop} {l : Array Bool} {a : Act} {w w' : World}
end
section
variable {ρ : Operand → Value} {o : Oper} {w : World}
end
end Go.Proofs.YthcebnfdapcllaaGreatDoor.An
namespace Go.Proofs.YthcebnfdapcllaaGreatDoor.An
open Go.RowKit Mem Sc NN.Rg2
theorem clone_gates (a : Option Addr) (n c : Nat) (L : List Gt) (hn : n = L.length) (hl : n ≤ 1000) (w : World) (hA : GatesAt w a L) :
    Calls Tryz.prog 27 #[.slice a n c] w fun e w' => ∃ a' c', e = .returned (.slice a' n c') ∧ (GatesAt w' a' L ∧ (0 < L.length → ∀ ad, a' = some ad → w.heap.size ≤ ad.block)) ∧ Below w.heap.size w w' := by
  cases a with
  | none =>
    have h0 : n = 0 := by
      by_cases h : 0 < L.length
      · obtain ⟨_, _, e, _⟩ := hA h; cases e
      · omega
    refine (clone_gates_nil n c w).mono ?_
    rintro e w' ⟨rfl, rfl⟩
    exact ⟨none, 0, by rw [h0], ⟨fun h => absurd h (by omega), fun _ ad e => by cases e⟩, Below.refl _ _⟩
  | some ad =>
    by_cases h0 : 0 < L.length
    · obtain ⟨ab, ao, e, hlt, hc⟩ := hA h0
      cases e
      have hlen : ∀ x ∈ L, (gtC x).length = 2 := (fun _ _ => rfl)
      refine (clone_gates_some ⟨ab, ao, none⟩ n c L hn hl w (fun j u hj => ?_)).mono ?_
      · rw [Addr.add_lit]
        refine flat_cells gtC 2 (by decide) L hlen (fun i x hi => ?_) j u hj
        obtain ⟨h1, h2⟩ := List.getElem?_eq_some_iff.1 hi
        rw [← h2]; exact hc i h1
      · rintro e w' ⟨v', rfl, ho, hb⟩
        obtain ⟨a', c', rfl, _, h3⟩ := flat_own gtC 2 L hlen ho hn
        obtain ⟨g, rfl, h4, h5, h6⟩ := h3 (by omega)
        exact ⟨_, c', rfl, ⟨fun _ => ⟨g, 0, rfl, h5, fun i hi => by rw [Nat.zero_add]; exact h6 i _ (List.getElem?_eq_getElem hi)⟩, fun _ ad e => by cases e; exact h4⟩, hb⟩
    · obtain rfl : L = [] := List.eq_nil_of_length_eq_zero (by omega)
      refine (clone_gates_some ad n c [] hn hl w (fun j u hj => by simp at hj)).mono ?_
      rintro e w' ⟨v', rfl, ho, hb⟩
      obtain ⟨a', c', rfl, _⟩ := flat_own gtC 2 [] (fun x hx => by cases hx) ho hn
      exact ⟨a', c', rfl, ⟨fun h => by simp at h, fun h => by simp at h⟩, hb⟩
theorem clone_checks (a : Option Addr) (n c : Nat) (L : List Ck) (hn : n = L.length) (hl : n ≤ 1000) (w : World) (hA : ChecksAt w a L) :
    Calls Tryz.prog 28 #[.slice a n c] w fun e w' => ∃ a' c', e = .returned (.slice a' n c') ∧ (ChecksAt w' a' L ∧ (0 < L.length → ∀ ad, a' = some ad → w.heap.size ≤ ad.block)) ∧ Below w.heap.size w w' := by
  cases a with
  | none =>
    have h0 : n = 0 := by
      by_cases h : 0 < L.length
      · obtain ⟨_, _, e, _⟩ := hA h; cases e
      · omega
    refine (clone_checks_nil n c w).mono ?_
    rintro e w' ⟨rfl, rfl⟩
    exact ⟨none, 0, by rw [h0], ⟨fun h => absurd h (by omega), fun _ ad e => by cases e⟩, Below.refl _ _⟩
  | some ad =>
    by_cases h0 : 0 < L.length
    · obtain ⟨ab, ao, e, hlt, hc⟩ := hA h0
      cases e
      have hlen : ∀ x ∈ L, (ckC x).length = 33 := (fun x hx => ckC_length (by obtain ⟨i, hi, e⟩ := List.mem_iff_getElem.1 hx; rw [← e]; exact (hc i hi).1))
      refine (clone_checks_some ⟨ab, ao, none⟩ n c L (fun x hx => by obtain ⟨i, hi, e⟩ := List.mem_iff_getElem.1 hx; rw [← e]; exact (hc i hi).1) hn hl w (fun j u hj => ?_)).mono ?_
      · rw [Addr.add_lit]
        refine flat_cells ckC 33 (by decide) L hlen (fun i x hi => ?_) j u hj
        obtain ⟨h1, h2⟩ := List.getElem?_eq_some_iff.1 hi
        rw [← h2]; exact (hc i h1).2
      · rintro e w' ⟨v', rfl, ho, hb⟩
        obtain ⟨a', c', rfl, _, h3⟩ := flat_own ckC 33 L hlen ho hn
        obtain ⟨g, rfl, h4, h5, h6⟩ := h3 (by omega)
        exact ⟨_, c', rfl, ⟨fun _ => ⟨g, 0, rfl, h5, fun i hi => ⟨(hc i hi).1, by rw [Nat.zero_add]; exact h6 i _ (List.getElem?_eq_getElem hi)⟩⟩, fun _ ad e => by cases e; exact h4⟩, hb⟩
    · obtain rfl : L = [] := List.eq_nil_of_length_eq_zero (by omega)
      refine (clone_checks_some ad n c [] (fun x hx => by cases hx) hn hl w (fun j u hj => by simp at hj)).mono ?_
      rintro e w' ⟨v', rfl, ho, hb⟩
      obtain ⟨a', c', rfl, _⟩ := flat_own ckC 33 [] (fun x hx => by cases hx) ho hn
      exact ⟨a', c', rfl, ⟨fun h => by simp at h, fun h => by simp at h⟩, hb⟩
theorem pr_set5 {p : NN.Pr} {t : Tl} (tt : p.tl = t.C) (a : Option Addr) (n c : Nat) : (NN.prA p).setIfInBounds 5 (.slice a n c) = NN.prA { p with tl := ({ t with ga := a, gn := n, gc := c } : Tl).C } := by
  unfold NN.prA NN.prC
  rw [tt, List.setIfInBounds_toArray]
  rfl
theorem pr_set6 {p : NN.Pr} {t : Tl} (tt : p.tl = t.C) (a : Option Addr) (n c : Nat) : (NN.prA p).setIfInBounds 6 (.slice a n c) = NN.prA { p with tl := ({ t with ca := a, cn := n, cc := c } : Tl).C } := by
  unfold NN.prA NN.prC
  rw [tt, List.setIfInBounds_toArray]
  rfl
theorem pr_sl5 {w : World} {k : Nat} {p : NN.Pr} {t : Tl} (h : NN.PrAt w k p) (tt : p.tl = t.C) (a : Option Addr) (n c : Nat) : NN.PrAt (w.setCell ⟨k, 5, none⟩ (.slice a n c)) k { p with tl := ({ t with ga := a, gn := n, gc := c } : Tl).C } := by
  have := NN.Has.set (i := 5) h (.slice a n c)
  rwa [pr_set5 tt] at this
theorem pr_sl6 {w : World} {k : Nat} {p : NN.Pr} {t : Tl} (h : NN.PrAt w k p) (tt : p.tl = t.C) (a : Option Addr) (n c : Nat) : NN.PrAt (w.setCell ⟨k, 6, none⟩ (.slice a n c)) k { p with tl := ({ t with ca := a, cn := n, cc := c } : Tl).C } := by
  have := NN.Has.set (i := 6) h (.slice a n c)
  rwa [pr_set6 tt] at this
end Go.Proofs.YthcebnfdapcllaaGreatDoor.An
namespace Go.Proofs.YthcebnfdapcllaaGreatDoor
open Go.RowKit Mem Sc NN.Rg2
section
variable {w : World} {ops : Array Oper} {rest : List Oper} {o o2 o3 : Oper} {a : Act} {Q : Exit → Act → World → Prop}
theorem hd_load_mid_g (hw : Region.wanted o (yielded ops a.tmps) = true) (x : Operand) (ho : o.op = .load 30 x) (g off : Nat) (hx : a.eval x = .pointer (some ⟨g, off, none⟩)) (h : Hd) (hg : w.rangeAt g off (hdC h)) (hs : (hdC h).length = 68)
    (hk : wpList Tryz.prog ops Q rest (a.put o.dst (.agg (hdA h))) w) : wpList Tryz.prog ops Q (o :: rest) a w :=
  BigFrame.wpList_want hw fun _ hK => by
    unfold Oper.wp execOp
    simp only [ho, hx, Sem.run_bind, run_loadAt_mid w g off 30 (hdC h) _ hg Tryz.underlying30 rfl (hdinfo.trans (by rw [hs])), Result.andThen_ok]
    exact hK _ _ hk
end
end Go.Proofs.YthcebnfdapcllaaGreatDoor
namespace Go.Proofs.YthcebnfdapcllaaGreatDoor
open Go.RowKit Mem Sc NN.Rg2
def gUp : Int → List Gt → Bool
  | _, [] => true
  | m, y :: ys => decide (m < y.h) && gUp y.h ys
set_option maxRecDepth 100000 in
set_option maxHeartbeats 2000000 in
theorem gatesRise_at (a : Option Addr) (gs : List Gt) (n c : Nat) (hn : n = gs.length) (hl : n ≤ 4611686018427387904) (w : World) (hA : GatesAt w a gs) (g : Bool) (hg : gUp (-1) gs = g) :
    Calls Tryz.prog 42 #[.slice a n c] w fun r w' => r = .returned (.bool g) ∧ Below w.heap.size w w' := by
  have HN := Lib.hid hn
  have HV := Lib.hid hg
  have HA := Lib.hid hA
  clear hn hg hA
  go_enter Tryz.func42, Tryz.ntmps42
  go_wp2_with fail
  go_loopw [3, 8] (fun m i wr => ∃ k : Nat, k ≤ n ∧ i = .int .i64 (k : Int) ∧ ∃ z : Int, m = .int .i64 z ∧ Hid (gUp z (gs.drop k) = g) ∧ Below w.heap.size w wr) (fun _ i _ => n - (intOf i).toNat)
  case atStart => exact ⟨0, by omega, rfl, _, rfl, HV, Below.refl _ _⟩
  case round =>
    obtain ⟨k, hk, rfl, z, rfl, HZ, hB⟩ := hrel
    by_cases hlt : k < n
    · obtain ⟨ab, ao, rfl, habl, hc⟩ := (HA.out.below hB) (by rw [← HN.out]; omega)
      have hd : gs.drop k = gs.getD k gtZ :: gs.drop (k + 1) := by
        have hk2 : k < gs.length := by rw [← HN.out]; exact hlt
        rw [List.drop_eq_getElem_cons hk2, List.getD_eq_getElem?_getD, List.getElem?_eq_getElem hk2]; rfl
      have q0 := hc k (by rw [← HN.out]; omega)
      rw [show gs[k]'(by rw [← HN.out]; omega) = gs.getD k gtZ by rw [List.getD_eq_getElem?_getD, List.getElem?_eq_getElem (by rw [← HN.out]; omega)]; rfl] at q0
      have hx := HZ.out
      rw [hd] at hx
      clear hd HZ
      generalize gs.getD k gtZ = y at *
      have HX := Lib.hid hx
      clear hx hc
      have hnew := gt_newz wr
      have hG : GtAt ((wr.alloc (.cells #[.int .i64 0, .int .i64 0] 82)).setRow wr.heap.size (gtA y)) wr.heap.size y := Has.row hnew _
      have hB2 : Below w.heap.size w ((wr.alloc (.cells #[.int .i64 0, .int .i64 0] 82)).setRow wr.heap.size (gtA y)) := below_setRow (hB.alloc hB.size _) hB.size _
      have c0 := hG.c0
      clear hG hB
      cases t1 : decide (y.h ≤ z)
      · have HZ2 : Hid (gUp y.h (gs.drop (k + 1)) = g) := Lib.hid (by
          have := HX.out
          rw [show gUp z (y :: gs.drop (k + 1)) = (decide (z < y.h) && gUp y.h (gs.drop (k + 1))) from rfl, decide_eq_true (show z < y.h by have := of_decide_eq_false t1; omega), Bool.true_and] at this
          exact this)
        clear HX
        obtain ⟨yh, hyh⟩ : ∃ yh, yh = y.h := ⟨_, rfl⟩
        rw [← hyh] at c0 t1 HZ2
        clear hyh
        go_wp2_with (first | (with_reducible refine gt_load_mid rfl _ rfl ab (ao + k * 2) rfl y q0 ?_) | (with_reducible refine gt_store rfl _ _ rfl _ y rfl rfl hnew ?_))
        go_roundw
        case rel => exact ⟨k + 1, by omega, by go_num, yh, rfl, HZ2, hB2⟩
        case measure => simp [intOf]; omega
      · have hgf : g = false := by
          rw [← HX.out, show gUp z (y :: gs.drop (k + 1)) = (decide (z < y.h) && gUp y.h (gs.drop (k + 1))) from rfl, decide_eq_false (show ¬ z < y.h by have := of_decide_eq_true t1; omega), Bool.false_and]
        subst hgf
        clear HX HV
        go_wp2_with (first | (with_reducible refine gt_load_mid rfl _ rfl ab (ao + k * 2) rfl y q0 ?_) | (with_reducible refine gt_store rfl _ _ rfl _ y rfl rfl hnew ?_))
        go_ret
        exact ⟨rfl, hB2⟩
    · obtain rfl : k = n := by omega
      have e : g = true := by
        have := HZ.out
        rw [HN.out, List.drop_length] at this
        exact this.symm
      subst e
      go_wp2_with fail
      go_ret
      exact ⟨rfl, hB⟩
def cUp : Int → List Ck → Bool
  | _, [] => true
  | m, y :: ys => decide (m < y.h) && cUp y.h ys
set_option maxRecDepth 100000 in
set_option maxHeartbeats 2000000 in
theorem checksRise_at (a : Option Addr) (gs : List Ck) (n c : Nat) (hn : n = gs.length) (hl : n ≤ 4611686018427387904) (w : World) (hA : ChecksAt w a gs) (g : Bool) (hg : cUp (0) gs = g) :
    Calls Tryz.prog 43 #[.slice a n c] w fun r w' => r = .returned (.bool g) ∧ Below w.heap.size w w' := by
  have HN := Lib.hid hn
  have HV := Lib.hid hg
  have HA := Lib.hid hA
  clear hn hg hA
  go_enter Tryz.func43, Tryz.ntmps43
  go_wp2_with fail
  go_loopw [3, 8] (fun m i wr => ∃ k : Nat, k ≤ n ∧ i = .int .i64 (k : Int) ∧ ∃ z : Int, m = .int .i64 z ∧ Hid (cUp z (gs.drop k) = g) ∧ Below w.heap.size w wr) (fun _ i _ => n - (intOf i).toNat)
  case atStart => exact ⟨0, by omega, rfl, _, rfl, HV, Below.refl _ _⟩
  case round =>
    obtain ⟨k, hk, rfl, z, rfl, HZ, hB⟩ := hrel
    by_cases hlt : k < n
    · obtain ⟨ab, ao, rfl, habl, hc⟩ := (HA.out.below hB) (by rw [← HN.out]; omega)
      have hd : gs.drop k = gs.getD k ckZ :: gs.drop (k + 1) := by
        have hk2 : k < gs.length := by rw [← HN.out]; exact hlt
        rw [List.drop_eq_getElem_cons hk2, List.getD_eq_getElem?_getD, List.getElem?_eq_getElem hk2]; rfl
      have q0 := hc k (by rw [← HN.out]; omega)
      rw [show gs[k]'(by rw [← HN.out]; omega) = gs.getD k ckZ by rw [List.getD_eq_getElem?_getD, List.getElem?_eq_getElem (by rw [← HN.out]; omega)]; rfl] at q0
      have hx := HZ.out
      rw [hd] at hx
      clear hd HZ
      generalize gs.getD k ckZ = y at *
      have HX := Lib.hid hx
      clear hx hc
      obtain ⟨y32, q⟩ := q0
      have z1 := ckC_length y32
      have z2 := ckA_size y32
      have z3 : (ckA ckZ).size = 33 := rfl
      have hnew := ck_newz wr
      have hG : CkAt ((wr.alloc (.cells #[.int .i64 0, .int .u8 0, .int .u8 0, .int .u8 0, .int .u8 0, .int .u8 0, .int .u8 0, .int .u8 0, .int .u8 0, .int .u8 0, .int .u8 0, .int .u8 0, .int .u8 0, .int .u8 0, .int .u8 0, .int .u8 0, .int .u8 0, .int .u8 0, .int .u8 0, .int .u8 0, .int .u8 0, .int .u8 0, .int .u8 0, .int .u8 0, .int .u8 0, .int .u8 0, .int .u8 0, .int .u8 0, .int .u8 0, .int .u8 0, .int .u8 0, .int .u8 0, .int .u8 0] 85)).setRow wr.heap.size (ckA y)) wr.heap.size y := Has.row hnew _
      have hB2 : Below w.heap.size w ((wr.alloc (.cells #[.int .i64 0, .int .u8 0, .int .u8 0, .int .u8 0, .int .u8 0, .int .u8 0, .int .u8 0, .int .u8 0, .int .u8 0, .int .u8 0, .int .u8 0, .int .u8 0, .int .u8 0, .int .u8 0, .int .u8 0, .int .u8 0, .int .u8 0, .int .u8 0, .int .u8 0, .int .u8 0, .int .u8 0, .int .u8 0, .int .u8 0, .int .u8 0, .int .u8 0, .int .u8 0, .int .u8 0, .int .u8 0, .int .u8 0, .int .u8 0, .int .u8 0, .int .u8 0, .int .u8 0] 85)).setRow wr.heap.size (ckA y)) := below_setRow (hB.alloc hB.size _) hB.size _
      have c0 := hG.c0
      clear hG hB
      cases t1 : decide (y.h ≤ z)
      · have HZ2 : Hid (cUp y.h (gs.drop (k + 1)) = g) := Lib.hid (by
          have := HX.out
          rw [show cUp z (y :: gs.drop (k + 1)) = (decide (z < y.h) && cUp y.h (gs.drop (k + 1))) from rfl, decide_eq_true (show z < y.h by have := of_decide_eq_false t1; omega), Bool.true_and] at this
          exact this)
        clear HX
        obtain ⟨yh, hyh⟩ : ∃ yh, yh = y.h := ⟨_, rfl⟩
        rw [← hyh] at c0 t1 HZ2
        clear hyh
        go_wp2_with (first | (with_reducible refine ck_load_mid rfl _ rfl ab (ao + k * 33) rfl y q z1 ?_) | (with_reducible refine ck_store rfl _ _ rfl _ y rfl rfl z2 hnew z3 ?_))
        go_roundw
        case rel => exact ⟨k + 1, by omega, by go_num, yh, rfl, HZ2, hB2⟩
        case measure => simp [intOf]; omega
      · have hgf : g = false := by
          rw [← HX.out, show cUp z (y :: gs.drop (k + 1)) = (decide (z < y.h) && cUp y.h (gs.drop (k + 1))) from rfl, decide_eq_false (show ¬ z < y.h by have := of_decide_eq_true t1; omega), Bool.false_and]
        subst hgf
        clear HX HV
        go_wp2_with (first | (with_reducible refine ck_load_mid rfl _ rfl ab (ao + k * 33) rfl y q z1 ?_) | (with_reducible refine ck_store rfl _ _ rfl _ y rfl rfl z2 hnew z3 ?_))
        go_ret
        exact ⟨rfl, hB2⟩
    · obtain rfl : k = n := by omega
      have e : g = true := by
        have := HZ.out
        rw [HN.out, List.drop_length] at this
        exact this.symm
      subst e
      go_wp2_with fail
      go_ret
      exact ⟨rfl, hB⟩
def ruleP (p : NN.Pr) (g : Hd) (gs : List Gt) (cs : List Ck) : Bool := p.good && decide g.P && gUp (-1) gs && cUp 0 cs
set_option maxRecDepth 100000 in
set_option maxHeartbeats 4000000 in
theorem good11_w (p : NN.Pr) (hz : (NN.prA p).size = 83) (t : Tl) (tt : p.tl = t.C) (ht : t.ok) (b1 b2 b3 b4 : Bool) (KP : Hid (∀ w, Calls Tryz.prog 40 #[.agg (NN.prA p)] w fun e w' => e = .returned (.bool b1) ∧ Below w.heap.size w w')) (KH : Hid (∀ w, Calls Tryz.prog 41 #[.agg (hdA t.g)] w fun e w' => e = .returned (.bool b2) ∧ Below w.heap.size w w')) (w : World)
    (KG : Hid (∀ w', Below w.heap.size w w' → Calls Tryz.prog 42 #[.slice t.ga t.gn t.gc] w' fun e w'' => e = .returned (.bool b3) ∧ Below w'.heap.size w' w'')) (KC : Hid (∀ w', Below w.heap.size w w' → Calls Tryz.prog 43 #[.slice t.ca t.cn t.cc] w' fun e w'' => e = .returned (.bool b4) ∧ Below w'.heap.size w' w'')) :
    Calls Tryz.prog 24 #[.agg (NN.prA p)] w fun e w' => e = .returned (.bool (b1 && b2 && b3 && b4)) ∧ Below w.heap.size w w' := by
  have s1 := hdC_length ht.2
  obtain ⟨ga, gn, gc, ca, cn, cc, nn, g⟩ := t
  have HTT := Lib.hid tt
  have HT := Lib.hid ht
  simp only at KG KC KH s1
  clear tt ht
  go_enter Tryz.func24, Tryz.ntmps24
  go_upto_region 1 with fail
  generalize hw0 : World.alloc _ _ = v0
  have hB : Below w.heap.size w v0 := by rw [← hw0]; exact (Below.refl _ _).alloc (Nat.le_refl _) _
  have hP : NN.PrAt v0 w.heap.size p := by rw [← hw0]; exact NN.Has.new _ _
  clear hw0
  obtain ⟨bP, hbP⟩ : ∃ b, b = w.heap.size := ⟨_, rfl⟩
  rw [← hbP] at hP ⊢
  clear hbP
  go_wp2_with (first | fail | (with_reducible refine NN.pr_load rfl _ rfl _ rfl hP hz ?_))
  refine (KP.out _).mono ?_
  rintro e v1 ⟨rfl, hb⟩
  replace hP := hP.on hb
  replace hB := hB.trans (hb.mono hB.size)
  clear hb
  cases b1
  · go_wp2_with fail
    go_ret
    exact ⟨rfl, hB⟩
  have r15 := pr_gen hP HTT.out HT.out
  go_wp2_with (first | fail | (with_reducible refine hd_load_mid_g (by with_unfolding_all rfl) _ rfl bP 15 rfl g r15 s1 ?_))
  refine (KH.out _).mono ?_
  rintro e v2 ⟨rfl, hb⟩
  replace hP := hP.on hb
  replace hB := hB.trans (hb.mono hB.size)
  clear hb r15
  cases b2
  · go_wp2_with fail
    go_ret
    exact ⟨rfl, hB⟩
  have c5 : v2.cell? ⟨bP, 5, none⟩ = some (.slice ga gn gc) := pr_gates hP HTT.out
  go_wp2_with fail
  refine (KG.out _ hB).mono ?_
  rintro e v3 ⟨rfl, hb⟩
  replace hP := hP.on hb
  replace hB := hB.trans (hb.mono hB.size)
  clear hb c5
  cases b3
  · go_wp2_with fail
    go_ret
    exact ⟨rfl, hB⟩
  have c6 : v3.cell? ⟨bP, 6, none⟩ = some (.slice ca cn cc) := pr_checks hP HTT.out
  go_wp2_with fail
  refine (KC.out _ hB).mono ?_
  rintro e v4 ⟨rfl, hb⟩
  replace hB := hB.trans (hb.mono hB.size)
  go_wp2_with fail
  go_ret
  exact ⟨rfl, hB⟩
theorem good11_at (p : NN.Pr) (hp : p.ok) (t : Tl) (tt : p.tl = t.C) (ht : t.ok) (gs : List Gt) (cs : List Ck) (hgn : t.gn = gs.length) (hcn : t.cn = cs.length) (hgl : t.gn ≤ 1000) (hcl : t.cn ≤ 1000) (w : World) (hG : GatesAt w t.ga gs) (hC : ChecksAt w t.ca cs) :
    Calls Tryz.prog 24 #[.agg (NN.prA p)] w fun e w' => e = .returned (.bool (ruleP p t.g gs cs)) ∧ Below w.heap.size w w' :=
  good11_w p (NN.prA_size hp) t tt ht _ _ _ _ (Lib.hid (NN.pgood_at p)) (Lib.hid (good_at t.g ht.2)) w (Lib.hid fun w' hb => gatesRise_at t.ga gs t.gn t.gc hgn (by omega) w' (hG.below hb) _ rfl) (Lib.hid fun w' hb => checksRise_at t.ca cs t.cn t.cc hcn (by omega) w' (hC.below hb) _ rfl)
end Go.Proofs.YthcebnfdapcllaaGreatDoor
namespace Go.Proofs.YthcebnfdapcllaaGreatDoor.An
open Go.RowKit Mem Sc
set_option maxRecDepth 100000 in
set_option maxHeartbeats 4000000 in
theorem rgood11_w (p : NN.Pr) (hz : (NN.prA p).size = 83) (t : Tl) (tt : p.tl = t.C) (ht : t.ok) (gs : List Gt) (cs : List Ck) (gn cn : Nat) (egn : t.gn = gn) (ecn : t.cn = cn) (hgn : gn = gs.length) (hcn : cn = cs.length) (hgl : gn ≤ 1000) (hcl : cn ≤ 1000) (b1 b2 g1 g2 gall : Bool) (hg1 : gUp (-1) gs = g1) (hg2 : cUp 0 cs = g2) (hall : (b1 && b2 && g1 && g2) = gall) (w : World) (hG : GatesAt w t.ga gs) (hC : ChecksAt w t.ca cs)
    (KP : Hid (∀ w', Calls Tryz.prog 31 #[.agg (NN.prA p)] w' fun e w'' => e = .returned (.bool b1) ∧ Below w'.heap.size w' w''))
    (KH : Hid (∀ w', Calls Tryz.prog 15 #[.agg (hdA t.g)] w' fun e w'' => e = .returned (.bool b2) ∧ Below w'.heap.size w' w'')) :
    Calls Tryz.prog 16 #[.agg (NN.prA p)] w fun e w' => e = .returned (.bool gall) ∧ Below w.heap.size w w' := by
  have HNG := Lib.hid hgn
  have HNC := Lib.hid hcn
  have HAG := Lib.hid hG
  have HAC := Lib.hid hC
  have HVG := Lib.hid hg1
  have HVC := Lib.hid hg2
  have HALL := Lib.hid hall
  clear hgn hcn hG hC hg1 hg2 hall
  go_enter Tryz.func16, Tryz.ntmps16
  go_upto_region 1 with fail
  generalize hw0 : World.alloc _ _ = v0
  have hB : Below w.heap.size w v0 := by rw [← hw0]; exact (Below.refl _ _).alloc (Nat.le_refl _) _
  have hP : NN.PrAt v0 w.heap.size p := by rw [← hw0]; exact NN.Has.new _ _
  clear hw0
  obtain ⟨bP, hbP⟩ : ∃ x, x = w.heap.size := ⟨_, rfl⟩
  rw [← hbP] at hP ⊢
  clear hbP
  have gq := hdC_length ht.2
  go_wp2_with (first | fail | (with_reducible refine NN.pr_load rfl _ rfl _ rfl hP hz ?_))
  refine (KP.out _).mono ?_
  rintro e v1 ⟨rfl, hb⟩
  replace hP := hP.on hb
  replace hB := hB.trans (hb.mono hB.size)
  clear hb
  cases b1
  · have hv := HALL.out
    go_wp2_with fail
    go_ret
    exact ⟨by rw [← hv]; rfl, hB⟩
  have rg := pr_gen hP tt ht
  go_wp2_with (first | fail | (with_reducible refine hd_load_mid_g (by with_unfolding_all rfl) _ rfl bP 15 rfl t.g rg gq ?_))
  refine (KH.out _).mono ?_
  rintro e v2 ⟨rfl, hb⟩
  replace hP := hP.on hb
  replace hB := hB.trans (hb.mono hB.size)
  clear hb rg
  cases b2
  · have hv := HALL.out
    go_wp2_with fail
    go_ret
    exact ⟨by rw [← hv]; rfl, hB⟩
  have c5 := pr_gates hP tt
  rw [egn] at c5
  generalize hga : t.ga = ga at *
  generalize t.gc = gc at *
  go_wp2_with fail
  clear c5
  go_loopw [3, 20] (fun m i wr => ∃ k : Nat, k ≤ gn ∧ i = .int .i64 (k : Int) ∧ ∃ z : Int, m = .int .i64 z ∧ Hid (gUp z (gs.drop k) = g1) ∧ NN.PrAt wr bP p ∧ Below w.heap.size w wr) (fun _ i _ => gn - (intOf i).toNat)
  case atStart => exact ⟨0, by omega, rfl, _, rfl, HVG, hP, hB⟩
  case round =>
    clear hP hB
    obtain ⟨k, hk, rfl, z, rfl, HZ, hP, hB⟩ := hrel
    by_cases hlt : k < gn
    · obtain ⟨ab, ao, hae, habl, hc⟩ := (HAG.out.below hB) (by rw [← HNG.out]; omega)
      subst hae
      have hd : gs.drop k = gs.getD k gtZ :: gs.drop (k + 1) := by
        have hk2 : k < gs.length := by rw [← HNG.out]; exact hlt
        rw [List.drop_eq_getElem_cons hk2, List.getD_eq_getElem?_getD, List.getElem?_eq_getElem hk2]; rfl
      have q0 := hc k (by rw [← HNG.out]; omega)
      rw [show gs[k]'(by rw [← HNG.out]; omega) = gs.getD k gtZ by rw [List.getD_eq_getElem?_getD, List.getElem?_eq_getElem (by rw [← HNG.out]; omega)]; rfl] at q0
      have hx := HZ.out
      rw [hd] at hx
      clear hd HZ
      generalize gs.getD k gtZ = y at *
      have HX := Lib.hid hx
      clear hx hc
      have hnew := gt_newz wr
      have hb2 : Below wr.heap.size wr ((wr.alloc (.cells #[.int .i64 0, .int .i64 0] 82)).setRow wr.heap.size (gtA y)) := below_setRow ((Below.refl _ _).alloc (Nat.le_refl _) _) (Nat.le_refl _) _
      have hG : GtAt ((wr.alloc (.cells #[.int .i64 0, .int .i64 0] 82)).setRow wr.heap.size (gtA y)) wr.heap.size y := Has.row hnew _
      have hB2 := hB.trans (hb2.mono hB.size)
      have hP2 := NN.PrAt.on hP hb2
      have c0 := hG.c0
      clear hG hB hb2 hP
      cases t1 : decide (y.h ≤ z)
      · have HZ2 : Hid (gUp y.h (gs.drop (k + 1)) = g1) := Lib.hid (by
          have := HX.out
          rw [show gUp z (y :: gs.drop (k + 1)) = (decide (z < y.h) && gUp y.h (gs.drop (k + 1))) from rfl, decide_eq_true (show z < y.h by have := of_decide_eq_false t1; omega), Bool.true_and] at this
          exact this)
        clear HX
        obtain ⟨yh, hyh⟩ : ∃ yh, yh = y.h := ⟨_, rfl⟩
        rw [← hyh] at c0 t1 HZ2
        clear hyh
        go_wp2_with (first | (with_reducible refine gt_load_mid rfl _ rfl ab (ao + k * 2) rfl y q0 ?_) | (with_reducible refine gt_store rfl _ _ rfl _ y rfl rfl hnew ?_))
        go_roundw
        case rel => exact ⟨k + 1, by omega, by go_num, yh, rfl, HZ2, hP2, hB2⟩
        case measure => simp [intOf]; omega
      · have hgf : g1 = false := by
          rw [← HX.out, show gUp z (y :: gs.drop (k + 1)) = (decide (z < y.h) && gUp y.h (gs.drop (k + 1))) from rfl, decide_eq_false (show ¬ z < y.h by have := of_decide_eq_true t1; omega), Bool.false_and]
        have hv := HALL.out
        rw [hgf] at hv
        clear HX
        go_wp2_with (first | (with_reducible refine gt_load_mid rfl _ rfl ab (ao + k * 2) rfl y q0 ?_) | (with_reducible refine gt_store rfl _ _ rfl _ y rfl rfl hnew ?_))
        go_ret
        exact ⟨by rw [← hv]; simp, hB2⟩
    · obtain rfl : k = gn := by omega
      have e : g1 = true := by
        have := HZ.out
        rw [HNG.out, List.drop_length] at this
        exact this.symm
      subst e
      have c6 := pr_checks hP tt
      rw [ecn] at c6
      generalize hca : t.ca = ca at *
      generalize t.cc = cc at *
      go_wp2_with fail
      clear c6
      have hB' := hB
      have hP' := hP
      go_loopw [3, 34] (fun m i wr => ∃ k : Nat, k ≤ cn ∧ i = .int .i64 (k : Int) ∧ ∃ z : Int, m = .int .i64 z ∧ Hid (cUp z (cs.drop k) = g2) ∧ NN.PrAt wr bP p ∧ Below w.heap.size w wr) (fun _ i _ => cn - (intOf i).toNat)
      case atStart => exact ⟨0, by omega, rfl, _, rfl, HVC, hP', hB'⟩
      case round =>
        clear hP' hB' hP hB
        obtain ⟨k, hk, rfl, z, rfl, HZ, hP, hB⟩ := hrel
        by_cases hlt : k < cn
        · obtain ⟨ab, ao, hae, habl, hc⟩ := (HAC.out.below hB) (by rw [← HNC.out]; omega)
          subst hae
          have hd : cs.drop k = cs.getD k ckZ :: cs.drop (k + 1) := by
            have hk2 : k < cs.length := by rw [← HNC.out]; exact hlt
            rw [List.drop_eq_getElem_cons hk2, List.getD_eq_getElem?_getD, List.getElem?_eq_getElem hk2]; rfl
          have q0 := hc k (by rw [← HNC.out]; omega)
          rw [show cs[k]'(by rw [← HNC.out]; omega) = cs.getD k ckZ by rw [List.getD_eq_getElem?_getD, List.getElem?_eq_getElem (by rw [← HNC.out]; omega)]; rfl] at q0
          have hx := HZ.out
          rw [hd] at hx
          clear hd HZ
          generalize cs.getD k ckZ = y at *
          have HX := Lib.hid hx
          clear hx hc
          have z1 := ckC_length q0.1
          have z2 := ckA_size q0.1
          have z0 := ckA_size (c := ckZ) rfl
          have hnew := ck_newz wr
          have hb2 : Below wr.heap.size wr ((wr.alloc (.cells #[.int .i64 0, .int .u8 0, .int .u8 0, .int .u8 0, .int .u8 0, .int .u8 0, .int .u8 0, .int .u8 0, .int .u8 0, .int .u8 0, .int .u8 0, .int .u8 0, .int .u8 0, .int .u8 0, .int .u8 0, .int .u8 0, .int .u8 0, .int .u8 0, .int .u8 0, .int .u8 0, .int .u8 0, .int .u8 0, .int .u8 0, .int .u8 0, .int .u8 0, .int .u8 0, .int .u8 0, .int .u8 0, .int .u8 0, .int .u8 0, .int .u8 0, .int .u8 0, .int .u8 0] 85)).setRow wr.heap.size (ckA y)) := below_setRow ((Below.refl _ _).alloc (Nat.le_refl _) _) (Nat.le_refl _) _
          have hG : CkAt ((wr.alloc (.cells #[.int .i64 0, .int .u8 0, .int .u8 0, .int .u8 0, .int .u8 0, .int .u8 0, .int .u8 0, .int .u8 0, .int .u8 0, .int .u8 0, .int .u8 0, .int .u8 0, .int .u8 0, .int .u8 0, .int .u8 0, .int .u8 0, .int .u8 0, .int .u8 0, .int .u8 0, .int .u8 0, .int .u8 0, .int .u8 0, .int .u8 0, .int .u8 0, .int .u8 0, .int .u8 0, .int .u8 0, .int .u8 0, .int .u8 0, .int .u8 0, .int .u8 0, .int .u8 0, .int .u8 0] 85)).setRow wr.heap.size (ckA y)) wr.heap.size y := Has.row hnew _
          have hB2 := hB.trans (hb2.mono hB.size)
          have hP2 := NN.PrAt.on hP hb2
          have c0 := hG.c0
          clear hG hB hb2 hP
          cases t1 : decide (y.h ≤ z)
          · have HZ2 : Hid (cUp y.h (cs.drop (k + 1)) = g2) := Lib.hid (by
              have := HX.out
              rw [show cUp z (y :: cs.drop (k + 1)) = (decide (z < y.h) && cUp y.h (cs.drop (k + 1))) from rfl, decide_eq_true (show z < y.h by have := of_decide_eq_false t1; omega), Bool.true_and] at this
              exact this)
            clear HX
            obtain ⟨yh, hyh⟩ : ∃ yh, yh = y.h := ⟨_, rfl⟩
            rw [← hyh] at c0 t1 HZ2
            clear hyh
            go_wp2_with (first | (with_reducible refine ck_load_mid rfl _ rfl ab (ao + k * 33) rfl y q0.2 z1 ?_) | (with_reducible refine ck_store rfl _ _ rfl _ y rfl rfl z2 hnew z0 ?_))
            go_roundw
            case rel => exact ⟨k + 1, by omega, by go_num, yh, rfl, HZ2, hP2, hB2⟩
            case measure => simp [intOf]; omega
          · have hgf : g2 = false := by
              rw [← HX.out, show cUp z (y :: cs.drop (k + 1)) = (decide (z < y.h) && cUp y.h (cs.drop (k + 1))) from rfl, decide_eq_false (show ¬ z < y.h by have := of_decide_eq_true t1; omega), Bool.false_and]
            have hv := HALL.out
            rw [hgf] at hv
            clear HX
            go_wp2_with (first | (with_reducible refine ck_load_mid rfl _ rfl ab (ao + k * 33) rfl y q0.2 z1 ?_) | (with_reducible refine ck_store rfl _ _ rfl _ y rfl rfl z2 hnew z0 ?_))
            go_ret
            exact ⟨by rw [← hv]; simp, hB2⟩
        · obtain rfl : k = cn := by omega
          have e : g2 = true := by
            have := HZ.out
            rw [HNC.out, List.drop_length] at this
            exact this.symm
          subst e
          have hv := HALL.out
          go_wp2_with fail
          go_ret
          exact ⟨by rw [← hv]; rfl, hB⟩
theorem rgood11_at (p : NN.Pr) (hp : p.ok) (t : Tl) (tt : p.tl = t.C) (ht : t.ok) (gs : List Gt) (cs : List Ck) (hgn : t.gn = gs.length) (hcn : t.cn = cs.length) (hgl : t.gn ≤ 1000) (hcl : t.cn ≤ 1000) (w : World) (hG : GatesAt w t.ga gs) (hC : ChecksAt w t.ca cs) :
    Calls Tryz.prog 16 #[.agg (NN.prA p)] w fun e w' => e = .returned (.bool (ruleP p t.g gs cs)) ∧ Below w.heap.size w w' :=
  rgood11_w p (NN.prA_size hp) t tt ht gs cs t.gn t.cn rfl rfl hgn hcn hgl hcl _ _ _ _ _ rfl rfl rfl w hG hC (Lib.hid (NN.rgood_at p)) (Lib.hid (rgood_at t.g ht.2))
end Go.Proofs.YthcebnfdapcllaaGreatDoor.An
