import Derived.Test.YtkclahiiijfllaaGreatDoorSIdm
import Derived.Test.YtkclahiiijfllaaGreatDoorSBunQ32
import Derived.Test.YtkclahiiijfllaaGreatDoorSRegionInv2
import Derived.Laws.AppendOwnNone
import Derived.Maps.AppendAt
import Derived.Test.YtkclahiiijfllaaGreatDoorSBunQ28
import Derived.Test.YtkclahiiijfllaaGreatDoorSBunQ16
import Derived.Test.YtkclahiiijfllaaGreatDoorSBunQ10
import Derived.Test.YtkclahiiijfllaaGreatDoorSBunQ31
set_option maxRecDepth 100000
set_option maxHeartbeats 4000000
namespace Go.Proofs.YtkclahiiijfllaaGreatDoor
open Go.RowKit Mem Sc NN.Rg2
theorem qbh_ (a : Act) (n : Nat) (u : Nat → Value) (hs : a.tmps.size = n) (hd : a.defers = []) (hu : ∀ t, u t = a.eval (.tmp t)) : a = ⟨((List.range n).map u).toArray, []⟩ := by
 obtain ⟨tm, df⟩ := a
 obtain rfl : df = [] := hd
 congr 1
 apply Array.ext
 ·simpa using hs
 ·intro i h1 h2
  simp only [List.getElem_toArray, List.getElem_map, List.getElem_range, hu]
  simp [Act.eval, Array.getD_eq_getD_getElem?, h1]
def SpStep (B : Nat) (w w' : World) : Prop := ∀ b cs, B ≤ b → Has w b cs 69 → cs.size = 38 → ∃ cs', Has w' b cs' 69 ∧ cs'.size = 38
theorem SpStep.refl (B : Nat) (w : World) : SpStep B w w := fun _ cs _ h hs => ⟨cs, h, hs⟩
theorem SpStep.below {B : Nat} {w w' : World} (h : Below w.heap.size w w') : SpStep B w w' := fun _ cs _ h' hs => ⟨cs, qi_ h h' h'.lt, hs⟩
theorem SpStep.row {B g : Nat} {s : Sp} {cs : Array Value} {w : World} (hg : Has w g cs 69) (hs : (spA s).size = 38) : SpStep B w (w.setRow g (spA s)) := fun b cs' _ h h' => by
 by_cases e : b = g
 ·subst e; exact ⟨_, Has.row hg _, hs⟩
 ·exact ⟨cs', Has.otherRow h _ _ e, h'⟩
def MkR (B bA : Nat) (s : Sp) (h : Hd) (s' : Sp) : Nat → Value → World → Prop
 | 0, v, _ => v = .pointer (some ⟨bA, 0, none⟩)
 | 1, v, _ => v = .agg (NN.ptA s.x)
 | 2, v, _ => v = .agg (hdA h)
 | 3, v, _ => v = .agg (bytesV s'.prev)
 | 4, v, _ => v = .agg (spA s')
 | 5, v, w => ∃ b cs, B ≤ b ∧ v = .pointer (some ⟨b, 0, none⟩) ∧ Has w b cs 69 ∧ cs.size = 38
 | _, _, _ => True
theorem qfs_ {B bA : Nat} {s s' : Sp} {h : Hd} (i : Nat) (v : Value) (w w' : World) (hs : SpStep B w w') (hr : MkR B bA s h s' i v w) : MkR B bA s h s' i v w' := by
 match i, hr with
 | 0, hr => exact hr
 | 1, hr => exact hr
 | 2, hr => exact hr
 | 3, hr => exact hr
 | 4, hr => exact hr
 | 5, ⟨b, cs, h1, h2, h3, h4⟩ =>
  obtain ⟨cs', h5, h6⟩ := hs b cs h1 h3 h4
  exact ⟨b, cs', h1, h2, h5, h6⟩
 | _ + 6, _ => trivial
def DoneS (k : Nat) (p : Tmp) (B : Nat) (s : Sp) (listed : Array Bool) (a : Act) (w : World) : Prop := listed.getD k false = true → ∃ b, B ≤ b ∧ a.eval (.tmp p) = .pointer (some ⟨b, 0, none⟩) ∧ SpAt w b s
theorem DoneS.pre {k i : Nat} {p : Tmp} {B : Nat} {s : Sp} {listed : Array Bool} {a : Act} {w : World} (h : (listed.setIfInBounds i true).getD k false = false) : DoneS k p B s (listed.setIfInBounds i true) a w := fun hl => by rw [h] at hl; cases hl
section
variable {ρ : Operand → Value} {o : Oper} {w : World}
theorem sfield0 (w : World) (g : Nat) : (Instr.fieldAt 69 (.pointer (some ⟨g, 0, none⟩)) 0).run Tryz.prog w = .ok (.pointer (some ⟨g, 0, none⟩)) w := by kernel_rfl
theorem qep_ {x : Operand} {g : Nat} (ho : o.op = .fieldAddr 69 x 0) (hx : ρ x = .pointer (some ⟨g, 0, none⟩)) : (execOp ρ o).run Tryz.prog w = .ok (.value (.pointer (some ⟨g, 0, none⟩))) w := by
 unfold execOp
 simp only [ho, hx, Sem.run_bind, sfield0, Result.andThen_ok]
 rfl
theorem qeq_ {x : Operand} {g : Nat} {y : NN.Pt} (ho : o.op = .load 67 x) (hx : ρ x = .pointer (some ⟨g, 0, none⟩)) (hg : w.rangeAt g 0 (NN.ptA y).toList) : (execOp ρ o).run Tryz.prog w = .ok (.value (.agg (NN.ptA y))) w := by
 unfold execOp
 simp only [ho, hx, Sem.run_bind, run_pt w g y hg, Result.andThen_ok]
 rfl
theorem qer_ {x : Operand} {g : Nat} {h : Hd} (ho : o.op = .load 30 x) (hx : ρ x = .pointer (some ⟨g, 0, none⟩)) (hg : HdAt w g h) (hs : (hdA h).size = 68) : (execOp ρ o).run Tryz.prog w = .ok (.value (.agg (hdA h))) w := by
 have hl : (loadVar 30 ⟨g, 0, none⟩).run Tryz.prog w = .ok (.agg (hdA h)) w := run_loadVar_row w g 30 30 (hdA h) (0, 0) _ (Has.out hg) Tryz.underlying30 rfl (hdinfo.trans (by rw [hs]))
 unfold execOp
 simp only [ho, hx, Instr.loadAt, Instr.sureAddr, Sem.run_bind, Sem.run_pure, Result.andThen_ok, hl]
theorem qdz_ (ho : o.op = .alloc 69) : (execOp ρ o).run Tryz.prog w = .ok (.value (.pointer (some ⟨w.heap.size, 0, none⟩))) (w.alloc (.cells (spA spZ) 69)) := by
 unfold execOp
 simp only [ho]
 kernel_rfl
theorem qea_ {x y : Operand} {g : Nat} {s : Sp} {cs : Array Value} (ho : o.op = .store 69 x y) (hx : ρ x = .pointer (some ⟨g, 0, none⟩)) (hy : ρ y = .agg (spA s)) (hg : Has w g cs 69) (hs : cs.size = 38) (hs' : (spA s).size = 38) : (execOp ρ o).run Tryz.prog w = .ok .skip (w.setRow g (spA s)) := by
 unfold execOp
 simp only [ho, hx, hy, Instr.storeAt, Instr.sureAddr, Sem.run_bind, Sem.run_pure, Result.andThen_ok, run_storeVar_row w g 69 69 cs (spA s) (Has.out hg) (spinfo.trans (by rw [hs'])) (by rw [hs, hs']) (qwk_ s)]
theorem qv_ {n : Nat} {l : List UInt8} (h : l.length = n + 1) : ∃ a r, l = a :: r ∧ r.length = n := by
 cases l with
 | nil => simp at h
 | cons a r => exact ⟨a, r, rfl, by simpa using h⟩
theorem qzh_ (x : NN.Pt) (l : List UInt8) (hl : l.length = 32) : Tryz.prog.built 69 [(0, .agg (NN.ptA x)), (1, .agg (bytesV l))] = some (spA ⟨x, l, none, 0, 0⟩) := by
 obtain ⟨a0, l0, rfl, h0⟩ := qv_ hl
 obtain ⟨a1, l1, rfl, h1⟩ := qv_ h0
 obtain ⟨a2, l2, rfl, h2⟩ := qv_ h1
 obtain ⟨a3, l3, rfl, h3⟩ := qv_ h2
 obtain ⟨a4, l4, rfl, h4⟩ := qv_ h3
 obtain ⟨a5, l5, rfl, h5⟩ := qv_ h4
 obtain ⟨a6, l6, rfl, h6⟩ := qv_ h5
 obtain ⟨a7, l7, rfl, h7⟩ := qv_ h6
 obtain ⟨a8, l8, rfl, h8⟩ := qv_ h7
 obtain ⟨a9, l9, rfl, h9⟩ := qv_ h8
 obtain ⟨a10, l10, rfl, h10⟩ := qv_ h9
 obtain ⟨a11, l11, rfl, h11⟩ := qv_ h10
 obtain ⟨a12, l12, rfl, h12⟩ := qv_ h11
 obtain ⟨a13, l13, rfl, h13⟩ := qv_ h12
 obtain ⟨a14, l14, rfl, h14⟩ := qv_ h13
 obtain ⟨a15, l15, rfl, h15⟩ := qv_ h14
 obtain ⟨a16, l16, rfl, h16⟩ := qv_ h15
 obtain ⟨a17, l17, rfl, h17⟩ := qv_ h16
 obtain ⟨a18, l18, rfl, h18⟩ := qv_ h17
 obtain ⟨a19, l19, rfl, h19⟩ := qv_ h18
 obtain ⟨a20, l20, rfl, h20⟩ := qv_ h19
 obtain ⟨a21, l21, rfl, h21⟩ := qv_ h20
 obtain ⟨a22, l22, rfl, h22⟩ := qv_ h21
 obtain ⟨a23, l23, rfl, h23⟩ := qv_ h22
 obtain ⟨a24, l24, rfl, h24⟩ := qv_ h23
 obtain ⟨a25, l25, rfl, h25⟩ := qv_ h24
 obtain ⟨a26, l26, rfl, h26⟩ := qv_ h25
 obtain ⟨a27, l27, rfl, h27⟩ := qv_ h26
 obtain ⟨a28, l28, rfl, h28⟩ := qv_ h27
 obtain ⟨a29, l29, rfl, h29⟩ := qv_ h28
 obtain ⟨a30, l30, rfl, h30⟩ := qv_ h29
 obtain ⟨a31, l31, rfl, h31⟩ := qv_ h30
 obtain rfl := List.eq_nil_of_length_eq_zero h31
 clear hl h0 h1 h2 h3 h4 h5 h6 h7 h8 h9 h10 h11 h12 h13 h14 h15 h16 h17 h18 h19 h20 h21 h22 h23 h24 h25 h26 h27 h28 h29 h30 h31
 kernel_rfl
theorem qeb_ {x y : Operand} {p : NN.Pt} {l : List UInt8} (ho : o.op = .build 69 #[(0, x), (1, y)]) (hx : ρ x = .agg (NN.ptA p)) (hy : ρ y = .agg (bytesV l)) (hl : l.length = 32) : (execOp ρ o).run Tryz.prog w = .ok (.value (.agg (spA ⟨p, l, none, 0, 0⟩))) w := by
 unfold execOp
 simp only [ho, Sem.run_bind]
 rw [show (#[(0, x), (1, y)] : Array (Nat × Operand)).map (fun (i, x) => (i, ρ x)) = #[(0, .agg (NN.ptA p)), (1, .agg (bytesV l))] by simp [hx, hy], run_build w 69 _ _ (qzh_ p l hl)]
 rfl
end
end Go.Proofs.YtkclahiiijfllaaGreatDoor
namespace Go.Proofs.YtkclahiiijfllaaGreatDoor
open Go.RowKit Mem Sc NN.Rg2
theorem qnh_ : ∃ i z, Tryz.prog.info? 3 = some i ∧ i.zero = some z ∧ i.size = 1 ∧ i.bytes = 8 ∧ z.cells.size = 1 := by
 have h1 : (Tryz.prog.info? 3).map (·.size) = some 1 := by kernel_rfl
 have h2 : ((Tryz.prog.info? 3).bind (·.zero)) = some (.int .i64 0) := by kernel_rfl
 have h3 : (Tryz.prog.info? 3).map (·.bytes) = some 8 := by kernel_rfl
 cases hi : Tryz.prog.info? 3 with
 | none => rw [hi] at h1; cases h1
 | some i =>
  rw [hi] at h1 h2 h3
  exact ⟨i, .int .i64 0, rfl, by simpa using h2, by simpa using h1, by simpa using h3, rfl⟩
section
variable {w : World} {lo hi n cap k : Nat} {l : List Int}
theorem qmb_ {p : Option Addr} (hl : l.length = n) (hk : k ≤ n) (hc : n ≤ cap) (h : MM.Lie w lo hi p l) (hp : p = none → n = 0 ∧ cap = 0) :
  ∃ p', (∀ w' : World, (Instr.sliceAt 59 (.slice p n cap) none (some (.int .i64 (k : Int))) none).run Tryz.prog w' = .ok (.slice p' k cap) w') ∧ MM.Lie w lo hi p' (l.take k) ∧ (p' = none → k = 0 ∧ cap = 0) := by
 obtain ⟨p', h1, h2⟩ := MM.qqs_ hl hk hc h
 cases p with
 | none =>
  obtain ⟨rfl, rfl⟩ := hp rfl
  exact ⟨p', h1, h2, fun _ => ⟨by omega, rfl⟩⟩
 | some a =>
  by_cases h0 : 0 < k
  ·obtain ⟨b, off, rfl, _⟩ := h2 (by simp; omega)
   exact ⟨_, h1, h2, fun e => by cases e⟩
  ·obtain rfl : k = 0 := by omega
   refine ⟨some (if cap = 0 then a else a.add 0), fun w' => ?_, by rw [List.take_zero]; exact MM.Lie.none, fun e => by cases e⟩
   rw [run_sliceAt_slice w' 59 _ _ _ _ (by kernel_rfl), run_slice_h w' 59 (some a) n cap (by kernel_rfl) .i64 ((0 : Nat) : Int) (by omega) (by omega)]
   rw [show Tryz.prog.elem 59 = 3 by kernel_rfl]
   by_cases hc0 : cap = 0 <;> simp [sliced, Tryz.sizeOf3, hc0]
end
theorem qbn_ {w : World} {base : Nat} {v : Value} {n : Nat} {xs : List Value} {e : Nat} (h : w.ownsRow base e 1 v n xs) : ∃ p cap, v = .slice p n cap := by
 rcases h.2 with ⟨rfl, rfl⟩ | ⟨g, c, cur, rfl, _⟩
 ·exact ⟨_, _, rfl⟩
 ·exact ⟨_, _, rfl⟩
def TmI (B bO : Nat) (o : Sp) (ht : Int) (T : List Int) (k : Nat) (l : Array Bool) (a : Act) (w : World) : Prop :=
 (l.getD 2 false = true → l.getD 10 false = false → ∃ g, B ≤ g ∧ a.eval (.tmp 57) = .slice (some ⟨g, 0, none⟩) 1 1 ∧ Has w g #[.int .i64 ht] 3) ∧
 (l.getD 10 false = true → l.getD 12 false = false → ∃ p c, a.eval (.tmp 65) = .slice p (1 + k) c ∧ w.ownsRow B 3 1 (.slice p (1 + k) c) (1 + k) ((ht :: T).map (Value.int .i64))) ∧
 (l.getD 12 false = false → SpAt w bO o) ∧
 (l.getD 12 false = true → ∃ p c, SpAt w bO { o with a := p, n := 1 + k, c := c } ∧ w.ownsRow B 3 1 (.slice p (1 + k) c) (1 + k) ((ht :: T).map (Value.int .i64)))
theorem qk_ (l : Array Bool) (i j : Nat) (hi : i < l.size) (h : i ≠ j) : (l.setIfInBounds i true).getD j false = l.getD j false := by rw [qp_ _ _ _ hi, if_neg h]
theorem TmI.keep {B bO : Nat} {o : Sp} {ht : Int} {T : List Int} {k : Nat} {l : Array Bool} {a : Act} {w : World} (h : TmI B bO o ht T k l a w) (i : Nat) (hi : i < l.size) (h2 : i ≠ 2) (h10 : i ≠ 10) (h12 : i ≠ 12) (d : Option Tmp) (v : Value) (hd : d ≠ some 57) (hd2 : d ≠ some 65) :
  TmI B bO o ht T k (l.setIfInBounds i true) (a.put d v) w := by
 obtain ⟨p1, p2, p3, p4⟩ := h
 unfold TmI
 rw [qk_ l i 2 hi h2, qk_ l i 10 hi h10, qk_ l i 12 hi h12, Act.eval_put (fun d' hdd e => hd (by rw [hdd]; cases e; rfl)), Act.eval_put (fun d' hdd e => hd2 (by rw [hdd]; cases e; rfl))]
 exact ⟨p1, p2, p3, p4⟩
def TmR (bA bH bO : Nat) (a : Option Addr) (n c : Nat) (p1 : Option Addr) (k : Nat) (ht : Int) : Nat → Value → Prop
 | 0, v => v = .pointer (some ⟨bH, 65, none⟩)
 | 1, v => v = .int .i64 ht
 | 3, v => v = .pointer (some ⟨bA, 37, none⟩)
 | 4, v => v = .slice a n c
 | 5, v => v = .pointer (some ⟨bA, 37, none⟩)
 | 6, v => v = .slice a n c
 | 7, v => v = .int .i64 (n : Int)
 | 8, v => v = .int .i64 (k : Int)
 | 9, v => v = .slice p1 k c
 | 11, v => v = .pointer (some ⟨bO, 37, none⟩)
 | _, _ => True
section
variable {ρ : Operand → Value} {o : Oper} {w : World}
theorem hfield3 (w : World) (g : Nat) : (Instr.fieldAt 30 (.pointer (some ⟨g, 0, none⟩)) 3).run Tryz.prog w = .ok (.pointer (some ⟨g, 65, none⟩)) w := by kernel_rfl
theorem sfield2 (w : World) (g : Nat) : (Instr.fieldAt 69 (.pointer (some ⟨g, 0, none⟩)) 2).run Tryz.prog w = .ok (.pointer (some ⟨g, 37, none⟩)) w := by kernel_rfl
theorem qdq_ {x : Operand} {g : Nat} (ho : o.op = .fieldAddr 30 x 3) (hx : ρ x = .pointer (some ⟨g, 0, none⟩)) : (execOp ρ o).run Tryz.prog w = .ok (.value (.pointer (some ⟨g, 65, none⟩))) w := by
 unfold execOp
 simp only [ho, hx, Sem.run_bind, hfield3, Result.andThen_ok]
 rfl
theorem qaw_ {x : Operand} {g : Nat} (ho : o.op = .fieldAddr 69 x 2) (hx : ρ x = .pointer (some ⟨g, 0, none⟩)) : (execOp ρ o).run Tryz.prog w = .ok (.value (.pointer (some ⟨g, 37, none⟩))) w := by
 unfold execOp
 simp only [ho, hx, Sem.run_bind, sfield2, Result.andThen_ok]
 rfl
theorem quj_ {p : Addr} {a : Option Addr} {n c : Nat} (h : w.cell? p = some (.slice a n c)) : (loadVar 59 p).run Tryz.prog w = .ok (.slice a n c) w := by
 go_simp
theorem qbe_ {x : Operand} {p : Addr} {a : Option Addr} {n c : Nat} (ho : o.op = .load 59 x) (hx : ρ x = .pointer (some p)) (hc : w.cell? p = some (.slice a n c)) : (execOp ρ o).run Tryz.prog w = .ok (.value (.slice a n c)) w := by
 unfold execOp
 simp only [ho, hx, Instr.loadAt, Instr.sureAddr, Sem.run_bind, Sem.run_pure, Result.andThen_ok, quj_ hc]
theorem qra_ {p : Addr} {a : Option Addr} {n c : Nat} {u : Value} (hf : w.frozen? p = false) (hc : w.cell? p = some u) : (storeVar 59 p (.slice a n c)).run Tryz.prog w = .ok () (w.setCell p (.slice a n c)) := by
 go_simp
theorem qci_ {x y : Operand} {p : Addr} {a : Option Addr} {n c : Nat} {u : Value} (ho : o.op = .store 59 x y) (hx : ρ x = .pointer (some p)) (hy : ρ y = .slice a n c) (hf : w.frozen? p = false) (hc : w.cell? p = some u) : (execOp ρ o).run Tryz.prog w = .ok .skip (w.setCell p (.slice a n c)) := by
 unfold execOp
 simp only [ho, hx, hy, Instr.storeAt, Instr.sureAddr, Sem.run_bind, Sem.run_pure, Result.andThen_ok, qra_ hf hc]
theorem qhz_ (w : World) (z : Int) : (Instr.buildSlice 59 1 #[(0, .int .i64 z)]).run Tryz.prog w = .ok (.slice (some ⟨w.heap.size, 0, none⟩) 1 1) (w.alloc (.cells #[.int .i64 z] 3)) := by kernel_rfl
theorem qcw_ {x : Operand} {z : Int} (ho : o.op = .buildSlice 59 1 #[(0, x)]) (hx : ρ x = .int .i64 z) : (execOp ρ o).run Tryz.prog w = .ok (.value (.slice (some ⟨w.heap.size, 0, none⟩) 1 1)) (w.alloc (.cells #[.int .i64 z] 3)) := by
 unfold execOp
 simp only [ho, Sem.run_bind]
 rw [show (#[(0, x)] : Array (Nat × Operand)).map (fun (i, x) => (i, ρ x)) = #[(0, .int .i64 z)] by simp [hx], qhz_ w z]
 rfl
theorem ex_len {x : Operand} {a : Option Addr} {n c : Nat} (ho : o.op = .call { callee := .builtin .len, args := #[x], argTypes := #[59] }) (hx : ρ x = .slice a n c) : (execOp ρ o).run Tryz.prog w = .ok (.value (.int .i64 (n : Int))) w := by
 unfold execOp
 simp only [ho, resolve, invoke, builtin, Sem.run_bind, Sem.run_pure, Result.andThen_ok, List.map_toArray, List.map_cons, List.map_nil, hx]
 kernel_rfl
theorem ex_min {x y : Operand} {a b m : Int} (ho : o.op = .call { callee := .builtin .min, args := #[x, y], argTypes := #[3, 3] }) (hx : ρ x = .int .i64 a) (hy : ρ y = .int .i64 b) (hm : m = min a b) : (execOp ρ o).run Tryz.prog w = .ok (.value (.int .i64 m)) w := by
 have hr := NN.min_is (P := Tryz.prog) a b m hm #[3, 3] o.type w
 unfold execOp
 simp only [ho, resolve, invoke, builtin, Sem.run_bind, Sem.run_pure, Result.andThen_ok, List.map_toArray, List.map_cons, List.map_nil, hx, hy, hr]
theorem qia_ {s h : Operand} {p p' : Option Addr} {n c k : Nat} (ho : o.op = .slice 59 s none (some h) none) (hs : ρ s = .slice p n c) (hh : ρ h = .int .i64 (k : Int)) (hr : (Instr.sliceAt 59 (.slice p n c) none (some (.int .i64 (k : Int))) none).run Tryz.prog w = .ok (.slice p' k c) w) : (execOp ρ o).run Tryz.prog w = .ok (.value (.slice p' k c)) w := by
 unfold execOp
 simp only [ho, hs, hh, Option.map_some, Option.map_none, Sem.run_bind, Sem.run_pure, hr, Result.andThen_ok]
theorem qft_ {lo hi : Nat} (s x : Operand) (base : Nat) (v : Value) (n : Nat) (l : List Int) (hs : ρ s = v) (hown : w.ownsRow base 3 1 v n (l.map (Value.int .i64)))
  (ad : Option Addr) (m c : Nat) (z : List Int) (hx : ρ x = .slice ad m c) (hnil : ad = none → m = 0 ∧ c = 0) (hz : z.length = m) (hL : MM.Lie w lo hi ad z) (hn : n + m ≤ 1000) (hbase : base ≤ w.heap.size) :
  ∃ v' w', (∀ o : Oper, o.op = .call { callee := .builtin .append, args := #[s, x], argTypes := #[59, 59] } → o.type = 59 → (execOp ρ o).run Tryz.prog w = .ok (.value v') w') ∧ w'.ownsRow base 3 1 v' (n + m) ((l ++ z).map (Value.int .i64)) ∧ w.grownBy w' v.ownBlock := by
 obtain ⟨i, y, hi, hzz, h1, h2, h3⟩ := qnh_
 cases ad with
 | none =>
  obtain ⟨rfl, rfl⟩ := hnil rfl
  obtain rfl : z = [] := List.eq_nil_of_length_eq_zero hz
  have hrun := run_append_owned_none (P := Tryz.prog) (w := w) base 59 59 3 i 1 Tryz.underlying59 hi v n _ hown
  refine ⟨v, w, fun o ho hty => ?_, by simpa using hown, ⟨rfl, rfl, rfl, Nat.le_refl _, fun _ _ _ => rfl⟩⟩
  unfold execOp
  simp only [ho, hty, resolve, invoke, builtin, Sem.run_bind, Sem.run_pure, Result.andThen_ok, List.map_toArray, List.map_cons, List.map_nil, hs, hx, hrun]
 | some ad =>
  obtain ⟨v', w', hr, g1, g2, _⟩ := run_append_own_at (P := Tryz.prog) w base 59 59 3 i y 1 8 Tryz.underlying59 hi hzz h1 h2 h3 (by decide) v n _ hown ad m c (z.map (Value.int .i64)) (by simpa using hz) (fun j u hj => by
   have hj0 : j < z.length := by have := (List.getElem?_eq_some_iff.1 hj).1; simpa using this
   obtain ⟨b, off, e, _, _, hc⟩ := hL (by omega)
   cases e
   rw [MM.add_at, hc j hj0, ← hj]
   simp [List.getD_eq_getElem?_getD, hj0]) (fun u hu => by obtain ⟨q, _, rfl⟩ := List.mem_map.1 hu; rfl) (by unfold maxLen; omega) (by omega) hbase
  refine ⟨v', w', fun o ho hty => ?_, by rw [List.map_append]; exact g1, g2⟩
  unfold execOp
  simp only [ho, hty, resolve, invoke, builtin, Sem.run_bind, Sem.run_pure, Result.andThen_ok, List.map_toArray, List.map_cons, List.map_nil, hs, hx, hr]
end
theorem qgo_ {w : World} {B g : Nat} {z : Int} (hg : Has w g #[.int .i64 z] 3) (hB : B ≤ g) : w.ownsRow B 3 1 (.slice (some ⟨g, 0, none⟩) 1 1) 1 ([z].map (Value.int .i64)) :=
 ⟨rfl, .inr ⟨g, 1, #[.int .i64 z], rfl, hB, hg, Nat.le_refl _, by decide, rfl, rfl⟩⟩
theorem qfu_ {w : World} {B k c : Nat} {p : Option Addr} {xs : List Value} (h : w.ownsRow B 3 1 (.slice p (1 + k) c) (1 + k) xs) : ∃ g, p = some ⟨g, 0, none⟩ ∧ 1 + k ≤ c := by
 rcases h.2 with ⟨e, h0⟩ | ⟨g, cap, cur, e, _, _, hn, _⟩
 ·omega
 ·cases e
  exact ⟨g, rfl, hn⟩
theorem qmc_ {v w w' : World} {r g : Nat} (h : v.grownBy w (some r)) (h' : w.grownBy w' (some g)) (hg : v.heap.size ≤ g) : v.grownBy w' (some r) :=
 ⟨h'.os.trans h.os, h'.tape.trans h.tape, h'.output.trans h.output, Nat.le_trans h.size h'.size, fun q hq hne => (h'.block q (Nat.lt_of_lt_of_le hq h.size) (by intro e; cases e; omega)).trans (h.block q hq hne)⟩
theorem qcx_ (w : World) (g o : Nat) (v : Value) : w.grownBy (w.setCell ⟨g, o, none⟩ v) (some g) := qbk_ (qof_ w _) o v
end Go.Proofs.YtkclahiiijfllaaGreatDoor
namespace Go.Proofs.YtkclahiiijfllaaGreatDoor
open Go.RowKit Mem Sc NN.Rg2
structure BhS (w wr : World) (bP bA bH bR bO : Nat) (p : NN.Pr) (s : Sp) (h : Hd) (o : Sp) : Prop where
 be : Below w.heap.size w wr
 p : NN.PrAt wr bP p
 a : SpAt wr bA s
 h : HdAt wr bH h
 r : SpAt wr bR spZ
 o : SpAt wr bO o
theorem BhS.on {w wr w' : World} {bP bA bH bR bO : Nat} {p : NN.Pr} {s : Sp} {h : Hd} {o : Sp} (hs : BhS w wr bP bA bH bR bO p s h o) (hb : Below wr.heap.size wr w') : BhS w w' bP bA bH bR bO p s h o :=
 ⟨hs.be.trans (hb.mono hs.be.size), hs.p.on hb, hs.a.on hb, hs.h.on hb, hs.r.on hb, hs.o.on hb⟩
theorem BhS.put {w wr : World} {bP bA bH bR bO : Nat} {p : NN.Pr} {s : Sp} {h : Hd} {o o' : Sp} (hs : BhS w wr bP bA bH bR bO p s h o) (j : Nat) (u : Value) (hX : SpAt (wr.setCell ⟨bO, j, none⟩ u) bO o') (h1 : bP ≠ bO) (h2 : bA ≠ bO) (h3 : bH ≠ bO) (h4 : bR ≠ bO) (h5 : w.heap.size ≤ bO) : BhS w (wr.setCell ⟨bO, j, none⟩ u) bP bA bH bR bO p s h o' :=
 ⟨hs.be.setCell h5 u, NN.Has.other hs.p _ _ h1, hs.a.other _ _ h2, Has.other hs.h _ _ h3, hs.r.other _ _ h4, hX⟩
theorem qkp_ (p : NN.Pr) (hz : (NN.prA p).size = 83) (xh xb xt xf xr : Int) (prev : List UInt8) (hp32 : prev.length = 32) (a : Option Addr) (n c : Nat) (h : Hd) (ho : h.ok) (id : List UInt8) (i32 : id.length = 32) (hb ht : Int) (eb : Hid (h.bits = hb)) (et : Hid (h.time = ht))
  (xh1 : Int) (wx : IntKind.i64.wrap (xh + 1) = xh1) (KS : Hid (Gv_ 50 #[.agg (NN.prA p), .int .i64 xh] (.bool true))) (KI : Hid (∀ w, Tab w → Ca_ 35 #[.agg (hdA h)] w (.agg (bytesV id))))
  (ts : List Int) (hl : ts.length = n) (hc : n ≤ c) (hmax : n < 9223372036854775808) (hnil : a = none → n = 0 ∧ c = 0) (k : Nat) (hk : k = min n 10) (w : World) (hT : Tab w) (hL : MM.Lie w 0 w.heap.size a ts) :
  Calls Tryz.prog 25 #[.agg (NN.prA p), .agg (spA ⟨⟨xh, xb, xt, xf, xr⟩, prev, a, n, c⟩), .agg (hdA h)] w fun r w' => ∃ b' c', r = .returned (.agg (spA ⟨⟨xh1, hb, ht, ht, hb⟩, id, some ⟨b', 0, none⟩, 1 + k, c'⟩)) ∧ 1 + k ≤ c' ∧ MM.Lie w' w.heap.size w'.heap.size (some ⟨b', 0, none⟩) (ht :: ts.take k) ∧ Below w.heap.size w w' := by
 have za := qq_ ho
 have so : (⟨⟨xh, xb, xt, xf, xr⟩, prev, a, n, c⟩ : Sp).ok := hp32
 have zs := qah_ so
 have z0 := qah_ spZ_ok
 have hTr : ∀ v, Below w.heap.size w v → Tab v := fun v hb => hT.below hb
 have HTr := Lib.hid hTr
 obtain ⟨p1, hcut, hL1, hnil1⟩ := qmb_ hl (by omega : k ≤ n) hc hL hnil
 have HL1 := Lib.hid hL1
 have HN1 := Lib.hid hnil1
 have hlen1 : (ts.take k).length = k := by simp; omega
 have HLN := Lib.hid hlen1
 have hmin := NN.min_is (P := Tryz.prog) (n : Int) 10 (k : Int) (by omega)
 have hk10 : k ≤ 10 := by omega
 have hkm : Hid ((k : Int) = min (n : Int) 10) := Lib.hid (by omega)
 generalize ts.take k = T at *
 clear hT hTr hL hL1 hnil hnil1 hlen1 hl hk
 go_enter Tryz.func25, Tryz.ntmps25
 go_upto_region 1 with fail
 generalize hw0 : World.alloc _ _ = v0
 obtain ⟨hB0, hP0, hA0, hH0, hR0⟩ : Below w.heap.size w v0 ∧ NN.PrAt v0 w.heap.size p ∧ SpAt v0 (w.heap.size + 1) ⟨⟨xh, xb, xt, xf, xr⟩, prev, a, n, c⟩ ∧ HdAt v0 (w.heap.size + 1 + 1) h ∧ SpAt v0 (w.heap.size + 1 + 1 + 1) spZ := by
  rw [← hw0]
  refine ⟨((((Below.refl _ _).alloc (Nat.le_refl _) _).alloc (by simp) _).alloc (by simp; omega) _).alloc (by simp; omega) _, (((NN.Has.new _ _).alloc _).alloc _).alloc _, ((Has.new1 _ _ _).alloc _).alloc _, (Has.new2 _ _ _ _).alloc _, ?_⟩
  have := qeh_ (((w.alloc (.cells (NN.prA p) 32)).alloc (.cells (spA ⟨⟨xh, xb, xt, xf, xr⟩, prev, a, n, c⟩) 69)).alloc (.cells (hdA h) 30))
  simpa using this
 clear hw0
 obtain ⟨bP, hbP⟩ : ∃ b, b = w.heap.size := ⟨_, rfl⟩
 obtain ⟨bA, hbA⟩ : ∃ b, b = w.heap.size + 1 := ⟨_, rfl⟩
 obtain ⟨bH, hbH⟩ : ∃ b, b = w.heap.size + 1 + 1 := ⟨_, rfl⟩
 obtain ⟨bR, hbR⟩ : ∃ b, b = w.heap.size + 1 + 1 + 1 := ⟨_, rfl⟩
 rw [← hbR] at hR0 ⊢
 rw [← hbH] at hH0 ⊢
 rw [← hbA] at hA0 ⊢
 rw [← hbP] at hP0 ⊢
 have hR1 := hR0.lt
 have HBR : Hid (w.heap.size ≤ bR) := Lib.hid (by omega)
 have HO : Hid (∀ bO, v0.heap.size ≤ bO → bP ≠ bO ∧ bA ≠ bO ∧ bH ≠ bO ∧ bR ≠ bO ∧ w.heap.size ≤ bO) := Lib.hid (fun bO hO => by omega)
 clear hbP hbA hbH hbR hR1
 -- the new spot
 refine ql_ (by kernel_rfl) (fun w' => Below v0.heap.size v0 w') (fun i v' w' => MkR v0.heap.size bA ⟨⟨xh, xb, xt, xf, xr⟩, prev, a, n, c⟩ h ⟨⟨xh, xb, xt, xf, xr⟩, id, none, 0, 0⟩ i v' w') (fun l a w' => DoneS 6 7 v0.heap.size ⟨⟨xh, xb, xt, xf, xr⟩, id, none, 0, 0⟩ l a w') (SpStep v0.heap.size) (fun _ _ => SpStep.refl _ _) (fun _ _ _ _ _ hs h => qfs_ _ _ _ _ hs h) (by kernel_rfl) (Below.refl _ _).drew ?_ ?_ ?_
 ·exact fun l hl => fun hk => (by rw [hl] at hk; cases hk)
 ·intro i o listed a wx ho' hn hdep hinv
  have hC := hinv.c
  have hi : i < 7 := (Array.getElem?_eq_some_iff.1 ho').1
  have zn : (spA ⟨⟨xh, xb, xt, xf, xr⟩, id, none, 0, 0⟩).size = 38 := qah_ i32
  obtain rfl | rfl | rfl | rfl | rfl | rfl | rfl : i = 0 ∨ i = 1 ∨ i = 2 ∨ i = 3 ∨ i = 4 ∨ i = 5 ∨ i = 6 := by omega
  all_goals obtain rfl := Option.some.inj ho'
  ·exact qd_ ((fun _ _ => SpStep.refl _ _)) hC (qa_ rfl) (qep_ rfl (hinv.old' 4 (by kernel_rfl))) rfl (DoneS.pre (hinv.aheadT 6 (by kernel_rfl) hn (by decide) (by decide)))
  ·exact qd_ ((fun _ _ => SpStep.refl _ _)) hC (qa_ rfl) (qeq_ rfl (hinv.got 0 _ 9 rfl (hdep ⟨0, .data⟩ (by simp) rfl) rfl) (hA0.on hC).pt) rfl (DoneS.pre (hinv.aheadT 6 (by kernel_rfl) hn (by decide) (by decide)))
  ·exact qd_ ((fun _ _ => SpStep.refl _ _)) hC (qa_ rfl) (qer_ rfl (hinv.old' 5 (by kernel_rfl)) (hH0.on hC) za) rfl (DoneS.pre (hinv.aheadT 6 (by kernel_rfl) hn (by decide) (by decide)))
  ·have e11 := hinv.got 2 _ 11 rfl (hdep ⟨2, .data⟩ (by simp) rfl) rfl
   exact qam_ (qa_ rfl) (f := 35) (args := #[a.eval (.tmp 11)]) (by kernel_rfl) (by rw [show a.eval (.tmp 11) = _ from e11]; exact KI.out wx (HTr.out wx (hB0.trans (hC.mono hB0.size)))) (fun w' hb => ⟨hC.trans (hb.mono hC.size), SpStep.below hb, rfl, DoneS.pre (hinv.aheadT 6 (by kernel_rfl) hn (by decide) (by decide))⟩)
  ·exact qd_ ((fun _ _ => SpStep.refl _ _)) hC (qa_ rfl) (qeb_ rfl (hinv.got 1 _ 10 rfl (hdep ⟨1, .data⟩ (by simp) rfl) rfl) (hinv.got 3 _ 12 rfl (hdep ⟨3, .data⟩ (by simp) rfl) rfl) i32) rfl (DoneS.pre (hinv.aheadT 6 (by kernel_rfl) hn (by decide) (by decide)))
  ·have hbel' : Below wx.heap.size wx (wx.alloc (.cells (spA spZ) 69)) := (Below.refl _ _).alloc (Nat.le_refl _) _
   exact qaf_ (qa_ rfl) (qdz_ rfl) (hC.trans (hbel'.mono hC.size)) (SpStep.below hbel') ⟨wx.heap.size, spA spZ, hC.size, rfl, Has.new _ _, z0⟩ (DoneS.pre (hinv.aheadT 6 (by kernel_rfl) hn (by decide) (by decide)))
  ·obtain ⟨b, cs, hb, he, hh, hsz⟩ := hinv.got 5 _ 7 rfl (hdep ⟨5, .data⟩ (by simp) rfl) rfl
   exact qx_ (qa_ rfl) (qea_ rfl he (hinv.got 4 _ 13 rfl (hdep ⟨4, .data⟩ (by simp) rfl) rfl) hh hsz zn) (below_setRow hC hb _) (SpStep.row hh zn) trivial (fun _ => ⟨b, hb, he, Has.row hh _⟩)
 intro listed a' v1 hall hinv
 have hC := hinv.c
 obtain ⟨bO, hbO, e7, hO⟩ := hinv.i (hall 6 (by decide))
 have e3 : a'.eval (.tmp 3) = .pointer (some ⟨bP, 0, none⟩) := hinv.old' 3 (by kernel_rfl)
 have e4' : a'.eval (.tmp 4) = .pointer (some ⟨bA, 0, none⟩) := hinv.old' 4 (by kernel_rfl)
 have e5 : a'.eval (.tmp 5) = .pointer (some ⟨bH, 0, none⟩) := hinv.old' 5 (by kernel_rfl)
 have e6 : a'.eval (.tmp 6) = .pointer (some ⟨bR, 0, none⟩) := hinv.old' 6 (by kernel_rfl)
 obtain ⟨n1, n2, n3, n4, n5⟩ := HO.out bO hbO
 have hs : BhS w v1 bP bA bH bR bO p ⟨⟨xh, xb, xt, xf, xr⟩, prev, a, n, c⟩ h ⟨⟨xh, xb, xt, xf, xr⟩, id, none, 0, 0⟩ := ⟨hB0.trans (hC.mono hB0.size), hP0.on hC, hA0.on hC, hH0.on hC, hR0.on hC, hO⟩
 obtain ⟨u, hu⟩ : ∃ u : Nat → Value, ∀ t, u t = a'.eval (.tmp t) := ⟨_, fun _ => rfl⟩
 rw [qbh_ a' 68 u hinv.tsize hinv.defers hu]
 rw [← hu] at e3 e4' e5 e6 e7
 clear hu hinv hall hC hbO hO HO hB0 hP0 hA0 hH0 hR0
 show Exit.then _ _ _ (⟨#[u 0, u 1, u 2, u 3, u 4, u 5, u 6, u 7, u 8, u 9, u 10, u 11, u 12, u 13, u 14, u 15, u 16, u 17, u 18, u 19, u 20, u 21, u 22, u 23, u 24, u 25, u 26, u 27, u 28, u 29, u 30, u 31, u 32, u 33, u 34, u 35, u 36, u 37, u 38, u 39, u 40, u 41, u 42, u 43, u 44, u 45, u 46, u 47, u 48, u 49, u 50, u 51, u 52, u 53, u 54, u 55, u 56, u 57, u 58, u 59, u 60, u 61, u 62, u 63, u 64, u 65, u 66, u 67], []⟩ : Act) _
 rw [e3, e4', e5, e6, e7]
 clear e3 e4' e5 e6 e7
 have c0 := hs.a.c0 (z := xh) (Lib.hid rfl)
 have hpp := hs.p
 go_wp2_with (with_reducible refine NN.qh_ rfl _ rfl _ rfl hpp hz ?_)
 refine (KS.out _).mono ?_
 rintro r v2 ⟨rfl, hb2⟩
 replace hs := hs.on hb2
 clear hb2 c0 hpp
 have cH := hs.h.bits ho
 rw [eb.out] at cH
 have cT := hs.h.time ho
 rw [et.out] at cT
 have c := hs.o.c0 (z := xh) (Lib.hid rfl)
 have f := hs.o.free 0
 have hX := hs.o.setH xh1
 replace hs := hs.put 0 _ hX n1 n2 n3 n4 n5
 clear hX
 go_upto_region 4 with fail
 generalize World.setCell _ _ _ = v3 at *
 clear c f cH cT
 have cH := hs.h.bits ho
 rw [eb.out] at cH
 have cT := hs.h.time ho
 rw [et.out] at cT
 have c := hs.o.c1 (z := xb) (Lib.hid rfl)
 have f := hs.o.free 1
 have hX := hs.o.setB hb
 replace hs := hs.put 1 _ hX n1 n2 n3 n4 n5
 clear hX
 go_upto_region 5 with fail
 generalize World.setCell _ _ _ = v4 at *
 clear c f cH cT
 have cH := hs.h.bits ho
 rw [eb.out] at cH
 have cT := hs.h.time ho
 rw [et.out] at cT
 have c := hs.o.c2 (z := xt) (Lib.hid rfl)
 have f := hs.o.free 2
 have hX := hs.o.setT ht
 replace hs := hs.put 2 _ hX n1 n2 n3 n4 n5
 clear hX
 go_upto_region 6 with fail
 generalize World.setCell _ _ _ = v5 at *
 clear c f cH cT
 have cH := hs.h.bits ho
 rw [eb.out] at cH
 have cT := hs.h.time ho
 rw [et.out] at cT
 have c := hs.o.c3 (z := xf) (Lib.hid rfl)
 have f := hs.o.free 3
 have hX := hs.o.setF ht
 replace hs := hs.put 3 _ hX n1 n2 n3 n4 n5
 clear hX
 go_upto_region 8 with fail
 generalize World.setCell _ _ _ = v6 at *
 clear c f cH cT
 have cH := hs.h.bits ho
 rw [eb.out] at cH
 have cT := hs.h.time ho
 rw [et.out] at cT
 have c := hs.o.c4 (z := xr) (Lib.hid rfl)
 have f := hs.o.free 4
 have hX := hs.o.setR hb
 replace hs := hs.put 4 _ hX n1 n2 n3 n4 n5
 clear hX
 go_upto_region 10 with fail
 generalize World.setCell _ _ _ = v7 at *
 clear c f cH cT
 have cH := hs.h.bits ho
 rw [eb.out] at cH
 have cT := hs.h.time ho
 rw [et.out] at cT
 have hO0 := hs.o
 have hOl : bO < v7.heap.size := hO0.lt
 have hn1 := HN1.out
 have hln := HLN.out
 have m1 : 1 + k ≤ 1000 := by omega
 refine ql_ (by kernel_rfl) (fun w' => v7.grownBy w' (some bO)) (fun i v' _ => TmR bA bH bO a n c p1 k ht i v') (fun l a w' => TmI v7.heap.size bO ⟨⟨xh1, hb, ht, ht, hb⟩, id, none, 0, 0⟩ ht T k l a w') (fun _ _ => True) (fun _ _ => trivial) (fun _ _ _ _ _ _ h => h) (by kernel_rfl) (qck_ (Below.refl _ _).drew _) ?_ ?_ ?_
 ·exact fun l hl => ⟨fun h => (by rw [hl] at h; cases h), fun h => (by rw [hl] at h; cases h), fun _ => Has.drew hO0, fun h => (by rw [hl] at h; cases h)⟩
 ·intro i o listed a' wx ho' hn hdep hinv
  have hC := hinv.c
  have hI := hinv.i
  have hi : i < 13 := (Array.getElem?_eq_some_iff.1 ho').1
  have hHx : HdAt wx bH h := gb_has hC hs.h (fun e => n3 (Option.some.inj e))
  have hAx : SpAt wx bA ⟨⟨xh, xb, xt, xf, xr⟩, prev, a, n, c⟩ := gb_has hC hs.a (fun e => n2 (Option.some.inj e))
  have cTx := hHx.time ho
  rw [et.out] at cTx
  have cAx := hAx.sl so
  have hlx : v7.heap.size ≤ wx.heap.size := hC.size
  obtain rfl | rfl | rfl | rfl | rfl | rfl | rfl | rfl | rfl | rfl | rfl | rfl | rfl : i = 0 ∨ i = 1 ∨ i = 2 ∨ i = 3 ∨ i = 4 ∨ i = 5 ∨ i = 6 ∨ i = 7 ∨ i = 8 ∨ i = 9 ∨ i = 10 ∨ i = 11 ∨ i = 12 := by omega
  all_goals obtain rfl := Option.some.inj ho'
  ·have hsz0 : 0 < listed.size := by rw [hinv.size]; decide
   exact qd_ (C := fun w' => v7.grownBy w' (some bO)) (S := fun _ _ => True) (R := fun v' _ => TmR bA bH bO a n c p1 k ht 0 v') (J := fun a w' => TmI v7.heap.size bO ⟨⟨xh1, hb, ht, ht, hb⟩, id, none, 0, 0⟩ ht T k (listed.setIfInBounds 0 true) a w') (fun _ _ => trivial) hC (qa_ rfl) (qdq_ rfl (hinv.old' 5 (by kernel_rfl))) rfl (hI.keep 0 hsz0 (by decide) (by decide) (by decide) _ _ (by decide) (by decide))
  ·have hsz1 : 1 < listed.size := by rw [hinv.size]; decide
   exact qd_ (C := fun w' => v7.grownBy w' (some bO)) (S := fun _ _ => True) (R := fun v' _ => TmR bA bH bO a n c p1 k ht 1 v') (J := fun a w' => TmI v7.heap.size bO ⟨⟨xh1, hb, ht, ht, hb⟩, id, none, 0, 0⟩ ht T k (listed.setIfInBounds 1 true) a w') (fun _ _ => trivial) hC (qa_ rfl) (NN.qbj_ rfl (hinv.got 0 _ 55 rfl (hdep ⟨0, .data⟩ (by simp) rfl) rfl) cTx) rfl (hI.keep 1 hsz1 (by decide) (by decide) (by decide) _ _ (by decide) (by decide))
  ·have hsz : 2 < listed.size := by rw [hinv.size]; decide
   have h10 : (listed.setIfInBounds 2 true).getD 10 false = false := hinv.aheadT 12 (by kernel_rfl) hn (by decide) (by decide)
   have h12 : (listed.setIfInBounds 2 true).getD 12 false = false := hinv.aheadT 12 (by kernel_rfl) hn (by decide) (by decide)
   have h12' : listed.getD 12 false = false := by rw [← qk_ listed 2 12 hsz (by decide)]; exact h12
   have hbx : Below wx.heap.size wx (wx.alloc (.cells #[.int .i64 ht] 3)) := (Below.refl _ _).alloc (Nat.le_refl _) _
   refine qaf_ (C := fun w' => v7.grownBy w' (some bO)) (S := fun _ _ => True) (R := fun v' _ => TmR bA bH bO a n c p1 k ht 2 v') (J := fun a w' => TmI v7.heap.size bO ⟨⟨xh1, hb, ht, ht, hb⟩, id, none, 0, 0⟩ ht T k (listed.setIfInBounds 2 true) a w') (qa_ rfl) (qcw_ rfl (hinv.got 1 _ 56 rfl (hdep ⟨1, .data⟩ (by simp) rfl) rfl)) (qdc_ hC (qck_ hbx _)) trivial trivial ⟨fun _ _ => ⟨wx.heap.size, hlx, qbc_ a' 57 _ (by rw [hinv.tsize]; exact (show 57 < 68 by decide)), Has.new _ _⟩, fun e => (by rw [h10] at e; cases e), fun _ => (hI.2.2.1 h12').on hbx, fun e => (by rw [h12] at e; cases e)⟩
  ·have hsz3 : 3 < listed.size := by rw [hinv.size]; decide
   exact qd_ (C := fun w' => v7.grownBy w' (some bO)) (S := fun _ _ => True) (R := fun v' _ => TmR bA bH bO a n c p1 k ht 3 v') (J := fun a w' => TmI v7.heap.size bO ⟨⟨xh1, hb, ht, ht, hb⟩, id, none, 0, 0⟩ ht T k (listed.setIfInBounds 3 true) a w') (fun _ _ => trivial) hC (qa_ rfl) (qaw_ rfl (hinv.old' 4 (by kernel_rfl))) rfl (hI.keep 3 hsz3 (by decide) (by decide) (by decide) _ _ (by decide) (by decide))
  ·have hsz4 : 4 < listed.size := by rw [hinv.size]; decide
   exact qd_ (C := fun w' => v7.grownBy w' (some bO)) (S := fun _ _ => True) (R := fun v' _ => TmR bA bH bO a n c p1 k ht 4 v') (J := fun a w' => TmI v7.heap.size bO ⟨⟨xh1, hb, ht, ht, hb⟩, id, none, 0, 0⟩ ht T k (listed.setIfInBounds 4 true) a w') (fun _ _ => trivial) hC (qa_ rfl) (qbe_ rfl (hinv.got 3 _ 58 rfl (hdep ⟨3, .data⟩ (by simp) rfl) rfl) cAx) rfl (hI.keep 4 hsz4 (by decide) (by decide) (by decide) _ _ (by decide) (by decide))
  ·have hsz5 : 5 < listed.size := by rw [hinv.size]; decide
   exact qd_ (C := fun w' => v7.grownBy w' (some bO)) (S := fun _ _ => True) (R := fun v' _ => TmR bA bH bO a n c p1 k ht 5 v') (J := fun a w' => TmI v7.heap.size bO ⟨⟨xh1, hb, ht, ht, hb⟩, id, none, 0, 0⟩ ht T k (listed.setIfInBounds 5 true) a w') (fun _ _ => trivial) hC (qa_ rfl) (qaw_ rfl (hinv.old' 4 (by kernel_rfl))) rfl (hI.keep 5 hsz5 (by decide) (by decide) (by decide) _ _ (by decide) (by decide))
  ·have hsz6 : 6 < listed.size := by rw [hinv.size]; decide
   exact qd_ (C := fun w' => v7.grownBy w' (some bO)) (S := fun _ _ => True) (R := fun v' _ => TmR bA bH bO a n c p1 k ht 6 v') (J := fun a w' => TmI v7.heap.size bO ⟨⟨xh1, hb, ht, ht, hb⟩, id, none, 0, 0⟩ ht T k (listed.setIfInBounds 6 true) a w') (fun _ _ => trivial) hC (qa_ rfl) (qbe_ rfl (hinv.got 5 _ 60 rfl (hdep ⟨5, .data⟩ (by simp) rfl) rfl) cAx) rfl (hI.keep 6 hsz6 (by decide) (by decide) (by decide) _ _ (by decide) (by decide))
  ·have hsz7 : 7 < listed.size := by rw [hinv.size]; decide
   exact qd_ (C := fun w' => v7.grownBy w' (some bO)) (S := fun _ _ => True) (R := fun v' _ => TmR bA bH bO a n c p1 k ht 7 v') (J := fun a w' => TmI v7.heap.size bO ⟨⟨xh1, hb, ht, ht, hb⟩, id, none, 0, 0⟩ ht T k (listed.setIfInBounds 7 true) a w') (fun _ _ => trivial) hC (qa_ rfl) (ex_len rfl (hinv.got 6 _ 61 rfl (hdep ⟨6, .data⟩ (by simp) rfl) rfl)) rfl (hI.keep 7 hsz7 (by decide) (by decide) (by decide) _ _ (by decide) (by decide))
  ·have hsz8 : 8 < listed.size := by rw [hinv.size]; decide
   exact qd_ (C := fun w' => v7.grownBy w' (some bO)) (S := fun _ _ => True) (R := fun v' _ => TmR bA bH bO a n c p1 k ht 8 v') (J := fun a w' => TmI v7.heap.size bO ⟨⟨xh1, hb, ht, ht, hb⟩, id, none, 0, 0⟩ ht T k (listed.setIfInBounds 8 true) a w') (fun _ _ => trivial) hC (qa_ rfl) (ex_min rfl (hinv.got 7 _ 62 rfl (hdep ⟨7, .data⟩ (by simp) rfl) rfl) rfl hkm.out) rfl (hI.keep 8 hsz8 (by decide) (by decide) (by decide) _ _ (by decide) (by decide))
  ·have hsz9 : 9 < listed.size := by rw [hinv.size]; decide
   exact qd_ (C := fun w' => v7.grownBy w' (some bO)) (S := fun _ _ => True) (R := fun v' _ => TmR bA bH bO a n c p1 k ht 9 v') (J := fun a w' => TmI v7.heap.size bO ⟨⟨xh1, hb, ht, ht, hb⟩, id, none, 0, 0⟩ ht T k (listed.setIfInBounds 9 true) a w') (fun _ _ => trivial) hC (qa_ rfl) (qia_ rfl (hinv.got 4 _ 59 rfl (hdep ⟨4, .data⟩ (by simp) rfl) rfl) (hinv.got 8 _ 63 rfl (hdep ⟨8, .data⟩ (by simp) rfl) rfl) (hcut wx)) rfl (hI.keep 9 hsz9 (by decide) (by decide) (by decide) _ _ (by decide) (by decide))
  ·have hsz : 10 < listed.size := by rw [hinv.size]; decide
   have h12 : (listed.setIfInBounds 10 true).getD 12 false = false := hinv.aheadT 12 (by kernel_rfl) hn (by decide) (by decide)
   have h12' : listed.getD 12 false = false := by rw [← qk_ listed 10 12 hsz (by decide)]; exact h12
   obtain ⟨g, hgB, e57, hg⟩ := hI.1 (hdep ⟨2, .data⟩ (by simp) rfl) hn
   have e64 := (hinv.got 9 _ 64 rfl (hdep ⟨9, .data⟩ (by simp) rfl) rfl)
   have hLx := (HL1.out.below hs.be (Nat.le_refl _)).grown hC hs.be.size (.inr n5)
   obtain ⟨v', w', hr, hown', hgr⟩ := qft_ (lo := 0) (hi := w.heap.size) (ρ := a'.eval) (.tmp 57) (.tmp 64) v7.heap.size (.slice (some ⟨g, 0, none⟩) 1 1) 1 [ht] e57 (qgo_ hg hgB) p1 k c T e64 hn1 hln hLx m1 hlx
   obtain ⟨p8, c8, rfl⟩ := qbn_ hown'
   refine qaf_ (C := fun w' => v7.grownBy w' (some bO)) (S := fun _ _ => True) (R := fun v' _ => TmR bA bH bO a n c p1 k ht 10 v') (J := fun a w' => TmI v7.heap.size bO ⟨⟨xh1, hb, ht, ht, hb⟩, id, none, 0, 0⟩ ht T k (listed.setIfInBounds 10 true) a w') (qa_ rfl) (hr _ rfl rfl) (qmc_ hC hgr hgB) trivial trivial ⟨fun _ e => (by rw [qp_ _ _ _ hsz, if_pos rfl] at e; cases e), fun _ _ => ⟨p8, c8, qbc_ a' 65 _ (by rw [hinv.tsize]; exact (show 65 < 68 by decide)), hown'⟩, fun _ => gb_has hgr (hI.2.2.1 h12') (fun e => by have : bO = g := Option.some.inj e; omega), fun e => (by rw [h12] at e; cases e)⟩
  ·have hsz11 : 11 < listed.size := by rw [hinv.size]; decide
   exact qd_ (C := fun w' => v7.grownBy w' (some bO)) (S := fun _ _ => True) (R := fun v' _ => TmR bA bH bO a n c p1 k ht 11 v') (J := fun a w' => TmI v7.heap.size bO ⟨⟨xh1, hb, ht, ht, hb⟩, id, none, 0, 0⟩ ht T k (listed.setIfInBounds 11 true) a w') (fun _ _ => trivial) hC (qa_ rfl) (qaw_ rfl (hinv.old' 7 (by kernel_rfl))) rfl (hI.keep 11 hsz11 (by decide) (by decide) (by decide) _ _ (by decide) (by decide))
  ·have hsz : 12 < listed.size := by rw [hinv.size]; decide
   have l10 : listed.getD 10 false = true := hdep ⟨10, .data⟩ (by simp) rfl
   obtain ⟨p8, c8, e65, hown8⟩ := hI.2.1 l10 hn
   have hOx := hI.2.2.1 hn
   refine qx_ (C := fun w' => v7.grownBy w' (some bO)) (S := fun _ _ => True) (R := fun v' _ => TmR bA bH bO a n c p1 k ht 12 v') (J := fun a w' => TmI v7.heap.size bO ⟨⟨xh1, hb, ht, ht, hb⟩, id, none, 0, 0⟩ ht T k (listed.setIfInBounds 12 true) a w') (qa_ rfl) (qci_ rfl (hinv.got 11 _ 66 rfl (hdep ⟨11, .data⟩ (by simp) rfl) rfl) e65 (hOx.free 37) (hOx.sl i32)) (qbk_ hC 37 _) trivial trivial ⟨fun _ e => (by rw [qk_ _ _ _ hsz (by decide), l10] at e; cases e), fun _ e => (by rw [qp_ _ _ _ hsz, if_pos rfl] at e; cases e), fun e => (by rw [qp_ _ _ _ hsz, if_pos rfl] at e; cases e), fun _ => ⟨p8, c8, hOx.setS i32 p8 (1 + k) c8, hown8.kept (qcx_ _ _ _ _) (.inr (fun e => by have := (hown8.lt bO e).1; omega))⟩⟩
 intro listed a' v9 hall hinv
 obtain ⟨p8, c8, hO9, hown9⟩ := hinv.i.2.2.2 (hall 12 (by decide))
 have hC := hinv.c
 have e6 : a'.eval (.tmp 6) = .pointer (some ⟨bR, 0, none⟩) := hinv.old' 6 (by kernel_rfl)
 have e7 : a'.eval (.tmp 7) = .pointer (some ⟨bO, 0, none⟩) := hinv.old' 7 (by kernel_rfl)
 have hR9 : SpAt v9 bR spZ := gb_has hC hs.r (fun e => n4 (Option.some.inj e))
 have hB9 : Below w.heap.size w v9 := hs.be.trans (qcb_ hC n5 hs.be.size)
 have hRl : bR < v7.heap.size := hs.r.lt
 obtain ⟨g8, rfl, hc8⟩ := qfu_ hown9
 obtain ⟨q8, d8, eq8, _, _, hLie⟩ := MM.qca_ (l := ht :: T) hown9
 cases eq8
 have HLie := Lib.hid hLie
 have HB0 := Lib.hid hs.be.size
 obtain ⟨u, hu⟩ : ∃ u : Nat → Value, ∀ t, u t = a'.eval (.tmp t) := ⟨_, fun _ => rfl⟩
 rw [qbh_ a' 68 u hinv.tsize hinv.defers hu]
 rw [← hu] at e6 e7
 clear hu hinv hall hC hown9 hLie hs hO0 hcut hmin hn1 hln
 show Exit.then _ _ _ (⟨#[u 0, u 1, u 2, u 3, u 4, u 5, u 6, u 7, u 8, u 9, u 10, u 11, u 12, u 13, u 14, u 15, u 16, u 17, u 18, u 19, u 20, u 21, u 22, u 23, u 24, u 25, u 26, u 27, u 28, u 29, u 30, u 31, u 32, u 33, u 34, u 35, u 36, u 37, u 38, u 39, u 40, u 41, u 42, u 43, u 44, u 45, u 46, u 47, u 48, u 49, u 50, u 51, u 52, u 53, u 54, u 55, u 56, u 57, u 58, u 59, u 60, u 61, u 62, u 63, u 64, u 65, u 66, u 67], []⟩ : Act) _
 rw [e6, e7]
 clear e6 e7
 have zo : (spA ⟨⟨xh1, hb, ht, ht, hb⟩, id, some ⟨g8, 0, none⟩, 1 + k, c8⟩).size = 38 := qah_ i32
 have HX : Hid (spA ⟨⟨xh1, hb, ht, ht, hb⟩, id, some ⟨g8, 0, none⟩, 1 + k, c8⟩ = spA ⟨⟨xh1, hb, ht, ht, hb⟩, id, some ⟨g8, 0, none⟩, 1 + k, c8⟩) := Lib.hid rfl
 change SpAt v9 bO ⟨⟨xh1, hb, ht, ht, hb⟩, id, some ⟨g8, 0, none⟩, 1 + k, c8⟩ at hO9
 generalize hq : (⟨⟨xh1, hb, ht, ht, hb⟩, id, some ⟨g8, 0, none⟩, 1 + k, c8⟩ : Sp) = sq at hO9 zo
 have HQ := Lib.hid hq
 clear hq HX
 go_wp2_with (first
  | (with_reducible refine qlx_ rfl _ rfl bO rfl hO9 zo ?_)
  | (with_reducible refine qdm_ rfl _ _ rfl bR _ sq rfl rfl rfl zo hR9 z0 ?_))
 refine bodyPost_ret (v := .agg (spA sq)) (qdo_ Tryz.results25 _ bR rfl (Has.row hR9 _) zo) rfl ⟨g8, c8, by rw [← HQ.out], hc8, ?_, below_setRow hB9 HBR.out _⟩
 have hwd := HLie.out.wide (lo' := w.heap.size) (hi' := v9.heap.size) HB0.out (Nat.le_refl _)
 rw [setRow_size]
 exact HLie.out.on (fun q h1 _ => setRow_other v9 bR q _ (by omega)) |>.wide HB0.out (Nat.le_refl _)
theorem qkq_ (p : NN.Pr) (hz : (NN.prA p).size = 83) (xh xb xt xf xr : Int) (prev : List UInt8) (hp32 : prev.length = 32) (a : Option Addr) (n c : Nat) (h : Hd) (ho : h.ok) (id : List UInt8) (i32 : id.length = 32) (hb ht : Int) (eb : Hid (h.bits = hb)) (et : Hid (h.time = ht)) (e4 : Hid (p.easy = false))
  (xh1 : Int) (wx : IntKind.i64.wrap (xh + 1) = xh1) (KS : Hid (Gv_ 50 #[.agg (NN.prA p), .int .i64 xh] (.bool false))) (KI : Hid (∀ w, Tab w → Ca_ 35 #[.agg (hdA h)] w (.agg (bytesV id))))
  (ts : List Int) (hl : ts.length = n) (hc : n ≤ c) (hmax : n < 9223372036854775808) (hnil : a = none → n = 0 ∧ c = 0) (k : Nat) (hk : k = min n 10) (w : World) (hT : Tab w) (hL : MM.Lie w 0 w.heap.size a ts) :
  Calls Tryz.prog 25 #[.agg (NN.prA p), .agg (spA ⟨⟨xh, xb, xt, xf, xr⟩, prev, a, n, c⟩), .agg (hdA h)] w fun r w' => ∃ b' c', r = .returned (.agg (spA ⟨⟨xh1, hb, ht, xf, hb⟩, id, some ⟨b', 0, none⟩, 1 + k, c'⟩)) ∧ 1 + k ≤ c' ∧ MM.Lie w' w.heap.size w'.heap.size (some ⟨b', 0, none⟩) (ht :: ts.take k) ∧ Below w.heap.size w w' := by
 have za := qq_ ho
 have so : (⟨⟨xh, xb, xt, xf, xr⟩, prev, a, n, c⟩ : Sp).ok := hp32
 have zs := qah_ so
 have z0 := qah_ spZ_ok
 have hTr : ∀ v, Below w.heap.size w v → Tab v := fun v hb => hT.below hb
 have HTr := Lib.hid hTr
 obtain ⟨p1, hcut, hL1, hnil1⟩ := qmb_ hl (by omega : k ≤ n) hc hL hnil
 have HL1 := Lib.hid hL1
 have HN1 := Lib.hid hnil1
 have hlen1 : (ts.take k).length = k := by simp; omega
 have HLN := Lib.hid hlen1
 have hmin := NN.min_is (P := Tryz.prog) (n : Int) 10 (k : Int) (by omega)
 have hk10 : k ≤ 10 := by omega
 have hkm : Hid ((k : Int) = min (n : Int) 10) := Lib.hid (by omega)
 generalize ts.take k = T at *
 clear hT hTr hL hL1 hnil hnil1 hlen1 hl hk
 go_enter Tryz.func25, Tryz.ntmps25
 go_upto_region 1 with fail
 generalize hw0 : World.alloc _ _ = v0
 obtain ⟨hB0, hP0, hA0, hH0, hR0⟩ : Below w.heap.size w v0 ∧ NN.PrAt v0 w.heap.size p ∧ SpAt v0 (w.heap.size + 1) ⟨⟨xh, xb, xt, xf, xr⟩, prev, a, n, c⟩ ∧ HdAt v0 (w.heap.size + 1 + 1) h ∧ SpAt v0 (w.heap.size + 1 + 1 + 1) spZ := by
  rw [← hw0]
  refine ⟨((((Below.refl _ _).alloc (Nat.le_refl _) _).alloc (by simp) _).alloc (by simp; omega) _).alloc (by simp; omega) _, (((NN.Has.new _ _).alloc _).alloc _).alloc _, ((Has.new1 _ _ _).alloc _).alloc _, (Has.new2 _ _ _ _).alloc _, ?_⟩
  have := qeh_ (((w.alloc (.cells (NN.prA p) 32)).alloc (.cells (spA ⟨⟨xh, xb, xt, xf, xr⟩, prev, a, n, c⟩) 69)).alloc (.cells (hdA h) 30))
  simpa using this
 clear hw0
 obtain ⟨bP, hbP⟩ : ∃ b, b = w.heap.size := ⟨_, rfl⟩
 obtain ⟨bA, hbA⟩ : ∃ b, b = w.heap.size + 1 := ⟨_, rfl⟩
 obtain ⟨bH, hbH⟩ : ∃ b, b = w.heap.size + 1 + 1 := ⟨_, rfl⟩
 obtain ⟨bR, hbR⟩ : ∃ b, b = w.heap.size + 1 + 1 + 1 := ⟨_, rfl⟩
 rw [← hbR] at hR0 ⊢
 rw [← hbH] at hH0 ⊢
 rw [← hbA] at hA0 ⊢
 rw [← hbP] at hP0 ⊢
 have hR1 := hR0.lt
 have HBR : Hid (w.heap.size ≤ bR) := Lib.hid (by omega)
 have HO : Hid (∀ bO, v0.heap.size ≤ bO → bP ≠ bO ∧ bA ≠ bO ∧ bH ≠ bO ∧ bR ≠ bO ∧ w.heap.size ≤ bO) := Lib.hid (fun bO hO => by omega)
 clear hbP hbA hbH hbR hR1
 -- the new spot
 refine ql_ (by kernel_rfl) (fun w' => Below v0.heap.size v0 w') (fun i v' w' => MkR v0.heap.size bA ⟨⟨xh, xb, xt, xf, xr⟩, prev, a, n, c⟩ h ⟨⟨xh, xb, xt, xf, xr⟩, id, none, 0, 0⟩ i v' w') (fun l a w' => DoneS 6 7 v0.heap.size ⟨⟨xh, xb, xt, xf, xr⟩, id, none, 0, 0⟩ l a w') (SpStep v0.heap.size) (fun _ _ => SpStep.refl _ _) (fun _ _ _ _ _ hs h => qfs_ _ _ _ _ hs h) (by kernel_rfl) (Below.refl _ _).drew ?_ ?_ ?_
 ·exact fun l hl => fun hk => (by rw [hl] at hk; cases hk)
 ·intro i o listed a wx ho' hn hdep hinv
  have hC := hinv.c
  have hi : i < 7 := (Array.getElem?_eq_some_iff.1 ho').1
  have zn : (spA ⟨⟨xh, xb, xt, xf, xr⟩, id, none, 0, 0⟩).size = 38 := qah_ i32
  obtain rfl | rfl | rfl | rfl | rfl | rfl | rfl : i = 0 ∨ i = 1 ∨ i = 2 ∨ i = 3 ∨ i = 4 ∨ i = 5 ∨ i = 6 := by omega
  all_goals obtain rfl := Option.some.inj ho'
  ·exact qd_ ((fun _ _ => SpStep.refl _ _)) hC (qa_ rfl) (qep_ rfl (hinv.old' 4 (by kernel_rfl))) rfl (DoneS.pre (hinv.aheadT 6 (by kernel_rfl) hn (by decide) (by decide)))
  ·exact qd_ ((fun _ _ => SpStep.refl _ _)) hC (qa_ rfl) (qeq_ rfl (hinv.got 0 _ 9 rfl (hdep ⟨0, .data⟩ (by simp) rfl) rfl) (hA0.on hC).pt) rfl (DoneS.pre (hinv.aheadT 6 (by kernel_rfl) hn (by decide) (by decide)))
  ·exact qd_ ((fun _ _ => SpStep.refl _ _)) hC (qa_ rfl) (qer_ rfl (hinv.old' 5 (by kernel_rfl)) (hH0.on hC) za) rfl (DoneS.pre (hinv.aheadT 6 (by kernel_rfl) hn (by decide) (by decide)))
  ·have e11 := hinv.got 2 _ 11 rfl (hdep ⟨2, .data⟩ (by simp) rfl) rfl
   exact qam_ (qa_ rfl) (f := 35) (args := #[a.eval (.tmp 11)]) (by kernel_rfl) (by rw [show a.eval (.tmp 11) = _ from e11]; exact KI.out wx (HTr.out wx (hB0.trans (hC.mono hB0.size)))) (fun w' hb => ⟨hC.trans (hb.mono hC.size), SpStep.below hb, rfl, DoneS.pre (hinv.aheadT 6 (by kernel_rfl) hn (by decide) (by decide))⟩)
  ·exact qd_ ((fun _ _ => SpStep.refl _ _)) hC (qa_ rfl) (qeb_ rfl (hinv.got 1 _ 10 rfl (hdep ⟨1, .data⟩ (by simp) rfl) rfl) (hinv.got 3 _ 12 rfl (hdep ⟨3, .data⟩ (by simp) rfl) rfl) i32) rfl (DoneS.pre (hinv.aheadT 6 (by kernel_rfl) hn (by decide) (by decide)))
  ·have hbel' : Below wx.heap.size wx (wx.alloc (.cells (spA spZ) 69)) := (Below.refl _ _).alloc (Nat.le_refl _) _
   exact qaf_ (qa_ rfl) (qdz_ rfl) (hC.trans (hbel'.mono hC.size)) (SpStep.below hbel') ⟨wx.heap.size, spA spZ, hC.size, rfl, Has.new _ _, z0⟩ (DoneS.pre (hinv.aheadT 6 (by kernel_rfl) hn (by decide) (by decide)))
  ·obtain ⟨b, cs, hb, he, hh, hsz⟩ := hinv.got 5 _ 7 rfl (hdep ⟨5, .data⟩ (by simp) rfl) rfl
   exact qx_ (qa_ rfl) (qea_ rfl he (hinv.got 4 _ 13 rfl (hdep ⟨4, .data⟩ (by simp) rfl) rfl) hh hsz zn) (below_setRow hC hb _) (SpStep.row hh zn) trivial (fun _ => ⟨b, hb, he, Has.row hh _⟩)
 intro listed a' v1 hall hinv
 have hC := hinv.c
 obtain ⟨bO, hbO, e7, hO⟩ := hinv.i (hall 6 (by decide))
 have e3 : a'.eval (.tmp 3) = .pointer (some ⟨bP, 0, none⟩) := hinv.old' 3 (by kernel_rfl)
 have e4' : a'.eval (.tmp 4) = .pointer (some ⟨bA, 0, none⟩) := hinv.old' 4 (by kernel_rfl)
 have e5 : a'.eval (.tmp 5) = .pointer (some ⟨bH, 0, none⟩) := hinv.old' 5 (by kernel_rfl)
 have e6 : a'.eval (.tmp 6) = .pointer (some ⟨bR, 0, none⟩) := hinv.old' 6 (by kernel_rfl)
 obtain ⟨n1, n2, n3, n4, n5⟩ := HO.out bO hbO
 have hs : BhS w v1 bP bA bH bR bO p ⟨⟨xh, xb, xt, xf, xr⟩, prev, a, n, c⟩ h ⟨⟨xh, xb, xt, xf, xr⟩, id, none, 0, 0⟩ := ⟨hB0.trans (hC.mono hB0.size), hP0.on hC, hA0.on hC, hH0.on hC, hR0.on hC, hO⟩
 obtain ⟨u, hu⟩ : ∃ u : Nat → Value, ∀ t, u t = a'.eval (.tmp t) := ⟨_, fun _ => rfl⟩
 rw [qbh_ a' 68 u hinv.tsize hinv.defers hu]
 rw [← hu] at e3 e4' e5 e6 e7
 clear hu hinv hall hC hbO hO HO hB0 hP0 hA0 hH0 hR0
 show Exit.then _ _ _ (⟨#[u 0, u 1, u 2, u 3, u 4, u 5, u 6, u 7, u 8, u 9, u 10, u 11, u 12, u 13, u 14, u 15, u 16, u 17, u 18, u 19, u 20, u 21, u 22, u 23, u 24, u 25, u 26, u 27, u 28, u 29, u 30, u 31, u 32, u 33, u 34, u 35, u 36, u 37, u 38, u 39, u 40, u 41, u 42, u 43, u 44, u 45, u 46, u 47, u 48, u 49, u 50, u 51, u 52, u 53, u 54, u 55, u 56, u 57, u 58, u 59, u 60, u 61, u 62, u 63, u 64, u 65, u 66, u 67], []⟩ : Act) _
 rw [e3, e4', e5, e6, e7]
 clear e3 e4' e5 e6 e7
 have c0 := hs.a.c0 (z := xh) (Lib.hid rfl)
 have hpp := hs.p
 go_wp2_with (with_reducible refine NN.qh_ rfl _ rfl _ rfl hpp hz ?_)
 refine (KS.out _).mono ?_
 rintro r v2 ⟨rfl, hb2⟩
 replace hs := hs.on hb2
 clear hb2 c0 hpp
 have cH := hs.h.bits ho
 rw [eb.out] at cH
 have cT := hs.h.time ho
 rw [et.out] at cT
 have c := hs.o.c0 (z := xh) (Lib.hid rfl)
 have f := hs.o.free 0
 have hX := hs.o.setH xh1
 replace hs := hs.put 0 _ hX n1 n2 n3 n4 n5
 clear hX
 go_upto_region 4 with fail
 generalize World.setCell _ _ _ = v3 at *
 clear c f cH cT
 have cH := hs.h.bits ho
 rw [eb.out] at cH
 have cT := hs.h.time ho
 rw [et.out] at cT
 have c := hs.o.c1 (z := xb) (Lib.hid rfl)
 have f := hs.o.free 1
 have hX := hs.o.setB hb
 replace hs := hs.put 1 _ hX n1 n2 n3 n4 n5
 clear hX
 go_upto_region 5 with fail
 generalize World.setCell _ _ _ = v4 at *
 clear c f cH cT
 have cH := hs.h.bits ho
 rw [eb.out] at cH
 have cT := hs.h.time ho
 rw [et.out] at cT
 have c := hs.o.c2 (z := xt) (Lib.hid rfl)
 have f := hs.o.free 2
 have hX := hs.o.setT ht
 replace hs := hs.put 2 _ hX n1 n2 n3 n4 n5
 clear hX
 go_upto_region 6 with fail
 generalize World.setCell _ _ _ = v5 at *
 clear c f cH cT
 have cH := hs.h.bits ho
 rw [eb.out] at cH
 have cT := hs.h.time ho
 rw [et.out] at cT
 have cE := hs.p.c4 e4
 have c := hs.o.c4 (z := xr) (Lib.hid rfl)
 have f := hs.o.free 4
 have hX := hs.o.setR hb
 replace hs := hs.put 4 _ hX n1 n2 n3 n4 n5
 clear hX
 go_upto_region 10 with fail
 generalize World.setCell _ _ _ = v6 at *
 clear c f cH cT
 have cH := hs.h.bits ho
 rw [eb.out] at cH
 have cT := hs.h.time ho
 rw [et.out] at cT
 have hO0 := hs.o
 have hOl : bO < v6.heap.size := hO0.lt
 have hn1 := HN1.out
 have hln := HLN.out
 have m1 : 1 + k ≤ 1000 := by omega
 refine ql_ (by kernel_rfl) (fun w' => v6.grownBy w' (some bO)) (fun i v' _ => TmR bA bH bO a n c p1 k ht i v') (fun l a w' => TmI v6.heap.size bO ⟨⟨xh1, hb, ht, xf, hb⟩, id, none, 0, 0⟩ ht T k l a w') (fun _ _ => True) (fun _ _ => trivial) (fun _ _ _ _ _ _ h => h) (by kernel_rfl) (qck_ (Below.refl _ _).drew _) ?_ ?_ ?_
 ·exact fun l hl => ⟨fun h => (by rw [hl] at h; cases h), fun h => (by rw [hl] at h; cases h), fun _ => Has.drew hO0, fun h => (by rw [hl] at h; cases h)⟩
 ·intro i o listed a' wx ho' hn hdep hinv
  have hC := hinv.c
  have hI := hinv.i
  have hi : i < 13 := (Array.getElem?_eq_some_iff.1 ho').1
  have hHx : HdAt wx bH h := gb_has hC hs.h (fun e => n3 (Option.some.inj e))
  have hAx : SpAt wx bA ⟨⟨xh, xb, xt, xf, xr⟩, prev, a, n, c⟩ := gb_has hC hs.a (fun e => n2 (Option.some.inj e))
  have cTx := hHx.time ho
  rw [et.out] at cTx
  have cAx := hAx.sl so
  have hlx : v6.heap.size ≤ wx.heap.size := hC.size
  obtain rfl | rfl | rfl | rfl | rfl | rfl | rfl | rfl | rfl | rfl | rfl | rfl | rfl : i = 0 ∨ i = 1 ∨ i = 2 ∨ i = 3 ∨ i = 4 ∨ i = 5 ∨ i = 6 ∨ i = 7 ∨ i = 8 ∨ i = 9 ∨ i = 10 ∨ i = 11 ∨ i = 12 := by omega
  all_goals obtain rfl := Option.some.inj ho'
  ·have hsz0 : 0 < listed.size := by rw [hinv.size]; decide
   exact qd_ (C := fun w' => v6.grownBy w' (some bO)) (S := fun _ _ => True) (R := fun v' _ => TmR bA bH bO a n c p1 k ht 0 v') (J := fun a w' => TmI v6.heap.size bO ⟨⟨xh1, hb, ht, xf, hb⟩, id, none, 0, 0⟩ ht T k (listed.setIfInBounds 0 true) a w') (fun _ _ => trivial) hC (qa_ rfl) (qdq_ rfl (hinv.old' 5 (by kernel_rfl))) rfl (hI.keep 0 hsz0 (by decide) (by decide) (by decide) _ _ (by decide) (by decide))
  ·have hsz1 : 1 < listed.size := by rw [hinv.size]; decide
   exact qd_ (C := fun w' => v6.grownBy w' (some bO)) (S := fun _ _ => True) (R := fun v' _ => TmR bA bH bO a n c p1 k ht 1 v') (J := fun a w' => TmI v6.heap.size bO ⟨⟨xh1, hb, ht, xf, hb⟩, id, none, 0, 0⟩ ht T k (listed.setIfInBounds 1 true) a w') (fun _ _ => trivial) hC (qa_ rfl) (NN.qbj_ rfl (hinv.got 0 _ 55 rfl (hdep ⟨0, .data⟩ (by simp) rfl) rfl) cTx) rfl (hI.keep 1 hsz1 (by decide) (by decide) (by decide) _ _ (by decide) (by decide))
  ·have hsz : 2 < listed.size := by rw [hinv.size]; decide
   have h10 : (listed.setIfInBounds 2 true).getD 10 false = false := hinv.aheadT 12 (by kernel_rfl) hn (by decide) (by decide)
   have h12 : (listed.setIfInBounds 2 true).getD 12 false = false := hinv.aheadT 12 (by kernel_rfl) hn (by decide) (by decide)
   have h12' : listed.getD 12 false = false := by rw [← qk_ listed 2 12 hsz (by decide)]; exact h12
   have hbx : Below wx.heap.size wx (wx.alloc (.cells #[.int .i64 ht] 3)) := (Below.refl _ _).alloc (Nat.le_refl _) _
   refine qaf_ (C := fun w' => v6.grownBy w' (some bO)) (S := fun _ _ => True) (R := fun v' _ => TmR bA bH bO a n c p1 k ht 2 v') (J := fun a w' => TmI v6.heap.size bO ⟨⟨xh1, hb, ht, xf, hb⟩, id, none, 0, 0⟩ ht T k (listed.setIfInBounds 2 true) a w') (qa_ rfl) (qcw_ rfl (hinv.got 1 _ 56 rfl (hdep ⟨1, .data⟩ (by simp) rfl) rfl)) (qdc_ hC (qck_ hbx _)) trivial trivial ⟨fun _ _ => ⟨wx.heap.size, hlx, qbc_ a' 57 _ (by rw [hinv.tsize]; exact (show 57 < 68 by decide)), Has.new _ _⟩, fun e => (by rw [h10] at e; cases e), fun _ => (hI.2.2.1 h12').on hbx, fun e => (by rw [h12] at e; cases e)⟩
  ·have hsz3 : 3 < listed.size := by rw [hinv.size]; decide
   exact qd_ (C := fun w' => v6.grownBy w' (some bO)) (S := fun _ _ => True) (R := fun v' _ => TmR bA bH bO a n c p1 k ht 3 v') (J := fun a w' => TmI v6.heap.size bO ⟨⟨xh1, hb, ht, xf, hb⟩, id, none, 0, 0⟩ ht T k (listed.setIfInBounds 3 true) a w') (fun _ _ => trivial) hC (qa_ rfl) (qaw_ rfl (hinv.old' 4 (by kernel_rfl))) rfl (hI.keep 3 hsz3 (by decide) (by decide) (by decide) _ _ (by decide) (by decide))
  ·have hsz4 : 4 < listed.size := by rw [hinv.size]; decide
   exact qd_ (C := fun w' => v6.grownBy w' (some bO)) (S := fun _ _ => True) (R := fun v' _ => TmR bA bH bO a n c p1 k ht 4 v') (J := fun a w' => TmI v6.heap.size bO ⟨⟨xh1, hb, ht, xf, hb⟩, id, none, 0, 0⟩ ht T k (listed.setIfInBounds 4 true) a w') (fun _ _ => trivial) hC (qa_ rfl) (qbe_ rfl (hinv.got 3 _ 58 rfl (hdep ⟨3, .data⟩ (by simp) rfl) rfl) cAx) rfl (hI.keep 4 hsz4 (by decide) (by decide) (by decide) _ _ (by decide) (by decide))
  ·have hsz5 : 5 < listed.size := by rw [hinv.size]; decide
   exact qd_ (C := fun w' => v6.grownBy w' (some bO)) (S := fun _ _ => True) (R := fun v' _ => TmR bA bH bO a n c p1 k ht 5 v') (J := fun a w' => TmI v6.heap.size bO ⟨⟨xh1, hb, ht, xf, hb⟩, id, none, 0, 0⟩ ht T k (listed.setIfInBounds 5 true) a w') (fun _ _ => trivial) hC (qa_ rfl) (qaw_ rfl (hinv.old' 4 (by kernel_rfl))) rfl (hI.keep 5 hsz5 (by decide) (by decide) (by decide) _ _ (by decide) (by decide))
  ·have hsz6 : 6 < listed.size := by rw [hinv.size]; decide
   exact qd_ (C := fun w' => v6.grownBy w' (some bO)) (S := fun _ _ => True) (R := fun v' _ => TmR bA bH bO a n c p1 k ht 6 v') (J := fun a w' => TmI v6.heap.size bO ⟨⟨xh1, hb, ht, xf, hb⟩, id, none, 0, 0⟩ ht T k (listed.setIfInBounds 6 true) a w') (fun _ _ => trivial) hC (qa_ rfl) (qbe_ rfl (hinv.got 5 _ 60 rfl (hdep ⟨5, .data⟩ (by simp) rfl) rfl) cAx) rfl (hI.keep 6 hsz6 (by decide) (by decide) (by decide) _ _ (by decide) (by decide))
  ·have hsz7 : 7 < listed.size := by rw [hinv.size]; decide
   exact qd_ (C := fun w' => v6.grownBy w' (some bO)) (S := fun _ _ => True) (R := fun v' _ => TmR bA bH bO a n c p1 k ht 7 v') (J := fun a w' => TmI v6.heap.size bO ⟨⟨xh1, hb, ht, xf, hb⟩, id, none, 0, 0⟩ ht T k (listed.setIfInBounds 7 true) a w') (fun _ _ => trivial) hC (qa_ rfl) (ex_len rfl (hinv.got 6 _ 61 rfl (hdep ⟨6, .data⟩ (by simp) rfl) rfl)) rfl (hI.keep 7 hsz7 (by decide) (by decide) (by decide) _ _ (by decide) (by decide))
  ·have hsz8 : 8 < listed.size := by rw [hinv.size]; decide
   exact qd_ (C := fun w' => v6.grownBy w' (some bO)) (S := fun _ _ => True) (R := fun v' _ => TmR bA bH bO a n c p1 k ht 8 v') (J := fun a w' => TmI v6.heap.size bO ⟨⟨xh1, hb, ht, xf, hb⟩, id, none, 0, 0⟩ ht T k (listed.setIfInBounds 8 true) a w') (fun _ _ => trivial) hC (qa_ rfl) (ex_min rfl (hinv.got 7 _ 62 rfl (hdep ⟨7, .data⟩ (by simp) rfl) rfl) rfl hkm.out) rfl (hI.keep 8 hsz8 (by decide) (by decide) (by decide) _ _ (by decide) (by decide))
  ·have hsz9 : 9 < listed.size := by rw [hinv.size]; decide
   exact qd_ (C := fun w' => v6.grownBy w' (some bO)) (S := fun _ _ => True) (R := fun v' _ => TmR bA bH bO a n c p1 k ht 9 v') (J := fun a w' => TmI v6.heap.size bO ⟨⟨xh1, hb, ht, xf, hb⟩, id, none, 0, 0⟩ ht T k (listed.setIfInBounds 9 true) a w') (fun _ _ => trivial) hC (qa_ rfl) (qia_ rfl (hinv.got 4 _ 59 rfl (hdep ⟨4, .data⟩ (by simp) rfl) rfl) (hinv.got 8 _ 63 rfl (hdep ⟨8, .data⟩ (by simp) rfl) rfl) (hcut wx)) rfl (hI.keep 9 hsz9 (by decide) (by decide) (by decide) _ _ (by decide) (by decide))
  ·have hsz : 10 < listed.size := by rw [hinv.size]; decide
   have h12 : (listed.setIfInBounds 10 true).getD 12 false = false := hinv.aheadT 12 (by kernel_rfl) hn (by decide) (by decide)
   have h12' : listed.getD 12 false = false := by rw [← qk_ listed 10 12 hsz (by decide)]; exact h12
   obtain ⟨g, hgB, e57, hg⟩ := hI.1 (hdep ⟨2, .data⟩ (by simp) rfl) hn
   have e64 := (hinv.got 9 _ 64 rfl (hdep ⟨9, .data⟩ (by simp) rfl) rfl)
   have hLx := (HL1.out.below hs.be (Nat.le_refl _)).grown hC hs.be.size (.inr n5)
   obtain ⟨v', w', hr, hown', hgr⟩ := qft_ (lo := 0) (hi := w.heap.size) (ρ := a'.eval) (.tmp 57) (.tmp 64) v6.heap.size (.slice (some ⟨g, 0, none⟩) 1 1) 1 [ht] e57 (qgo_ hg hgB) p1 k c T e64 hn1 hln hLx m1 hlx
   obtain ⟨p8, c8, rfl⟩ := qbn_ hown'
   refine qaf_ (C := fun w' => v6.grownBy w' (some bO)) (S := fun _ _ => True) (R := fun v' _ => TmR bA bH bO a n c p1 k ht 10 v') (J := fun a w' => TmI v6.heap.size bO ⟨⟨xh1, hb, ht, xf, hb⟩, id, none, 0, 0⟩ ht T k (listed.setIfInBounds 10 true) a w') (qa_ rfl) (hr _ rfl rfl) (qmc_ hC hgr hgB) trivial trivial ⟨fun _ e => (by rw [qp_ _ _ _ hsz, if_pos rfl] at e; cases e), fun _ _ => ⟨p8, c8, qbc_ a' 65 _ (by rw [hinv.tsize]; exact (show 65 < 68 by decide)), hown'⟩, fun _ => gb_has hgr (hI.2.2.1 h12') (fun e => by have : bO = g := Option.some.inj e; omega), fun e => (by rw [h12] at e; cases e)⟩
  ·have hsz11 : 11 < listed.size := by rw [hinv.size]; decide
   exact qd_ (C := fun w' => v6.grownBy w' (some bO)) (S := fun _ _ => True) (R := fun v' _ => TmR bA bH bO a n c p1 k ht 11 v') (J := fun a w' => TmI v6.heap.size bO ⟨⟨xh1, hb, ht, xf, hb⟩, id, none, 0, 0⟩ ht T k (listed.setIfInBounds 11 true) a w') (fun _ _ => trivial) hC (qa_ rfl) (qaw_ rfl (hinv.old' 7 (by kernel_rfl))) rfl (hI.keep 11 hsz11 (by decide) (by decide) (by decide) _ _ (by decide) (by decide))
  ·have hsz : 12 < listed.size := by rw [hinv.size]; decide
   have l10 : listed.getD 10 false = true := hdep ⟨10, .data⟩ (by simp) rfl
   obtain ⟨p8, c8, e65, hown8⟩ := hI.2.1 l10 hn
   have hOx := hI.2.2.1 hn
   refine qx_ (C := fun w' => v6.grownBy w' (some bO)) (S := fun _ _ => True) (R := fun v' _ => TmR bA bH bO a n c p1 k ht 12 v') (J := fun a w' => TmI v6.heap.size bO ⟨⟨xh1, hb, ht, xf, hb⟩, id, none, 0, 0⟩ ht T k (listed.setIfInBounds 12 true) a w') (qa_ rfl) (qci_ rfl (hinv.got 11 _ 66 rfl (hdep ⟨11, .data⟩ (by simp) rfl) rfl) e65 (hOx.free 37) (hOx.sl i32)) (qbk_ hC 37 _) trivial trivial ⟨fun _ e => (by rw [qk_ _ _ _ hsz (by decide), l10] at e; cases e), fun _ e => (by rw [qp_ _ _ _ hsz, if_pos rfl] at e; cases e), fun e => (by rw [qp_ _ _ _ hsz, if_pos rfl] at e; cases e), fun _ => ⟨p8, c8, hOx.setS i32 p8 (1 + k) c8, hown8.kept (qcx_ _ _ _ _) (.inr (fun e => by have := (hown8.lt bO e).1; omega))⟩⟩
 intro listed a' v9 hall hinv
 obtain ⟨p8, c8, hO9, hown9⟩ := hinv.i.2.2.2 (hall 12 (by decide))
 have hC := hinv.c
 have e6 : a'.eval (.tmp 6) = .pointer (some ⟨bR, 0, none⟩) := hinv.old' 6 (by kernel_rfl)
 have e7 : a'.eval (.tmp 7) = .pointer (some ⟨bO, 0, none⟩) := hinv.old' 7 (by kernel_rfl)
 have hR9 : SpAt v9 bR spZ := gb_has hC hs.r (fun e => n4 (Option.some.inj e))
 have hB9 : Below w.heap.size w v9 := hs.be.trans (qcb_ hC n5 hs.be.size)
 have hRl : bR < v6.heap.size := hs.r.lt
 obtain ⟨g8, rfl, hc8⟩ := qfu_ hown9
 obtain ⟨q8, d8, eq8, _, _, hLie⟩ := MM.qca_ (l := ht :: T) hown9
 cases eq8
 have HLie := Lib.hid hLie
 have HB0 := Lib.hid hs.be.size
 obtain ⟨u, hu⟩ : ∃ u : Nat → Value, ∀ t, u t = a'.eval (.tmp t) := ⟨_, fun _ => rfl⟩
 rw [qbh_ a' 68 u hinv.tsize hinv.defers hu]
 rw [← hu] at e6 e7
 clear hu hinv hall hC hown9 hLie hs hO0 hcut hmin hn1 hln
 show Exit.then _ _ _ (⟨#[u 0, u 1, u 2, u 3, u 4, u 5, u 6, u 7, u 8, u 9, u 10, u 11, u 12, u 13, u 14, u 15, u 16, u 17, u 18, u 19, u 20, u 21, u 22, u 23, u 24, u 25, u 26, u 27, u 28, u 29, u 30, u 31, u 32, u 33, u 34, u 35, u 36, u 37, u 38, u 39, u 40, u 41, u 42, u 43, u 44, u 45, u 46, u 47, u 48, u 49, u 50, u 51, u 52, u 53, u 54, u 55, u 56, u 57, u 58, u 59, u 60, u 61, u 62, u 63, u 64, u 65, u 66, u 67], []⟩ : Act) _
 rw [e6, e7]
 clear e6 e7
 have zo : (spA ⟨⟨xh1, hb, ht, xf, hb⟩, id, some ⟨g8, 0, none⟩, 1 + k, c8⟩).size = 38 := qah_ i32
 have HX : Hid (spA ⟨⟨xh1, hb, ht, xf, hb⟩, id, some ⟨g8, 0, none⟩, 1 + k, c8⟩ = spA ⟨⟨xh1, hb, ht, xf, hb⟩, id, some ⟨g8, 0, none⟩, 1 + k, c8⟩) := Lib.hid rfl
 change SpAt v9 bO ⟨⟨xh1, hb, ht, xf, hb⟩, id, some ⟨g8, 0, none⟩, 1 + k, c8⟩ at hO9
 generalize hq : (⟨⟨xh1, hb, ht, xf, hb⟩, id, some ⟨g8, 0, none⟩, 1 + k, c8⟩ : Sp) = sq at hO9 zo
 have HQ := Lib.hid hq
 clear hq HX
 go_wp2_with (first
  | (with_reducible refine qlx_ rfl _ rfl bO rfl hO9 zo ?_)
  | (with_reducible refine qdm_ rfl _ _ rfl bR _ sq rfl rfl rfl zo hR9 z0 ?_))
 refine bodyPost_ret (v := .agg (spA sq)) (qdo_ Tryz.results25 _ bR rfl (Has.row hR9 _) zo) rfl ⟨g8, c8, by rw [← HQ.out], hc8, ?_, below_setRow hB9 HBR.out _⟩
 have hwd := HLie.out.wide (lo' := w.heap.size) (hi' := v9.heap.size) HB0.out (Nat.le_refl _)
 rw [setRow_size]
 exact HLie.out.on (fun q h1 _ => setRow_other v9 bR q _ (by omega)) |>.wide HB0.out (Nat.le_refl _)
theorem qjf_ (p : NN.Pr) (hz : (NN.prA p).size = 83) (xh xb xt xf xr : Int) (prev : List UInt8) (hp32 : prev.length = 32) (a : Option Addr) (n c : Nat) (h : Hd) (ho : h.ok) (id : List UInt8) (i32 : id.length = 32) (hb ht : Int) (eb : Hid (h.bits = hb)) (et : Hid (h.time = ht)) (e4 : Hid (p.easy = true)) (lim : Int) (e0 : Hid (p.lim = lim)) (t0 : (hb == lim) = false)
  (xh1 : Int) (wx : IntKind.i64.wrap (xh + 1) = xh1) (KS : Hid (Gv_ 50 #[.agg (NN.prA p), .int .i64 xh] (.bool false))) (KI : Hid (∀ w, Tab w → Ca_ 35 #[.agg (hdA h)] w (.agg (bytesV id))))
  (ts : List Int) (hl : ts.length = n) (hc : n ≤ c) (hmax : n < 9223372036854775808) (hnil : a = none → n = 0 ∧ c = 0) (k : Nat) (hk : k = min n 10) (w : World) (hT : Tab w) (hL : MM.Lie w 0 w.heap.size a ts) :
  Calls Tryz.prog 25 #[.agg (NN.prA p), .agg (spA ⟨⟨xh, xb, xt, xf, xr⟩, prev, a, n, c⟩), .agg (hdA h)] w fun r w' => ∃ b' c', r = .returned (.agg (spA ⟨⟨xh1, hb, ht, xf, hb⟩, id, some ⟨b', 0, none⟩, 1 + k, c'⟩)) ∧ 1 + k ≤ c' ∧ MM.Lie w' w.heap.size w'.heap.size (some ⟨b', 0, none⟩) (ht :: ts.take k) ∧ Below w.heap.size w w' := by
 have za := qq_ ho
 have so : (⟨⟨xh, xb, xt, xf, xr⟩, prev, a, n, c⟩ : Sp).ok := hp32
 have zs := qah_ so
 have z0 := qah_ spZ_ok
 have hTr : ∀ v, Below w.heap.size w v → Tab v := fun v hb => hT.below hb
 have HTr := Lib.hid hTr
 obtain ⟨p1, hcut, hL1, hnil1⟩ := qmb_ hl (by omega : k ≤ n) hc hL hnil
 have HL1 := Lib.hid hL1
 have HN1 := Lib.hid hnil1
 have hlen1 : (ts.take k).length = k := by simp; omega
 have HLN := Lib.hid hlen1
 have hmin := NN.min_is (P := Tryz.prog) (n : Int) 10 (k : Int) (by omega)
 have hk10 : k ≤ 10 := by omega
 have hkm : Hid ((k : Int) = min (n : Int) 10) := Lib.hid (by omega)
 generalize ts.take k = T at *
 clear hT hTr hL hL1 hnil hnil1 hlen1 hl hk
 go_enter Tryz.func25, Tryz.ntmps25
 go_upto_region 1 with fail
 generalize hw0 : World.alloc _ _ = v0
 obtain ⟨hB0, hP0, hA0, hH0, hR0⟩ : Below w.heap.size w v0 ∧ NN.PrAt v0 w.heap.size p ∧ SpAt v0 (w.heap.size + 1) ⟨⟨xh, xb, xt, xf, xr⟩, prev, a, n, c⟩ ∧ HdAt v0 (w.heap.size + 1 + 1) h ∧ SpAt v0 (w.heap.size + 1 + 1 + 1) spZ := by
  rw [← hw0]
  refine ⟨((((Below.refl _ _).alloc (Nat.le_refl _) _).alloc (by simp) _).alloc (by simp; omega) _).alloc (by simp; omega) _, (((NN.Has.new _ _).alloc _).alloc _).alloc _, ((Has.new1 _ _ _).alloc _).alloc _, (Has.new2 _ _ _ _).alloc _, ?_⟩
  have := qeh_ (((w.alloc (.cells (NN.prA p) 32)).alloc (.cells (spA ⟨⟨xh, xb, xt, xf, xr⟩, prev, a, n, c⟩) 69)).alloc (.cells (hdA h) 30))
  simpa using this
 clear hw0
 obtain ⟨bP, hbP⟩ : ∃ b, b = w.heap.size := ⟨_, rfl⟩
 obtain ⟨bA, hbA⟩ : ∃ b, b = w.heap.size + 1 := ⟨_, rfl⟩
 obtain ⟨bH, hbH⟩ : ∃ b, b = w.heap.size + 1 + 1 := ⟨_, rfl⟩
 obtain ⟨bR, hbR⟩ : ∃ b, b = w.heap.size + 1 + 1 + 1 := ⟨_, rfl⟩
 rw [← hbR] at hR0 ⊢
 rw [← hbH] at hH0 ⊢
 rw [← hbA] at hA0 ⊢
 rw [← hbP] at hP0 ⊢
 have hR1 := hR0.lt
 have HBR : Hid (w.heap.size ≤ bR) := Lib.hid (by omega)
 have HO : Hid (∀ bO, v0.heap.size ≤ bO → bP ≠ bO ∧ bA ≠ bO ∧ bH ≠ bO ∧ bR ≠ bO ∧ w.heap.size ≤ bO) := Lib.hid (fun bO hO => by omega)
 clear hbP hbA hbH hbR hR1
 -- the new spot
 refine ql_ (by kernel_rfl) (fun w' => Below v0.heap.size v0 w') (fun i v' w' => MkR v0.heap.size bA ⟨⟨xh, xb, xt, xf, xr⟩, prev, a, n, c⟩ h ⟨⟨xh, xb, xt, xf, xr⟩, id, none, 0, 0⟩ i v' w') (fun l a w' => DoneS 6 7 v0.heap.size ⟨⟨xh, xb, xt, xf, xr⟩, id, none, 0, 0⟩ l a w') (SpStep v0.heap.size) (fun _ _ => SpStep.refl _ _) (fun _ _ _ _ _ hs h => qfs_ _ _ _ _ hs h) (by kernel_rfl) (Below.refl _ _).drew ?_ ?_ ?_
 ·exact fun l hl => fun hk => (by rw [hl] at hk; cases hk)
 ·intro i o listed a wx ho' hn hdep hinv
  have hC := hinv.c
  have hi : i < 7 := (Array.getElem?_eq_some_iff.1 ho').1
  have zn : (spA ⟨⟨xh, xb, xt, xf, xr⟩, id, none, 0, 0⟩).size = 38 := qah_ i32
  obtain rfl | rfl | rfl | rfl | rfl | rfl | rfl : i = 0 ∨ i = 1 ∨ i = 2 ∨ i = 3 ∨ i = 4 ∨ i = 5 ∨ i = 6 := by omega
  all_goals obtain rfl := Option.some.inj ho'
  ·exact qd_ ((fun _ _ => SpStep.refl _ _)) hC (qa_ rfl) (qep_ rfl (hinv.old' 4 (by kernel_rfl))) rfl (DoneS.pre (hinv.aheadT 6 (by kernel_rfl) hn (by decide) (by decide)))
  ·exact qd_ ((fun _ _ => SpStep.refl _ _)) hC (qa_ rfl) (qeq_ rfl (hinv.got 0 _ 9 rfl (hdep ⟨0, .data⟩ (by simp) rfl) rfl) (hA0.on hC).pt) rfl (DoneS.pre (hinv.aheadT 6 (by kernel_rfl) hn (by decide) (by decide)))
  ·exact qd_ ((fun _ _ => SpStep.refl _ _)) hC (qa_ rfl) (qer_ rfl (hinv.old' 5 (by kernel_rfl)) (hH0.on hC) za) rfl (DoneS.pre (hinv.aheadT 6 (by kernel_rfl) hn (by decide) (by decide)))
  ·have e11 := hinv.got 2 _ 11 rfl (hdep ⟨2, .data⟩ (by simp) rfl) rfl
   exact qam_ (qa_ rfl) (f := 35) (args := #[a.eval (.tmp 11)]) (by kernel_rfl) (by rw [show a.eval (.tmp 11) = _ from e11]; exact KI.out wx (HTr.out wx (hB0.trans (hC.mono hB0.size)))) (fun w' hb => ⟨hC.trans (hb.mono hC.size), SpStep.below hb, rfl, DoneS.pre (hinv.aheadT 6 (by kernel_rfl) hn (by decide) (by decide))⟩)
  ·exact qd_ ((fun _ _ => SpStep.refl _ _)) hC (qa_ rfl) (qeb_ rfl (hinv.got 1 _ 10 rfl (hdep ⟨1, .data⟩ (by simp) rfl) rfl) (hinv.got 3 _ 12 rfl (hdep ⟨3, .data⟩ (by simp) rfl) rfl) i32) rfl (DoneS.pre (hinv.aheadT 6 (by kernel_rfl) hn (by decide) (by decide)))
  ·have hbel' : Below wx.heap.size wx (wx.alloc (.cells (spA spZ) 69)) := (Below.refl _ _).alloc (Nat.le_refl _) _
   exact qaf_ (qa_ rfl) (qdz_ rfl) (hC.trans (hbel'.mono hC.size)) (SpStep.below hbel') ⟨wx.heap.size, spA spZ, hC.size, rfl, Has.new _ _, z0⟩ (DoneS.pre (hinv.aheadT 6 (by kernel_rfl) hn (by decide) (by decide)))
  ·obtain ⟨b, cs, hb, he, hh, hsz⟩ := hinv.got 5 _ 7 rfl (hdep ⟨5, .data⟩ (by simp) rfl) rfl
   exact qx_ (qa_ rfl) (qea_ rfl he (hinv.got 4 _ 13 rfl (hdep ⟨4, .data⟩ (by simp) rfl) rfl) hh hsz zn) (below_setRow hC hb _) (SpStep.row hh zn) trivial (fun _ => ⟨b, hb, he, Has.row hh _⟩)
 intro listed a' v1 hall hinv
 have hC := hinv.c
 obtain ⟨bO, hbO, e7, hO⟩ := hinv.i (hall 6 (by decide))
 have e3 : a'.eval (.tmp 3) = .pointer (some ⟨bP, 0, none⟩) := hinv.old' 3 (by kernel_rfl)
 have e4' : a'.eval (.tmp 4) = .pointer (some ⟨bA, 0, none⟩) := hinv.old' 4 (by kernel_rfl)
 have e5 : a'.eval (.tmp 5) = .pointer (some ⟨bH, 0, none⟩) := hinv.old' 5 (by kernel_rfl)
 have e6 : a'.eval (.tmp 6) = .pointer (some ⟨bR, 0, none⟩) := hinv.old' 6 (by kernel_rfl)
 obtain ⟨n1, n2, n3, n4, n5⟩ := HO.out bO hbO
 have hs : BhS w v1 bP bA bH bR bO p ⟨⟨xh, xb, xt, xf, xr⟩, prev, a, n, c⟩ h ⟨⟨xh, xb, xt, xf, xr⟩, id, none, 0, 0⟩ := ⟨hB0.trans (hC.mono hB0.size), hP0.on hC, hA0.on hC, hH0.on hC, hR0.on hC, hO⟩
 obtain ⟨u, hu⟩ : ∃ u : Nat → Value, ∀ t, u t = a'.eval (.tmp t) := ⟨_, fun _ => rfl⟩
 rw [qbh_ a' 68 u hinv.tsize hinv.defers hu]
 rw [← hu] at e3 e4' e5 e6 e7
 clear hu hinv hall hC hbO hO HO hB0 hP0 hA0 hH0 hR0
 show Exit.then _ _ _ (⟨#[u 0, u 1, u 2, u 3, u 4, u 5, u 6, u 7, u 8, u 9, u 10, u 11, u 12, u 13, u 14, u 15, u 16, u 17, u 18, u 19, u 20, u 21, u 22, u 23, u 24, u 25, u 26, u 27, u 28, u 29, u 30, u 31, u 32, u 33, u 34, u 35, u 36, u 37, u 38, u 39, u 40, u 41, u 42, u 43, u 44, u 45, u 46, u 47, u 48, u 49, u 50, u 51, u 52, u 53, u 54, u 55, u 56, u 57, u 58, u 59, u 60, u 61, u 62, u 63, u 64, u 65, u 66, u 67], []⟩ : Act) _
 rw [e3, e4', e5, e6, e7]
 clear e3 e4' e5 e6 e7
 have c0 := hs.a.c0 (z := xh) (Lib.hid rfl)
 have hpp := hs.p
 go_wp2_with (with_reducible refine NN.qh_ rfl _ rfl _ rfl hpp hz ?_)
 refine (KS.out _).mono ?_
 rintro r v2 ⟨rfl, hb2⟩
 replace hs := hs.on hb2
 clear hb2 c0 hpp
 have cH := hs.h.bits ho
 rw [eb.out] at cH
 have cT := hs.h.time ho
 rw [et.out] at cT
 have c := hs.o.c0 (z := xh) (Lib.hid rfl)
 have f := hs.o.free 0
 have hX := hs.o.setH xh1
 replace hs := hs.put 0 _ hX n1 n2 n3 n4 n5
 clear hX
 go_upto_region 4 with fail
 generalize World.setCell _ _ _ = v3 at *
 clear c f cH cT
 have cH := hs.h.bits ho
 rw [eb.out] at cH
 have cT := hs.h.time ho
 rw [et.out] at cT
 have c := hs.o.c1 (z := xb) (Lib.hid rfl)
 have f := hs.o.free 1
 have hX := hs.o.setB hb
 replace hs := hs.put 1 _ hX n1 n2 n3 n4 n5
 clear hX
 go_upto_region 5 with fail
 generalize World.setCell _ _ _ = v4 at *
 clear c f cH cT
 have cH := hs.h.bits ho
 rw [eb.out] at cH
 have cT := hs.h.time ho
 rw [et.out] at cT
 have c := hs.o.c2 (z := xt) (Lib.hid rfl)
 have f := hs.o.free 2
 have hX := hs.o.setT ht
 replace hs := hs.put 2 _ hX n1 n2 n3 n4 n5
 clear hX
 go_upto_region 6 with fail
 generalize World.setCell _ _ _ = v5 at *
 clear c f cH cT
 have cH := hs.h.bits ho
 rw [eb.out] at cH
 have cT := hs.h.time ho
 rw [et.out] at cT
 have cE := hs.p.c4 e4
 have cL := hs.p.c0 e0
 have c := hs.o.c4 (z := xr) (Lib.hid rfl)
 have f := hs.o.free 4
 have hX := hs.o.setR hb
 replace hs := hs.put 4 _ hX n1 n2 n3 n4 n5
 clear hX
 go_upto_region 10 with fail
 generalize World.setCell _ _ _ = v6 at *
 clear c f cH cT
 have cH := hs.h.bits ho
 rw [eb.out] at cH
 have cT := hs.h.time ho
 rw [et.out] at cT
 have hO0 := hs.o
 have hOl : bO < v6.heap.size := hO0.lt
 have hn1 := HN1.out
 have hln := HLN.out
 have m1 : 1 + k ≤ 1000 := by omega
 refine ql_ (by kernel_rfl) (fun w' => v6.grownBy w' (some bO)) (fun i v' _ => TmR bA bH bO a n c p1 k ht i v') (fun l a w' => TmI v6.heap.size bO ⟨⟨xh1, hb, ht, xf, hb⟩, id, none, 0, 0⟩ ht T k l a w') (fun _ _ => True) (fun _ _ => trivial) (fun _ _ _ _ _ _ h => h) (by kernel_rfl) (qck_ (Below.refl _ _).drew _) ?_ ?_ ?_
 ·exact fun l hl => ⟨fun h => (by rw [hl] at h; cases h), fun h => (by rw [hl] at h; cases h), fun _ => Has.drew hO0, fun h => (by rw [hl] at h; cases h)⟩
 ·intro i o listed a' wx ho' hn hdep hinv
  have hC := hinv.c
  have hI := hinv.i
  have hi : i < 13 := (Array.getElem?_eq_some_iff.1 ho').1
  have hHx : HdAt wx bH h := gb_has hC hs.h (fun e => n3 (Option.some.inj e))
  have hAx : SpAt wx bA ⟨⟨xh, xb, xt, xf, xr⟩, prev, a, n, c⟩ := gb_has hC hs.a (fun e => n2 (Option.some.inj e))
  have cTx := hHx.time ho
  rw [et.out] at cTx
  have cAx := hAx.sl so
  have hlx : v6.heap.size ≤ wx.heap.size := hC.size
  obtain rfl | rfl | rfl | rfl | rfl | rfl | rfl | rfl | rfl | rfl | rfl | rfl | rfl : i = 0 ∨ i = 1 ∨ i = 2 ∨ i = 3 ∨ i = 4 ∨ i = 5 ∨ i = 6 ∨ i = 7 ∨ i = 8 ∨ i = 9 ∨ i = 10 ∨ i = 11 ∨ i = 12 := by omega
  all_goals obtain rfl := Option.some.inj ho'
  ·have hsz0 : 0 < listed.size := by rw [hinv.size]; decide
   exact qd_ (C := fun w' => v6.grownBy w' (some bO)) (S := fun _ _ => True) (R := fun v' _ => TmR bA bH bO a n c p1 k ht 0 v') (J := fun a w' => TmI v6.heap.size bO ⟨⟨xh1, hb, ht, xf, hb⟩, id, none, 0, 0⟩ ht T k (listed.setIfInBounds 0 true) a w') (fun _ _ => trivial) hC (qa_ rfl) (qdq_ rfl (hinv.old' 5 (by kernel_rfl))) rfl (hI.keep 0 hsz0 (by decide) (by decide) (by decide) _ _ (by decide) (by decide))
  ·have hsz1 : 1 < listed.size := by rw [hinv.size]; decide
   exact qd_ (C := fun w' => v6.grownBy w' (some bO)) (S := fun _ _ => True) (R := fun v' _ => TmR bA bH bO a n c p1 k ht 1 v') (J := fun a w' => TmI v6.heap.size bO ⟨⟨xh1, hb, ht, xf, hb⟩, id, none, 0, 0⟩ ht T k (listed.setIfInBounds 1 true) a w') (fun _ _ => trivial) hC (qa_ rfl) (NN.qbj_ rfl (hinv.got 0 _ 55 rfl (hdep ⟨0, .data⟩ (by simp) rfl) rfl) cTx) rfl (hI.keep 1 hsz1 (by decide) (by decide) (by decide) _ _ (by decide) (by decide))
  ·have hsz : 2 < listed.size := by rw [hinv.size]; decide
   have h10 : (listed.setIfInBounds 2 true).getD 10 false = false := hinv.aheadT 12 (by kernel_rfl) hn (by decide) (by decide)
   have h12 : (listed.setIfInBounds 2 true).getD 12 false = false := hinv.aheadT 12 (by kernel_rfl) hn (by decide) (by decide)
   have h12' : listed.getD 12 false = false := by rw [← qk_ listed 2 12 hsz (by decide)]; exact h12
   have hbx : Below wx.heap.size wx (wx.alloc (.cells #[.int .i64 ht] 3)) := (Below.refl _ _).alloc (Nat.le_refl _) _
   refine qaf_ (C := fun w' => v6.grownBy w' (some bO)) (S := fun _ _ => True) (R := fun v' _ => TmR bA bH bO a n c p1 k ht 2 v') (J := fun a w' => TmI v6.heap.size bO ⟨⟨xh1, hb, ht, xf, hb⟩, id, none, 0, 0⟩ ht T k (listed.setIfInBounds 2 true) a w') (qa_ rfl) (qcw_ rfl (hinv.got 1 _ 56 rfl (hdep ⟨1, .data⟩ (by simp) rfl) rfl)) (qdc_ hC (qck_ hbx _)) trivial trivial ⟨fun _ _ => ⟨wx.heap.size, hlx, qbc_ a' 57 _ (by rw [hinv.tsize]; exact (show 57 < 68 by decide)), Has.new _ _⟩, fun e => (by rw [h10] at e; cases e), fun _ => (hI.2.2.1 h12').on hbx, fun e => (by rw [h12] at e; cases e)⟩
  ·have hsz3 : 3 < listed.size := by rw [hinv.size]; decide
   exact qd_ (C := fun w' => v6.grownBy w' (some bO)) (S := fun _ _ => True) (R := fun v' _ => TmR bA bH bO a n c p1 k ht 3 v') (J := fun a w' => TmI v6.heap.size bO ⟨⟨xh1, hb, ht, xf, hb⟩, id, none, 0, 0⟩ ht T k (listed.setIfInBounds 3 true) a w') (fun _ _ => trivial) hC (qa_ rfl) (qaw_ rfl (hinv.old' 4 (by kernel_rfl))) rfl (hI.keep 3 hsz3 (by decide) (by decide) (by decide) _ _ (by decide) (by decide))
  ·have hsz4 : 4 < listed.size := by rw [hinv.size]; decide
   exact qd_ (C := fun w' => v6.grownBy w' (some bO)) (S := fun _ _ => True) (R := fun v' _ => TmR bA bH bO a n c p1 k ht 4 v') (J := fun a w' => TmI v6.heap.size bO ⟨⟨xh1, hb, ht, xf, hb⟩, id, none, 0, 0⟩ ht T k (listed.setIfInBounds 4 true) a w') (fun _ _ => trivial) hC (qa_ rfl) (qbe_ rfl (hinv.got 3 _ 58 rfl (hdep ⟨3, .data⟩ (by simp) rfl) rfl) cAx) rfl (hI.keep 4 hsz4 (by decide) (by decide) (by decide) _ _ (by decide) (by decide))
  ·have hsz5 : 5 < listed.size := by rw [hinv.size]; decide
   exact qd_ (C := fun w' => v6.grownBy w' (some bO)) (S := fun _ _ => True) (R := fun v' _ => TmR bA bH bO a n c p1 k ht 5 v') (J := fun a w' => TmI v6.heap.size bO ⟨⟨xh1, hb, ht, xf, hb⟩, id, none, 0, 0⟩ ht T k (listed.setIfInBounds 5 true) a w') (fun _ _ => trivial) hC (qa_ rfl) (qaw_ rfl (hinv.old' 4 (by kernel_rfl))) rfl (hI.keep 5 hsz5 (by decide) (by decide) (by decide) _ _ (by decide) (by decide))
  ·have hsz6 : 6 < listed.size := by rw [hinv.size]; decide
   exact qd_ (C := fun w' => v6.grownBy w' (some bO)) (S := fun _ _ => True) (R := fun v' _ => TmR bA bH bO a n c p1 k ht 6 v') (J := fun a w' => TmI v6.heap.size bO ⟨⟨xh1, hb, ht, xf, hb⟩, id, none, 0, 0⟩ ht T k (listed.setIfInBounds 6 true) a w') (fun _ _ => trivial) hC (qa_ rfl) (qbe_ rfl (hinv.got 5 _ 60 rfl (hdep ⟨5, .data⟩ (by simp) rfl) rfl) cAx) rfl (hI.keep 6 hsz6 (by decide) (by decide) (by decide) _ _ (by decide) (by decide))
  ·have hsz7 : 7 < listed.size := by rw [hinv.size]; decide
   exact qd_ (C := fun w' => v6.grownBy w' (some bO)) (S := fun _ _ => True) (R := fun v' _ => TmR bA bH bO a n c p1 k ht 7 v') (J := fun a w' => TmI v6.heap.size bO ⟨⟨xh1, hb, ht, xf, hb⟩, id, none, 0, 0⟩ ht T k (listed.setIfInBounds 7 true) a w') (fun _ _ => trivial) hC (qa_ rfl) (ex_len rfl (hinv.got 6 _ 61 rfl (hdep ⟨6, .data⟩ (by simp) rfl) rfl)) rfl (hI.keep 7 hsz7 (by decide) (by decide) (by decide) _ _ (by decide) (by decide))
  ·have hsz8 : 8 < listed.size := by rw [hinv.size]; decide
   exact qd_ (C := fun w' => v6.grownBy w' (some bO)) (S := fun _ _ => True) (R := fun v' _ => TmR bA bH bO a n c p1 k ht 8 v') (J := fun a w' => TmI v6.heap.size bO ⟨⟨xh1, hb, ht, xf, hb⟩, id, none, 0, 0⟩ ht T k (listed.setIfInBounds 8 true) a w') (fun _ _ => trivial) hC (qa_ rfl) (ex_min rfl (hinv.got 7 _ 62 rfl (hdep ⟨7, .data⟩ (by simp) rfl) rfl) rfl hkm.out) rfl (hI.keep 8 hsz8 (by decide) (by decide) (by decide) _ _ (by decide) (by decide))
  ·have hsz9 : 9 < listed.size := by rw [hinv.size]; decide
   exact qd_ (C := fun w' => v6.grownBy w' (some bO)) (S := fun _ _ => True) (R := fun v' _ => TmR bA bH bO a n c p1 k ht 9 v') (J := fun a w' => TmI v6.heap.size bO ⟨⟨xh1, hb, ht, xf, hb⟩, id, none, 0, 0⟩ ht T k (listed.setIfInBounds 9 true) a w') (fun _ _ => trivial) hC (qa_ rfl) (qia_ rfl (hinv.got 4 _ 59 rfl (hdep ⟨4, .data⟩ (by simp) rfl) rfl) (hinv.got 8 _ 63 rfl (hdep ⟨8, .data⟩ (by simp) rfl) rfl) (hcut wx)) rfl (hI.keep 9 hsz9 (by decide) (by decide) (by decide) _ _ (by decide) (by decide))
  ·have hsz : 10 < listed.size := by rw [hinv.size]; decide
   have h12 : (listed.setIfInBounds 10 true).getD 12 false = false := hinv.aheadT 12 (by kernel_rfl) hn (by decide) (by decide)
   have h12' : listed.getD 12 false = false := by rw [← qk_ listed 10 12 hsz (by decide)]; exact h12
   obtain ⟨g, hgB, e57, hg⟩ := hI.1 (hdep ⟨2, .data⟩ (by simp) rfl) hn
   have e64 := (hinv.got 9 _ 64 rfl (hdep ⟨9, .data⟩ (by simp) rfl) rfl)
   have hLx := (HL1.out.below hs.be (Nat.le_refl _)).grown hC hs.be.size (.inr n5)
   obtain ⟨v', w', hr, hown', hgr⟩ := qft_ (lo := 0) (hi := w.heap.size) (ρ := a'.eval) (.tmp 57) (.tmp 64) v6.heap.size (.slice (some ⟨g, 0, none⟩) 1 1) 1 [ht] e57 (qgo_ hg hgB) p1 k c T e64 hn1 hln hLx m1 hlx
   obtain ⟨p8, c8, rfl⟩ := qbn_ hown'
   refine qaf_ (C := fun w' => v6.grownBy w' (some bO)) (S := fun _ _ => True) (R := fun v' _ => TmR bA bH bO a n c p1 k ht 10 v') (J := fun a w' => TmI v6.heap.size bO ⟨⟨xh1, hb, ht, xf, hb⟩, id, none, 0, 0⟩ ht T k (listed.setIfInBounds 10 true) a w') (qa_ rfl) (hr _ rfl rfl) (qmc_ hC hgr hgB) trivial trivial ⟨fun _ e => (by rw [qp_ _ _ _ hsz, if_pos rfl] at e; cases e), fun _ _ => ⟨p8, c8, qbc_ a' 65 _ (by rw [hinv.tsize]; exact (show 65 < 68 by decide)), hown'⟩, fun _ => gb_has hgr (hI.2.2.1 h12') (fun e => by have : bO = g := Option.some.inj e; omega), fun e => (by rw [h12] at e; cases e)⟩
  ·have hsz11 : 11 < listed.size := by rw [hinv.size]; decide
   exact qd_ (C := fun w' => v6.grownBy w' (some bO)) (S := fun _ _ => True) (R := fun v' _ => TmR bA bH bO a n c p1 k ht 11 v') (J := fun a w' => TmI v6.heap.size bO ⟨⟨xh1, hb, ht, xf, hb⟩, id, none, 0, 0⟩ ht T k (listed.setIfInBounds 11 true) a w') (fun _ _ => trivial) hC (qa_ rfl) (qaw_ rfl (hinv.old' 7 (by kernel_rfl))) rfl (hI.keep 11 hsz11 (by decide) (by decide) (by decide) _ _ (by decide) (by decide))
  ·have hsz : 12 < listed.size := by rw [hinv.size]; decide
   have l10 : listed.getD 10 false = true := hdep ⟨10, .data⟩ (by simp) rfl
   obtain ⟨p8, c8, e65, hown8⟩ := hI.2.1 l10 hn
   have hOx := hI.2.2.1 hn
   refine qx_ (C := fun w' => v6.grownBy w' (some bO)) (S := fun _ _ => True) (R := fun v' _ => TmR bA bH bO a n c p1 k ht 12 v') (J := fun a w' => TmI v6.heap.size bO ⟨⟨xh1, hb, ht, xf, hb⟩, id, none, 0, 0⟩ ht T k (listed.setIfInBounds 12 true) a w') (qa_ rfl) (qci_ rfl (hinv.got 11 _ 66 rfl (hdep ⟨11, .data⟩ (by simp) rfl) rfl) e65 (hOx.free 37) (hOx.sl i32)) (qbk_ hC 37 _) trivial trivial ⟨fun _ e => (by rw [qk_ _ _ _ hsz (by decide), l10] at e; cases e), fun _ e => (by rw [qp_ _ _ _ hsz, if_pos rfl] at e; cases e), fun e => (by rw [qp_ _ _ _ hsz, if_pos rfl] at e; cases e), fun _ => ⟨p8, c8, hOx.setS i32 p8 (1 + k) c8, hown8.kept (qcx_ _ _ _ _) (.inr (fun e => by have := (hown8.lt bO e).1; omega))⟩⟩
 intro listed a' v9 hall hinv
 obtain ⟨p8, c8, hO9, hown9⟩ := hinv.i.2.2.2 (hall 12 (by decide))
 have hC := hinv.c
 have e6 : a'.eval (.tmp 6) = .pointer (some ⟨bR, 0, none⟩) := hinv.old' 6 (by kernel_rfl)
 have e7 : a'.eval (.tmp 7) = .pointer (some ⟨bO, 0, none⟩) := hinv.old' 7 (by kernel_rfl)
 have hR9 : SpAt v9 bR spZ := gb_has hC hs.r (fun e => n4 (Option.some.inj e))
 have hB9 : Below w.heap.size w v9 := hs.be.trans (qcb_ hC n5 hs.be.size)
 have hRl : bR < v6.heap.size := hs.r.lt
 obtain ⟨g8, rfl, hc8⟩ := qfu_ hown9
 obtain ⟨q8, d8, eq8, _, _, hLie⟩ := MM.qca_ (l := ht :: T) hown9
 cases eq8
 have HLie := Lib.hid hLie
 have HB0 := Lib.hid hs.be.size
 obtain ⟨u, hu⟩ : ∃ u : Nat → Value, ∀ t, u t = a'.eval (.tmp t) := ⟨_, fun _ => rfl⟩
 rw [qbh_ a' 68 u hinv.tsize hinv.defers hu]
 rw [← hu] at e6 e7
 clear hu hinv hall hC hown9 hLie hs hO0 hcut hmin hn1 hln
 show Exit.then _ _ _ (⟨#[u 0, u 1, u 2, u 3, u 4, u 5, u 6, u 7, u 8, u 9, u 10, u 11, u 12, u 13, u 14, u 15, u 16, u 17, u 18, u 19, u 20, u 21, u 22, u 23, u 24, u 25, u 26, u 27, u 28, u 29, u 30, u 31, u 32, u 33, u 34, u 35, u 36, u 37, u 38, u 39, u 40, u 41, u 42, u 43, u 44, u 45, u 46, u 47, u 48, u 49, u 50, u 51, u 52, u 53, u 54, u 55, u 56, u 57, u 58, u 59, u 60, u 61, u 62, u 63, u 64, u 65, u 66, u 67], []⟩ : Act) _
 rw [e6, e7]
 clear e6 e7
 have zo : (spA ⟨⟨xh1, hb, ht, xf, hb⟩, id, some ⟨g8, 0, none⟩, 1 + k, c8⟩).size = 38 := qah_ i32
 have HX : Hid (spA ⟨⟨xh1, hb, ht, xf, hb⟩, id, some ⟨g8, 0, none⟩, 1 + k, c8⟩ = spA ⟨⟨xh1, hb, ht, xf, hb⟩, id, some ⟨g8, 0, none⟩, 1 + k, c8⟩) := Lib.hid rfl
 change SpAt v9 bO ⟨⟨xh1, hb, ht, xf, hb⟩, id, some ⟨g8, 0, none⟩, 1 + k, c8⟩ at hO9
 generalize hq : (⟨⟨xh1, hb, ht, xf, hb⟩, id, some ⟨g8, 0, none⟩, 1 + k, c8⟩ : Sp) = sq at hO9 zo
 have HQ := Lib.hid hq
 clear hq HX
 go_wp2_with (first
  | (with_reducible refine qlx_ rfl _ rfl bO rfl hO9 zo ?_)
  | (with_reducible refine qdm_ rfl _ _ rfl bR _ sq rfl rfl rfl zo hR9 z0 ?_))
 refine bodyPost_ret (v := .agg (spA sq)) (qdo_ Tryz.results25 _ bR rfl (Has.row hR9 _) zo) rfl ⟨g8, c8, by rw [← HQ.out], hc8, ?_, below_setRow hB9 HBR.out _⟩
 have hwd := HLie.out.wide (lo' := w.heap.size) (hi' := v9.heap.size) HB0.out (Nat.le_refl _)
 rw [setRow_size]
 exact HLie.out.on (fun q h1 _ => setRow_other v9 bR q _ (by omega)) |>.wide HB0.out (Nat.le_refl _)
theorem qni_ (p : NN.Pr) (hz : (NN.prA p).size = 83) (xh xb xt xf xr : Int) (prev : List UInt8) (hp32 : prev.length = 32) (a : Option Addr) (n c : Nat) (h : Hd) (ho : h.ok) (id : List UInt8) (i32 : id.length = 32) (hb ht : Int) (eb : Hid (h.bits = hb)) (et : Hid (h.time = ht)) (e4 : Hid (p.easy = true)) (lim : Int) (e0 : Hid (p.lim = lim)) (t0 : (hb == lim) = true)
  (xh1 : Int) (wx : IntKind.i64.wrap (xh + 1) = xh1) (KS : Hid (Gv_ 50 #[.agg (NN.prA p), .int .i64 xh] (.bool false))) (KI : Hid (∀ w, Tab w → Ca_ 35 #[.agg (hdA h)] w (.agg (bytesV id))))
  (ts : List Int) (hl : ts.length = n) (hc : n ≤ c) (hmax : n < 9223372036854775808) (hnil : a = none → n = 0 ∧ c = 0) (k : Nat) (hk : k = min n 10) (w : World) (hT : Tab w) (hL : MM.Lie w 0 w.heap.size a ts) :
  Calls Tryz.prog 25 #[.agg (NN.prA p), .agg (spA ⟨⟨xh, xb, xt, xf, xr⟩, prev, a, n, c⟩), .agg (hdA h)] w fun r w' => ∃ b' c', r = .returned (.agg (spA ⟨⟨xh1, hb, ht, xf, xr⟩, id, some ⟨b', 0, none⟩, 1 + k, c'⟩)) ∧ 1 + k ≤ c' ∧ MM.Lie w' w.heap.size w'.heap.size (some ⟨b', 0, none⟩) (ht :: ts.take k) ∧ Below w.heap.size w w' := by
 have za := qq_ ho
 have so : (⟨⟨xh, xb, xt, xf, xr⟩, prev, a, n, c⟩ : Sp).ok := hp32
 have zs := qah_ so
 have z0 := qah_ spZ_ok
 have hTr : ∀ v, Below w.heap.size w v → Tab v := fun v hb => hT.below hb
 have HTr := Lib.hid hTr
 obtain ⟨p1, hcut, hL1, hnil1⟩ := qmb_ hl (by omega : k ≤ n) hc hL hnil
 have HL1 := Lib.hid hL1
 have HN1 := Lib.hid hnil1
 have hlen1 : (ts.take k).length = k := by simp; omega
 have HLN := Lib.hid hlen1
 have hmin := NN.min_is (P := Tryz.prog) (n : Int) 10 (k : Int) (by omega)
 have hk10 : k ≤ 10 := by omega
 have hkm : Hid ((k : Int) = min (n : Int) 10) := Lib.hid (by omega)
 generalize ts.take k = T at *
 clear hT hTr hL hL1 hnil hnil1 hlen1 hl hk
 go_enter Tryz.func25, Tryz.ntmps25
 go_upto_region 1 with fail
 generalize hw0 : World.alloc _ _ = v0
 obtain ⟨hB0, hP0, hA0, hH0, hR0⟩ : Below w.heap.size w v0 ∧ NN.PrAt v0 w.heap.size p ∧ SpAt v0 (w.heap.size + 1) ⟨⟨xh, xb, xt, xf, xr⟩, prev, a, n, c⟩ ∧ HdAt v0 (w.heap.size + 1 + 1) h ∧ SpAt v0 (w.heap.size + 1 + 1 + 1) spZ := by
  rw [← hw0]
  refine ⟨((((Below.refl _ _).alloc (Nat.le_refl _) _).alloc (by simp) _).alloc (by simp; omega) _).alloc (by simp; omega) _, (((NN.Has.new _ _).alloc _).alloc _).alloc _, ((Has.new1 _ _ _).alloc _).alloc _, (Has.new2 _ _ _ _).alloc _, ?_⟩
  have := qeh_ (((w.alloc (.cells (NN.prA p) 32)).alloc (.cells (spA ⟨⟨xh, xb, xt, xf, xr⟩, prev, a, n, c⟩) 69)).alloc (.cells (hdA h) 30))
  simpa using this
 clear hw0
 obtain ⟨bP, hbP⟩ : ∃ b, b = w.heap.size := ⟨_, rfl⟩
 obtain ⟨bA, hbA⟩ : ∃ b, b = w.heap.size + 1 := ⟨_, rfl⟩
 obtain ⟨bH, hbH⟩ : ∃ b, b = w.heap.size + 1 + 1 := ⟨_, rfl⟩
 obtain ⟨bR, hbR⟩ : ∃ b, b = w.heap.size + 1 + 1 + 1 := ⟨_, rfl⟩
 rw [← hbR] at hR0 ⊢
 rw [← hbH] at hH0 ⊢
 rw [← hbA] at hA0 ⊢
 rw [← hbP] at hP0 ⊢
 have hR1 := hR0.lt
 have HBR : Hid (w.heap.size ≤ bR) := Lib.hid (by omega)
 have HO : Hid (∀ bO, v0.heap.size ≤ bO → bP ≠ bO ∧ bA ≠ bO ∧ bH ≠ bO ∧ bR ≠ bO ∧ w.heap.size ≤ bO) := Lib.hid (fun bO hO => by omega)
 clear hbP hbA hbH hbR hR1
 -- the new spot
 refine ql_ (by kernel_rfl) (fun w' => Below v0.heap.size v0 w') (fun i v' w' => MkR v0.heap.size bA ⟨⟨xh, xb, xt, xf, xr⟩, prev, a, n, c⟩ h ⟨⟨xh, xb, xt, xf, xr⟩, id, none, 0, 0⟩ i v' w') (fun l a w' => DoneS 6 7 v0.heap.size ⟨⟨xh, xb, xt, xf, xr⟩, id, none, 0, 0⟩ l a w') (SpStep v0.heap.size) (fun _ _ => SpStep.refl _ _) (fun _ _ _ _ _ hs h => qfs_ _ _ _ _ hs h) (by kernel_rfl) (Below.refl _ _).drew ?_ ?_ ?_
 ·exact fun l hl => fun hk => (by rw [hl] at hk; cases hk)
 ·intro i o listed a wx ho' hn hdep hinv
  have hC := hinv.c
  have hi : i < 7 := (Array.getElem?_eq_some_iff.1 ho').1
  have zn : (spA ⟨⟨xh, xb, xt, xf, xr⟩, id, none, 0, 0⟩).size = 38 := qah_ i32
  obtain rfl | rfl | rfl | rfl | rfl | rfl | rfl : i = 0 ∨ i = 1 ∨ i = 2 ∨ i = 3 ∨ i = 4 ∨ i = 5 ∨ i = 6 := by omega
  all_goals obtain rfl := Option.some.inj ho'
  ·exact qd_ ((fun _ _ => SpStep.refl _ _)) hC (qa_ rfl) (qep_ rfl (hinv.old' 4 (by kernel_rfl))) rfl (DoneS.pre (hinv.aheadT 6 (by kernel_rfl) hn (by decide) (by decide)))
  ·exact qd_ ((fun _ _ => SpStep.refl _ _)) hC (qa_ rfl) (qeq_ rfl (hinv.got 0 _ 9 rfl (hdep ⟨0, .data⟩ (by simp) rfl) rfl) (hA0.on hC).pt) rfl (DoneS.pre (hinv.aheadT 6 (by kernel_rfl) hn (by decide) (by decide)))
  ·exact qd_ ((fun _ _ => SpStep.refl _ _)) hC (qa_ rfl) (qer_ rfl (hinv.old' 5 (by kernel_rfl)) (hH0.on hC) za) rfl (DoneS.pre (hinv.aheadT 6 (by kernel_rfl) hn (by decide) (by decide)))
  ·have e11 := hinv.got 2 _ 11 rfl (hdep ⟨2, .data⟩ (by simp) rfl) rfl
   exact qam_ (qa_ rfl) (f := 35) (args := #[a.eval (.tmp 11)]) (by kernel_rfl) (by rw [show a.eval (.tmp 11) = _ from e11]; exact KI.out wx (HTr.out wx (hB0.trans (hC.mono hB0.size)))) (fun w' hb => ⟨hC.trans (hb.mono hC.size), SpStep.below hb, rfl, DoneS.pre (hinv.aheadT 6 (by kernel_rfl) hn (by decide) (by decide))⟩)
  ·exact qd_ ((fun _ _ => SpStep.refl _ _)) hC (qa_ rfl) (qeb_ rfl (hinv.got 1 _ 10 rfl (hdep ⟨1, .data⟩ (by simp) rfl) rfl) (hinv.got 3 _ 12 rfl (hdep ⟨3, .data⟩ (by simp) rfl) rfl) i32) rfl (DoneS.pre (hinv.aheadT 6 (by kernel_rfl) hn (by decide) (by decide)))
  ·have hbel' : Below wx.heap.size wx (wx.alloc (.cells (spA spZ) 69)) := (Below.refl _ _).alloc (Nat.le_refl _) _
   exact qaf_ (qa_ rfl) (qdz_ rfl) (hC.trans (hbel'.mono hC.size)) (SpStep.below hbel') ⟨wx.heap.size, spA spZ, hC.size, rfl, Has.new _ _, z0⟩ (DoneS.pre (hinv.aheadT 6 (by kernel_rfl) hn (by decide) (by decide)))
  ·obtain ⟨b, cs, hb, he, hh, hsz⟩ := hinv.got 5 _ 7 rfl (hdep ⟨5, .data⟩ (by simp) rfl) rfl
   exact qx_ (qa_ rfl) (qea_ rfl he (hinv.got 4 _ 13 rfl (hdep ⟨4, .data⟩ (by simp) rfl) rfl) hh hsz zn) (below_setRow hC hb _) (SpStep.row hh zn) trivial (fun _ => ⟨b, hb, he, Has.row hh _⟩)
 intro listed a' v1 hall hinv
 have hC := hinv.c
 obtain ⟨bO, hbO, e7, hO⟩ := hinv.i (hall 6 (by decide))
 have e3 : a'.eval (.tmp 3) = .pointer (some ⟨bP, 0, none⟩) := hinv.old' 3 (by kernel_rfl)
 have e4' : a'.eval (.tmp 4) = .pointer (some ⟨bA, 0, none⟩) := hinv.old' 4 (by kernel_rfl)
 have e5 : a'.eval (.tmp 5) = .pointer (some ⟨bH, 0, none⟩) := hinv.old' 5 (by kernel_rfl)
 have e6 : a'.eval (.tmp 6) = .pointer (some ⟨bR, 0, none⟩) := hinv.old' 6 (by kernel_rfl)
 obtain ⟨n1, n2, n3, n4, n5⟩ := HO.out bO hbO
 have hs : BhS w v1 bP bA bH bR bO p ⟨⟨xh, xb, xt, xf, xr⟩, prev, a, n, c⟩ h ⟨⟨xh, xb, xt, xf, xr⟩, id, none, 0, 0⟩ := ⟨hB0.trans (hC.mono hB0.size), hP0.on hC, hA0.on hC, hH0.on hC, hR0.on hC, hO⟩
 obtain ⟨u, hu⟩ : ∃ u : Nat → Value, ∀ t, u t = a'.eval (.tmp t) := ⟨_, fun _ => rfl⟩
 rw [qbh_ a' 68 u hinv.tsize hinv.defers hu]
 rw [← hu] at e3 e4' e5 e6 e7
 clear hu hinv hall hC hbO hO HO hB0 hP0 hA0 hH0 hR0
 show Exit.then _ _ _ (⟨#[u 0, u 1, u 2, u 3, u 4, u 5, u 6, u 7, u 8, u 9, u 10, u 11, u 12, u 13, u 14, u 15, u 16, u 17, u 18, u 19, u 20, u 21, u 22, u 23, u 24, u 25, u 26, u 27, u 28, u 29, u 30, u 31, u 32, u 33, u 34, u 35, u 36, u 37, u 38, u 39, u 40, u 41, u 42, u 43, u 44, u 45, u 46, u 47, u 48, u 49, u 50, u 51, u 52, u 53, u 54, u 55, u 56, u 57, u 58, u 59, u 60, u 61, u 62, u 63, u 64, u 65, u 66, u 67], []⟩ : Act) _
 rw [e3, e4', e5, e6, e7]
 clear e3 e4' e5 e6 e7
 have c0 := hs.a.c0 (z := xh) (Lib.hid rfl)
 have hpp := hs.p
 go_wp2_with (with_reducible refine NN.qh_ rfl _ rfl _ rfl hpp hz ?_)
 refine (KS.out _).mono ?_
 rintro r v2 ⟨rfl, hb2⟩
 replace hs := hs.on hb2
 clear hb2 c0 hpp
 have cH := hs.h.bits ho
 rw [eb.out] at cH
 have cT := hs.h.time ho
 rw [et.out] at cT
 have c := hs.o.c0 (z := xh) (Lib.hid rfl)
 have f := hs.o.free 0
 have hX := hs.o.setH xh1
 replace hs := hs.put 0 _ hX n1 n2 n3 n4 n5
 clear hX
 go_upto_region 4 with fail
 generalize World.setCell _ _ _ = v3 at *
 clear c f cH cT
 have cH := hs.h.bits ho
 rw [eb.out] at cH
 have cT := hs.h.time ho
 rw [et.out] at cT
 have c := hs.o.c1 (z := xb) (Lib.hid rfl)
 have f := hs.o.free 1
 have hX := hs.o.setB hb
 replace hs := hs.put 1 _ hX n1 n2 n3 n4 n5
 clear hX
 go_upto_region 5 with fail
 generalize World.setCell _ _ _ = v4 at *
 clear c f cH cT
 have cH := hs.h.bits ho
 rw [eb.out] at cH
 have cT := hs.h.time ho
 rw [et.out] at cT
 have c := hs.o.c2 (z := xt) (Lib.hid rfl)
 have f := hs.o.free 2
 have hX := hs.o.setT ht
 replace hs := hs.put 2 _ hX n1 n2 n3 n4 n5
 clear hX
 go_upto_region 6 with fail
 generalize World.setCell _ _ _ = v5 at *
 clear c f cH cT
 have cH := hs.h.bits ho
 rw [eb.out] at cH
 have cT := hs.h.time ho
 rw [et.out] at cT
 have cE := hs.p.c4 e4
 have cL := hs.p.c0 e0
 go_upto_region 10 with fail
 have hO0 := hs.o
 have hOl : bO < v5.heap.size := hO0.lt
 have hn1 := HN1.out
 have hln := HLN.out
 have m1 : 1 + k ≤ 1000 := by omega
 refine ql_ (by kernel_rfl) (fun w' => v5.grownBy w' (some bO)) (fun i v' _ => TmR bA bH bO a n c p1 k ht i v') (fun l a w' => TmI v5.heap.size bO ⟨⟨xh1, hb, ht, xf, xr⟩, id, none, 0, 0⟩ ht T k l a w') (fun _ _ => True) (fun _ _ => trivial) (fun _ _ _ _ _ _ h => h) (by kernel_rfl) (qck_ (Below.refl _ _).drew _) ?_ ?_ ?_
 ·exact fun l hl => ⟨fun h => (by rw [hl] at h; cases h), fun h => (by rw [hl] at h; cases h), fun _ => Has.drew hO0, fun h => (by rw [hl] at h; cases h)⟩
 ·intro i o listed a' wx ho' hn hdep hinv
  have hC := hinv.c
  have hI := hinv.i
  have hi : i < 13 := (Array.getElem?_eq_some_iff.1 ho').1
  have hHx : HdAt wx bH h := gb_has hC hs.h (fun e => n3 (Option.some.inj e))
  have hAx : SpAt wx bA ⟨⟨xh, xb, xt, xf, xr⟩, prev, a, n, c⟩ := gb_has hC hs.a (fun e => n2 (Option.some.inj e))
  have cTx := hHx.time ho
  rw [et.out] at cTx
  have cAx := hAx.sl so
  have hlx : v5.heap.size ≤ wx.heap.size := hC.size
  obtain rfl | rfl | rfl | rfl | rfl | rfl | rfl | rfl | rfl | rfl | rfl | rfl | rfl : i = 0 ∨ i = 1 ∨ i = 2 ∨ i = 3 ∨ i = 4 ∨ i = 5 ∨ i = 6 ∨ i = 7 ∨ i = 8 ∨ i = 9 ∨ i = 10 ∨ i = 11 ∨ i = 12 := by omega
  all_goals obtain rfl := Option.some.inj ho'
  ·have hsz0 : 0 < listed.size := by rw [hinv.size]; decide
   exact qd_ (C := fun w' => v5.grownBy w' (some bO)) (S := fun _ _ => True) (R := fun v' _ => TmR bA bH bO a n c p1 k ht 0 v') (J := fun a w' => TmI v5.heap.size bO ⟨⟨xh1, hb, ht, xf, xr⟩, id, none, 0, 0⟩ ht T k (listed.setIfInBounds 0 true) a w') (fun _ _ => trivial) hC (qa_ rfl) (qdq_ rfl (hinv.old' 5 (by kernel_rfl))) rfl (hI.keep 0 hsz0 (by decide) (by decide) (by decide) _ _ (by decide) (by decide))
  ·have hsz1 : 1 < listed.size := by rw [hinv.size]; decide
   exact qd_ (C := fun w' => v5.grownBy w' (some bO)) (S := fun _ _ => True) (R := fun v' _ => TmR bA bH bO a n c p1 k ht 1 v') (J := fun a w' => TmI v5.heap.size bO ⟨⟨xh1, hb, ht, xf, xr⟩, id, none, 0, 0⟩ ht T k (listed.setIfInBounds 1 true) a w') (fun _ _ => trivial) hC (qa_ rfl) (NN.qbj_ rfl (hinv.got 0 _ 55 rfl (hdep ⟨0, .data⟩ (by simp) rfl) rfl) cTx) rfl (hI.keep 1 hsz1 (by decide) (by decide) (by decide) _ _ (by decide) (by decide))
  ·have hsz : 2 < listed.size := by rw [hinv.size]; decide
   have h10 : (listed.setIfInBounds 2 true).getD 10 false = false := hinv.aheadT 12 (by kernel_rfl) hn (by decide) (by decide)
   have h12 : (listed.setIfInBounds 2 true).getD 12 false = false := hinv.aheadT 12 (by kernel_rfl) hn (by decide) (by decide)
   have h12' : listed.getD 12 false = false := by rw [← qk_ listed 2 12 hsz (by decide)]; exact h12
   have hbx : Below wx.heap.size wx (wx.alloc (.cells #[.int .i64 ht] 3)) := (Below.refl _ _).alloc (Nat.le_refl _) _
   refine qaf_ (C := fun w' => v5.grownBy w' (some bO)) (S := fun _ _ => True) (R := fun v' _ => TmR bA bH bO a n c p1 k ht 2 v') (J := fun a w' => TmI v5.heap.size bO ⟨⟨xh1, hb, ht, xf, xr⟩, id, none, 0, 0⟩ ht T k (listed.setIfInBounds 2 true) a w') (qa_ rfl) (qcw_ rfl (hinv.got 1 _ 56 rfl (hdep ⟨1, .data⟩ (by simp) rfl) rfl)) (qdc_ hC (qck_ hbx _)) trivial trivial ⟨fun _ _ => ⟨wx.heap.size, hlx, qbc_ a' 57 _ (by rw [hinv.tsize]; exact (show 57 < 68 by decide)), Has.new _ _⟩, fun e => (by rw [h10] at e; cases e), fun _ => (hI.2.2.1 h12').on hbx, fun e => (by rw [h12] at e; cases e)⟩
  ·have hsz3 : 3 < listed.size := by rw [hinv.size]; decide
   exact qd_ (C := fun w' => v5.grownBy w' (some bO)) (S := fun _ _ => True) (R := fun v' _ => TmR bA bH bO a n c p1 k ht 3 v') (J := fun a w' => TmI v5.heap.size bO ⟨⟨xh1, hb, ht, xf, xr⟩, id, none, 0, 0⟩ ht T k (listed.setIfInBounds 3 true) a w') (fun _ _ => trivial) hC (qa_ rfl) (qaw_ rfl (hinv.old' 4 (by kernel_rfl))) rfl (hI.keep 3 hsz3 (by decide) (by decide) (by decide) _ _ (by decide) (by decide))
  ·have hsz4 : 4 < listed.size := by rw [hinv.size]; decide
   exact qd_ (C := fun w' => v5.grownBy w' (some bO)) (S := fun _ _ => True) (R := fun v' _ => TmR bA bH bO a n c p1 k ht 4 v') (J := fun a w' => TmI v5.heap.size bO ⟨⟨xh1, hb, ht, xf, xr⟩, id, none, 0, 0⟩ ht T k (listed.setIfInBounds 4 true) a w') (fun _ _ => trivial) hC (qa_ rfl) (qbe_ rfl (hinv.got 3 _ 58 rfl (hdep ⟨3, .data⟩ (by simp) rfl) rfl) cAx) rfl (hI.keep 4 hsz4 (by decide) (by decide) (by decide) _ _ (by decide) (by decide))
  ·have hsz5 : 5 < listed.size := by rw [hinv.size]; decide
   exact qd_ (C := fun w' => v5.grownBy w' (some bO)) (S := fun _ _ => True) (R := fun v' _ => TmR bA bH bO a n c p1 k ht 5 v') (J := fun a w' => TmI v5.heap.size bO ⟨⟨xh1, hb, ht, xf, xr⟩, id, none, 0, 0⟩ ht T k (listed.setIfInBounds 5 true) a w') (fun _ _ => trivial) hC (qa_ rfl) (qaw_ rfl (hinv.old' 4 (by kernel_rfl))) rfl (hI.keep 5 hsz5 (by decide) (by decide) (by decide) _ _ (by decide) (by decide))
  ·have hsz6 : 6 < listed.size := by rw [hinv.size]; decide
   exact qd_ (C := fun w' => v5.grownBy w' (some bO)) (S := fun _ _ => True) (R := fun v' _ => TmR bA bH bO a n c p1 k ht 6 v') (J := fun a w' => TmI v5.heap.size bO ⟨⟨xh1, hb, ht, xf, xr⟩, id, none, 0, 0⟩ ht T k (listed.setIfInBounds 6 true) a w') (fun _ _ => trivial) hC (qa_ rfl) (qbe_ rfl (hinv.got 5 _ 60 rfl (hdep ⟨5, .data⟩ (by simp) rfl) rfl) cAx) rfl (hI.keep 6 hsz6 (by decide) (by decide) (by decide) _ _ (by decide) (by decide))
  ·have hsz7 : 7 < listed.size := by rw [hinv.size]; decide
   exact qd_ (C := fun w' => v5.grownBy w' (some bO)) (S := fun _ _ => True) (R := fun v' _ => TmR bA bH bO a n c p1 k ht 7 v') (J := fun a w' => TmI v5.heap.size bO ⟨⟨xh1, hb, ht, xf, xr⟩, id, none, 0, 0⟩ ht T k (listed.setIfInBounds 7 true) a w') (fun _ _ => trivial) hC (qa_ rfl) (ex_len rfl (hinv.got 6 _ 61 rfl (hdep ⟨6, .data⟩ (by simp) rfl) rfl)) rfl (hI.keep 7 hsz7 (by decide) (by decide) (by decide) _ _ (by decide) (by decide))
  ·have hsz8 : 8 < listed.size := by rw [hinv.size]; decide
   exact qd_ (C := fun w' => v5.grownBy w' (some bO)) (S := fun _ _ => True) (R := fun v' _ => TmR bA bH bO a n c p1 k ht 8 v') (J := fun a w' => TmI v5.heap.size bO ⟨⟨xh1, hb, ht, xf, xr⟩, id, none, 0, 0⟩ ht T k (listed.setIfInBounds 8 true) a w') (fun _ _ => trivial) hC (qa_ rfl) (ex_min rfl (hinv.got 7 _ 62 rfl (hdep ⟨7, .data⟩ (by simp) rfl) rfl) rfl hkm.out) rfl (hI.keep 8 hsz8 (by decide) (by decide) (by decide) _ _ (by decide) (by decide))
  ·have hsz9 : 9 < listed.size := by rw [hinv.size]; decide
   exact qd_ (C := fun w' => v5.grownBy w' (some bO)) (S := fun _ _ => True) (R := fun v' _ => TmR bA bH bO a n c p1 k ht 9 v') (J := fun a w' => TmI v5.heap.size bO ⟨⟨xh1, hb, ht, xf, xr⟩, id, none, 0, 0⟩ ht T k (listed.setIfInBounds 9 true) a w') (fun _ _ => trivial) hC (qa_ rfl) (qia_ rfl (hinv.got 4 _ 59 rfl (hdep ⟨4, .data⟩ (by simp) rfl) rfl) (hinv.got 8 _ 63 rfl (hdep ⟨8, .data⟩ (by simp) rfl) rfl) (hcut wx)) rfl (hI.keep 9 hsz9 (by decide) (by decide) (by decide) _ _ (by decide) (by decide))
  ·have hsz : 10 < listed.size := by rw [hinv.size]; decide
   have h12 : (listed.setIfInBounds 10 true).getD 12 false = false := hinv.aheadT 12 (by kernel_rfl) hn (by decide) (by decide)
   have h12' : listed.getD 12 false = false := by rw [← qk_ listed 10 12 hsz (by decide)]; exact h12
   obtain ⟨g, hgB, e57, hg⟩ := hI.1 (hdep ⟨2, .data⟩ (by simp) rfl) hn
   have e64 := (hinv.got 9 _ 64 rfl (hdep ⟨9, .data⟩ (by simp) rfl) rfl)
   have hLx := (HL1.out.below hs.be (Nat.le_refl _)).grown hC hs.be.size (.inr n5)
   obtain ⟨v', w', hr, hown', hgr⟩ := qft_ (lo := 0) (hi := w.heap.size) (ρ := a'.eval) (.tmp 57) (.tmp 64) v5.heap.size (.slice (some ⟨g, 0, none⟩) 1 1) 1 [ht] e57 (qgo_ hg hgB) p1 k c T e64 hn1 hln hLx m1 hlx
   obtain ⟨p8, c8, rfl⟩ := qbn_ hown'
   refine qaf_ (C := fun w' => v5.grownBy w' (some bO)) (S := fun _ _ => True) (R := fun v' _ => TmR bA bH bO a n c p1 k ht 10 v') (J := fun a w' => TmI v5.heap.size bO ⟨⟨xh1, hb, ht, xf, xr⟩, id, none, 0, 0⟩ ht T k (listed.setIfInBounds 10 true) a w') (qa_ rfl) (hr _ rfl rfl) (qmc_ hC hgr hgB) trivial trivial ⟨fun _ e => (by rw [qp_ _ _ _ hsz, if_pos rfl] at e; cases e), fun _ _ => ⟨p8, c8, qbc_ a' 65 _ (by rw [hinv.tsize]; exact (show 65 < 68 by decide)), hown'⟩, fun _ => gb_has hgr (hI.2.2.1 h12') (fun e => by have : bO = g := Option.some.inj e; omega), fun e => (by rw [h12] at e; cases e)⟩
  ·have hsz11 : 11 < listed.size := by rw [hinv.size]; decide
   exact qd_ (C := fun w' => v5.grownBy w' (some bO)) (S := fun _ _ => True) (R := fun v' _ => TmR bA bH bO a n c p1 k ht 11 v') (J := fun a w' => TmI v5.heap.size bO ⟨⟨xh1, hb, ht, xf, xr⟩, id, none, 0, 0⟩ ht T k (listed.setIfInBounds 11 true) a w') (fun _ _ => trivial) hC (qa_ rfl) (qaw_ rfl (hinv.old' 7 (by kernel_rfl))) rfl (hI.keep 11 hsz11 (by decide) (by decide) (by decide) _ _ (by decide) (by decide))
  ·have hsz : 12 < listed.size := by rw [hinv.size]; decide
   have l10 : listed.getD 10 false = true := hdep ⟨10, .data⟩ (by simp) rfl
   obtain ⟨p8, c8, e65, hown8⟩ := hI.2.1 l10 hn
   have hOx := hI.2.2.1 hn
   refine qx_ (C := fun w' => v5.grownBy w' (some bO)) (S := fun _ _ => True) (R := fun v' _ => TmR bA bH bO a n c p1 k ht 12 v') (J := fun a w' => TmI v5.heap.size bO ⟨⟨xh1, hb, ht, xf, xr⟩, id, none, 0, 0⟩ ht T k (listed.setIfInBounds 12 true) a w') (qa_ rfl) (qci_ rfl (hinv.got 11 _ 66 rfl (hdep ⟨11, .data⟩ (by simp) rfl) rfl) e65 (hOx.free 37) (hOx.sl i32)) (qbk_ hC 37 _) trivial trivial ⟨fun _ e => (by rw [qk_ _ _ _ hsz (by decide), l10] at e; cases e), fun _ e => (by rw [qp_ _ _ _ hsz, if_pos rfl] at e; cases e), fun e => (by rw [qp_ _ _ _ hsz, if_pos rfl] at e; cases e), fun _ => ⟨p8, c8, hOx.setS i32 p8 (1 + k) c8, hown8.kept (qcx_ _ _ _ _) (.inr (fun e => by have := (hown8.lt bO e).1; omega))⟩⟩
 intro listed a' v9 hall hinv
 obtain ⟨p8, c8, hO9, hown9⟩ := hinv.i.2.2.2 (hall 12 (by decide))
 have hC := hinv.c
 have e6 : a'.eval (.tmp 6) = .pointer (some ⟨bR, 0, none⟩) := hinv.old' 6 (by kernel_rfl)
 have e7 : a'.eval (.tmp 7) = .pointer (some ⟨bO, 0, none⟩) := hinv.old' 7 (by kernel_rfl)
 have hR9 : SpAt v9 bR spZ := gb_has hC hs.r (fun e => n4 (Option.some.inj e))
 have hB9 : Below w.heap.size w v9 := hs.be.trans (qcb_ hC n5 hs.be.size)
 have hRl : bR < v5.heap.size := hs.r.lt
 obtain ⟨g8, rfl, hc8⟩ := qfu_ hown9
 obtain ⟨q8, d8, eq8, _, _, hLie⟩ := MM.qca_ (l := ht :: T) hown9
 cases eq8
 have HLie := Lib.hid hLie
 have HB0 := Lib.hid hs.be.size
 obtain ⟨u, hu⟩ : ∃ u : Nat → Value, ∀ t, u t = a'.eval (.tmp t) := ⟨_, fun _ => rfl⟩
 rw [qbh_ a' 68 u hinv.tsize hinv.defers hu]
 rw [← hu] at e6 e7
 clear hu hinv hall hC hown9 hLie hs hO0 hcut hmin hn1 hln
 show Exit.then _ _ _ (⟨#[u 0, u 1, u 2, u 3, u 4, u 5, u 6, u 7, u 8, u 9, u 10, u 11, u 12, u 13, u 14, u 15, u 16, u 17, u 18, u 19, u 20, u 21, u 22, u 23, u 24, u 25, u 26, u 27, u 28, u 29, u 30, u 31, u 32, u 33, u 34, u 35, u 36, u 37, u 38, u 39, u 40, u 41, u 42, u 43, u 44, u 45, u 46, u 47, u 48, u 49, u 50, u 51, u 52, u 53, u 54, u 55, u 56, u 57, u 58, u 59, u 60, u 61, u 62, u 63, u 64, u 65, u 66, u 67], []⟩ : Act) _
 rw [e6, e7]
 clear e6 e7
 have zo : (spA ⟨⟨xh1, hb, ht, xf, xr⟩, id, some ⟨g8, 0, none⟩, 1 + k, c8⟩).size = 38 := qah_ i32
 have HX : Hid (spA ⟨⟨xh1, hb, ht, xf, xr⟩, id, some ⟨g8, 0, none⟩, 1 + k, c8⟩ = spA ⟨⟨xh1, hb, ht, xf, xr⟩, id, some ⟨g8, 0, none⟩, 1 + k, c8⟩) := Lib.hid rfl
 change SpAt v9 bO ⟨⟨xh1, hb, ht, xf, xr⟩, id, some ⟨g8, 0, none⟩, 1 + k, c8⟩ at hO9
 generalize hq : (⟨⟨xh1, hb, ht, xf, xr⟩, id, some ⟨g8, 0, none⟩, 1 + k, c8⟩ : Sp) = sq at hO9 zo
 have HQ := Lib.hid hq
 clear hq HX
 go_wp2_with (first
  | (with_reducible refine qlx_ rfl _ rfl bO rfl hO9 zo ?_)
  | (with_reducible refine qdm_ rfl _ _ rfl bR _ sq rfl rfl rfl zo hR9 z0 ?_))
 refine bodyPost_ret (v := .agg (spA sq)) (qdo_ Tryz.results25 _ bR rfl (Has.row hR9 _) zo) rfl ⟨g8, c8, by rw [← HQ.out], hc8, ?_, below_setRow hB9 HBR.out _⟩
 have hwd := HLie.out.wide (lo' := w.heap.size) (hi' := v9.heap.size) HB0.out (Nat.le_refl _)
 rw [setRow_size]
 exact HLie.out.on (fun q h1 _ => setRow_other v9 bR q _ (by omega)) |>.wide HB0.out (Nat.le_refl _)
end Go.Proofs.YtkclahiiijfllaaGreatDoor
namespace Go.Proofs.YtkclahiiijfllaaGreatDoor
open Go.RowKit Mem Sc NN.Rg2
structure Ps where
 x : NN.Pt
 prev : List UInt8
 ts : List Int
def bhx (p : NN.Pr) (x : NN.Pt) (h : Hd) : NN.Pt :=
 ⟨x.h + 1, h.bits, h.time, if NN.starts p.ivl x.h = true then h.time else x.f, if NN.starts p.ivl x.h = true ∨ p.easy = false ∨ ¬ h.bits = p.lim then h.bits else x.r⟩
def bh (p : NN.Pr) (s : Ps) (h : Hd) : Ps := ⟨bhx p s.x h, h.id, h.time :: s.ts.take 10⟩
def bgn (p : NN.Pr) (g : Hd) : Ps := bh p ⟨⟨0, 0, 0, 0, p.lim⟩, z32, []⟩ g
def way (p : NN.Pr) (g : Hd) (hs : List Hd) (k : Nat) : Ps := (hs.take k).foldl (bh p) (bgn p g)
theorem qey_ (p : NN.Pr) (g : Hd) (hs : List Hd) (k : Nat) (hk : k < hs.length) : way p g hs (k + 1) = bh p (way p g hs k) (hs.getD k hdZ) := by
 have e : hs.take (k + 1) = hs.take k ++ [hs.getD k hdZ] := by
  rw [List.take_add_one, List.getElem?_eq_getElem hk, List.getD_eq_getElem?_getD, List.getElem?_eq_getElem hk]; rfl
 unfold way
 rw [e, List.foldl_append]
 rfl
theorem way_h (p : NN.Pr) (g : Hd) (hs : List Hd) : ∀ k, k ≤ hs.length → (way p g hs k).x.h = (k : Int) + 1
 | 0, _ => rfl
 | k + 1, h => by
  rw [qey_ p g hs k (by omega)]
  show (way p g hs k).x.h + 1 = _
  rw [way_h p g hs k (by omega)]
  omega
theorem qzi_ (p : NN.Pr) (g : Hd) (hs : List Hd) : ∀ k, k ≤ hs.length → (way p g hs k).prev.length = 32
 | 0, _ => qz_ _
 | k + 1, h => by
  rw [qey_ p g hs k (by omega)]
  exact qz_ _
theorem way_ts (p : NN.Pr) (g : Hd) (hs : List Hd) : ∀ k, k ≤ hs.length → (way p g hs k).ts.length = min (k + 1) 11
 | 0, _ => rfl
 | k + 1, h => by
  rw [qey_ p g hs k (by omega)]
  show (_ :: (way p g hs k).ts.take 10).length = _
  rw [List.length_cons, List.length_take, way_ts p g hs k (by omega)]
  omega
theorem qmd_ (p : NN.Pr) (hp : p.ok) (s : Sp) (so : s.ok) (ts : List Int) (hl : ts.length = s.n) (hc : s.n ≤ s.c) (hmax : s.n ≤ 1000) (hnil : s.a = none → s.n = 0 ∧ s.c = 0) (hx : 0 ≤ s.x.h) (hx2 : s.x.h ≤ 1000000) (h : Hd) (ho : h.ok) (w : World) (hT : Tab w) (hL : MM.Lie w 0 w.heap.size s.a ts) :
  Calls Tryz.prog 25 #[.agg (NN.prA p), .agg (spA s), .agg (hdA h)] w fun r w' => ∃ b' c', r = .returned (.agg (spA ⟨bhx p s.x h, h.id, some ⟨b', 0, none⟩, (h.time :: ts.take 10).length, c'⟩)) ∧ (h.time :: ts.take 10).length ≤ c' ∧ MM.Lie w' w.heap.size w'.heap.size (some ⟨b', 0, none⟩) (h.time :: ts.take 10) ∧ Below w.heap.size w w' := by
 obtain ⟨⟨xh, xb, xt, xf, xr⟩, prev, a, n, c⟩ := s
 simp only at hl hc hmax hnil hx hx2 hL
 obtain ⟨k, hk⟩ : ∃ k, k = min n 10 := ⟨_, rfl⟩
 have e10 : ts.take 10 = ts.take k := by
  by_cases h10 : n ≤ 10
  ·rw [List.take_of_length_le (by omega), List.take_of_length_le (by omega)]
  ·rw [show k = 10 by omega]
 have hz := NN.qal_ hp
 have hlk : (h.time :: ts.take k).length = 1 + k := by simp; omega
 have hw : IntKind.i64.wrap (xh + 1) = xh + 1 := by rw [IntKind.wrap_i64]; omega
 have i32 := qz_ h
 rw [e10, hlk]
 unfold bhx
 simp only
 cases hs : NN.starts p.ivl xh
 ·have KS := Lib.hid (NN.qfr_ p xh false hs)
  rw [if_neg (by simp)]
  cases he : p.easy
  ·rw [if_pos (.inr (.inl rfl))]
   exact qkq_ p hz xh xb xt xf xr prev so a n c h ho h.id i32 h.bits h.time (Lib.hid rfl) (Lib.hid rfl) (Lib.hid he) (xh + 1) hw KS (Lib.hid fun w hT => id_at h ho w hT) ts hl hc (by omega) hnil k hk w hT hL
  ·by_cases hb : h.bits = p.lim
   ·rw [if_neg (by simp [hb])]
    exact qni_ p hz xh xb xt xf xr prev so a n c h ho h.id i32 h.bits h.time (Lib.hid rfl) (Lib.hid rfl) (Lib.hid he) p.lim (Lib.hid rfl) (by simp [hb]) (xh + 1) hw KS (Lib.hid fun w hT => id_at h ho w hT) ts hl hc (by omega) hnil k hk w hT hL
   ·rw [if_pos (.inr (.inr hb))]
    exact qjf_ p hz xh xb xt xf xr prev so a n c h ho h.id i32 h.bits h.time (Lib.hid rfl) (Lib.hid rfl) (Lib.hid he) p.lim (Lib.hid rfl) (by simp [hb]) (xh + 1) hw KS (Lib.hid fun w hT => id_at h ho w hT) ts hl hc (by omega) hnil k hk w hT hL
 ·have KS := Lib.hid (NN.qfr_ p xh true hs)
  rw [if_pos rfl, if_pos (.inl rfl)]
  exact qkp_ p hz xh xb xt xf xr prev so a n c h ho h.id i32 h.bits h.time (Lib.hid rfl) (Lib.hid rfl) (xh + 1) hw KS (Lib.hid fun w hT => id_at h ho w hT) ts hl hc (by omega) hnil k hk w hT hL
structure Tl where
 ga : Option Addr
 gn : Nat
 gc : Nat
 ca : Option Addr
 cn : Nat
 cc : Nat
 nn : List Value
 g : Hd
def Tl.C (t : Tl) : List Value := .slice t.ga t.gn t.gc :: .slice t.ca t.cn t.cc :: (t.nn ++ hdC t.g)
def Tl.ok (t : Tl) : Prop := t.nn.length = 8 ∧ t.g.ok
theorem prA_at (p : NN.Pr) (j : Nat) : (NN.prA p)[5 + j]? = p.tl[j]? := by
 unfold NN.prA
 rw [List.getElem?_toArray, show 5 + j = j + 1 + 1 + 1 + 1 + 1 by omega]
 rfl
section
variable {w : World} {k : Nat} {p : NN.Pr} {t : Tl}
theorem qdr_ (h : NN.PrAt w k p) (e : p.tl = t.C) : w.cell? ⟨k, 5, none⟩ = some (.slice t.ga t.gn t.gc) := (NN.Has.cell h 5).trans (by rw [show 5 = 5 + 0 from rfl, prA_at, e]; rfl)
theorem qcy_ (h : NN.PrAt w k p) (e : p.tl = t.C) : w.cell? ⟨k, 6, none⟩ = some (.slice t.ca t.cn t.cc) := (NN.Has.cell h 6).trans (by rw [show 6 = 5 + 1 from rfl, prA_at, e]; rfl)
theorem pr_gen (h : NN.PrAt w k p) (e : p.tl = t.C) (ht : t.ok) : w.rangeAt k 15 (hdC t.g) := fun j u hu => by
 rw [NN.Has.cell h (15 + j), show 15 + j = 5 + (10 + j) by omega, prA_at, e, show 10 + j = (8 + j) + 1 + 1 by omega]
 show (t.nn ++ hdC t.g)[8 + j]? = some u
 rw [List.getElem?_append_right (by rw [ht.1]; omega), ht.1, Nat.add_sub_cancel_left]
 exact hu
end
section
variable {w : World} {ops : Array Oper} {rest : List Oper} {o : Oper} {a : Act} {Q : Exit → Act → World → Prop}
theorem qzj_ (z : Int) : Tryz.prog.built 67 [(4, .int .i64 z)] = some (NN.ptA ⟨0, 0, 0, 0, z⟩) := by kernel_rfl
theorem quk_ (x : NN.Pt) : Tryz.prog.built 69 [(0, .agg (NN.ptA x))] = some (spA ⟨x, z32, none, 0, 0⟩) := by kernel_rfl
theorem qzk_ (hgd : o.guard = none) (x : Operand) (ho : o.op = .build 67 #[(4, x)]) (z : Int) (hx : a.eval x = .int .i64 z)
  (hk : wpList Tryz.prog ops Q rest (a.put o.dst (.agg (NN.ptA ⟨0, 0, 0, 0, z⟩))) w) : wpList Tryz.prog ops Q (o :: rest) a w :=
 wpList_plain hgd fun _ hK => by
  unfold Oper.wp execOp
  simp only [ho, Sem.run_bind]
  rw [show (#[(4, x)] : Array (Nat × Operand)).map (fun (i, x) => (i, a.eval x)) = #[(4, .int .i64 z)] by simp [hx], run_build w 67 _ _ (qzj_ z)]
  exact hK _ _ hk
theorem qul_ (hgd : o.guard = none) (x : Operand) (ho : o.op = .build 69 #[(0, x)]) (y : NN.Pt) (hx : a.eval x = .agg (NN.ptA y))
  (hk : wpList Tryz.prog ops Q rest (a.put o.dst (.agg (spA ⟨y, z32, none, 0, 0⟩))) w) : wpList Tryz.prog ops Q (o :: rest) a w :=
 wpList_plain hgd fun _ hK => by
  unfold Oper.wp execOp
  simp only [ho, Sem.run_bind]
  rw [show (#[(0, x)] : Array (Nat × Operand)).map (fun (i, x) => (i, a.eval x)) = #[(0, .agg (NN.ptA y))] by simp [hx], run_build w 69 _ _ (quk_ y)]
  exact hK _ _ hk
end
def SpIs (w : World) (lo : Nat) (s : Sp) (q : Ps) : Prop := s.x = q.x ∧ s.prev = q.prev ∧ q.ts.length = s.n ∧ s.n ≤ s.c ∧ (∃ b, s.a = some ⟨b, 0, none⟩) ∧ MM.Lie w lo w.heap.size s.a q.ts
theorem SpIs.on {w w' : World} {lo : Nat} {s : Sp} {q : Ps} (h : SpIs w lo s q) (hb : Below w.heap.size w w') : SpIs w' lo s q :=
 ⟨h.1, h.2.1, h.2.2.1, h.2.2.2.1, h.2.2.2.2.1, (h.2.2.2.2.2.below hb (Nat.le_refl _)).wide (Nat.le_refl _) hb.size⟩
theorem SpIs.row {w : World} {lo g : Nat} {s : Sp} {q : Ps} {cs : Array Value} (h : SpIs w lo s q) (hg : g < lo) : SpIs (w.setRow g cs) lo s q :=
 ⟨h.1, h.2.1, h.2.2.1, h.2.2.2.1, h.2.2.2.2.1, by rw [setRow_size]; exact h.2.2.2.2.2.on (fun k h1 _ => setRow_other w g k cs (by omega))⟩
theorem SpIs.wide {w : World} {lo lo' : Nat} {s : Sp} {q : Ps} (h : SpIs w lo s q) (hl : lo' ≤ lo) : SpIs w lo' s q :=
 ⟨h.1, h.2.1, h.2.2.1, h.2.2.2.1, h.2.2.2.2.1, h.2.2.2.2.2.wide hl (Nat.le_refl _)⟩
theorem begin_w (p : NN.Pr) (hp : p.ok) (t : Tl) (et : p.tl = t.C) (ht : t.ok) (lim : Int) (e0 : Hid (p.lim = lim)) (w : World)
  (KB : Hid (∀ w', Below w.heap.size w w' → Calls Tryz.prog 25 #[.agg (NN.prA p), .agg (spA ⟨⟨0, 0, 0, 0, lim⟩, z32, none, 0, 0⟩), .agg (hdA t.g)] w' fun r w'' => ∃ s, r = .returned (.agg (spA s)) ∧ (spA s).size = 38 ∧ SpIs w'' w'.heap.size s (bgn p t.g) ∧ Below w'.heap.size w' w'')) :
  Calls Tryz.prog 23 #[.agg (NN.prA p)] w fun r w' => ∃ s, r = .returned (.agg (spA s)) ∧ (spA s).size = 38 ∧ SpIs w' w.heap.size s (bgn p t.g) ∧ Below w.heap.size w w' := by
 have hz := NN.qal_ hp
 have z0 := qah_ spZ_ok
 have ET := Lib.hid et
 have HT := Lib.hid ht
 have s1 := qj_ ht.2
 clear et
 go_enter Tryz.func23, Tryz.ntmps23
 go_upto_region 1 with fail
 generalize hw0 : World.alloc _ _ = v0
 have hB0 : Below w.heap.size w v0 := by rw [← hw0]; exact ((Below.refl _ _).alloc (Nat.le_refl _) _).alloc (by simp) _
 have hP : NN.PrAt v0 w.heap.size p := by rw [← hw0]; exact (NN.Has.new _ _).alloc _
 have hR : SpAt v0 (w.heap.size + 1) spZ := by rw [← hw0]; exact Has.new1 _ (spA spZ) _
 clear hw0
 have c0 := hP.c0 e0
 have r15 := pr_gen hP ET.out HT.out
 go_wp2_with (first
  | (with_reducible refine NN.qh_ rfl _ rfl _ rfl hP hz ?_)
  | (with_reducible refine qzk_ rfl _ rfl lim rfl ?_)
  | (with_reducible refine qul_ rfl _ rfl ⟨0, 0, 0, 0, lim⟩ rfl ?_)
  | (with_reducible refine qaa_ rfl _ rfl _ 15 rfl t.g r15 s1 ?_))
 refine (KB.out v0 hB0).mono ?_
 rintro r v1 ⟨s, rfl, zs, hS, hb1⟩
 have hR1 := hR.on hb1
 have hRl := hR.lt
 have HB : Hid (Below w.heap.size w v1) := Lib.hid (hB0.trans (hb1.mono hB0.size))
 have HB0 := Lib.hid hB0.size
 clear hb1 hB0 hP hR c0 r15 KB
 go_wp2_with (with_reducible refine qdm_ rfl _ _ rfl _ _ s rfl rfl rfl zs hR1 z0 ?_)
 refine bodyPost_ret (v := .agg (spA s)) (qdo_ Tryz.results23 _ _ rfl (Has.row hR1 _) zs) rfl ⟨s, rfl, zs, ?_, below_setRow HB.out (by omega) _⟩
 obtain ⟨h1, h2, h3, h4, h5, h6⟩ := hS
 refine ⟨h1, h2, h3, h4, h5, ?_⟩
 rw [setRow_size]
 exact (h6.on (fun q hq _ => setRow_other v1 _ q _ (by omega))).wide HB0.out (Nat.le_refl _)
theorem qzl_ (p : NN.Pr) (hp : p.ok) (t : Tl) (et : p.tl = t.C) (ht : t.ok) (w : World) (hT : Tab w) :
  Calls Tryz.prog 23 #[.agg (NN.prA p)] w fun r w' => ∃ s, r = .returned (.agg (spA s)) ∧ (spA s).size = 38 ∧ SpIs w' w.heap.size s (bgn p t.g) ∧ Below w.heap.size w w' := by
 refine begin_w p hp t et ht _ (Lib.hid rfl) w (Lib.hid fun w' hb => ?_)
 refine (qmd_ p hp ⟨⟨0, 0, 0, 0, p.lim⟩, z32, none, 0, 0⟩ rfl [] rfl (Nat.le_refl _) (show 0 ≤ 1000 by omega) (fun _ => ⟨rfl, rfl⟩) (by simp) (by simp) t.g ht.2 w' (hT.below hb) MM.Lie.none).mono ?_
 rintro r w2 ⟨b', c', rfl, h1, h2, h3⟩
 exact ⟨_, rfl, qah_ (qz_ _), ⟨rfl, rfl, rfl, h1, ⟨b', rfl⟩, h2⟩, h3⟩
end Go.Proofs.YtkclahiiijfllaaGreatDoor
namespace Go.Proofs.YtkclahiiijfllaaGreatDoor
open Go.RowKit Mem Sc NN.Rg2
theorem qrb_ (l : List UInt8) (hl : l.length = 32) (w : World) :
  Ca_ 81 #[.agg (bytesV l)] w (.agg (NN.numC (numOf l))) := by
 rw [← nnc l hl]; exact NN.qpy_ (byteF l) (qkm_ l) w
theorem qzm_ (p : NN.Pr) (h : Hd) (ho : h.ok) (lim b : Int) (e0 : Hid (p.lim = lim)) (eb : Hid (h.bits = b)) (t : Nat)
  (KT : Hid (Gv_ 74 #[.int .i64 b, .int .i64 lim] (.tuple #[.agg (NN.numC t), .bool false])))  (w : World) :
  Ca_ 47 #[.agg (NN.prA p), .agg (hdA h)] w (.bool false) := by
 go_enter Tryz.func47, Tryz.ntmps47
 go_upto_region 1 with fail
 generalize hw0 : World.alloc _ _ = v0
 have hB : Below w.heap.size w v0 := by rw [← hw0]; exact ((Below.refl _ _).alloc (Nat.le_refl _) _).alloc (by simp) _
 have hP : NN.PrAt v0 w.heap.size p := by rw [← hw0]; exact (NN.Has.new _ _).alloc _
 have hH : HdAt v0 (w.heap.size + 1) h := by rw [← hw0]; exact qik_ w _ h
 clear hw0
 have c0 := hP.c0 e0
 have c1 : v0.cell? ⟨w.heap.size + 1, 66, none⟩ = some (.int .i64 b) := by rw [← eb.out]; exact hH.bits ho
 go_wp2_with fail
 refine (KT.out _).mono ?_
 rintro e v1 ⟨rfl, hb1⟩
 replace hH := hH.on hb1
 replace hB := hB.trans (hb1.mono hB.size)
 clear hb1 c0 c1 hP
 have hZ := NN.Has.newz (w := v1) 26
 go_upto_region 2 with (with_reducible refine NN.qe_ rfl _ _ rfl _ _ rfl rfl _ hZ rfl ?_)
 generalize hw2 : World.setRow _ _ _ = v2
 have hb2 : Below v1.heap.size v1 v2 := bw_ hw2
 have hN : NN.Has v2 v1.heap.size (NN.numC t) 26 := by rw [← hw2]; exact NN.Has.row hZ _
 replace hH := hH.on hb2
 replace hB := hB.trans (hb2.mono hB.size)
 clear hw2 hb2 hZ
 generalize v1.heap.size = bN at hN ⊢
 go_wp2_with fail
 refine wp_region_quiet_below (by kernel_rfl) (by kernel_rfl) ?_
 repeat (first
  | go_big_quiet_step (fail))
 refine wpQuiet_nil ?_
 intro _ hw'
 obtain ⟨q, hw''⟩ := hw'
 subst hw''
 have hB2 := hB.trans ((below_regrown v2 q.d q.os).mono hB.size)
 go_wp2_with fail
 go_ret
 exact ⟨rfl, hB2⟩
theorem qum_ (p : NN.Pr) (h : Hd) (ho : h.ok) (lim b : Int) (e0 : Hid (p.lim = lim)) (eb : Hid (h.bits = b)) (t : Nat)
  (KT : Hid (Gv_ 74 #[.int .i64 b, .int .i64 lim] (.tuple #[.agg (NN.numC t), .bool true]))) (id : List UInt8) (u : Nat) (m : Bool) (KI : Hid (Gv_ 29 #[.agg (hdA h)] (.agg (bytesV id)))) (KN : Hid (Gv_ 81 #[.agg (bytesV id)] (.agg (NN.numC u)))) (KM : Hid (Gv_ 80 #[.agg (NN.numC t), .agg (NN.numC u)] (.bool m))) (w : World) :
  Ca_ 47 #[.agg (NN.prA p), .agg (hdA h)] w (.bool !m) := by
 go_enter Tryz.func47, Tryz.ntmps47
 go_upto_region 1 with fail
 generalize hw0 : World.alloc _ _ = v0
 have hB : Below w.heap.size w v0 := by rw [← hw0]; exact ((Below.refl _ _).alloc (Nat.le_refl _) _).alloc (by simp) _
 have hP : NN.PrAt v0 w.heap.size p := by rw [← hw0]; exact (NN.Has.new _ _).alloc _
 have hH : HdAt v0 (w.heap.size + 1) h := by rw [← hw0]; exact qik_ w _ h
 clear hw0
 have c0 := hP.c0 e0
 have c1 : v0.cell? ⟨w.heap.size + 1, 66, none⟩ = some (.int .i64 b) := by rw [← eb.out]; exact hH.bits ho
 go_wp2_with fail
 refine (KT.out _).mono ?_
 rintro e v1 ⟨rfl, hb1⟩
 replace hH := hH.on hb1
 replace hB := hB.trans (hb1.mono hB.size)
 clear hb1 c0 c1 hP
 have hZ := NN.Has.newz (w := v1) 26
 go_upto_region 2 with (with_reducible refine NN.qe_ rfl _ _ rfl _ _ rfl rfl _ hZ rfl ?_)
 generalize hw2 : World.setRow _ _ _ = v2
 have hb2 : Below v1.heap.size v1 v2 := bw_ hw2
 have hN : NN.Has v2 v1.heap.size (NN.numC t) 26 := by rw [← hw2]; exact NN.Has.row hZ _
 replace hH := hH.on hb2
 replace hB := hB.trans (hb2.mono hB.size)
 clear hw2 hb2 hZ
 generalize v1.heap.size = bN at hN ⊢
 have q1 := qs_ hH.range (qcd_ h)
 have s1 := qj_ ho
 go_wp2_with fail
 refine wp_region_quiet_below (by kernel_rfl) (by kernel_rfl) ?_
 repeat (first
  | (go_big_quiet_want; (with_reducible refine qt_ _ rfl (w.heap.size + 1) 0 rfl h s1 q1 ?_); (simp only [Act.put, List.setIfInBounds_toArray, List.set_cons_zero, List.set_cons_succ]); go_big_quiet_on)
  | (go_big_quiet_want; (with_reducible refine NN.qai_ _ rfl _ rfl _ hN.cls ?_); (simp only [Act.put, List.setIfInBounds_toArray, List.set_cons_zero, List.set_cons_succ]); go_big_quiet_on)
  | go_big_quiet_step (first | (go_at_call 29; exact Calls.regrown_of (KI.out _)) | (go_at_call 81; exact Calls.regrown_of (KN.out _)) | (go_at_call 80; exact Calls.regrown_of (KM.out _))))
 refine wpQuiet_nil ?_
 intro _ hw'
 obtain ⟨q, hw''⟩ := hw'
 subst hw''
 have hB2 := hB.trans ((below_regrown v2 q.d q.os).mono hB.size)
 go_wp2_with fail
 go_ret
 exact ⟨rfl, hB2⟩
theorem qzn_ (p : NN.Pr) (h : Hd) (ho : h.ok) (g : Bool) (hg : wkd p.lim h = g) (w : World) :
  Ca_ 47 #[.agg (NN.prA p), .agg (hdA h)] w (.bool g) := by
 unfold wkd at hg
 have KT := NN.qls_ h.bits p.lim
 cases hk : NN.tok h.bits p.lim
 ·rw [hk] at KT hg
  rw [← hg]
  exact qzm_ p h ho _ _ (Lib.hid rfl) (Lib.hid rfl) _ (Lib.hid KT) w
 ·rw [hk, Bool.true_and] at hg
  rw [hk] at KT
  rw [← hg]
  exact qum_ p h ho _ _ (Lib.hid rfl) (Lib.hid rfl) _ (Lib.hid KT) h.id _ _ (Lib.hid (rid_at h ho)) (Lib.hid (qrb_ h.id (qz_ h))) (Lib.hid (NN.qdk_ _ _ (NN.tg_lt _ _) (qyv_ _))) w
def bfold (p : NN.Pr) (ch : List Hd) : Nat → Int × Int
 | 0 => (0, p.lim)
 | k + 1 => (if NN.starts p.ivl (k : Int) = true then (ch.getD k hdZ).time else (bfold p ch k).1, if NN.starts p.ivl (k : Int) = true ∨ p.easy = false ∨ ¬ (ch.getD k hdZ).bits = p.lim then (ch.getD k hdZ).bits else (bfold p ch k).2)
theorem qme_ (p : NN.Pr) (g : Hd) (hs : List Hd) : ∀ k, k ≤ hs.length → bfold p (g :: hs) (k + 1) = ((way p g hs k).x.f, (way p g hs k).x.r)
 | 0, _ => rfl
 | k + 1, h => by
  rw [qey_ p g hs k (by omega)]
  have ih := qme_ p g hs k (by omega)
  have hh := way_h p g hs k (by omega)
  show (if NN.starts p.ivl ((k + 1 : Nat) : Int) = true then ((g :: hs).getD (k + 1) hdZ).time else (bfold p (g :: hs) (k + 1)).1, _) = _
  rw [ih]
  show _ = ((bhx p (way p g hs k).x (hs.getD k hdZ)).f, (bhx p (way p g hs k).x (hs.getD k hdZ)).r)
  unfold bhx
  rw [hh]
  rfl
theorem way_bt (p : NN.Pr) (g : Hd) (hs : List Hd) : ∀ k, k ≤ hs.length → (way p g hs k).x.b = ((g :: hs).getD k hdZ).bits ∧ (way p g hs k).x.t = ((g :: hs).getD k hdZ).time ∧ (way p g hs k).prev = ((g :: hs).getD k hdZ).id
 | 0, _ => ⟨rfl, rfl, rfl⟩
 | k + 1, h => by
  rw [qey_ p g hs k (by omega)]
  exact ⟨rfl, rfl, rfl⟩
set_option maxHeartbeats 8000000 in
theorem rbits_w (p : NN.Pr) (hz : (NN.prA p).size = 83) (lim ivl : Int) (easy : Bool) (e0 : Hid (p.lim = lim)) (e1 : Hid (p.ivl = ivl)) (e4 : Hid (p.easy = easy)) (a : Option Addr) (ch : List Hd) (n c : Nat) (hn : n = ch.length) (h0 : 0 < n) (hl : n ≤ 1000) (own : Int) (f r lb lt ans : Int) (hf : bfold p ch n = (f, r)) (hb : (ch.getD (n - 1) hdZ).bits = lb) (ht : (ch.getD (n - 1) hdZ).time = lt)
  (KN : Hid (Gv_ 79 #[.agg (NN.prA p), .int .i64 (n : Int), .int .i64 lb, .int .i64 lt, .int .i64 f, .int .i64 r, .int .i64 own] (.int .i64 ans))) (w : World) (hA : HeadersAt w a ch) :
  Ca_ 46 #[.agg (NN.prA p), .slice a n c, .int .i64 own] w (.int .i64 ans) := by
 have HN := Lib.hid hn
 have HF := Lib.hid hf
 have HA := Lib.hid hA
 obtain ⟨m, hm⟩ : ∃ m, m = n - 1 := ⟨_, rfl⟩
 have wm : IntKind.i64.wrap ((n : Int) - 1) = (m : Int) := by rw [IntKind.wrap_i64]; omega
 have hmn : m < n := by omega
 have d0 : ((n : Int) == 0) = false := by simp; omega
 obtain ⟨ab0, ao0, ea, habl0, hc0⟩ := hA (by rw [← hn]; omega)
 have hq : (ch.getD m hdZ).ok ∧ w.rangeAt ab0 (ao0 + m * 68) (hdC (ch.getD m hdZ)) := by
  rw [qip_ (show m < ch.length by rw [← hn]; omega)]; exact hc0 m _
 rw [← hm] at hb ht
 obtain ⟨y, hy⟩ : ∃ y, y = ch.getD m hdZ := ⟨_, rfl⟩
 rw [← hy] at hb ht hq
 subst ea
 have q1 := qj_ hq.1
 have q2 := qq_ hq.1
 have qz := qq_ hdZ_ok
 have yok := hq.1
 have HB := Lib.hid hb
 have HT := Lib.hid ht
 have HR := Lib.hid hq.2
 clear hn hf hA hm hy hc0 hb ht hq
 go_enter Tryz.func46, Tryz.ntmps46
 go_upto_region 1 with fail
 generalize hw0 : World.alloc _ _ = v0
 have hB : Below w.heap.size w v0 := bl_ hw0
 have hP : NN.PrAt v0 w.heap.size p := by rw [← hw0]; exact NN.Has.new _ _
 clear hw0
 obtain ⟨bP, hbP⟩ : ∃ b, b = w.heap.size := ⟨_, rfl⟩
 rw [← hbP] at hP ⊢
 clear hbP
 have r0 := qax_ HR.out hB (qcd_ y)
 have hnew := qoz_ v0
 go_upto_region 5 with (first
  | (with_reducible refine qaa_ rfl _ rfl ab0 (ao0 + m * 68) rfl y r0 q1 ?_)
  | (with_reducible refine qbv_ rfl _ _ rfl _ _ y rfl rfl rfl q2 hnew qz ?_))
 generalize hw1 : World.setRow _ _ _ = v1
 have hb1 : Below v0.heap.size v0 v1 := bw_ hw1
 have hY : HdAt v1 v0.heap.size y := by rw [← hw1]; exact Has.row hnew _
 replace hP := hP.on hb1
 replace hB := hB.trans (hb1.mono hB.size)
 clear hw1 hb1 hnew r0
 obtain ⟨bL, hbL⟩ : ∃ b, b = v0.heap.size := ⟨_, rfl⟩
 rw [← hbL] at hY ⊢
 clear hbL
 have c0 := hP.c0 e0
 go_wp2_with fail
 clear c0
 go_loopw [9, 10, 29] (fun u v i wr => ∃ k : Nat, k ≤ n ∧ i = .int .i64 (k : Int) ∧ ∃ fk rk : Int, u = .int .i64 fk ∧ v = .int .i64 rk ∧ Hid (bfold p ch k = (fk, rk)) ∧ NN.PrAt wr bP p ∧ HdAt wr bL y ∧ Below w.heap.size w wr) (fun _ _ i _ => n - (intOf i).toNat)
 case atStart => exact ⟨0, by omega, rfl, 0, _, rfl, rfl, Lib.hid (by rw [← e0.out]; rfl), hP, hY, hB⟩
 case round =>
  clear hP hY hB
  obtain ⟨k, hk, rfl, fk, rk, rfl, rfl, HK, hP, hY, hB⟩ := hrel
  by_cases hlt : k < n
  ·obtain ⟨ab, ao, ea, habl, hc⟩ := (HA.out.below hB) (by rw [← HN.out]; omega)
   cases ea
   have q : (ch.getD k hdZ).ok ∧ wr.rangeAt ab0 (ao0 + k * 68) (hdC (ch.getD k hdZ)) := by
    rw [qip_ (show k < ch.length by rw [← HN.out]; omega)]; exact hc k _
   have hnx : bfold p ch (k + 1) = (if NN.starts p.ivl (k : Int) = true then (ch.getD k hdZ).time else (bfold p ch k).1, if NN.starts p.ivl (k : Int) = true ∨ p.easy = false ∨ ¬ (ch.getD k hdZ).bits = p.lim then (ch.getD k hdZ).bits else (bfold p ch k).2) := rfl
   rw [HK.out] at hnx
   generalize ch.getD k hdZ = z at *
   obtain ⟨zok, rz⟩ := q
   have z1 := qj_ zok
   have z2 := qq_ zok
   have hnew := qoz_ wr
   have hG : HdAt ((wr.alloc (.cells Tryz.zeroCells30 30)).setRow wr.heap.size (hdA z)) wr.heap.size z := Has.row hnew _
   have hb1 : Below wr.heap.size wr ((wr.alloc (.cells Tryz.zeroCells30 30)).setRow wr.heap.size (hdA z)) := below_setRow ((Below.refl _ _).alloc (Nat.le_refl _) _) (Nat.le_refl _) _
   replace hP := hP.on hb1
   replace hY := hY.on hb1
   replace hB := hB.trans (hb1.mono hB.size)
   have c1 := hP.c1 e1
   have c4 := hP.c4 e4
   have c0 := hP.c0 e0
   obtain ⟨tz, htz⟩ : ∃ tz, tz = z.time := ⟨_, rfl⟩
   obtain ⟨bz, hbz⟩ : ∃ bz, bz = z.bits := ⟨_, rfl⟩
   have cb := hG.bits zok
   have ct := hG.time zok
   rw [← hbz] at cb hnx
   rw [← htz] at ct hnx
   rw [e0.out, e1.out, e4.out] at hnx
   have HX := Lib.hid hnx
   clear hnx hb1 hG hc htz hbz HK
   cases hti : decide (0 < ivl)
   ·have hst : NN.starts ivl (k : Int) = false := by unfold NN.starts; rw [hti]; rfl
    cases hE : easy
    ·rw [hE] at c4
     have HK2 : Hid (bfold p ch (k + 1) = (fk, bz)) := Lib.hid (by rw [HX.out]; simp [hst, hE])
     clear HX
     go_wp2_with (first
      | (with_reducible refine qaa_ rfl _ rfl ab0 (ao0 + k * 68) rfl z rz z1 ?_)
      | (with_reducible refine qbv_ rfl _ _ rfl _ _ z rfl rfl rfl z2 hnew qz ?_))
     go_roundw
     case rel => exact ⟨k + 1, by omega, by go_num, fk, bz, rfl, rfl, HK2, hP, hY, hB⟩
     case measure => simp [intOf]; omega
    ·rw [hE] at c4
     cases hne : (bz == lim)
     ·have hne2 : ¬ bz = lim := by simpa using hne
      have HK2 : Hid (bfold p ch (k + 1) = (fk, bz)) := Lib.hid (by rw [HX.out]; simp [hst, hE, hne2])
      clear HX
      go_wp2_with (first
       | (with_reducible refine qaa_ rfl _ rfl ab0 (ao0 + k * 68) rfl z rz z1 ?_)
       | (with_reducible refine qbv_ rfl _ _ rfl _ _ z rfl rfl rfl z2 hnew qz ?_))
      go_roundw
      case rel => exact ⟨k + 1, by omega, by go_num, fk, bz, rfl, rfl, HK2, hP, hY, hB⟩
      case measure => simp [intOf]; omega
     ·have hne2 : bz = lim := by simpa using hne
      have HK2 : Hid (bfold p ch (k + 1) = (fk, rk)) := Lib.hid (by rw [HX.out]; simp [hst, hE, hne2])
      clear HX
      go_wp2_with (first
       | (with_reducible refine qaa_ rfl _ rfl ab0 (ao0 + k * 68) rfl z rz z1 ?_)
       | (with_reducible refine qbv_ rfl _ _ rfl _ _ z rfl rfl rfl z2 hnew qz ?_))
      go_roundw
      case rel => exact ⟨k + 1, by omega, by go_num, fk, rk, rfl, rfl, HK2, hP, hY, hB⟩
      case measure => simp [intOf]; omega
   ·have hne0 : ¬ ivl = 0 := by have := of_decide_eq_true hti; omega
    obtain ⟨rm, hrm⟩ : ∃ rm, rm = (k : Int).tmod ivl := ⟨_, rfl⟩
    have hrm2 := hrm.symm
    cases htm : (rm == 0)
    ·have hst : NN.starts ivl (k : Int) = false := by unfold NN.starts; rw [hti, ← hrm, htm]; rfl
     clear hrm
     cases hE : easy
     ·rw [hE] at c4
      have HK2 : Hid (bfold p ch (k + 1) = (fk, bz)) := Lib.hid (by rw [HX.out]; simp [hst, hE])
      clear HX
      go_wp2_with (first
       | (with_reducible refine qaa_ rfl _ rfl ab0 (ao0 + k * 68) rfl z rz z1 ?_)
       | (with_reducible refine qbv_ rfl _ _ rfl _ _ z rfl rfl rfl z2 hnew qz ?_))
      go_roundw
      case rel => exact ⟨k + 1, by omega, by go_num, fk, bz, rfl, rfl, HK2, hP, hY, hB⟩
      case measure => simp [intOf]; omega
     ·rw [hE] at c4
      cases hne : (bz == lim)
      ·have hne2 : ¬ bz = lim := by simpa using hne
       have HK2 : Hid (bfold p ch (k + 1) = (fk, bz)) := Lib.hid (by rw [HX.out]; simp [hst, hE, hne2])
       clear HX
       go_wp2_with (first
        | (with_reducible refine qaa_ rfl _ rfl ab0 (ao0 + k * 68) rfl z rz z1 ?_)
        | (with_reducible refine qbv_ rfl _ _ rfl _ _ z rfl rfl rfl z2 hnew qz ?_))
       go_roundw
       case rel => exact ⟨k + 1, by omega, by go_num, fk, bz, rfl, rfl, HK2, hP, hY, hB⟩
       case measure => simp [intOf]; omega
      ·have hne2 : bz = lim := by simpa using hne
       have HK2 : Hid (bfold p ch (k + 1) = (fk, rk)) := Lib.hid (by rw [HX.out]; simp [hst, hE, hne2])
       clear HX
       go_wp2_with (first
        | (with_reducible refine qaa_ rfl _ rfl ab0 (ao0 + k * 68) rfl z rz z1 ?_)
        | (with_reducible refine qbv_ rfl _ _ rfl _ _ z rfl rfl rfl z2 hnew qz ?_))
       go_roundw
       case rel => exact ⟨k + 1, by omega, by go_num, fk, rk, rfl, rfl, HK2, hP, hY, hB⟩
       case measure => simp [intOf]; omega
    ·have hst : NN.starts ivl (k : Int) = true := by unfold NN.starts; rw [hti, ← hrm, htm]; rfl
     clear hrm
     cases hE : easy
     ·rw [hE] at c4
      have HK2 : Hid (bfold p ch (k + 1) = (tz, bz)) := Lib.hid (by rw [HX.out]; simp [hst, hE])
      clear HX
      go_wp2_with (first
       | (with_reducible refine qaa_ rfl _ rfl ab0 (ao0 + k * 68) rfl z rz z1 ?_)
       | (with_reducible refine qbv_ rfl _ _ rfl _ _ z rfl rfl rfl z2 hnew qz ?_))
      go_roundw
      case rel => exact ⟨k + 1, by omega, by go_num, tz, bz, rfl, rfl, HK2, hP, hY, hB⟩
      case measure => simp [intOf]; omega
     ·rw [hE] at c4
      cases hne : (bz == lim)
      ·have hne2 : ¬ bz = lim := by simpa using hne
       have HK2 : Hid (bfold p ch (k + 1) = (tz, bz)) := Lib.hid (by rw [HX.out]; simp [hst, hE, hne2])
       clear HX
       go_wp2_with (first
        | (with_reducible refine qaa_ rfl _ rfl ab0 (ao0 + k * 68) rfl z rz z1 ?_)
        | (with_reducible refine qbv_ rfl _ _ rfl _ _ z rfl rfl rfl z2 hnew qz ?_))
       go_roundw
       case rel => exact ⟨k + 1, by omega, by go_num, tz, bz, rfl, rfl, HK2, hP, hY, hB⟩
       case measure => simp [intOf]; omega
      ·have hne2 : bz = lim := by simpa using hne
       have HK2 : Hid (bfold p ch (k + 1) = (tz, lim)) := Lib.hid (by rw [HX.out]; simp [hst, hE, hne2])
       clear HX
       go_wp2_with (first
        | (with_reducible refine qaa_ rfl _ rfl ab0 (ao0 + k * 68) rfl z rz z1 ?_)
        | (with_reducible refine qbv_ rfl _ _ rfl _ _ z rfl rfl rfl z2 hnew qz ?_))
       go_roundw
       case rel => exact ⟨k + 1, by omega, by go_num, tz, lim, rfl, rfl, HK2, hP, hY, hB⟩
       case measure => simp [intOf]; omega
  ·obtain rfl : k = n := by omega
   have e : (fk, rk) = (f, r) := by rw [← HK.out, HF.out]
   cases e
   have cb := hY.bits yok
   have ct := hY.time yok
   rw [HB.out] at cb
   rw [HT.out] at ct
   go_wp2_with (first | fail | (with_reducible refine NN.qh_ rfl _ rfl _ rfl hP hz ?_))
   refine (KN.out _).mono ?_
   rintro e v9 ⟨rfl, hb9⟩
   replace hB := hB.trans (hb9.mono hB.size)
   go_wp2_with fail
   go_ret
   exact ⟨rfl, hB⟩
theorem qzo_ (p : NN.Pr) (hp : p.ok) (a : Option Addr) (g : Hd) (hs : List Hd) (n c : Nat) (hn : n = hs.length + 1) (hl : n ≤ 1000) (own : Int) (w : World) (hA : HeadersAt w a (g :: hs)) :
  Ca_ 46 #[.agg (NN.prA p), .slice a n c, .int .i64 own] w (.int .i64 (NN.rnx p (way p g hs (n - 1)).x own)) := by
 have h1 := qme_ p g hs (n - 1) (by omega)
 obtain ⟨h2, h3, _⟩ := way_bt p g hs (n - 1) (by omega)
 have h4 := way_h p g hs (n - 1) (by omega)
 rw [show n - 1 + 1 = n by omega] at h1
 refine rbits_w p (NN.qal_ hp) _ _ _ (Lib.hid rfl) (Lib.hid rfl) (Lib.hid rfl) a (g :: hs) n c (by simpa using hn) (by omega) hl own _ _ _ _ _ h1 h2.symm h3.symm (Lib.hid fun w => ?_) w hA
 have K := NN.qyo_ p hp (way p g hs (n - 1)).x own w
 rw [h4, show ((n - 1 : Nat) : Int) + 1 = (n : Int) by omega] at K
 exact K
end Go.Proofs.YtkclahiiijfllaaGreatDoor
namespace Go.Proofs.YtkclahiiijfllaaGreatDoor
open Go.RowKit Mem Sc NN.Rg2
structure CkS (w wr : World) (bP bA bH : Nat) (p : NN.Pr) (s : Sp) (h : Hd) : Prop where
 be : Below w.heap.size w wr
 p : NN.PrAt wr bP p
 a : SpAt wr bA s
 h : HdAt wr bH h
theorem CkS.on {w wr w' : World} {bP bA bH : Nat} {p : NN.Pr} {s : Sp} {h : Hd} (hs : CkS w wr bP bA bH p s h) (hb : Below wr.heap.size wr w') : CkS w w' bP bA bH p s h :=
 ⟨hs.be.trans (hb.mono hs.be.size), hs.p.on hb, hs.a.on hb, hs.h.on hb⟩
theorem qrc_ (p : NN.Pr) (xh xb xt xf xr : Int) (prev : List UInt8) (hp32 : prev.length = 32) (a : Option Addr) (n c : Nat) (h : Hd) (ho : h.ok) (now : Int) (w : World)
  (KG : Hid (∀ w', Below w.heap.size w w' → Calls Tryz.prog 34 #[.agg (hdA h)] w' fun e w'' => e = .returned (.bool false) ∧ Below w'.heap.size w' w'')) :
  Ca_ 36 #[.agg (NN.prA p), .agg (spA ⟨⟨xh, xb, xt, xf, xr⟩, prev, a, n, c⟩), .agg (hdA h), .int .i64 now] w (.int .i64 1) := by
 have za := qq_ ho
 have so : (⟨⟨xh, xb, xt, xf, xr⟩, prev, a, n, c⟩ : Sp).ok := hp32
 go_enter Tryz.func36, Tryz.ntmps36
 go_upto_region 1 with fail
 generalize hw0 : World.alloc _ _ = v0
 have hs : CkS w v0 w.heap.size (w.heap.size + 1) (w.heap.size + 1 + 1) p ⟨⟨xh, xb, xt, xf, xr⟩, prev, a, n, c⟩ h := by
  rw [← hw0]
  exact ⟨(((Below.refl _ _).alloc (Nat.le_refl _) _).alloc (by simp) _).alloc (by simp; omega) _, ((NN.Has.new _ _).alloc _).alloc _, (Has.new1 _ _ _).alloc _, Has.new2 _ _ _ _⟩
 clear hw0
 obtain ⟨bP, hbP⟩ : ∃ b, b = w.heap.size := ⟨_, rfl⟩
 obtain ⟨bA, hbA⟩ : ∃ b, b = w.heap.size + 1 := ⟨_, rfl⟩
 obtain ⟨bH, hbH⟩ : ∃ b, b = w.heap.size + 1 + 1 := ⟨_, rfl⟩
 rw [← hbH, ← hbA, ← hbP] at hs ⊢
 clear hbP hbA hbH
 have hH := hs.h
 go_wp2_with (first | fail | (with_reducible refine qab_ rfl _ rfl bH rfl hH za ?_))
 refine (KG.out _ hs.be).mono ?_
 rintro e v1 ⟨rfl, hb1⟩
 replace hs := hs.on hb1
 clear hb1
 go_wp2_with fail
 go_ret
 exact ⟨rfl, hs.be⟩
theorem qgw_ (p : NN.Pr) (xh xb xt xf xr : Int) (prev : List UInt8) (hp32 : prev.length = 32) (a : Option Addr) (n c : Nat) (h : Hd) (ho : h.ok) (now : Int) (w : World)
  (KG : Hid (∀ w', Below w.heap.size w w' → Calls Tryz.prog 34 #[.agg (hdA h)] w' fun e w'' => e = .returned (.bool true) ∧ Below w'.heap.size w' w'')) (t1 : (!(h.prev == prev)) = true) :
  Ca_ 36 #[.agg (NN.prA p), .agg (spA ⟨⟨xh, xb, xt, xf, xr⟩, prev, a, n, c⟩), .agg (hdA h), .int .i64 now] w (.int .i64 2) := by
 have za := qq_ ho
 have so : (⟨⟨xh, xb, xt, xf, xr⟩, prev, a, n, c⟩ : Sp).ok := hp32
 have qn := hn_neq h.prev prev ho.1 hp32 _ t1
 go_enter Tryz.func36, Tryz.ntmps36
 go_upto_region 1 with fail
 generalize hw0 : World.alloc _ _ = v0
 have hs : CkS w v0 w.heap.size (w.heap.size + 1) (w.heap.size + 1 + 1) p ⟨⟨xh, xb, xt, xf, xr⟩, prev, a, n, c⟩ h := by
  rw [← hw0]
  exact ⟨(((Below.refl _ _).alloc (Nat.le_refl _) _).alloc (by simp) _).alloc (by simp; omega) _, ((NN.Has.new _ _).alloc _).alloc _, (Has.new1 _ _ _).alloc _, Has.new2 _ _ _ _⟩
 clear hw0
 obtain ⟨bP, hbP⟩ : ∃ b, b = w.heap.size := ⟨_, rfl⟩
 obtain ⟨bA, hbA⟩ : ∃ b, b = w.heap.size + 1 := ⟨_, rfl⟩
 obtain ⟨bH, hbH⟩ : ∃ b, b = w.heap.size + 1 + 1 := ⟨_, rfl⟩
 rw [← hbH, ← hbA, ← hbP] at hs ⊢
 clear hbP hbA hbH
 have hH := hs.h
 go_wp2_with (first | fail | (with_reducible refine qab_ rfl _ rfl bH rfl hH za ?_))
 refine (KG.out _ hs.be).mono ?_
 rintro e v1 ⟨rfl, hb1⟩
 replace hs := hs.on hb1
 clear hb1
 clear hH
 have r1 := qbp_ hs.h.range
 rw [Nat.zero_add] at r1
 have r5 := hs.a.prev
 have s1 := qg_ ho.1
 have s5 := qg_ hp32
 go_wp2_with (with_reducible first | refine qn_ rfl _ rfl bH 1 rfl h.prev r1 s1 ?_ | refine qn_ rfl _ rfl bA 5 rfl prev r5 s5 ?_ | refine hneq_g (by with_unfolding_all rfl) _ _ _ rfl _ _ _ rfl rfl qn ?_)
 go_ret
 exact ⟨rfl, hs.be⟩
theorem qrd_ (p : NN.Pr) (hz : (NN.prA p).size = 83) (xh xb xt xf xr : Int) (prev : List UInt8) (hp32 : prev.length = 32) (a : Option Addr) (n c : Nat) (h : Hd) (ho : h.ok) (now : Int) (w : World)
  (KG : Hid (∀ w', Below w.heap.size w w' → Calls Tryz.prog 34 #[.agg (hdA h)] w' fun e w'' => e = .returned (.bool true) ∧ Below w'.heap.size w' w'')) (t1 : (!(h.prev == prev)) = false)
  (hb ht nb : Int) (eb : Hid (h.bits = hb)) (et : Hid (h.time = ht)) (KN : Hid (∀ w', Below w.heap.size w w' → Calls Tryz.prog 62 #[.agg (NN.prA p), .agg (NN.ptA ⟨xh, xb, xt, xf, xr⟩), .int .i64 ht] w' fun e w'' => e = .returned (.int .i64 nb) ∧ Below w'.heap.size w' w'')) (t2 : (hb == nb) = false) :
  Ca_ 36 #[.agg (NN.prA p), .agg (spA ⟨⟨xh, xb, xt, xf, xr⟩, prev, a, n, c⟩), .agg (hdA h), .int .i64 now] w (.int .i64 3) := by
 have za := qq_ ho
 have so : (⟨⟨xh, xb, xt, xf, xr⟩, prev, a, n, c⟩ : Sp).ok := hp32
 have qn := hn_neq h.prev prev ho.1 hp32 _ t1
 go_enter Tryz.func36, Tryz.ntmps36
 go_upto_region 1 with fail
 generalize hw0 : World.alloc _ _ = v0
 have hs : CkS w v0 w.heap.size (w.heap.size + 1) (w.heap.size + 1 + 1) p ⟨⟨xh, xb, xt, xf, xr⟩, prev, a, n, c⟩ h := by
  rw [← hw0]
  exact ⟨(((Below.refl _ _).alloc (Nat.le_refl _) _).alloc (by simp) _).alloc (by simp; omega) _, ((NN.Has.new _ _).alloc _).alloc _, (Has.new1 _ _ _).alloc _, Has.new2 _ _ _ _⟩
 clear hw0
 obtain ⟨bP, hbP⟩ : ∃ b, b = w.heap.size := ⟨_, rfl⟩
 obtain ⟨bA, hbA⟩ : ∃ b, b = w.heap.size + 1 := ⟨_, rfl⟩
 obtain ⟨bH, hbH⟩ : ∃ b, b = w.heap.size + 1 + 1 := ⟨_, rfl⟩
 rw [← hbH, ← hbA, ← hbP] at hs ⊢
 clear hbP hbA hbH
 have hH := hs.h
 go_wp2_with (first | fail | (with_reducible refine qab_ rfl _ rfl bH rfl hH za ?_))
 refine (KG.out _ hs.be).mono ?_
 rintro e v1 ⟨rfl, hb1⟩
 replace hs := hs.on hb1
 clear hb1
 clear hH
 have r1 := qbp_ hs.h.range
 rw [Nat.zero_add] at r1
 have r5 := hs.a.prev
 have s1 := qg_ ho.1
 have s5 := qg_ hp32
 go_upto_region 5 with (with_reducible first | refine qn_ rfl _ rfl bH 1 rfl h.prev r1 s1 ?_ | refine qn_ rfl _ rfl bA 5 rfl prev r5 s5 ?_ | refine hneq_g (by with_unfolding_all rfl) _ _ _ rfl _ _ _ rfl rfl qn ?_)
 clear r1 r5 s1 s5 qn
 have qb : ∀ d os, (Sort.grow (redrawn v1 d) os).cell? ⟨bH, 66, none⟩ = some (.int .i64 hb) := cell_regrown (by rw [← eb.out]; exact hs.h.bits ho)
 have qt : ∀ d os, (Sort.grow (redrawn v1 d) os).cell? ⟨bH, 65, none⟩ = some (.int .i64 ht) := cell_regrown (by rw [← et.out]; exact hs.h.time ho)
 have qp := hs.p.cls
 have qx := qs_ hs.a.pt (show 0 < 5 by decide)
 have hbr : ∀ d os, Below w.heap.size w (Sort.grow (redrawn v1 d) os) := fun d os => hs.be.trans ((below_regrown v1 d os).mono hs.be.size)
 refine wp_region_quiet_below (by kernel_rfl) (by kernel_rfl) ?_
 repeat (first
  | (go_big_quiet_want; (with_reducible refine NN.qar_ _ rfl _ rfl hz qp ?_); (simp only [Act.put, List.setIfInBounds_toArray, List.set_cons_zero, List.set_cons_succ]); go_big_quiet_on)
  | (go_big_quiet_want; (with_reducible refine qew_ _ rfl bA rfl ⟨xh, xb, xt, xf, xr⟩ qx ?_); (simp only [Act.put, List.setIfInBounds_toArray, List.set_cons_zero, List.set_cons_succ]); go_big_quiet_on)
  | go_big_quiet_step (first | (go_at_call 62; exact Calls.regrown_of (KN.out _ (hbr _ _)))))
 refine wpQuiet_nil ?_
 intro v2 hw'
 obtain ⟨rg, hw''⟩ := hw'
 have hb2 : Below v1.heap.size v1 v2 := by rw [hw'']; exact below_regrown v1 rg.d rg.os
 clear hw'' hbr
 replace hs := hs.on hb2
 clear hb2
 clear qb qt qp qx
 go_wp2_with fail
 go_ret
 exact ⟨rfl, hs.be⟩
theorem qre_ (p : NN.Pr) (hz : (NN.prA p).size = 83) (xh xb xt xf xr : Int) (prev : List UInt8) (hp32 : prev.length = 32) (a : Option Addr) (n c : Nat) (h : Hd) (ho : h.ok) (now : Int) (w : World)
  (KG : Hid (∀ w', Below w.heap.size w w' → Calls Tryz.prog 34 #[.agg (hdA h)] w' fun e w'' => e = .returned (.bool true) ∧ Below w'.heap.size w' w'')) (t1 : (!(h.prev == prev)) = false)
  (hb ht nb : Int) (eb : Hid (h.bits = hb)) (et : Hid (h.time = ht)) (KN : Hid (∀ w', Below w.heap.size w w' → Calls Tryz.prog 62 #[.agg (NN.prA p), .agg (NN.ptA ⟨xh, xb, xt, xf, xr⟩), .int .i64 ht] w' fun e w'' => e = .returned (.int .i64 nb) ∧ Below w'.heap.size w' w'')) (t2 : (hb == nb) = true)
  (KW : Hid (∀ w', Below w.heap.size w w' → Calls Tryz.prog 63 #[.agg (NN.prA p), .agg (hdA h)] w' fun e w'' => e = .returned (.bool false) ∧ Below w'.heap.size w' w'')) :
  Ca_ 36 #[.agg (NN.prA p), .agg (spA ⟨⟨xh, xb, xt, xf, xr⟩, prev, a, n, c⟩), .agg (hdA h), .int .i64 now] w (.int .i64 4) := by
 have za := qq_ ho
 have so : (⟨⟨xh, xb, xt, xf, xr⟩, prev, a, n, c⟩ : Sp).ok := hp32
 have qn := hn_neq h.prev prev ho.1 hp32 _ t1
 go_enter Tryz.func36, Tryz.ntmps36
 go_upto_region 1 with fail
 generalize hw0 : World.alloc _ _ = v0
 have hs : CkS w v0 w.heap.size (w.heap.size + 1) (w.heap.size + 1 + 1) p ⟨⟨xh, xb, xt, xf, xr⟩, prev, a, n, c⟩ h := by
  rw [← hw0]
  exact ⟨(((Below.refl _ _).alloc (Nat.le_refl _) _).alloc (by simp) _).alloc (by simp; omega) _, ((NN.Has.new _ _).alloc _).alloc _, (Has.new1 _ _ _).alloc _, Has.new2 _ _ _ _⟩
 clear hw0
 obtain ⟨bP, hbP⟩ : ∃ b, b = w.heap.size := ⟨_, rfl⟩
 obtain ⟨bA, hbA⟩ : ∃ b, b = w.heap.size + 1 := ⟨_, rfl⟩
 obtain ⟨bH, hbH⟩ : ∃ b, b = w.heap.size + 1 + 1 := ⟨_, rfl⟩
 rw [← hbH, ← hbA, ← hbP] at hs ⊢
 clear hbP hbA hbH
 have hH := hs.h
 go_wp2_with (first | fail | (with_reducible refine qab_ rfl _ rfl bH rfl hH za ?_))
 refine (KG.out _ hs.be).mono ?_
 rintro e v1 ⟨rfl, hb1⟩
 replace hs := hs.on hb1
 clear hb1
 clear hH
 have r1 := qbp_ hs.h.range
 rw [Nat.zero_add] at r1
 have r5 := hs.a.prev
 have s1 := qg_ ho.1
 have s5 := qg_ hp32
 go_upto_region 5 with (with_reducible first | refine qn_ rfl _ rfl bH 1 rfl h.prev r1 s1 ?_ | refine qn_ rfl _ rfl bA 5 rfl prev r5 s5 ?_ | refine hneq_g (by with_unfolding_all rfl) _ _ _ rfl _ _ _ rfl rfl qn ?_)
 clear r1 r5 s1 s5 qn
 have qb : ∀ d os, (Sort.grow (redrawn v1 d) os).cell? ⟨bH, 66, none⟩ = some (.int .i64 hb) := cell_regrown (by rw [← eb.out]; exact hs.h.bits ho)
 have qt : ∀ d os, (Sort.grow (redrawn v1 d) os).cell? ⟨bH, 65, none⟩ = some (.int .i64 ht) := cell_regrown (by rw [← et.out]; exact hs.h.time ho)
 have qp := hs.p.cls
 have qx := qs_ hs.a.pt (show 0 < 5 by decide)
 have hbr : ∀ d os, Below w.heap.size w (Sort.grow (redrawn v1 d) os) := fun d os => hs.be.trans ((below_regrown v1 d os).mono hs.be.size)
 refine wp_region_quiet_below (by kernel_rfl) (by kernel_rfl) ?_
 repeat (first
  | (go_big_quiet_want; (with_reducible refine NN.qar_ _ rfl _ rfl hz qp ?_); (simp only [Act.put, List.setIfInBounds_toArray, List.set_cons_zero, List.set_cons_succ]); go_big_quiet_on)
  | (go_big_quiet_want; (with_reducible refine qew_ _ rfl bA rfl ⟨xh, xb, xt, xf, xr⟩ qx ?_); (simp only [Act.put, List.setIfInBounds_toArray, List.set_cons_zero, List.set_cons_succ]); go_big_quiet_on)
  | go_big_quiet_step (first | (go_at_call 62; exact Calls.regrown_of (KN.out _ (hbr _ _)))))
 refine wpQuiet_nil ?_
 intro v2 hw'
 obtain ⟨rg, hw''⟩ := hw'
 have hb2 : Below v1.heap.size v1 v2 := by rw [hw'']; exact below_regrown v1 rg.d rg.os
 clear hw'' hbr
 replace hs := hs.on hb2
 clear hb2
 clear qb qt qp qx
 have hH := hs.h
 have hP := hs.p
 go_wp2_with (with_reducible first | refine qab_ rfl _ rfl bH rfl hH za ?_ | refine NN.qh_ rfl _ rfl _ rfl hP hz ?_)
 refine (KW.out _ hs.be).mono ?_
 rintro e v3 ⟨rfl, hb3⟩
 replace hs := hs.on hb3
 clear hb3
 clear hH hP
 go_wp2_with fail
 go_ret
 exact ⟨rfl, hs.be⟩
theorem qun_ (p : NN.Pr) (hz : (NN.prA p).size = 83) (xh xb xt xf xr : Int) (prev : List UInt8) (hp32 : prev.length = 32) (a : Option Addr) (n c : Nat) (h : Hd) (ho : h.ok) (now : Int) (w : World)
  (KG : Hid (∀ w', Below w.heap.size w w' → Calls Tryz.prog 34 #[.agg (hdA h)] w' fun e w'' => e = .returned (.bool true) ∧ Below w'.heap.size w' w'')) (t1 : (!(h.prev == prev)) = false)
  (hb ht nb : Int) (eb : Hid (h.bits = hb)) (et : Hid (h.time = ht)) (KN : Hid (∀ w', Below w.heap.size w w' → Calls Tryz.prog 62 #[.agg (NN.prA p), .agg (NN.ptA ⟨xh, xb, xt, xf, xr⟩), .int .i64 ht] w' fun e w'' => e = .returned (.int .i64 nb) ∧ Below w'.heap.size w' w'')) (t2 : (hb == nb) = true)
  (KW : Hid (∀ w', Below w.heap.size w w' → Calls Tryz.prog 63 #[.agg (NN.prA p), .agg (hdA h)] w' fun e w'' => e = .returned (.bool true) ∧ Below w'.heap.size w' w''))
  (KL : Hid (∀ w', Below w.heap.size w w' → Calls Tryz.prog 64 #[.int .i64 ht, .slice a n c] w' fun e w'' => e = .returned (.bool false) ∧ Below w'.heap.size w' w'')) :
  Ca_ 36 #[.agg (NN.prA p), .agg (spA ⟨⟨xh, xb, xt, xf, xr⟩, prev, a, n, c⟩), .agg (hdA h), .int .i64 now] w (.int .i64 5) := by
 have za := qq_ ho
 have so : (⟨⟨xh, xb, xt, xf, xr⟩, prev, a, n, c⟩ : Sp).ok := hp32
 have qn := hn_neq h.prev prev ho.1 hp32 _ t1
 go_enter Tryz.func36, Tryz.ntmps36
 go_upto_region 1 with fail
 generalize hw0 : World.alloc _ _ = v0
 have hs : CkS w v0 w.heap.size (w.heap.size + 1) (w.heap.size + 1 + 1) p ⟨⟨xh, xb, xt, xf, xr⟩, prev, a, n, c⟩ h := by
  rw [← hw0]
  exact ⟨(((Below.refl _ _).alloc (Nat.le_refl _) _).alloc (by simp) _).alloc (by simp; omega) _, ((NN.Has.new _ _).alloc _).alloc _, (Has.new1 _ _ _).alloc _, Has.new2 _ _ _ _⟩
 clear hw0
 obtain ⟨bP, hbP⟩ : ∃ b, b = w.heap.size := ⟨_, rfl⟩
 obtain ⟨bA, hbA⟩ : ∃ b, b = w.heap.size + 1 := ⟨_, rfl⟩
 obtain ⟨bH, hbH⟩ : ∃ b, b = w.heap.size + 1 + 1 := ⟨_, rfl⟩
 rw [← hbH, ← hbA, ← hbP] at hs ⊢
 clear hbP hbA hbH
 have hH := hs.h
 go_wp2_with (first | fail | (with_reducible refine qab_ rfl _ rfl bH rfl hH za ?_))
 refine (KG.out _ hs.be).mono ?_
 rintro e v1 ⟨rfl, hb1⟩
 replace hs := hs.on hb1
 clear hb1
 clear hH
 have r1 := qbp_ hs.h.range
 rw [Nat.zero_add] at r1
 have r5 := hs.a.prev
 have s1 := qg_ ho.1
 have s5 := qg_ hp32
 go_upto_region 5 with (with_reducible first | refine qn_ rfl _ rfl bH 1 rfl h.prev r1 s1 ?_ | refine qn_ rfl _ rfl bA 5 rfl prev r5 s5 ?_ | refine hneq_g (by with_unfolding_all rfl) _ _ _ rfl _ _ _ rfl rfl qn ?_)
 clear r1 r5 s1 s5 qn
 have qb : ∀ d os, (Sort.grow (redrawn v1 d) os).cell? ⟨bH, 66, none⟩ = some (.int .i64 hb) := cell_regrown (by rw [← eb.out]; exact hs.h.bits ho)
 have qt : ∀ d os, (Sort.grow (redrawn v1 d) os).cell? ⟨bH, 65, none⟩ = some (.int .i64 ht) := cell_regrown (by rw [← et.out]; exact hs.h.time ho)
 have qp := hs.p.cls
 have qx := qs_ hs.a.pt (show 0 < 5 by decide)
 have hbr : ∀ d os, Below w.heap.size w (Sort.grow (redrawn v1 d) os) := fun d os => hs.be.trans ((below_regrown v1 d os).mono hs.be.size)
 refine wp_region_quiet_below (by kernel_rfl) (by kernel_rfl) ?_
 repeat (first
  | (go_big_quiet_want; (with_reducible refine NN.qar_ _ rfl _ rfl hz qp ?_); (simp only [Act.put, List.setIfInBounds_toArray, List.set_cons_zero, List.set_cons_succ]); go_big_quiet_on)
  | (go_big_quiet_want; (with_reducible refine qew_ _ rfl bA rfl ⟨xh, xb, xt, xf, xr⟩ qx ?_); (simp only [Act.put, List.setIfInBounds_toArray, List.set_cons_zero, List.set_cons_succ]); go_big_quiet_on)
  | go_big_quiet_step (first | (go_at_call 62; exact Calls.regrown_of (KN.out _ (hbr _ _)))))
 refine wpQuiet_nil ?_
 intro v2 hw'
 obtain ⟨rg, hw''⟩ := hw'
 have hb2 : Below v1.heap.size v1 v2 := by rw [hw'']; exact below_regrown v1 rg.d rg.os
 clear hw'' hbr
 replace hs := hs.on hb2
 clear hb2
 clear qb qt qp qx
 have hH := hs.h
 have hP := hs.p
 go_wp2_with (with_reducible first | refine qab_ rfl _ rfl bH rfl hH za ?_ | refine NN.qh_ rfl _ rfl _ rfl hP hz ?_)
 refine (KW.out _ hs.be).mono ?_
 rintro e v3 ⟨rfl, hb3⟩
 replace hs := hs.on hb3
 clear hb3
 clear hH hP
 have cT : v3.cell? ⟨bH, 65, none⟩ = some (.int .i64 ht) := by rw [← et.out]; exact hs.h.time ho
 have cS := hs.a.sl so
 go_wp2_with (first | fail)
 refine (KL.out _ hs.be).mono ?_
 rintro e v4 ⟨rfl, hb4⟩
 replace hs := hs.on hb4
 clear hb4
 clear cT cS
 go_wp2_with fail
 go_ret
 exact ⟨rfl, hs.be⟩
theorem quo_ (p : NN.Pr) (hz : (NN.prA p).size = 83) (xh xb xt xf xr : Int) (prev : List UInt8) (hp32 : prev.length = 32) (a : Option Addr) (n c : Nat) (h : Hd) (ho : h.ok) (now : Int) (w : World)
  (KG : Hid (∀ w', Below w.heap.size w w' → Calls Tryz.prog 34 #[.agg (hdA h)] w' fun e w'' => e = .returned (.bool true) ∧ Below w'.heap.size w' w'')) (t1 : (!(h.prev == prev)) = false)
  (hb ht nb : Int) (eb : Hid (h.bits = hb)) (et : Hid (h.time = ht)) (KN : Hid (∀ w', Below w.heap.size w w' → Calls Tryz.prog 62 #[.agg (NN.prA p), .agg (NN.ptA ⟨xh, xb, xt, xf, xr⟩), .int .i64 ht] w' fun e w'' => e = .returned (.int .i64 nb) ∧ Below w'.heap.size w' w'')) (t2 : (hb == nb) = true)
  (KW : Hid (∀ w', Below w.heap.size w w' → Calls Tryz.prog 63 #[.agg (NN.prA p), .agg (hdA h)] w' fun e w'' => e = .returned (.bool true) ∧ Below w'.heap.size w' w''))
  (KL : Hid (∀ w', Below w.heap.size w w' → Calls Tryz.prog 64 #[.int .i64 ht, .slice a n c] w' fun e w'' => e = .returned (.bool true) ∧ Below w'.heap.size w' w''))
  (fut : Int) (e3 : Hid (p.fut = fut)) (KE : Hid (∀ w', Below w.heap.size w w' → Calls Tryz.prog 65 #[.int .i64 ht, .int .i64 now, .int .i64 fut] w' fun e w'' => e = .returned (.bool false) ∧ Below w'.heap.size w' w'')) :
  Ca_ 36 #[.agg (NN.prA p), .agg (spA ⟨⟨xh, xb, xt, xf, xr⟩, prev, a, n, c⟩), .agg (hdA h), .int .i64 now] w (.int .i64 6) := by
 have za := qq_ ho
 have so : (⟨⟨xh, xb, xt, xf, xr⟩, prev, a, n, c⟩ : Sp).ok := hp32
 have qn := hn_neq h.prev prev ho.1 hp32 _ t1
 go_enter Tryz.func36, Tryz.ntmps36
 go_upto_region 1 with fail
 generalize hw0 : World.alloc _ _ = v0
 have hs : CkS w v0 w.heap.size (w.heap.size + 1) (w.heap.size + 1 + 1) p ⟨⟨xh, xb, xt, xf, xr⟩, prev, a, n, c⟩ h := by
  rw [← hw0]
  exact ⟨(((Below.refl _ _).alloc (Nat.le_refl _) _).alloc (by simp) _).alloc (by simp; omega) _, ((NN.Has.new _ _).alloc _).alloc _, (Has.new1 _ _ _).alloc _, Has.new2 _ _ _ _⟩
 clear hw0
 obtain ⟨bP, hbP⟩ : ∃ b, b = w.heap.size := ⟨_, rfl⟩
 obtain ⟨bA, hbA⟩ : ∃ b, b = w.heap.size + 1 := ⟨_, rfl⟩
 obtain ⟨bH, hbH⟩ : ∃ b, b = w.heap.size + 1 + 1 := ⟨_, rfl⟩
 rw [← hbH, ← hbA, ← hbP] at hs ⊢
 clear hbP hbA hbH
 have hH := hs.h
 go_wp2_with (first | fail | (with_reducible refine qab_ rfl _ rfl bH rfl hH za ?_))
 refine (KG.out _ hs.be).mono ?_
 rintro e v1 ⟨rfl, hb1⟩
 replace hs := hs.on hb1
 clear hb1
 clear hH
 have r1 := qbp_ hs.h.range
 rw [Nat.zero_add] at r1
 have r5 := hs.a.prev
 have s1 := qg_ ho.1
 have s5 := qg_ hp32
 go_upto_region 5 with (with_reducible first | refine qn_ rfl _ rfl bH 1 rfl h.prev r1 s1 ?_ | refine qn_ rfl _ rfl bA 5 rfl prev r5 s5 ?_ | refine hneq_g (by with_unfolding_all rfl) _ _ _ rfl _ _ _ rfl rfl qn ?_)
 clear r1 r5 s1 s5 qn
 have qb : ∀ d os, (Sort.grow (redrawn v1 d) os).cell? ⟨bH, 66, none⟩ = some (.int .i64 hb) := cell_regrown (by rw [← eb.out]; exact hs.h.bits ho)
 have qt : ∀ d os, (Sort.grow (redrawn v1 d) os).cell? ⟨bH, 65, none⟩ = some (.int .i64 ht) := cell_regrown (by rw [← et.out]; exact hs.h.time ho)
 have qp := hs.p.cls
 have qx := qs_ hs.a.pt (show 0 < 5 by decide)
 have hbr : ∀ d os, Below w.heap.size w (Sort.grow (redrawn v1 d) os) := fun d os => hs.be.trans ((below_regrown v1 d os).mono hs.be.size)
 refine wp_region_quiet_below (by kernel_rfl) (by kernel_rfl) ?_
 repeat (first
  | (go_big_quiet_want; (with_reducible refine NN.qar_ _ rfl _ rfl hz qp ?_); (simp only [Act.put, List.setIfInBounds_toArray, List.set_cons_zero, List.set_cons_succ]); go_big_quiet_on)
  | (go_big_quiet_want; (with_reducible refine qew_ _ rfl bA rfl ⟨xh, xb, xt, xf, xr⟩ qx ?_); (simp only [Act.put, List.setIfInBounds_toArray, List.set_cons_zero, List.set_cons_succ]); go_big_quiet_on)
  | go_big_quiet_step (first | (go_at_call 62; exact Calls.regrown_of (KN.out _ (hbr _ _)))))
 refine wpQuiet_nil ?_
 intro v2 hw'
 obtain ⟨rg, hw''⟩ := hw'
 have hb2 : Below v1.heap.size v1 v2 := by rw [hw'']; exact below_regrown v1 rg.d rg.os
 clear hw'' hbr
 replace hs := hs.on hb2
 clear hb2
 clear qb qt qp qx
 have hH := hs.h
 have hP := hs.p
 go_wp2_with (with_reducible first | refine qab_ rfl _ rfl bH rfl hH za ?_ | refine NN.qh_ rfl _ rfl _ rfl hP hz ?_)
 refine (KW.out _ hs.be).mono ?_
 rintro e v3 ⟨rfl, hb3⟩
 replace hs := hs.on hb3
 clear hb3
 clear hH hP
 have cT : v3.cell? ⟨bH, 65, none⟩ = some (.int .i64 ht) := by rw [← et.out]; exact hs.h.time ho
 have cS := hs.a.sl so
 go_wp2_with (first | fail)
 refine (KL.out _ hs.be).mono ?_
 rintro e v4 ⟨rfl, hb4⟩
 replace hs := hs.on hb4
 clear hb4
 clear cT cS
 have cT : v4.cell? ⟨bH, 65, none⟩ = some (.int .i64 ht) := by rw [← et.out]; exact hs.h.time ho
 have c3 := hs.p.c3 e3
 go_wp2_with (first | fail)
 refine (KE.out _ hs.be).mono ?_
 rintro e v5 ⟨rfl, hb5⟩
 replace hs := hs.on hb5
 clear hb5
 clear cT c3
 go_wp2_with fail
 go_ret
 exact ⟨rfl, hs.be⟩
theorem qjg_ (p : NN.Pr) (hz : (NN.prA p).size = 83) (xh xb xt xf xr : Int) (prev : List UInt8) (hp32 : prev.length = 32) (a : Option Addr) (n c : Nat) (h : Hd) (ho : h.ok) (now : Int) (w : World)
  (KG : Hid (∀ w', Below w.heap.size w w' → Calls Tryz.prog 34 #[.agg (hdA h)] w' fun e w'' => e = .returned (.bool true) ∧ Below w'.heap.size w' w'')) (t1 : (!(h.prev == prev)) = false)
  (hb ht nb : Int) (eb : Hid (h.bits = hb)) (et : Hid (h.time = ht)) (KN : Hid (∀ w', Below w.heap.size w w' → Calls Tryz.prog 62 #[.agg (NN.prA p), .agg (NN.ptA ⟨xh, xb, xt, xf, xr⟩), .int .i64 ht] w' fun e w'' => e = .returned (.int .i64 nb) ∧ Below w'.heap.size w' w'')) (t2 : (hb == nb) = true)
  (KW : Hid (∀ w', Below w.heap.size w w' → Calls Tryz.prog 63 #[.agg (NN.prA p), .agg (hdA h)] w' fun e w'' => e = .returned (.bool true) ∧ Below w'.heap.size w' w''))
  (KL : Hid (∀ w', Below w.heap.size w w' → Calls Tryz.prog 64 #[.int .i64 ht, .slice a n c] w' fun e w'' => e = .returned (.bool true) ∧ Below w'.heap.size w' w''))
  (fut : Int) (e3 : Hid (p.fut = fut)) (KE : Hid (∀ w', Below w.heap.size w w' → Calls Tryz.prog 65 #[.int .i64 ht, .int .i64 now, .int .i64 fut] w' fun e w'' => e = .returned (.bool true) ∧ Below w'.heap.size w' w''))
  (t : Tl) (tt : Hid (p.tl = t.C)) (hv v : Int) (ev : Hid (h.v = hv)) (KV : Hid (∀ w', Below w.heap.size w w' → Calls Tryz.prog 66 #[.int .i64 xh, .slice t.ga t.gn t.gc] w' fun e w'' => e = .returned (.int .i64 v) ∧ Below w'.heap.size w' w'')) (t6 : decide (hv < v) = true) :
  Ca_ 36 #[.agg (NN.prA p), .agg (spA ⟨⟨xh, xb, xt, xf, xr⟩, prev, a, n, c⟩), .agg (hdA h), .int .i64 now] w (.int .i64 7) := by
 have za := qq_ ho
 have so : (⟨⟨xh, xb, xt, xf, xr⟩, prev, a, n, c⟩ : Sp).ok := hp32
 have qn := hn_neq h.prev prev ho.1 hp32 _ t1
 obtain ⟨ga, hga⟩ : ∃ x, x = t.ga := ⟨_, rfl⟩
 obtain ⟨gn, hgn⟩ : ∃ x, x = t.gn := ⟨_, rfl⟩
 obtain ⟨gc, hgc⟩ : ∃ x, x = t.gc := ⟨_, rfl⟩
 rw [← hga, ← hgn, ← hgc] at KV
 have P5 : Hid (∀ wx b, NN.PrAt wx b p → wx.cell? ⟨b, 5, none⟩ = some (.slice ga gn gc)) := Lib.hid (fun wx b hh => by rw [hga, hgn, hgc]; exact qdr_ hh tt.out)
 clear hga hgn hgc
 go_enter Tryz.func36, Tryz.ntmps36
 go_upto_region 1 with fail
 generalize hw0 : World.alloc _ _ = v0
 have hs : CkS w v0 w.heap.size (w.heap.size + 1) (w.heap.size + 1 + 1) p ⟨⟨xh, xb, xt, xf, xr⟩, prev, a, n, c⟩ h := by
  rw [← hw0]
  exact ⟨(((Below.refl _ _).alloc (Nat.le_refl _) _).alloc (by simp) _).alloc (by simp; omega) _, ((NN.Has.new _ _).alloc _).alloc _, (Has.new1 _ _ _).alloc _, Has.new2 _ _ _ _⟩
 clear hw0
 obtain ⟨bP, hbP⟩ : ∃ b, b = w.heap.size := ⟨_, rfl⟩
 obtain ⟨bA, hbA⟩ : ∃ b, b = w.heap.size + 1 := ⟨_, rfl⟩
 obtain ⟨bH, hbH⟩ : ∃ b, b = w.heap.size + 1 + 1 := ⟨_, rfl⟩
 rw [← hbH, ← hbA, ← hbP] at hs ⊢
 clear hbP hbA hbH
 have hH := hs.h
 go_wp2_with (first | fail | (with_reducible refine qab_ rfl _ rfl bH rfl hH za ?_))
 refine (KG.out _ hs.be).mono ?_
 rintro e v1 ⟨rfl, hb1⟩
 replace hs := hs.on hb1
 clear hb1
 clear hH
 have r1 := qbp_ hs.h.range
 rw [Nat.zero_add] at r1
 have r5 := hs.a.prev
 have s1 := qg_ ho.1
 have s5 := qg_ hp32
 go_upto_region 5 with (with_reducible first | refine qn_ rfl _ rfl bH 1 rfl h.prev r1 s1 ?_ | refine qn_ rfl _ rfl bA 5 rfl prev r5 s5 ?_ | refine hneq_g (by with_unfolding_all rfl) _ _ _ rfl _ _ _ rfl rfl qn ?_)
 clear r1 r5 s1 s5 qn
 have qb : ∀ d os, (Sort.grow (redrawn v1 d) os).cell? ⟨bH, 66, none⟩ = some (.int .i64 hb) := cell_regrown (by rw [← eb.out]; exact hs.h.bits ho)
 have qt : ∀ d os, (Sort.grow (redrawn v1 d) os).cell? ⟨bH, 65, none⟩ = some (.int .i64 ht) := cell_regrown (by rw [← et.out]; exact hs.h.time ho)
 have qp := hs.p.cls
 have qx := qs_ hs.a.pt (show 0 < 5 by decide)
 have hbr : ∀ d os, Below w.heap.size w (Sort.grow (redrawn v1 d) os) := fun d os => hs.be.trans ((below_regrown v1 d os).mono hs.be.size)
 refine wp_region_quiet_below (by kernel_rfl) (by kernel_rfl) ?_
 repeat (first
  | (go_big_quiet_want; (with_reducible refine NN.qar_ _ rfl _ rfl hz qp ?_); (simp only [Act.put, List.setIfInBounds_toArray, List.set_cons_zero, List.set_cons_succ]); go_big_quiet_on)
  | (go_big_quiet_want; (with_reducible refine qew_ _ rfl bA rfl ⟨xh, xb, xt, xf, xr⟩ qx ?_); (simp only [Act.put, List.setIfInBounds_toArray, List.set_cons_zero, List.set_cons_succ]); go_big_quiet_on)
  | go_big_quiet_step (first | (go_at_call 62; exact Calls.regrown_of (KN.out _ (hbr _ _)))))
 refine wpQuiet_nil ?_
 intro v2 hw'
 obtain ⟨rg, hw''⟩ := hw'
 have hb2 : Below v1.heap.size v1 v2 := by rw [hw'']; exact below_regrown v1 rg.d rg.os
 clear hw'' hbr
 replace hs := hs.on hb2
 clear hb2
 clear qb qt qp qx
 have hH := hs.h
 have hP := hs.p
 go_wp2_with (with_reducible first | refine qab_ rfl _ rfl bH rfl hH za ?_ | refine NN.qh_ rfl _ rfl _ rfl hP hz ?_)
 refine (KW.out _ hs.be).mono ?_
 rintro e v3 ⟨rfl, hb3⟩
 replace hs := hs.on hb3
 clear hb3
 clear hH hP
 have cT : v3.cell? ⟨bH, 65, none⟩ = some (.int .i64 ht) := by rw [← et.out]; exact hs.h.time ho
 have cS := hs.a.sl so
 go_wp2_with (first | fail)
 refine (KL.out _ hs.be).mono ?_
 rintro e v4 ⟨rfl, hb4⟩
 replace hs := hs.on hb4
 clear hb4
 clear cT cS
 have cT : v4.cell? ⟨bH, 65, none⟩ = some (.int .i64 ht) := by rw [← et.out]; exact hs.h.time ho
 have c3 := hs.p.c3 e3
 go_wp2_with (first | fail)
 refine (KE.out _ hs.be).mono ?_
 rintro e v5 ⟨rfl, hb5⟩
 replace hs := hs.on hb5
 clear hb5
 clear cT c3
 go_upto_region 13 with fail
 have qv : ∀ d os, (Sort.grow (redrawn v5 d) os).cell? ⟨bH, 0, none⟩ = some (.int .i64 hv) := cell_regrown (by rw [← ev.out]; exact hs.h.v)
 have qh : ∀ d os, (Sort.grow (redrawn v5 d) os).cell? ⟨bA, 0, none⟩ = some (.int .i64 xh) := cell_regrown (hs.a.c0 (Lib.hid rfl))
 have qg : ∀ d os, (Sort.grow (redrawn v5 d) os).cell? ⟨bP, 5, none⟩ = some (.slice ga gn gc) := cell_regrown (P5.out _ _ hs.p)
 have hbr : ∀ d os, Below w.heap.size w (Sort.grow (redrawn v5 d) os) := fun d os => hs.be.trans ((below_regrown v5 d os).mono hs.be.size)
 refine wp_region_quiet_below (by kernel_rfl) (by kernel_rfl) ?_
 repeat (first
  | go_big_quiet_step (first | (go_at_call 66; exact Calls.regrown_of (KV.out _ (hbr _ _)))))
 refine wpQuiet_nil ?_
 intro v6 hw'
 obtain ⟨rg, hw''⟩ := hw'
 have hb6 : Below v5.heap.size v5 v6 := by rw [hw'']; exact below_regrown v5 rg.d rg.os
 clear hw'' hbr
 replace hs := hs.on hb6
 clear hb6
 clear qv qh qg
 go_wp2_with fail
 go_ret
 exact ⟨rfl, hs.be⟩
set_option maxHeartbeats 8000000 in
theorem grp11_ : (∀ (p : NN.Pr) (_hz : (NN.prA p).size = 83) (xh xb xt xf xr : Int) (prev : List UInt8) (_hp32 : prev.length = 32) (a : Option Addr) (n c : Nat) (h : Hd) (_ho : h.ok) (now : Int) (w : World)
  (_KG : Hid (∀ w', Below w.heap.size w w' → Calls Tryz.prog 34 #[.agg (hdA h)] w' fun e w'' => e = .returned (.bool true) ∧ Below w'.heap.size w' w'')) (_t1 : (!(h.prev == prev)) = false)
  (hb ht nb : Int) (_eb : Hid (h.bits = hb)) (_et : Hid (h.time = ht)) (_KN : Hid (∀ w', Below w.heap.size w w' → Calls Tryz.prog 62 #[.agg (NN.prA p), .agg (NN.ptA ⟨xh, xb, xt, xf, xr⟩), .int .i64 ht] w' fun e w'' => e = .returned (.int .i64 nb) ∧ Below w'.heap.size w' w'')) (_t2 : (hb == nb) = true)
  (_KW : Hid (∀ w', Below w.heap.size w w' → Calls Tryz.prog 63 #[.agg (NN.prA p), .agg (hdA h)] w' fun e w'' => e = .returned (.bool true) ∧ Below w'.heap.size w' w''))
  (_KL : Hid (∀ w', Below w.heap.size w w' → Calls Tryz.prog 64 #[.int .i64 ht, .slice a n c] w' fun e w'' => e = .returned (.bool true) ∧ Below w'.heap.size w' w''))
  (fut : Int) (_e3 : Hid (p.fut = fut)) (_KE : Hid (∀ w', Below w.heap.size w w' → Calls Tryz.prog 65 #[.int .i64 ht, .int .i64 now, .int .i64 fut] w' fun e w'' => e = .returned (.bool true) ∧ Below w'.heap.size w' w''))
  (t : Tl) (_tt : Hid (p.tl = t.C)) (hv v : Int) (_ev : Hid (h.v = hv)) (_KV : Hid (∀ w', Below w.heap.size w w' → Calls Tryz.prog 66 #[.int .i64 xh, .slice t.ga t.gn t.gc] w' fun e w'' => e = .returned (.int .i64 v) ∧ Below w'.heap.size w' w'')) (_t6 : decide (hv < v) = false)
  (id : List UInt8) (_KI : Hid (∀ w', Below w.heap.size w w' → Calls Tryz.prog 35 #[.agg (hdA h)] w' fun e w'' => e = .returned (.agg (bytesV id)) ∧ Below w'.heap.size w' w'')) (_KT : Hid (∀ w', Below w.heap.size w w' → Calls Tryz.prog 67 #[.int .i64 xh, .agg (bytesV id), .slice t.ca t.cn t.cc] w' fun e w'' => e = .returned (.bool false) ∧ Below w'.heap.size w' w'')), Ca_ 36 #[.agg (NN.prA p), .agg (spA ⟨⟨xh, xb, xt, xf, xr⟩, prev, a, n, c⟩), .agg (hdA h), .int .i64 now] w (.int .i64 8)) ∧
  (∀ (p : NN.Pr) (_hz : (NN.prA p).size = 83) (xh xb xt xf xr : Int) (prev : List UInt8) (_hp32 : prev.length = 32) (a : Option Addr) (n c : Nat) (h : Hd) (_ho : h.ok) (now : Int) (w : World)
  (_KG : Hid (∀ w', Below w.heap.size w w' → Calls Tryz.prog 34 #[.agg (hdA h)] w' fun e w'' => e = .returned (.bool true) ∧ Below w'.heap.size w' w'')) (_t1 : (!(h.prev == prev)) = false)
  (hb ht nb : Int) (_eb : Hid (h.bits = hb)) (_et : Hid (h.time = ht)) (_KN : Hid (∀ w', Below w.heap.size w w' → Calls Tryz.prog 62 #[.agg (NN.prA p), .agg (NN.ptA ⟨xh, xb, xt, xf, xr⟩), .int .i64 ht] w' fun e w'' => e = .returned (.int .i64 nb) ∧ Below w'.heap.size w' w'')) (_t2 : (hb == nb) = true)
  (_KW : Hid (∀ w', Below w.heap.size w w' → Calls Tryz.prog 63 #[.agg (NN.prA p), .agg (hdA h)] w' fun e w'' => e = .returned (.bool true) ∧ Below w'.heap.size w' w''))
  (_KL : Hid (∀ w', Below w.heap.size w w' → Calls Tryz.prog 64 #[.int .i64 ht, .slice a n c] w' fun e w'' => e = .returned (.bool true) ∧ Below w'.heap.size w' w''))
  (fut : Int) (_e3 : Hid (p.fut = fut)) (_KE : Hid (∀ w', Below w.heap.size w w' → Calls Tryz.prog 65 #[.int .i64 ht, .int .i64 now, .int .i64 fut] w' fun e w'' => e = .returned (.bool true) ∧ Below w'.heap.size w' w''))
  (t : Tl) (_tt : Hid (p.tl = t.C)) (hv v : Int) (_ev : Hid (h.v = hv)) (_KV : Hid (∀ w', Below w.heap.size w w' → Calls Tryz.prog 66 #[.int .i64 xh, .slice t.ga t.gn t.gc] w' fun e w'' => e = .returned (.int .i64 v) ∧ Below w'.heap.size w' w'')) (_t6 : decide (hv < v) = false)
  (id : List UInt8) (_KI : Hid (∀ w', Below w.heap.size w w' → Calls Tryz.prog 35 #[.agg (hdA h)] w' fun e w'' => e = .returned (.agg (bytesV id)) ∧ Below w'.heap.size w' w'')) (_KT : Hid (∀ w', Below w.heap.size w w' → Calls Tryz.prog 67 #[.int .i64 xh, .agg (bytesV id), .slice t.ca t.cn t.cc] w' fun e w'' => e = .returned (.bool true) ∧ Below w'.heap.size w' w'')), Ca_ 36 #[.agg (NN.prA p), .agg (spA ⟨⟨xh, xb, xt, xf, xr⟩, prev, a, n, c⟩), .agg (hdA h), .int .i64 now] w (.int .i64 0)) := by
 refine ⟨fun p hz xh xb xt xf xr prev hp32 a n c h ho now w KG t1 hb ht nb eb et KN t2 KW KL fut e3 KE t tt hv v ev KV t6 id KI KT => ?_,
  fun p hz xh xb xt xf xr prev hp32 a n c h ho now w KG t1 hb ht nb eb et KN t2 KW KL fut e3 KE t tt hv v ev KV t6 id KI KT => ?_⟩
 all_goals
  have za := qq_ ho
  have so : (⟨⟨xh, xb, xt, xf, xr⟩, prev, a, n, c⟩ : Sp).ok := hp32
  have qn := hn_neq h.prev prev ho.1 hp32 _ t1
  obtain ⟨ga, hga⟩ : ∃ x, x = t.ga := ⟨_, rfl⟩
  obtain ⟨gn, hgn⟩ : ∃ x, x = t.gn := ⟨_, rfl⟩
  obtain ⟨gc, hgc⟩ : ∃ x, x = t.gc := ⟨_, rfl⟩
  rw [← hga, ← hgn, ← hgc] at KV
  have P5 : Hid (∀ wx b, NN.PrAt wx b p → wx.cell? ⟨b, 5, none⟩ = some (.slice ga gn gc)) := Lib.hid (fun wx b hh => by rw [hga, hgn, hgc]; exact qdr_ hh tt.out)
  clear hga hgn hgc
  obtain ⟨ca, hca⟩ : ∃ x, x = t.ca := ⟨_, rfl⟩
  obtain ⟨cn, hcn⟩ : ∃ x, x = t.cn := ⟨_, rfl⟩
  obtain ⟨cc, hcc⟩ : ∃ x, x = t.cc := ⟨_, rfl⟩
  rw [← hca, ← hcn, ← hcc] at KT
  have P6 : Hid (∀ wx b, NN.PrAt wx b p → wx.cell? ⟨b, 6, none⟩ = some (.slice ca cn cc)) := Lib.hid (fun wx b hh => by rw [hca, hcn, hcc]; exact qcy_ hh tt.out)
  clear hca hcn hcc
  go_enter Tryz.func36, Tryz.ntmps36
  go_upto_region 1 with fail
  generalize hw0 : World.alloc _ _ = v0
  have hs : CkS w v0 w.heap.size (w.heap.size + 1) (w.heap.size + 1 + 1) p ⟨⟨xh, xb, xt, xf, xr⟩, prev, a, n, c⟩ h := by
   rw [← hw0]
   exact ⟨(((Below.refl _ _).alloc (Nat.le_refl _) _).alloc (by simp) _).alloc (by simp; omega) _, ((NN.Has.new _ _).alloc _).alloc _, (Has.new1 _ _ _).alloc _, Has.new2 _ _ _ _⟩
  clear hw0
  obtain ⟨bP, hbP⟩ : ∃ b, b = w.heap.size := ⟨_, rfl⟩
  obtain ⟨bA, hbA⟩ : ∃ b, b = w.heap.size + 1 := ⟨_, rfl⟩
  obtain ⟨bH, hbH⟩ : ∃ b, b = w.heap.size + 1 + 1 := ⟨_, rfl⟩
  rw [← hbH, ← hbA, ← hbP] at hs ⊢
  clear hbP hbA hbH
  have hH := hs.h
  go_wp2_with (first | fail | (with_reducible refine qab_ rfl _ rfl bH rfl hH za ?_))
  refine (KG.out _ hs.be).mono ?_
  rintro e v1 ⟨rfl, hb1⟩
  replace hs := hs.on hb1
  clear hb1
  clear hH
  have r1 := qbp_ hs.h.range
  rw [Nat.zero_add] at r1
  have r5 := hs.a.prev
  have s1 := qg_ ho.1
  have s5 := qg_ hp32
  go_upto_region 5 with (with_reducible first | refine qn_ rfl _ rfl bH 1 rfl h.prev r1 s1 ?_ | refine qn_ rfl _ rfl bA 5 rfl prev r5 s5 ?_ | refine hneq_g (by with_unfolding_all rfl) _ _ _ rfl _ _ _ rfl rfl qn ?_)
  clear r1 r5 s1 s5 qn
  have qb : ∀ d os, (Sort.grow (redrawn v1 d) os).cell? ⟨bH, 66, none⟩ = some (.int .i64 hb) := cell_regrown (by rw [← eb.out]; exact hs.h.bits ho)
  have qt : ∀ d os, (Sort.grow (redrawn v1 d) os).cell? ⟨bH, 65, none⟩ = some (.int .i64 ht) := cell_regrown (by rw [← et.out]; exact hs.h.time ho)
  have qp := hs.p.cls
  have qx := qs_ hs.a.pt (show 0 < 5 by decide)
  have hbr : ∀ d os, Below w.heap.size w (Sort.grow (redrawn v1 d) os) := fun d os => hs.be.trans ((below_regrown v1 d os).mono hs.be.size)
  refine wp_region_quiet_below (by kernel_rfl) (by kernel_rfl) ?_
  repeat (first
   | (go_big_quiet_want; (with_reducible refine NN.qar_ _ rfl _ rfl hz qp ?_); (simp only [Act.put, List.setIfInBounds_toArray, List.set_cons_zero, List.set_cons_succ]); go_big_quiet_on)
   | (go_big_quiet_want; (with_reducible refine qew_ _ rfl bA rfl ⟨xh, xb, xt, xf, xr⟩ qx ?_); (simp only [Act.put, List.setIfInBounds_toArray, List.set_cons_zero, List.set_cons_succ]); go_big_quiet_on)
   | go_big_quiet_step (first | (go_at_call 62; exact Calls.regrown_of (KN.out _ (hbr _ _)))))
  refine wpQuiet_nil ?_
  intro v2 hw'
  obtain ⟨rg, hw''⟩ := hw'
  have hb2 : Below v1.heap.size v1 v2 := by rw [hw'']; exact below_regrown v1 rg.d rg.os
  clear hw'' hbr
  replace hs := hs.on hb2
  clear hb2
  clear qb qt qp qx
  have hH := hs.h
  have hP := hs.p
  go_wp2_with (with_reducible first | refine qab_ rfl _ rfl bH rfl hH za ?_ | refine NN.qh_ rfl _ rfl _ rfl hP hz ?_)
  refine (KW.out _ hs.be).mono ?_
  rintro e v3 ⟨rfl, hb3⟩
  replace hs := hs.on hb3
  clear hb3
  clear hH hP
  have cT : v3.cell? ⟨bH, 65, none⟩ = some (.int .i64 ht) := by rw [← et.out]; exact hs.h.time ho
  have cS := hs.a.sl so
  go_wp2_with (first | fail)
  refine (KL.out _ hs.be).mono ?_
  rintro e v4 ⟨rfl, hb4⟩
  replace hs := hs.on hb4
  clear hb4
  clear cT cS
  have cT : v4.cell? ⟨bH, 65, none⟩ = some (.int .i64 ht) := by rw [← et.out]; exact hs.h.time ho
  have c3 := hs.p.c3 e3
  go_wp2_with (first | fail)
  refine (KE.out _ hs.be).mono ?_
  rintro e v5 ⟨rfl, hb5⟩
  replace hs := hs.on hb5
  clear hb5
  clear cT c3
  go_upto_region 13 with fail
  have qv : ∀ d os, (Sort.grow (redrawn v5 d) os).cell? ⟨bH, 0, none⟩ = some (.int .i64 hv) := cell_regrown (by rw [← ev.out]; exact hs.h.v)
  have qh : ∀ d os, (Sort.grow (redrawn v5 d) os).cell? ⟨bA, 0, none⟩ = some (.int .i64 xh) := cell_regrown (hs.a.c0 (Lib.hid rfl))
  have qg : ∀ d os, (Sort.grow (redrawn v5 d) os).cell? ⟨bP, 5, none⟩ = some (.slice ga gn gc) := cell_regrown (P5.out _ _ hs.p)
  have hbr : ∀ d os, Below w.heap.size w (Sort.grow (redrawn v5 d) os) := fun d os => hs.be.trans ((below_regrown v5 d os).mono hs.be.size)
  refine wp_region_quiet_below (by kernel_rfl) (by kernel_rfl) ?_
  repeat (first
   | go_big_quiet_step (first | (go_at_call 66; exact Calls.regrown_of (KV.out _ (hbr _ _)))))
  refine wpQuiet_nil ?_
  intro v6 hw'
  obtain ⟨rg, hw''⟩ := hw'
  have hb6 : Below v5.heap.size v5 v6 := by rw [hw'']; exact below_regrown v5 rg.d rg.os
  clear hw'' hbr
  replace hs := hs.on hb6
  clear hb6
  clear qv qh qg
  go_upto_region 15 with fail
  have qh : ∀ d os, (Sort.grow (redrawn v6 d) os).cell? ⟨bA, 0, none⟩ = some (.int .i64 xh) := cell_regrown (hs.a.c0 (Lib.hid rfl))
  have qc : ∀ d os, (Sort.grow (redrawn v6 d) os).cell? ⟨bP, 6, none⟩ = some (.slice ca cn cc) := cell_regrown (P6.out _ _ hs.p)
  have qd := qs_ hs.h.range (qcd_ h)
  have sd := qj_ ho
  have hbr : ∀ d os, Below w.heap.size w (Sort.grow (redrawn v6 d) os) := fun d os => hs.be.trans ((below_regrown v6 d os).mono hs.be.size)
  refine wp_region_quiet_below (by kernel_rfl) (by kernel_rfl) ?_
  repeat (first
   | (go_big_quiet_want; (with_reducible refine qt_ _ rfl bH 0 rfl h sd qd ?_); (simp only [Act.put, List.setIfInBounds_toArray, List.set_cons_zero, List.set_cons_succ]); go_big_quiet_on)
   | go_big_quiet_step (first | (go_at_call 35; exact Calls.regrown_of (KI.out _ (hbr _ _))) | (go_at_call 67; exact Calls.regrown_of (KT.out _ (hbr _ _)))))
  refine wpQuiet_nil ?_
  intro v7 hw'
  obtain ⟨rg, hw''⟩ := hw'
  have hb7 : Below v6.heap.size v6 v7 := by rw [hw'']; exact below_regrown v6 rg.d rg.os
  clear hw'' hbr
  replace hs := hs.on hb7
  clear hb7
  clear qh qc qd sd
  go_wp2_with fail
  go_ret
  exact ⟨rfl, hs.be⟩
def nearB (t now fut : Int) : Bool := decide (0 ≤ fut) && decide (IntKind.i64.wrap (t - now) ≤ fut)
def chk (p : NN.Pr) (gs : List Gt) (cs : List Ck) (q : Ps) (h : Hd) (now : Int) : Int :=
 if ¬ h.P then 1 else if ¬ h.prev = q.prev then 2 else if ¬ h.bits = NN.nx p q.x h.time then 3 else if wkd p.lim h = false then 4 else if MM.late h.time q.ts = false then 5 else if nearB h.time now p.fut = false then 6 else if h.v < vers q.x.h gs then 7 else if trk q.x.h h.id cs = false then 8 else 0
theorem qzp_ (p : NN.Pr) (hp : p.ok) (t : Tl) (tt : p.tl = t.C) (gs : List Gt) (cs : List Ck) (hgn : t.gn = gs.length) (hcn : t.cn = cs.length) (hgl : t.gn ≤ 1000) (hcl : t.cn ≤ 1000) (s : Sp) (q : Ps) (e1 : s.x = q.x) (e2 : s.prev = q.prev) (e3 : q.ts.length = s.n) (e4 : s.n ≤ s.c) (e5 : q.prev.length = 32) (e6 : s.n ≤ 1000) (h : Hd) (ho : h.ok) (now : Int) (w : World) (hT : Tab w) (hL : MM.Lie w 0 w.heap.size s.a q.ts) (hG : GatesAt w t.ga gs) (hC : ChecksAt w t.ca cs) :
  Ca_ 36 #[.agg (NN.prA p), .agg (spA s), .agg (hdA h), .int .i64 now] w (.int .i64 (chk p gs cs q h now)) := by
 obtain ⟨x, prev, ts⟩ := q
 obtain ⟨x', prev', a, n, c⟩ := s
 simp only at e1 e2 e3 e4 e5 e6 hL
 subst e1 e2
 obtain ⟨xh, xb, xt, xf, xr⟩ := x'
 have hz := NN.qal_ hp
 have hTb : ∀ w', Below w.heap.size w w' → Tab w' := fun w' hb => hT.below hb
 have KG : ∀ g, decide h.P = g → Hid (∀ w', Below w.heap.size w w' → Calls Tryz.prog 34 #[.agg (hdA h)] w' fun e w'' => e = .returned (.bool g) ∧ Below w'.heap.size w' w'') := fun g hg => Lib.hid fun w' _ => by rw [← hg]; exact qfy_ h ho w'
 have KN : Hid (∀ w', Below w.heap.size w w' → Calls Tryz.prog 62 #[.agg (NN.prA p), .agg (NN.ptA ⟨xh, xb, xt, xf, xr⟩), .int .i64 h.time] w' fun e w'' => e = .returned (.int .i64 (NN.nx p ⟨xh, xb, xt, xf, xr⟩ h.time)) ∧ Below w'.heap.size w' w'') := Lib.hid fun w' _ => NN.next_at p hp _ _ w'
 have KW : ∀ g, wkd p.lim h = g → Hid (∀ w', Below w.heap.size w w' → Calls Tryz.prog 63 #[.agg (NN.prA p), .agg (hdA h)] w' fun e w'' => e = .returned (.bool g) ∧ Below w'.heap.size w' w'') := fun g hg => Lib.hid fun w' hb => quh_ p h ho g hg w' (hTb w' hb)
 have KL : ∀ g, MM.late h.time ts = g → Hid (∀ w', Below w.heap.size w w' → Calls Tryz.prog 64 #[.int .i64 h.time, .slice a n c] w' fun e w'' => e = .returned (.bool g) ∧ Below w'.heap.size w' w'') := fun g hg => Lib.hid fun w' hb => by rw [← hg]; exact MM.late_at h.time a n c 0 w.heap.size ts e3 e4 (by omega) w' (hL.below hb (Nat.le_refl _))
 have KE : ∀ g, nearB h.time now p.fut = g → Hid (∀ w', Below w.heap.size w w' → Calls Tryz.prog 65 #[.int .i64 h.time, .int .i64 now, .int .i64 p.fut] w' fun e w'' => e = .returned (.bool g) ∧ Below w'.heap.size w' w'') := fun g hg => Lib.hid fun w' _ => (MM.qoi_ h.time now p.fut _ rfl w').mono (fun e w'' ⟨h1, h2⟩ => ⟨by rw [h1, ← hg]; rfl, by rw [h2]; exact Below.refl _ _⟩)
 have KV : Hid (∀ w', Below w.heap.size w w' → Calls Tryz.prog 66 #[.int .i64 xh, .slice t.ga t.gn t.gc] w' fun e w'' => e = .returned (.int .i64 (vers xh gs)) ∧ Below w'.heap.size w' w'') := Lib.hid fun w' hb => qqu_ xh t.ga gs t.gn t.gc hgn (by omega) w' (hG.below hb) _ rfl
 have KI : Hid (∀ w', Below w.heap.size w w' → Calls Tryz.prog 35 #[.agg (hdA h)] w' fun e w'' => e = .returned (.agg (bytesV h.id)) ∧ Below w'.heap.size w' w'') := Lib.hid fun w' hb => id_at h ho w' (hTb w' hb)
 have KT : ∀ g, trk xh h.id cs = g → Hid (∀ w', Below w.heap.size w w' → Calls Tryz.prog 67 #[.int .i64 xh, .agg (bytesV h.id), .slice t.ca t.cn t.cc] w' fun e w'' => e = .returned (.bool g) ∧ Below w'.heap.size w' w'') := fun g hg => Lib.hid fun w' hb => qqv_ xh h.id (qz_ h) t.ca cs t.cn t.cc hcn (by omega) w' (hC.below hb) g hg
 unfold chk
 simp only
 by_cases h0 : h.P
 ·rw [if_neg (by simpa using h0)]
  have KG1 := KG true (decide_eq_true h0)
  by_cases h1 : h.prev = prev'
  ·rw [if_neg (by simpa using h1)]
   have t1 : (!(h.prev == prev')) = false := by simp [h1]
   by_cases h2 : h.bits = NN.nx p ⟨xh, xb, xt, xf, xr⟩ h.time
   ·rw [if_neg (by simpa using h2)]
    have t2 : (h.bits == NN.nx p ⟨xh, xb, xt, xf, xr⟩ h.time) = true := by simpa using h2
    cases h3 : wkd p.lim h
    ·rw [if_pos rfl]
     exact qre_ p hz xh xb xt xf xr prev' e5 a n c h ho now w KG1 t1 h.bits h.time _ (Lib.hid rfl) (Lib.hid rfl) KN t2 (KW false h3)
    ·rw [if_neg (by simp)]
     cases h4 : MM.late h.time ts
     ·rw [if_pos rfl]
      exact qun_ p hz xh xb xt xf xr prev' e5 a n c h ho now w KG1 t1 h.bits h.time _ (Lib.hid rfl) (Lib.hid rfl) KN t2 (KW true h3) (KL false h4)
     ·rw [if_neg (by simp)]
      cases h5 : nearB h.time now p.fut
      ·rw [if_pos rfl]
       exact quo_ p hz xh xb xt xf xr prev' e5 a n c h ho now w KG1 t1 h.bits h.time _ (Lib.hid rfl) (Lib.hid rfl) KN t2 (KW true h3) (KL true h4) p.fut (Lib.hid rfl) (KE false h5)
      ·rw [if_neg (by simp)]
       by_cases h6 : h.v < vers xh gs
       ·rw [if_pos h6]
        exact qjg_ p hz xh xb xt xf xr prev' e5 a n c h ho now w KG1 t1 h.bits h.time _ (Lib.hid rfl) (Lib.hid rfl) KN t2 (KW true h3) (KL true h4) p.fut (Lib.hid rfl) (KE true h5) t (Lib.hid tt) h.v _ (Lib.hid rfl) KV (decide_eq_true h6)
       ·rw [if_neg h6]
        cases h7 : trk xh h.id cs
        ·rw [if_pos rfl]
         exact grp11_.1 p hz xh xb xt xf xr prev' e5 a n c h ho now w KG1 t1 h.bits h.time _ (Lib.hid rfl) (Lib.hid rfl) KN t2 (KW true h3) (KL true h4) p.fut (Lib.hid rfl) (KE true h5) t (Lib.hid tt) h.v _ (Lib.hid rfl) KV (decide_eq_false h6) h.id KI (KT false h7)
        ·rw [if_neg (by simp)]
         exact grp11_.2 p hz xh xb xt xf xr prev' e5 a n c h ho now w KG1 t1 h.bits h.time _ (Lib.hid rfl) (Lib.hid rfl) KN t2 (KW true h3) (KL true h4) p.fut (Lib.hid rfl) (KE true h5) t (Lib.hid tt) h.v _ (Lib.hid rfl) KV (decide_eq_false h6) h.id KI (KT true h7)
   ·rw [if_pos h2]
    exact qrd_ p hz xh xb xt xf xr prev' e5 a n c h ho now w KG1 t1 h.bits h.time _ (Lib.hid rfl) (Lib.hid rfl) KN (by simpa using h2)
  ·rw [if_pos h1]
   exact qgw_ p xh xb xt xf xr prev' e5 a n c h ho now w KG1 (by simp [h1])
 ·rw [if_pos h0]
  exact qrc_ p xh xb xt xf xr prev' e5 a n c h ho now w (KG false (decide_eq_false h0))
end Go.Proofs.YtkclahiiijfllaaGreatDoor
namespace Go.Proofs.YtkclahiiijfllaaGreatDoor
open Go.RowKit Mem Sc NN.Rg2
section
variable {w : World} {ops : Array Oper} {rest : List Oper} {o o2 o3 : Oper} {a : Act} {Q : Exit → Act → World → Prop}
theorem qfi_ (hw : Region.wanted o (yielded ops a.tmps) = true) (x : Operand) (ho : o.op = .load 30 x) (g off : Nat) (hx : a.eval x = .pointer (some ⟨g, off, none⟩)) (h : Hd) (hg : w.rangeAt g off (hdC h)) (hs : (hdC h).length = 68)
  (hk : wpList Tryz.prog ops Q rest (a.put o.dst (.agg (hdA h))) w) : wpList Tryz.prog ops Q (o :: rest) a w :=
 BigFrame.wpList_want hw fun _ hK => by
  unfold Oper.wp execOp
  simp only [ho, hx, Sem.run_bind, run_loadAt_mid w g off 30 (hdC h) _ hg Tryz.underlying30 rfl (hdinfo.trans (by rw [hs])), Result.andThen_ok]
  exact hK _ _ hk
end
def tlN : Tl := ⟨none, 0, 0, none, 0, 0, List.replicate 8 (.int .u64 0), hdZ⟩
theorem tlN_is : NN.prL.tl = tlN.C := rfl
theorem tlN_ok : tlN.ok := ⟨rfl, hdZ_ok⟩
end Go.Proofs.YtkclahiiijfllaaGreatDoor
namespace Go.Proofs.YtkclahiiijfllaaGreatDoor
open Go.RowKit Mem Sc NN.Rg2
structure RcS (w wr : World) (bP bH : Nat) (p : NN.Pr) (h : Hd) : Prop where
 be : Below w.heap.size w wr
 p : NN.PrAt wr bP p
 h : HdAt wr bH h
theorem RcS.on {w wr w' : World} {bP bH : Nat} {p : NN.Pr} {h : Hd} (hs : RcS w wr bP bH p h) (hb : Below wr.heap.size wr w') : RcS w w' bP bH p h :=
 ⟨hs.be.trans (hb.mono hs.be.size), hs.p.on hb, hs.h.on hb⟩
def gbad (x v : Int) (gs : List Gt) : Bool := gs.any fun g => decide (g.h ≤ x) && decide (v < g.v)
theorem qmf_ (x v : Int) (gs : List Gt) (k : Nat) (hk : k < gs.length) : gbad x v (gs.take (k + 1)) = (gbad x v (gs.take k) || (decide ((gs.getD k gtZ).h ≤ x) && decide (v < (gs.getD k gtZ).v))) := by
 have e : gs.take (k + 1) = gs.take k ++ [gs.getD k gtZ] := by
  rw [List.take_add_one, List.getElem?_eq_getElem hk, List.getD_eq_getElem?_getD, List.getElem?_eq_getElem hk]; rfl
 rw [e]
 unfold gbad
 rw [List.any_append]
 simp
theorem qrf_ (x v : Int) (gs : List Gt) (k : Nat) (h : gbad x v (gs.take k) = true) : gbad x v gs = true := by
 have e : gs = gs.take k ++ gs.drop k := (List.take_append_drop k gs).symm
 rw [e]
 unfold gbad at *
 rw [List.any_append, h]
 rfl
def rres (g0 b1 b2 g3 b4 b5 b6 g7 : Bool) : Int :=
 if g0 = false then 1 else if b1 = true then 2 else if b2 = true then 3 else if g3 = false then 4 else if b4 = true then 5 else if b5 = true then 6 else if b6 = true then 7 else if g7 = false then 8 else 0
def farB (t now fut : Int) : Bool := decide (fut < 0) || (decide (now < t) && decide (fut < IntKind.i64.wrap (t - now)))
theorem qds_ {P : Program} {ops : Array Oper} {o : Oper} {a : Act} {w : World} {Q : Exit → Act → World → Prop} {C : World → Prop} {S : World → World → Prop} {R : Value → World → Prop} {J : Act → World → Prop} {V : Value → World → Prop} {f : FuncId} {args : Array Value} (hn : Region.wanted o (yielded ops a.tmps) = true) (h : (execOp a.eval o).run P w = .ok (.enter f args) w) (hcall : Calls P f args w fun e w' => ∃ v, e = .returned v ∧ V v w' ∧ Below w.heap.size w w')
  (hr : ∀ v w', V v w' → Below w.heap.size w w' → C w' ∧ S w w' ∧ R v w' ∧ J (a.put o.dst v) w') :
  if Region.wanted o (yielded ops a.tmps) = true then o.wp P a w (fun a' w' => C w' ∧ S w w' ∧ ∃ v, a' = a.put o.dst v ∧ R v w' ∧ J a' w') Q else R undef w ∧ J (a.put o.dst undef) w := by
 rw [if_pos hn]
 unfold Oper.wp
 rw [h]
 refine Calls.mono hcall fun e w' he => ?_
 obtain ⟨v, rfl, hv, hb⟩ := he
 obtain ⟨h1, h2, h3, h4⟩ := hr v w' hv hb
 exact ⟨h1, h2, v, rfl, h3, h4⟩
def LsR (bH : Nat) (ht m : Int) (ts : List Int) (po : Option Addr) (n co : Nat) (b4 : Bool) : Nat → Value → World → Prop
 | 0, v, _ => v = .int .i64 (n : Int)
 | 1, v, _ => v = .bool true
 | 2, v, _ => v = .bool true
 | 3, v, _ => v = .pointer (some ⟨bH, 65, none⟩)
 | 4, v, _ => v = .int .i64 ht
 | 5, v, _ => v = .slice po n co
 | 6, v, w => ∃ p' c', v = .slice p' (min n 11) c' ∧ min n 11 ≤ c' ∧ MM.Lie w 0 w.heap.size p' (Md.last ts)
 | 7, v, _ => v = .int .i64 m
 | 8, v, _ => v = .bool b4
 | 9, v, _ => v = .bool b4
 | _, _, _ => True
theorem qup_ {bH : Nat} {ht m : Int} {ts : List Int} {po : Option Addr} {n co : Nat} {b4 : Bool} (i : Nat) (v : Value) (w w' : World) (hs : Below w.heap.size w w') (hr : LsR bH ht m ts po n co b4 i v w) : LsR bH ht m ts po n co b4 i v w' := by
 match i, hr with
 | 0, hr => exact hr
 | 1, hr => exact hr
 | 2, hr => exact hr
 | 3, hr => exact hr
 | 4, hr => exact hr
 | 5, hr => exact hr
 | 6, ⟨p', c', h1, h2, h3⟩ => exact ⟨p', c', h1, h2, (h3.below hs (Nat.le_refl _)).wide (Nat.le_refl _) hs.size⟩
 | 7, hr => exact hr
 | 8, hr => exact hr
 | 9, hr => exact hr
 | _ + 10, _ => trivial
theorem ex_gtr {ρ : Operand → Value} {o : Oper} {w : World} {x y : Operand} {a b : Int} (ho : o.op = .binOp .gtr 3 x y 3) (hx : ρ x = .int .i64 a) (hy : ρ y = .int .i64 b) : (execOp ρ o).run Tryz.prog w = .ok (.value (.bool (decide (b < a)))) w := by
 unfold execOp
 simp only [ho, hx, hy]
 kernel_rfl
theorem ex_leq {ρ : Operand → Value} {o : Oper} {w : World} {x y : Operand} {a b : Int} (ho : o.op = .binOp .leq 3 x y 3) (hx : ρ x = .int .i64 a) (hy : ρ y = .int .i64 b) : (execOp ρ o).run Tryz.prog w = .ok (.value (.bool (decide (a ≤ b)))) w := by
 unfold execOp
 simp only [ho, hx, hy]
 kernel_rfl
theorem qnj_ {ρ : Operand → Value} {o : Oper} {w : World} {x : Operand} {p : Addr} {z : Int} (ho : o.op = .load 3 x) (hx : ρ x = .pointer (some p)) (hc : w.cell? p = some (.int .i64 z)) : (execOp ρ o).run Tryz.prog w = .ok (.value (.int .i64 z)) w := by
 have hl : (loadVar 3 p).run Tryz.prog w = .ok (.int .i64 z) w := by go_simp
 unfold execOp
 simp only [ho, hx, Instr.loadAt, Instr.sureAddr, Sem.run_bind, Sem.run_pure, Result.andThen_ok, hl]
set_option maxHeartbeats 16000000 in
theorem rchk_w (p : NN.Pr) (hz : (NN.prA p).size = 83) (a : Option Addr) (ch : List Hd) (n c : Nat) (hn : n = ch.length) (h0 : 0 < n) (hl : n ≤ 1000) (h : Hd) (ho : h.ok) (now : Int) (w : World) (hA : HeadersAt w a ch)
  (tl : Tl) (tt : p.tl = tl.C) (gs : List Gt) (cs : List Ck) (hgn : tl.gn = gs.length) (hcn : tl.cn = cs.length) (hgl : tl.gn ≤ 1000) (hcl : tl.cn ≤ 1000) (hG : GatesAt w tl.ga gs) (hC : ChecksAt w tl.ca cs)
  (g0 b1 b2 g3 b4 b5 b6 g7 : Bool) (KG : Hid (Gv_ 42 #[.agg (hdA h)] (.bool g0)))
  (pid id : List UInt8) (hp32 : pid.length = 32) (hi32 : id.length = 32) (KP : Hid (Gv_ 29 #[.agg (hdA (ch.getD (n - 1) hdZ))] (.agg (bytesV pid)))) (KI : Hid (Gv_ 29 #[.agg (hdA h)] (.agg (bytesV id)))) (t1 : (!(h.prev == pid)) = b1)
  (hv hb ht nb fut : Int) (ev : Hid (h.v = hv)) (eb : Hid (h.bits = hb)) (et : Hid (h.time = ht)) (e3 : Hid (p.fut = fut)) (KB : Hid (∀ w, HeadersAt w a ch → Ca_ 46 #[.agg (NN.prA p), .slice a n c, .int .i64 ht] w (.int .i64 nb))) (t2 : (hb != nb) = b2)
  (KW : Hid (Gv_ 47 #[.agg (NN.prA p), .agg (hdA h)] (.bool g3)))
  (m : Int) (hm : m = Md.mid (Md.last (ch.map Hd.time))) (t4 : decide (ht ≤ m) = b4) (t5 : farB ht now fut = b5) (t6 : gbad (n : Int) hv gs = b6) (t7 : trk (n : Int) id cs = g7) :
  Ca_ 22 #[.agg (NN.prA p), .slice a n c, .agg (hdA h), .int .i64 now] w (.int .i64 (rres g0 b1 b2 g3 b4 b5 b6 g7)) := by
 have za := qq_ ho
 have HN := Lib.hid hn
 have HA := Lib.hid hA
 have HGN := Lib.hid hgn
 have HCN := Lib.hid hcn
 have HG := Lib.hid hG
 have HC := Lib.hid hC
 have HM := Lib.hid hm
 have T5 := Lib.hid t5
 have T6 := Lib.hid t6
 have T7 := Lib.hid t7
 have P5 : Hid (∀ wx b, NN.PrAt wx b p → wx.cell? ⟨b, 5, none⟩ = some (.slice tl.ga tl.gn tl.gc)) := Lib.hid (fun wx b hh => qdr_ hh tt)
 have P6 : Hid (∀ wx b, NN.PrAt wx b p → wx.cell? ⟨b, 6, none⟩ = some (.slice tl.ca tl.cn tl.cc)) := Lib.hid (fun wx b hh => qcy_ hh tt)
 obtain ⟨y, hy⟩ : ∃ y, y = n - 1 := ⟨_, rfl⟩
 have wm : IntKind.i64.wrap ((n : Int) - 1) = (y : Int) := by rw [IntKind.wrap_i64]; omega
 have hyn : y < n := by omega
 have d0 : decide (0 < (n : Int)) = true := decide_eq_true (by omega)
 obtain ⟨ab0, ao0, ea, habl0, hc0⟩ := hA (by rw [← hn]; omega)
 have hq : (ch.getD y hdZ).ok ∧ w.rangeAt ab0 (ao0 + y * 68) (hdC (ch.getD y hdZ)) := by
  rw [qip_ (show y < ch.length by rw [← hn]; omega)]; exact hc0 y _
 rw [← hy] at KP
 obtain ⟨l, hlast⟩ : ∃ l, l = ch.getD y hdZ := ⟨_, rfl⟩
 rw [← hlast] at KP hq
 subst ea
 have q1 := qj_ hq.1
 have HR := Lib.hid hq.2
 have qn := hn_neq h.prev pid ho.1 hp32 _ t1
 have hyi : (y : Int) < (n : Int) := by omega
 obtain ⟨ga, hga⟩ : ∃ x, x = tl.ga := ⟨_, rfl⟩
 obtain ⟨gn, hgn2⟩ : ∃ x, x = tl.gn := ⟨_, rfl⟩
 obtain ⟨gc, hgc⟩ : ∃ x, x = tl.gc := ⟨_, rfl⟩
 obtain ⟨ca, hca⟩ : ∃ x, x = tl.ca := ⟨_, rfl⟩
 obtain ⟨cn, hcn2⟩ : ∃ x, x = tl.cn := ⟨_, rfl⟩
 obtain ⟨cc, hcc⟩ : ∃ x, x = tl.cc := ⟨_, rfl⟩
 rw [← hga, ← hgn2, ← hgc] at P5
 rw [← hca, ← hcn2, ← hcc] at P6
 rw [← hgn2] at HGN hgl
 rw [← hcn2] at HCN hcl
 rw [← hga] at HG
 rw [← hca] at HC
 clear hn hA hgn hcn hG hC hm t5 t6 t7 tt hy hlast hc0 hq hga hgn2 hgc hca hcn2 hcc
 go_enter Tryz.func22, Tryz.ntmps22
 go_upto_region 1 with fail
 generalize hw0 : World.alloc _ _ = v0
 have hs : RcS w v0 w.heap.size (w.heap.size + 1) p h := by
  rw [← hw0]
  exact ⟨((Below.refl _ _).alloc (Nat.le_refl _) _).alloc (by simp) _, (NN.Has.new _ _).alloc _, qik_ w _ h⟩
 clear hw0
 obtain ⟨bP, hbP⟩ : ∃ b, b = w.heap.size := ⟨_, rfl⟩
 obtain ⟨bH, hbH⟩ : ∃ b, b = w.heap.size + 1 := ⟨_, rfl⟩
 rw [← hbH, ← hbP] at hs ⊢
 clear hbP hbH
 have hH := hs.h
 go_wp2_with (first | fail | (with_reducible refine qab_ rfl _ rfl bH rfl hH za ?_))
 refine (KG.out _).mono ?_
 rintro e v1 ⟨rfl, hb1⟩
 replace hs := hs.on hb1
 clear hb1 hH
 cases g0
 ·go_wp2_with fail
  go_ret
  exact ⟨rfl, hs.be⟩
 go_upto_region 4 with fail
 have qc := qs_ (qbp_ hs.h.range) (by rw [Lib.byteCells_length, ho.1]; omega)
 rw [Nat.zero_add] at qc
 have qd := qs_ (qax_ HR.out hs.be (qcd_ l)) (qcd_ l)
 have s1 := qg_ ho.1
 refine wp_region_quiet_below (by kernel_rfl) (by kernel_rfl) ?_
 repeat (first
  | (go_big_quiet_want; (with_reducible refine qao_ _ rfl bH 1 rfl h.prev s1 qc ?_); (simp only [Act.put, List.setIfInBounds_toArray, List.set_cons_zero, List.set_cons_succ]); go_big_quiet_on)
  | (go_big_quiet_want; (with_reducible refine qt_ _ rfl ab0 (ao0 + y * 68) rfl l q1 qd ?_); (simp only [Act.put, List.setIfInBounds_toArray, List.set_cons_zero, List.set_cons_succ]); go_big_quiet_on)
  | (go_big_quiet_want; (with_reducible refine qdd_ _ _ _ rfl _ _ _ rfl rfl qn ?_); (simp only [Act.put, List.setIfInBounds_toArray, List.set_cons_zero, List.set_cons_succ]); go_big_quiet_on)
  | go_big_quiet_step ((go_at_call 29; exact Calls.regrown_of (KP.out _))))
 refine wpQuiet_nil ?_
 intro v2 hw'
 obtain ⟨rg, hw''⟩ := hw'
 have hb2 : Below v1.heap.size v1 v2 := by rw [hw'']; exact below_regrown v1 rg.d rg.os
 clear hw''
 replace hs := hs.on hb2
 clear hb2 qc qd s1 qn
 cases b1
 case true =>
  go_wp2_with fail
  go_ret
  exact ⟨rfl, hs.be⟩
 go_upto_region 6 with fail
 have hbr : ∀ d os, Below w.heap.size w (Sort.grow (redrawn v2 d) os) := fun d os => hs.be.trans ((below_regrown v2 d os).mono hs.be.size)
 have qb : ∀ d os, (Sort.grow (redrawn v2 d) os).cell? ⟨bH, 66, none⟩ = some (.int .i64 hb) := cell_regrown (by rw [← eb.out]; exact hs.h.bits ho)
 have qt : ∀ d os, (Sort.grow (redrawn v2 d) os).cell? ⟨bH, 65, none⟩ = some (.int .i64 ht) := cell_regrown (by rw [← et.out]; exact hs.h.time ho)
 have qp := hs.p.cls
 refine wp_region_quiet_below (by kernel_rfl) (by kernel_rfl) ?_
 repeat (first
  | (go_big_quiet_want; (with_reducible refine NN.qar_ _ rfl _ rfl hz qp ?_); (simp only [Act.put, List.setIfInBounds_toArray, List.set_cons_zero, List.set_cons_succ]); go_big_quiet_on)
  | go_big_quiet_step ((go_at_call 46; exact Calls.regrown_of (KB.out _ (HA.out.below (hbr _ _))))))
 refine wpQuiet_nil ?_
 intro v3 hw'
 obtain ⟨rg, hw''⟩ := hw'
 have hb3 : Below v2.heap.size v2 v3 := by rw [hw'']; exact below_regrown v2 rg.d rg.os
 clear hw'' hbr
 replace hs := hs.on hb3
 clear hb3 qb qt qp
 cases b2
 case true =>
  go_wp2_with fail
  go_ret
  exact ⟨rfl, hs.be⟩
 have hH := hs.h
 have hP := hs.p
 go_wp2_with (with_reducible first | refine qab_ rfl _ rfl bH rfl hH za ?_ | refine NN.qh_ rfl _ rfl _ rfl hP hz ?_)
 refine (KW.out _).mono ?_
 rintro e v4 ⟨rfl, hb4⟩
 replace hs := hs.on hb4
 clear hb4 hH hP
 cases g3
 ·go_wp2_with fail
  go_ret
  exact ⟨rfl, hs.be⟩
 go_wp2_with fail
 go_loopw [10, 49] (fun o i wr => ∃ k : Nat, k ≤ n ∧ i = .int .i64 (k : Int) ∧ wr.ownsRow v4.heap.size 3 1 o k (((ch.take k).map Hd.time).map (Value.int .i64)) ∧ Below v4.heap.size v4 wr) (fun _ i _ => n - (intOf i).toNat)
 case atStart => exact ⟨0, by omega, rfl, World.ownsRow_nil _ _ _ _, Below.refl _ _⟩
 case round =>
  obtain ⟨k, hk, rfl, hown, hB⟩ := hrel
  obtain ⟨po, co, hu⟩ := qbn_ hown
  subst hu
  by_cases hlt : k < n
  ·obtain ⟨ab, ao, ea, habl, hc⟩ := (HA.out.below (hs.on hB).be) (by rw [← HN.out]; omega)
   cases ea
   have q : (ch.getD k hdZ).ok ∧ wr.rangeAt ab0 (ao0 + k * 68) (hdC (ch.getD k hdZ)) := by
    rw [qip_ (show k < ch.length by rw [← HN.out]; omega)]; exact hc k _
   have HT : Hid ((ch.take (k + 1)).map Hd.time = (ch.take k).map Hd.time ++ [(ch.getD k hdZ).time]) := Lib.hid (by
    have hk2 : k < ch.length := by rw [← HN.out]; exact hlt
    rw [List.take_add_one, List.getElem?_eq_getElem hk2, List.getD_eq_getElem?_getD, List.getElem?_eq_getElem hk2, List.map_append]; rfl)
   generalize ch.getD k hdZ = z at *
   obtain ⟨zok, rz⟩ := q
   have z1 := qj_ zok
   have z2 := qq_ zok
   have qz := qq_ hdZ_ok
   have hnew := qoz_ wr
   have hZ : HdAt ((wr.alloc (.cells Tryz.zeroCells30 30)).setRow wr.heap.size (hdA z)) wr.heap.size z := Has.row hnew _
   have hb1 : Below wr.heap.size wr ((wr.alloc (.cells Tryz.zeroCells30 30)).setRow wr.heap.size (hdA z)) := below_setRow ((Below.refl _ _).alloc (Nat.le_refl _) _) (Nat.le_refl _) _
   obtain ⟨tz, htz⟩ : ∃ tz, tz = z.time := ⟨_, rfl⟩
   have ct := hZ.time zok
   rw [← htz] at ct HT
   clear hc htz hZ
   go_upto_region 14 with (first
    | (with_reducible refine qaa_ rfl _ rfl ab0 (ao0 + k * 68) rfl z rz z1 ?_)
    | (with_reducible refine qbv_ rfl _ _ rfl _ _ z rfl rfl rfl z2 hnew qz ?_))
   generalize hgv : World.setRow _ _ _ = v6 at *
   clear hgv rz hnew
   have hB6 := hB.trans (hb1.mono hB.size)
   have hown6 := MM.qyt_ hown hb1 (Nat.le_refl _)
   have hown7 := hown6.alloc (.cells #[.int .i64 tz] 3)
   have hgb := Lib.hid (fun k => (hown6.lt k))
   have hc7 : (v6.alloc (.cells #[.int .i64 tz] 3)).cell? ⟨v6.heap.size, 0, none⟩ = some (.int .i64 tz) := (Has.new (w := v6) #[.int .i64 tz] 3).cell 0
   have hbs : v4.heap.size ≤ (v6.alloc (.cells #[.int .i64 tz] 3)).heap.size := by rw [World.size_alloc]; have := hB6.size; omega
   have hB7 := Lib.hid (hB6.alloc hB6.size (.cells #[.int .i64 tz] 3))
   have hk1000 : k ≤ 1000 := by omega
   clear hb1 hown hown6 hB hB6
   go_wp2_with ((with_reducible refine MM.qja_ rfl (.tmp 53) (.tmp 56) rfl v4.heap.size (.slice po k co) k ((ch.take k).map Hd.time) rfl hown7 v6.heap.size tz rfl hc7 hk1000 hbs ?_); intro v' w2 hown2 hg2)
   go_roundw
   case rel => exact ⟨k + 1, by omega, by go_num, by rw [HT.out]; exact hown2, hB7.out.grown hg2 hbs (fun k hk => (hgb.out k hk).1)⟩
   case measure => simp [intOf]; omega
  ·obtain rfl : k = n := by omega
   rw [List.take_of_length_le (by rw [← HN.out]; exact Nat.le_refl _)] at hown
   obtain ⟨p5, c5, e5, hcap, hlen, hL⟩ := MM.qca_ hown
   cases e5
   replace hs := hs.on hB
   clear hB hown
   have hcT : wr.cell? ⟨bH, 65, none⟩ = some (.int .i64 ht) := by rw [← et.out]; exact hs.h.time ho
   have hbl : bH < wr.heap.size := hs.h.lt
   have hL0 := hL.wide (Nat.zero_le _) (Nat.le_refl _)
   generalize ch.map Hd.time = ts at *
   have KL : Hid (∀ wx, Below wr.heap.size wr wx → Calls Tryz.prog 49 #[.slice po k co] wx fun r w' => ∃ v, r = .returned v ∧ (∃ p' c', v = .slice p' (min k 11) c' ∧ min k 11 ≤ c' ∧ MM.Lie w' 0 w'.heap.size p' (Md.last ts)) ∧ Below wx.heap.size wx w') := Lib.hid fun wx hb => (MM.qyu_ po k co ts hlen (by omega) wx (hL0.below hb (Nat.le_refl _)) hb.size).mono (fun e w' ⟨p', c', h1, h2, h3, h4⟩ => ⟨_, h1, ⟨p', c', rfl, h2, h3.wide (Nat.zero_le _) (Nat.le_refl _)⟩, h4⟩)
   have KO : Hid (∀ (p' : Option Addr) (c' : Nat) (wx : World), min k 11 ≤ c' → MM.Lie wx 0 wx.heap.size p' (Md.last ts) → Calls Tryz.prog 48 #[.slice p' (min k 11) c'] wx fun e w' => e = .returned (.int .i64 m) ∧ Below wx.heap.size wx w') := Lib.hid fun p' c' wx h1 h2 => by rw [HM.out]; exact MM.ref_of p' (min k 11) c' (Md.last ts) (by rw [Md.qhk_, hlen]) h1 (by omega) wx h2 (Nat.le_refl _)
   clear hL hL0 hcap hlen HM
   go_upto_region 16 with fail
   refine ql_ (by kernel_rfl) (fun w' => Below wr.heap.size wr w') (fun i v' w' => LsR bH ht m ts po k co b4 i v' w') (fun _ _ _ => True) (fun w1 w2 => Below w1.heap.size w1 w2) (fun _ _ => Below.refl _ _) (fun i v w w' _ hs h => qup_ i v w w' hs h) (by kernel_rfl) (Below.refl _ _).drew (fun _ _ => trivial) ?_ ?_
   ·intro i o listed a wx ho' hn' hdep hinv
    have hC' := hinv.c
    have hi : i < 10 := (Array.getElem?_eq_some_iff.1 ho').1
    obtain rfl | rfl | rfl | rfl | rfl | rfl | rfl | rfl | rfl | rfl : i = 0 ∨ i = 1 ∨ i = 2 ∨ i = 3 ∨ i = 4 ∨ i = 5 ∨ i = 6 ∨ i = 7 ∨ i = 8 ∨ i = 9 := by omega
    all_goals obtain rfl := Option.some.inj ho'
    ·exact qd_ (C := fun w' => Below wr.heap.size wr w') (S := fun w1 w2 => Below w1.heap.size w1 w2) (R := fun v' w' => LsR bH ht m ts po k co b4 0 v' w') (J := fun _ _ => True) (fun _ _ => Below.refl _ _) hC' (qa_ rfl) (NN.qbd_ rfl) ((hinv.old' 9 (by kernel_rfl))) trivial
    ·have e59 : a.eval (.tmp 59) = .int .i64 (k : Int) := (hinv.got 0 _ 59 rfl (hdep ⟨0, .data⟩ (by simp) rfl) rfl)
     exact qd_ (C := fun w' => Below wr.heap.size wr w') (S := fun w1 w2 => Below w1.heap.size w1 w2) (R := fun v' w' => LsR bH ht m ts po k co b4 1 v' w') (J := fun _ _ => True) (fun _ _ => Below.refl _ _) hC' (qa_ rfl) (ex_gtr rfl e59 rfl) (congrArg Value.bool d0) trivial
    ·exact qd_ (C := fun w' => Below wr.heap.size wr w') (S := fun w1 w2 => Below w1.heap.size w1 w2) (R := fun v' w' => LsR bH ht m ts po k co b4 2 v' w') (J := fun _ _ => True) (fun _ _ => Below.refl _ _) hC' (qa_ rfl) (NN.qbd_ rfl) ((hinv.got 1 _ 60 rfl (hdep ⟨1, .data⟩ (by simp) rfl) rfl)) trivial
    ·exact qd_ (C := fun w' => Below wr.heap.size wr w') (S := fun w1 w2 => Below w1.heap.size w1 w2) (R := fun v' w' => LsR bH ht m ts po k co b4 3 v' w') (J := fun _ _ => True) (fun _ _ => Below.refl _ _) hC' (qcu_ rfl (qbm_ (o := _) (d := 61) rfl rfl (hinv.got 2 _ 61 rfl (hdep ⟨2, .guard⟩ (by simp) rfl) rfl))) (qdq_ rfl (hinv.old' 6 (by kernel_rfl))) (rfl) trivial
    ·exact qd_ (C := fun w' => Below wr.heap.size wr w') (S := fun w1 w2 => Below w1.heap.size w1 w2) (R := fun v' w' => LsR bH ht m ts po k co b4 4 v' w') (J := fun _ _ => True) (fun _ _ => Below.refl _ _) hC' (qcu_ rfl (qbm_ (o := _) (d := 61) rfl rfl (hinv.got 2 _ 61 rfl (hdep ⟨2, .guard⟩ (by simp) rfl) rfl))) (qnj_ rfl (hinv.got 3 _ 62 rfl (hdep ⟨3, .data⟩ (by simp) rfl) rfl) (by rw [hC'.cell (p := ⟨bH, 65, none⟩) hbl]; exact hcT)) (rfl) trivial
    ·exact qd_ (C := fun w' => Below wr.heap.size wr w') (S := fun w1 w2 => Below w1.heap.size w1 w2) (R := fun v' w' => LsR bH ht m ts po k co b4 5 v' w') (J := fun _ _ => True) (fun _ _ => Below.refl _ _) hC' (qcu_ rfl (qbm_ (o := _) (d := 61) rfl rfl (hinv.got 2 _ 61 rfl (hdep ⟨2, .guard⟩ (by simp) rfl) rfl))) (NN.qbd_ rfl) ((hinv.old' 10 (by kernel_rfl))) trivial
    ·have e64 : a.eval (.tmp 64) = .slice po k co := (hinv.got 5 _ 64 rfl (hdep ⟨5, .data⟩ (by simp) rfl) rfl)
     exact qds_ (C := fun w' => Below wr.heap.size wr w') (S := fun w1 w2 => Below w1.heap.size w1 w2) (R := fun v' w' => LsR bH ht m ts po k co b4 6 v' w') (J := fun _ _ => True) (V := fun v w' => ∃ p' c', v = .slice p' (min k 11) c' ∧ min k 11 ≤ c' ∧ MM.Lie w' 0 w'.heap.size p' (Md.last ts)) (qcu_ rfl (qbm_ (o := _) (d := 61) rfl rfl (hinv.got 2 _ 61 rfl (hdep ⟨2, .guard⟩ (by simp) rfl) rfl))) (f := 49) (args := #[a.eval (.tmp 64)]) (by kernel_rfl) (by rw [e64]; exact KL.out wx hC') (fun v w' hv hb => ⟨hC'.trans (hb.mono hC'.size), hb, hv, trivial⟩)
    ·obtain ⟨p', c', e65, h1, h2⟩ : ∃ p' c', a.eval (.tmp 65) = .slice p' (min k 11) c' ∧ min k 11 ≤ c' ∧ MM.Lie wx 0 wx.heap.size p' (Md.last ts) := (hinv.got 6 _ 65 rfl (hdep ⟨6, .data⟩ (by simp) rfl) rfl)
     exact qam_ (C := fun w' => Below wr.heap.size wr w') (S := fun w1 w2 => Below w1.heap.size w1 w2) (R := fun v' w' => LsR bH ht m ts po k co b4 7 v' w') (J := fun _ _ => True) (qcu_ rfl (qbm_ (o := _) (d := 61) rfl rfl (hinv.got 2 _ 61 rfl (hdep ⟨2, .guard⟩ (by simp) rfl) rfl))) (f := 48) (args := #[a.eval (.tmp 65)]) (by kernel_rfl) (by rw [e65]; exact KO.out p' c' wx h1 h2) (fun w' hb => ⟨hC'.trans (hb.mono hC'.size), hb, rfl, trivial⟩)
    ·have e63 : a.eval (.tmp 63) = .int .i64 ht := (hinv.got 4 _ 63 rfl (hdep ⟨4, .data⟩ (by simp) rfl) rfl)
     have e66 : a.eval (.tmp 66) = .int .i64 m := (hinv.got 7 _ 66 rfl (hdep ⟨7, .data⟩ (by simp) rfl) rfl)
     exact qd_ (C := fun w' => Below wr.heap.size wr w') (S := fun w1 w2 => Below w1.heap.size w1 w2) (R := fun v' w' => LsR bH ht m ts po k co b4 8 v' w') (J := fun _ _ => True) (fun _ _ => Below.refl _ _) hC' (qcu_ rfl (qbm_ (o := _) (d := 61) rfl rfl (hinv.got 2 _ 61 rfl (hdep ⟨2, .guard⟩ (by simp) rfl) rfl))) (ex_leq rfl e63 e66) (congrArg Value.bool t4) trivial
    ·have e61 : a.eval (.tmp 61) = .bool true := (hinv.got 2 _ 61 rfl (hdep ⟨2, .data⟩ (by simp) rfl) rfl)
     have e67 : a.eval (.tmp 67) = .bool b4 := (hinv.got 8 _ 67 rfl (hdep ⟨8, .data⟩ (by simp) rfl) rfl)
     exact qd_ (C := fun w' => Below wr.heap.size wr w') (S := fun w1 w2 => Below w1.heap.size w1 w2) (R := fun v' w' => LsR bH ht m ts po k co b4 9 v' w') (J := fun _ _ => True) (fun _ _ => Below.refl _ _) hC' (qa_ rfl) (qwh_ rfl e61) (by rw [if_pos rfl]; exact e67) trivial
   intro listed a v7 hall hinv
   have hC' := hinv.c
   have e68 : a.eval (.tmp 68) = .bool b4 := hinv.got 9 _ 68 rfl (hall 9 (by decide)) rfl
   have e3' : a.eval (.tmp 3) = .int .i64 now := hinv.old' 3 (by kernel_rfl)
   have e4' : a.eval (.tmp 4) = .pointer (some ⟨bP, 0, none⟩) := hinv.old' 4 (by kernel_rfl)
   have e6' : a.eval (.tmp 6) = .pointer (some ⟨bH, 0, none⟩) := hinv.old' 6 (by kernel_rfl)
   have e9' : a.eval (.tmp 9) = .int .i64 (k : Int) := hinv.old' 9 (by kernel_rfl)
   replace hs := hs.on hC'
   obtain ⟨u, hu⟩ : ∃ u : Nat → Value, ∀ t, u t = a.eval (.tmp t) := ⟨_, fun _ => rfl⟩
   rw [qbh_ a 125 u hinv.tsize hinv.defers hu]
   rw [← hu] at e68 e3' e4' e6' e9'
   clear hu hinv hall hC' KL KO hcT hbl
   show Exit.then _ _ _ (⟨#[u 0, u 1, u 2, u 3, u 4, u 5, u 6, u 7, u 8, u 9, u 10, u 11, u 12, u 13, u 14, u 15, u 16, u 17, u 18, u 19, u 20, u 21, u 22, u 23, u 24, u 25, u 26, u 27, u 28, u 29, u 30, u 31, u 32, u 33, u 34, u 35, u 36, u 37, u 38, u 39, u 40, u 41, u 42, u 43, u 44, u 45, u 46, u 47, u 48, u 49, u 50, u 51, u 52, u 53, u 54, u 55, u 56, u 57, u 58, u 59, u 60, u 61, u 62, u 63, u 64, u 65, u 66, u 67, u 68, u 69, u 70, u 71, u 72, u 73, u 74, u 75, u 76, u 77, u 78, u 79, u 80, u 81, u 82, u 83, u 84, u 85, u 86, u 87, u 88, u 89, u 90, u 91, u 92, u 93, u 94, u 95, u 96, u 97, u 98, u 99, u 100, u 101, u 102, u 103, u 104, u 105, u 106, u 107, u 108, u 109, u 110, u 111, u 112, u 113, u 114, u 115, u 116, u 117, u 118, u 119, u 120, u 121, u 122, u 123, u 124], []⟩ : Act) _
   rw [e68, e3', e4', e6', e9']
   clear e68 e3' e4' e6' e9'
   cases b4
   case true =>
    go_wp2_with fail
    go_ret
    exact ⟨rfl, hs.be⟩
   have ct := hs.h.time ho
   rw [et.out] at ct
   have c3 := hs.p.c3 e3
   have h5 := T5.out
   unfold farB at h5
   cases f1 : decide (fut < 0)
   case true =>
    obtain rfl : true = b5 := by rw [← h5, f1]; rfl
    clear h5
    go_wp2_with fail
    go_ret
    exact ⟨rfl, hs.be⟩
   cases f2 : decide (now < ht)
   case false =>
    obtain rfl : false = b5 := by rw [← h5, f1, f2]; rfl
    clear h5 T5
    go_upto_region 20 with fail
    clear ct c3 f1 f2
    have c5 := P5.out _ _ hs.p
    go_wp2_with fail
    clear c5
    go_loopw [90] (fun i wr => ∃ j : Nat, j ≤ gn ∧ i = .int .i64 (j : Int) ∧ Hid (gbad (k : Int) hv (gs.take j) = false) ∧ Below v7.heap.size v7 wr) (fun i _ => gn - (intOf i).toNat)
    case atStart => exact ⟨0, by omega, rfl, Lib.hid rfl, Below.refl _ _⟩
    case round =>
     obtain ⟨j, hj, rfl, HZ, hB⟩ := hrel
     by_cases hlt : j < gn
     ·obtain ⟨ab, ao, rfl, habl, hc⟩ := (HG.out.below (hs.on hB).be) (by rw [← HGN.out]; omega)
      have q : wr.rangeAt ab (ao + j * 2) (gtC (gs.getD j gtZ)) := by
       have := hc j (by rw [← HGN.out]; omega)
       rwa [show gs.getD j gtZ = gs[j]'(by rw [← HGN.out]; omega) by rw [List.getD_eq_getElem?_getD, List.getElem?_eq_getElem (by rw [← HGN.out]; omega)]; rfl]
      have hnx := qmf_ (k : Int) hv gs j (by rw [← HGN.out]; omega)
      rw [HZ.out, Bool.false_or] at hnx
      generalize gs.getD j gtZ = y2 at *
      have HX := Lib.hid hnx
      have hnew := qjb_ wr
      have hY : GtAt ((wr.alloc (.cells #[.int .i64 0, .int .i64 0] 77)).setRow wr.heap.size (gtA y2)) wr.heap.size y2 := Has.row hnew _
      have hB2 : Below v7.heap.size v7 ((wr.alloc (.cells #[.int .i64 0, .int .i64 0] 77)).setRow wr.heap.size (gtA y2)) := below_setRow (hB.alloc hB.size _) hB.size _
      have hs2 := hs.on hB2
      have c0 := hY.c0
      have c1 := hY.c1
      have cv : World.cell? ((wr.alloc (.cells #[.int .i64 0, .int .i64 0] 77)).setRow wr.heap.size (gtA y2)) ⟨bH, 0, none⟩ = some (.int .i64 hv) := by rw [← ev.out]; exact hs2.h.v
      clear hnx hc hY hB
      cases f1 : decide (y2.h ≤ (k : Int))
      ·have HZ2 : Hid (gbad (k : Int) hv (gs.take (j + 1)) = false) := Lib.hid (by rw [HX.out, f1]; rfl)
       clear HX HZ hs2
       go_wp2_with (with_reducible first | refine qan_ rfl _ rfl ab (ao + j * 2) rfl y2 q ?_ | refine qbw_ rfl _ _ rfl _ y2 rfl rfl hnew ?_)
       go_roundw
       case rel => exact ⟨j + 1, by omega, by go_num, HZ2, hB2⟩
       case measure => simp [intOf]; omega
      ·cases f2 : decide (hv < y2.v)
       ·have HZ2 : Hid (gbad (k : Int) hv (gs.take (j + 1)) = false) := Lib.hid (by rw [HX.out, f1, f2]; rfl)
        clear HX HZ hs2
        go_wp2_with (with_reducible first | refine qan_ rfl _ rfl ab (ao + j * 2) rfl y2 q ?_ | refine qbw_ rfl _ _ rfl _ y2 rfl rfl hnew ?_)
        go_roundw
        case rel => exact ⟨j + 1, by omega, by go_num, HZ2, hB2⟩
        case measure => simp [intOf]; omega
       ·have hgf : b6 = true := by
         rw [← T6.out]
         exact qrf_ (k : Int) hv gs (j + 1) (by rw [HX.out, f1, f2]; rfl)
        subst hgf
        go_wp2_with (with_reducible first | refine qan_ rfl _ rfl ab (ao + j * 2) rfl y2 q ?_ | refine qbw_ rfl _ _ rfl _ y2 rfl rfl hnew ?_)
        go_ret
        exact ⟨rfl, hs2.be⟩
     ·obtain rfl : j = gn := by omega
      have hfin : b6 = false := by
       rw [← T6.out]
       have := HZ.out
       rwa [HGN.out, List.take_length] at this
      subst hfin
      have c6 := P6.out _ _ (hs.on hB).p
      replace hs := hs.on hB
      clear hB HG
      obtain ⟨v9, hv9⟩ : ∃ v9, v9 = wr := ⟨_, rfl⟩
      rw [← hv9] at c6 hs ⊢
      clear hv9
      go_wp2_with fail
      clear c6
      go_loopw [109] (fun i wr => ∃ j : Nat, j ≤ cn ∧ i = .int .i64 (j : Int) ∧ Hid (trk (k : Int) id (cs.take j) = true) ∧ Below v9.heap.size v9 wr) (fun i _ => cn - (intOf i).toNat)
      case atStart => exact ⟨0, by omega, rfl, Lib.hid rfl, Below.refl _ _⟩
      case round =>
       obtain ⟨j, hj, rfl, HZ, hB⟩ := hrel
       by_cases hlt : j < cn
       ·obtain ⟨ab, ao, rfl, habl, hc⟩ := (HC.out.below (hs.on hB).be) (by rw [← HCN.out]; omega)
        have q0 : (cs.getD j ckZ).id.length = 32 ∧ wr.rangeAt ab (ao + j * 33) (ckC (cs.getD j ckZ)) := by
         have := hc j (by rw [← HCN.out]; omega)
         rwa [show cs.getD j ckZ = cs[j]'(by rw [← HCN.out]; omega) by rw [List.getD_eq_getElem?_getD, List.getElem?_eq_getElem (by rw [← HCN.out]; omega)]; rfl]
        have hnx := qko_ (k : Int) id cs j (by rw [← HCN.out]; omega)
        rw [HZ.out, Bool.true_and] at hnx
        generalize cs.getD j ckZ = y2 at *
        obtain ⟨y32, q⟩ := q0
        have HX := Lib.hid hnx
        have z1 := qbt_ y32
        have z2 := qex_ y32
        have z3 : (ckA ckZ).size = 33 := rfl
        have hnew := qjc_ wr
        have hY : CkAt ((wr.alloc (.cells #[.int .i64 0, .int .u8 0, .int .u8 0, .int .u8 0, .int .u8 0, .int .u8 0, .int .u8 0, .int .u8 0, .int .u8 0, .int .u8 0, .int .u8 0, .int .u8 0, .int .u8 0, .int .u8 0, .int .u8 0, .int .u8 0, .int .u8 0, .int .u8 0, .int .u8 0, .int .u8 0, .int .u8 0, .int .u8 0, .int .u8 0, .int .u8 0, .int .u8 0, .int .u8 0, .int .u8 0, .int .u8 0, .int .u8 0, .int .u8 0, .int .u8 0, .int .u8 0, .int .u8 0] 98)).setRow wr.heap.size (ckA y2)) wr.heap.size y2 := Has.row hnew _
        have hB2 : Below v9.heap.size v9 ((wr.alloc (.cells #[.int .i64 0, .int .u8 0, .int .u8 0, .int .u8 0, .int .u8 0, .int .u8 0, .int .u8 0, .int .u8 0, .int .u8 0, .int .u8 0, .int .u8 0, .int .u8 0, .int .u8 0, .int .u8 0, .int .u8 0, .int .u8 0, .int .u8 0, .int .u8 0, .int .u8 0, .int .u8 0, .int .u8 0, .int .u8 0, .int .u8 0, .int .u8 0, .int .u8 0, .int .u8 0, .int .u8 0, .int .u8 0, .int .u8 0, .int .u8 0, .int .u8 0, .int .u8 0, .int .u8 0] 98)).setRow wr.heap.size (ckA y2)) := below_setRow (hB.alloc hB.size _) hB.size _
        clear hnx hc hB
        go_upto_region 29 with (with_reducible first | refine qbf_ rfl _ rfl ab (ao + j * 33) rfl y2 q z1 ?_ | refine qcv_ rfl _ _ rfl _ y2 rfl rfl z2 hnew z3 ?_)
        generalize hgv : World.setRow _ _ _ = v8 at *
        clear hgv q hnew
        simp only [Act.put]
        generalize wr.heap.size = bC at *
        have hs8 := hs.on hB2
        have q0 : ∀ d os, (Sort.grow (redrawn v8 d) os).cell? ⟨bC, 0, none⟩ = some (.int .i64 y2.h) := cell_regrown hY.c0
        have qi := qs_ hY.id (by rw [Lib.byteCells_length, y32]; omega)
        have qd := qs_ hs8.h.range (qcd_ h)
        have s1 := qg_ y32
        have sd := qj_ ho
        cases hh : (y2.h == (k : Int))
        ·have HZ2 : Hid (trk (k : Int) id (cs.take (j + 1)) = true) := Lib.hid (by rw [HX.out, hh]; rfl)
         refine wp_region_quiet_below (by kernel_rfl) (by kernel_rfl) ?_
         repeat (first
          | (go_big_quiet_want; (with_reducible refine qao_ _ rfl bC 1 rfl y2.id s1 qi ?_); (simp only [Act.put, List.setIfInBounds_toArray, List.set_cons_zero, List.set_cons_succ]); go_big_quiet_on)
          | (go_big_quiet_want; (with_reducible refine qt_ _ rfl bH 0 rfl h sd qd ?_); (simp only [Act.put, List.setIfInBounds_toArray, List.set_cons_zero, List.set_cons_succ]); go_big_quiet_on)
          | go_big_quiet_step (fail))
         refine wpQuiet_nil ?_
         intro v9q hw'
         obtain ⟨rg, hw''⟩ := hw'
         have hbq : Below v8.heap.size v8 v9q := by rw [hw'']; exact below_regrown v8 rg.d rg.os
         clear hw''
         have hB3 := hB2.trans (hbq.mono hB2.size)
         clear HX HZ q0 qi qd s1 sd hs8 hB2 hbq hY
         go_wp2_with fail
         go_roundw
         case rel => exact ⟨j + 1, by omega, by go_num, HZ2, hB3⟩
         case measure => simp [intOf]; omega
        ·cases he : (y2.id == id)
         ·have qn := hn_neq y2.id id y32 hi32 true (by rw [he]; rfl)
          have hgf : g7 = false := by
           rw [← T7.out]
           exact trk_no (k : Int) id cs (j + 1) (by rw [HX.out, hh, he]; rfl)
          subst hgf
          refine wp_region_quiet_below (by kernel_rfl) (by kernel_rfl) ?_
          repeat (first
           | (go_big_quiet_want; (with_reducible refine qao_ _ rfl bC 1 rfl y2.id s1 qi ?_); (simp only [Act.put, List.setIfInBounds_toArray, List.set_cons_zero, List.set_cons_succ]); go_big_quiet_on)
           | (go_big_quiet_want; (with_reducible refine qt_ _ rfl bH 0 rfl h sd qd ?_); (simp only [Act.put, List.setIfInBounds_toArray, List.set_cons_zero, List.set_cons_succ]); go_big_quiet_on)
           | (go_big_quiet_want; (with_reducible refine qdd_ _ _ _ rfl _ _ _ rfl rfl qn ?_); (simp only [Act.put, List.setIfInBounds_toArray, List.set_cons_zero, List.set_cons_succ]); go_big_quiet_on)
           | go_big_quiet_step ((go_at_call 29; exact Calls.regrown_of (KI.out _))))
          refine wpQuiet_nil ?_
          intro v9q hw'
          obtain ⟨rg, hw''⟩ := hw'
          have hbq : Below v8.heap.size v8 v9q := by rw [hw'']; exact below_regrown v8 rg.d rg.os
          clear hw''
          replace hs8 := hs8.on hbq
          go_wp2_with fail
          go_ret
          exact ⟨rfl, hs8.be⟩
         ·have qn := hn_neq y2.id id y32 hi32 false (by rw [he]; rfl)
          have HZ2 : Hid (trk (k : Int) id (cs.take (j + 1)) = true) := Lib.hid (by rw [HX.out, hh, he]; rfl)
          refine wp_region_quiet_below (by kernel_rfl) (by kernel_rfl) ?_
          repeat (first
           | (go_big_quiet_want; (with_reducible refine qao_ _ rfl bC 1 rfl y2.id s1 qi ?_); (simp only [Act.put, List.setIfInBounds_toArray, List.set_cons_zero, List.set_cons_succ]); go_big_quiet_on)
           | (go_big_quiet_want; (with_reducible refine qt_ _ rfl bH 0 rfl h sd qd ?_); (simp only [Act.put, List.setIfInBounds_toArray, List.set_cons_zero, List.set_cons_succ]); go_big_quiet_on)
           | (go_big_quiet_want; (with_reducible refine qdd_ _ _ _ rfl _ _ _ rfl rfl qn ?_); (simp only [Act.put, List.setIfInBounds_toArray, List.set_cons_zero, List.set_cons_succ]); go_big_quiet_on)
           | go_big_quiet_step ((go_at_call 29; exact Calls.regrown_of (KI.out _))))
          refine wpQuiet_nil ?_
          intro v9q hw'
          obtain ⟨rg, hw''⟩ := hw'
          have hbq : Below v8.heap.size v8 v9q := by rw [hw'']; exact below_regrown v8 rg.d rg.os
          clear hw''
          have hB3 := hB2.trans (hbq.mono hB2.size)
          clear HX HZ q0 qi qd s1 sd hs8 hB2 hbq hY qn
          go_wp2_with fail
          go_roundw
          case rel => exact ⟨j + 1, by omega, by go_num, HZ2, hB3⟩
          case measure => simp [intOf]; omega
       ·obtain rfl : j = cn := by omega
        have hfin : g7 = true := by
         rw [← T7.out]
         have := HZ.out
         rwa [HCN.out, List.take_length] at this
        subst hfin
        go_wp2_with fail
        go_ret
        exact ⟨rfl, (hs.on hB).be⟩
   case true =>
    obtain ⟨dt, hdt⟩ : ∃ dt, IntKind.i64.wrap (ht - now) = dt := ⟨_, rfl⟩
    cases f3 : decide (fut < dt)
    case true =>
     obtain rfl : true = b5 := by rw [← h5, f1, f2, hdt, f3]; rfl
     clear h5
     go_wp2_with fail
     go_ret
     exact ⟨rfl, hs.be⟩
    case false =>
     obtain rfl : false = b5 := by rw [← h5, f1, f2, hdt, f3]; rfl
     clear h5 T5
     go_upto_region 20 with fail
     clear ct c3 f1 f2 f3 hdt
     have c5 := P5.out _ _ hs.p
     go_wp2_with fail
     clear c5
     go_loopw [90] (fun i wr => ∃ j : Nat, j ≤ gn ∧ i = .int .i64 (j : Int) ∧ Hid (gbad (k : Int) hv (gs.take j) = false) ∧ Below v7.heap.size v7 wr) (fun i _ => gn - (intOf i).toNat)
     case atStart => exact ⟨0, by omega, rfl, Lib.hid rfl, Below.refl _ _⟩
     case round =>
      obtain ⟨j, hj, rfl, HZ, hB⟩ := hrel
      by_cases hlt : j < gn
      ·obtain ⟨ab, ao, rfl, habl, hc⟩ := (HG.out.below (hs.on hB).be) (by rw [← HGN.out]; omega)
       have q : wr.rangeAt ab (ao + j * 2) (gtC (gs.getD j gtZ)) := by
        have := hc j (by rw [← HGN.out]; omega)
        rwa [show gs.getD j gtZ = gs[j]'(by rw [← HGN.out]; omega) by rw [List.getD_eq_getElem?_getD, List.getElem?_eq_getElem (by rw [← HGN.out]; omega)]; rfl]
       have hnx := qmf_ (k : Int) hv gs j (by rw [← HGN.out]; omega)
       rw [HZ.out, Bool.false_or] at hnx
       generalize gs.getD j gtZ = y2 at *
       have HX := Lib.hid hnx
       have hnew := qjb_ wr
       have hY : GtAt ((wr.alloc (.cells #[.int .i64 0, .int .i64 0] 77)).setRow wr.heap.size (gtA y2)) wr.heap.size y2 := Has.row hnew _
       have hB2 : Below v7.heap.size v7 ((wr.alloc (.cells #[.int .i64 0, .int .i64 0] 77)).setRow wr.heap.size (gtA y2)) := below_setRow (hB.alloc hB.size _) hB.size _
       have hs2 := hs.on hB2
       have c0 := hY.c0
       have c1 := hY.c1
       have cv : World.cell? ((wr.alloc (.cells #[.int .i64 0, .int .i64 0] 77)).setRow wr.heap.size (gtA y2)) ⟨bH, 0, none⟩ = some (.int .i64 hv) := by rw [← ev.out]; exact hs2.h.v
       clear hnx hc hY hB
       cases f1 : decide (y2.h ≤ (k : Int))
       ·have HZ2 : Hid (gbad (k : Int) hv (gs.take (j + 1)) = false) := Lib.hid (by rw [HX.out, f1]; rfl)
        clear HX HZ hs2
        go_wp2_with (with_reducible first | refine qan_ rfl _ rfl ab (ao + j * 2) rfl y2 q ?_ | refine qbw_ rfl _ _ rfl _ y2 rfl rfl hnew ?_)
        go_roundw
        case rel => exact ⟨j + 1, by omega, by go_num, HZ2, hB2⟩
        case measure => simp [intOf]; omega
       ·cases f2 : decide (hv < y2.v)
        ·have HZ2 : Hid (gbad (k : Int) hv (gs.take (j + 1)) = false) := Lib.hid (by rw [HX.out, f1, f2]; rfl)
         clear HX HZ hs2
         go_wp2_with (with_reducible first | refine qan_ rfl _ rfl ab (ao + j * 2) rfl y2 q ?_ | refine qbw_ rfl _ _ rfl _ y2 rfl rfl hnew ?_)
         go_roundw
         case rel => exact ⟨j + 1, by omega, by go_num, HZ2, hB2⟩
         case measure => simp [intOf]; omega
        ·have hgf : b6 = true := by
          rw [← T6.out]
          exact qrf_ (k : Int) hv gs (j + 1) (by rw [HX.out, f1, f2]; rfl)
         subst hgf
         go_wp2_with (with_reducible first | refine qan_ rfl _ rfl ab (ao + j * 2) rfl y2 q ?_ | refine qbw_ rfl _ _ rfl _ y2 rfl rfl hnew ?_)
         go_ret
         exact ⟨rfl, hs2.be⟩
      ·obtain rfl : j = gn := by omega
       have hfin : b6 = false := by
        rw [← T6.out]
        have := HZ.out
        rwa [HGN.out, List.take_length] at this
       subst hfin
       have c6 := P6.out _ _ (hs.on hB).p
       replace hs := hs.on hB
       clear hB HG
       obtain ⟨v9, hv9⟩ : ∃ v9, v9 = wr := ⟨_, rfl⟩
       rw [← hv9] at c6 hs ⊢
       clear hv9
       go_wp2_with fail
       clear c6
       go_loopw [109] (fun i wr => ∃ j : Nat, j ≤ cn ∧ i = .int .i64 (j : Int) ∧ Hid (trk (k : Int) id (cs.take j) = true) ∧ Below v9.heap.size v9 wr) (fun i _ => cn - (intOf i).toNat)
       case atStart => exact ⟨0, by omega, rfl, Lib.hid rfl, Below.refl _ _⟩
       case round =>
        obtain ⟨j, hj, rfl, HZ, hB⟩ := hrel
        by_cases hlt : j < cn
        ·obtain ⟨ab, ao, rfl, habl, hc⟩ := (HC.out.below (hs.on hB).be) (by rw [← HCN.out]; omega)
         have q0 : (cs.getD j ckZ).id.length = 32 ∧ wr.rangeAt ab (ao + j * 33) (ckC (cs.getD j ckZ)) := by
          have := hc j (by rw [← HCN.out]; omega)
          rwa [show cs.getD j ckZ = cs[j]'(by rw [← HCN.out]; omega) by rw [List.getD_eq_getElem?_getD, List.getElem?_eq_getElem (by rw [← HCN.out]; omega)]; rfl]
         have hnx := qko_ (k : Int) id cs j (by rw [← HCN.out]; omega)
         rw [HZ.out, Bool.true_and] at hnx
         generalize cs.getD j ckZ = y2 at *
         obtain ⟨y32, q⟩ := q0
         have HX := Lib.hid hnx
         have z1 := qbt_ y32
         have z2 := qex_ y32
         have z3 : (ckA ckZ).size = 33 := rfl
         have hnew := qjc_ wr
         have hY : CkAt ((wr.alloc (.cells #[.int .i64 0, .int .u8 0, .int .u8 0, .int .u8 0, .int .u8 0, .int .u8 0, .int .u8 0, .int .u8 0, .int .u8 0, .int .u8 0, .int .u8 0, .int .u8 0, .int .u8 0, .int .u8 0, .int .u8 0, .int .u8 0, .int .u8 0, .int .u8 0, .int .u8 0, .int .u8 0, .int .u8 0, .int .u8 0, .int .u8 0, .int .u8 0, .int .u8 0, .int .u8 0, .int .u8 0, .int .u8 0, .int .u8 0, .int .u8 0, .int .u8 0, .int .u8 0, .int .u8 0] 98)).setRow wr.heap.size (ckA y2)) wr.heap.size y2 := Has.row hnew _
         have hB2 : Below v9.heap.size v9 ((wr.alloc (.cells #[.int .i64 0, .int .u8 0, .int .u8 0, .int .u8 0, .int .u8 0, .int .u8 0, .int .u8 0, .int .u8 0, .int .u8 0, .int .u8 0, .int .u8 0, .int .u8 0, .int .u8 0, .int .u8 0, .int .u8 0, .int .u8 0, .int .u8 0, .int .u8 0, .int .u8 0, .int .u8 0, .int .u8 0, .int .u8 0, .int .u8 0, .int .u8 0, .int .u8 0, .int .u8 0, .int .u8 0, .int .u8 0, .int .u8 0, .int .u8 0, .int .u8 0, .int .u8 0, .int .u8 0] 98)).setRow wr.heap.size (ckA y2)) := below_setRow (hB.alloc hB.size _) hB.size _
         clear hnx hc hB
         go_upto_region 29 with (with_reducible first | refine qbf_ rfl _ rfl ab (ao + j * 33) rfl y2 q z1 ?_ | refine qcv_ rfl _ _ rfl _ y2 rfl rfl z2 hnew z3 ?_)
         generalize hgv : World.setRow _ _ _ = v8 at *
         clear hgv q hnew
         simp only [Act.put]
         generalize wr.heap.size = bC at *
         have hs8 := hs.on hB2
         have q0 : ∀ d os, (Sort.grow (redrawn v8 d) os).cell? ⟨bC, 0, none⟩ = some (.int .i64 y2.h) := cell_regrown hY.c0
         have qi := qs_ hY.id (by rw [Lib.byteCells_length, y32]; omega)
         have qd := qs_ hs8.h.range (qcd_ h)
         have s1 := qg_ y32
         have sd := qj_ ho
         cases hh : (y2.h == (k : Int))
         ·have HZ2 : Hid (trk (k : Int) id (cs.take (j + 1)) = true) := Lib.hid (by rw [HX.out, hh]; rfl)
          refine wp_region_quiet_below (by kernel_rfl) (by kernel_rfl) ?_
          repeat (first
           | (go_big_quiet_want; (with_reducible refine qao_ _ rfl bC 1 rfl y2.id s1 qi ?_); (simp only [Act.put, List.setIfInBounds_toArray, List.set_cons_zero, List.set_cons_succ]); go_big_quiet_on)
           | (go_big_quiet_want; (with_reducible refine qt_ _ rfl bH 0 rfl h sd qd ?_); (simp only [Act.put, List.setIfInBounds_toArray, List.set_cons_zero, List.set_cons_succ]); go_big_quiet_on)
           | go_big_quiet_step (fail))
          refine wpQuiet_nil ?_
          intro v9q hw'
          obtain ⟨rg, hw''⟩ := hw'
          have hbq : Below v8.heap.size v8 v9q := by rw [hw'']; exact below_regrown v8 rg.d rg.os
          clear hw''
          have hB3 := hB2.trans (hbq.mono hB2.size)
          clear HX HZ q0 qi qd s1 sd hs8 hB2 hbq hY
          go_wp2_with fail
          go_roundw
          case rel => exact ⟨j + 1, by omega, by go_num, HZ2, hB3⟩
          case measure => simp [intOf]; omega
         ·cases he : (y2.id == id)
          ·have qn := hn_neq y2.id id y32 hi32 true (by rw [he]; rfl)
           have hgf : g7 = false := by
            rw [← T7.out]
            exact trk_no (k : Int) id cs (j + 1) (by rw [HX.out, hh, he]; rfl)
           subst hgf
           refine wp_region_quiet_below (by kernel_rfl) (by kernel_rfl) ?_
           repeat (first
            | (go_big_quiet_want; (with_reducible refine qao_ _ rfl bC 1 rfl y2.id s1 qi ?_); (simp only [Act.put, List.setIfInBounds_toArray, List.set_cons_zero, List.set_cons_succ]); go_big_quiet_on)
            | (go_big_quiet_want; (with_reducible refine qt_ _ rfl bH 0 rfl h sd qd ?_); (simp only [Act.put, List.setIfInBounds_toArray, List.set_cons_zero, List.set_cons_succ]); go_big_quiet_on)
            | (go_big_quiet_want; (with_reducible refine qdd_ _ _ _ rfl _ _ _ rfl rfl qn ?_); (simp only [Act.put, List.setIfInBounds_toArray, List.set_cons_zero, List.set_cons_succ]); go_big_quiet_on)
            | go_big_quiet_step ((go_at_call 29; exact Calls.regrown_of (KI.out _))))
           refine wpQuiet_nil ?_
           intro v9q hw'
           obtain ⟨rg, hw''⟩ := hw'
           have hbq : Below v8.heap.size v8 v9q := by rw [hw'']; exact below_regrown v8 rg.d rg.os
           clear hw''
           replace hs8 := hs8.on hbq
           go_wp2_with fail
           go_ret
           exact ⟨rfl, hs8.be⟩
          ·have qn := hn_neq y2.id id y32 hi32 false (by rw [he]; rfl)
           have HZ2 : Hid (trk (k : Int) id (cs.take (j + 1)) = true) := Lib.hid (by rw [HX.out, hh, he]; rfl)
           refine wp_region_quiet_below (by kernel_rfl) (by kernel_rfl) ?_
           repeat (first
            | (go_big_quiet_want; (with_reducible refine qao_ _ rfl bC 1 rfl y2.id s1 qi ?_); (simp only [Act.put, List.setIfInBounds_toArray, List.set_cons_zero, List.set_cons_succ]); go_big_quiet_on)
            | (go_big_quiet_want; (with_reducible refine qt_ _ rfl bH 0 rfl h sd qd ?_); (simp only [Act.put, List.setIfInBounds_toArray, List.set_cons_zero, List.set_cons_succ]); go_big_quiet_on)
            | (go_big_quiet_want; (with_reducible refine qdd_ _ _ _ rfl _ _ _ rfl rfl qn ?_); (simp only [Act.put, List.setIfInBounds_toArray, List.set_cons_zero, List.set_cons_succ]); go_big_quiet_on)
            | go_big_quiet_step ((go_at_call 29; exact Calls.regrown_of (KI.out _))))
           refine wpQuiet_nil ?_
           intro v9q hw'
           obtain ⟨rg, hw''⟩ := hw'
           have hbq : Below v8.heap.size v8 v9q := by rw [hw'']; exact below_regrown v8 rg.d rg.os
           clear hw''
           have hB3 := hB2.trans (hbq.mono hB2.size)
           clear HX HZ q0 qi qd s1 sd hs8 hB2 hbq hY qn
           go_wp2_with fail
           go_roundw
           case rel => exact ⟨j + 1, by omega, by go_num, HZ2, hB3⟩
           case measure => simp [intOf]; omega
        ·obtain rfl : j = cn := by omega
         have hfin : g7 = true := by
          rw [← T7.out]
          have := HZ.out
          rwa [HCN.out, List.take_length] at this
         subst hfin
         go_wp2_with fail
         go_ret
         exact ⟨rfl, (hs.on hB).be⟩
theorem qrg_ (p : NN.Pr) (g : Hd) (hs : List Hd) : ∀ k, k ≤ hs.length → (way p g hs k).ts = Md.last (((g :: hs).take (k + 1)).map Hd.time)
 | 0, _ => rfl
 | k + 1, h => by
  rw [qey_ p g hs k (by omega)]
  show (hs.getD k hdZ).time :: (way p g hs k).ts.take 10 = _
  rw [qrg_ p g hs k (by omega)]
  have hk : k < hs.length := by omega
  rw [show (g :: hs).take (k + 1 + 1) = (g :: hs).take (k + 1) ++ [hs.getD k hdZ] by
   rw [List.take_add_one, List.getElem?_cons_succ, List.getElem?_eq_getElem hk, List.getD_eq_getElem?_getD, List.getElem?_eq_getElem hk]; rfl]
  unfold Md.last
  rw [List.map_append, List.reverse_append, List.take_take]
  rfl
theorem qrh_ (x v : Int) : ∀ (gs : List Gt) (m : Int), (v < gs.foldl (fun m g => if g.h ≤ x then max m g.v else m) m) ↔ (v < m ∨ gbad x v gs = true)
 | [], m => by simp [gbad]
 | g :: gs, m => by
  rw [List.foldl_cons, qrh_ x v gs]
  rw [show gbad x v (g :: gs) = ((decide (g.h ≤ x) && decide (v < g.v)) || gbad x v gs) from rfl]
  by_cases h : g.h ≤ x
  ·rw [if_pos h, decide_eq_true h, Bool.true_and, Bool.or_eq_true, decide_eq_true_eq]
   constructor
   ·rintro (h1 | h1)
    ·by_cases h2 : v < m
     ·exact .inl h2
     ·exact .inr (.inl (by omega))
    ·exact .inr (.inr h1)
   ·rintro (h1 | h1 | h1)
    ·exact .inl (by omega)
    ·exact .inl (by omega)
    ·exact .inr h1
  ·rw [if_neg h, decide_eq_false h, Bool.false_and, Bool.false_or]
def rchk (p : NN.Pr) (gs : List Gt) (cs : List Ck) (q : Ps) (h : Hd) (now : Int) : Int :=
 if ¬ h.P then 1 else if ¬ h.prev = q.prev then 2 else if ¬ h.bits = NN.rnx p q.x h.time then 3 else if wkd p.lim h = false then 4 else if MM.late h.time q.ts = false then 5 else if farB h.time now p.fut = true then 6 else if h.v < vers q.x.h gs then 7 else if trk q.x.h h.id cs = false then 8 else 0
theorem qzq_ (t now fut : Int) (h0 : 0 ≤ t) (h1 : t ≤ 4294967295) (h2 : -9223372036854775808 ≤ now) (h3 : now ≤ 9223372036854775807) : farB t now fut = !nearB t now fut := by
 unfold farB nearB
 rw [IntKind.wrap_i64]
 by_cases hf : fut < 0
 ·rw [decide_eq_true hf, decide_eq_false (show ¬ 0 ≤ fut by omega)]; rfl
 ·rw [decide_eq_false hf, decide_eq_true (show 0 ≤ fut by omega), Bool.false_or, Bool.true_and]
  by_cases hn : now < t
  ·rw [decide_eq_true hn, Bool.true_and]
   rw [Bool.eq_iff_iff]
   simp
  ·rw [decide_eq_false hn, Bool.false_and, decide_eq_true (by omega)]; rfl
theorem qzr_ (p : NN.Pr) (gs : List Gt) (cs : List Ck) (q : Ps) (h : Hd) (now : Int) (h2 : -9223372036854775808 ≤ now) (h3 : now ≤ 9223372036854775807) (e : NN.rnx p q.x h.time = NN.nx p q.x h.time) : rchk p gs cs q h now = chk p gs cs q h now := by
 unfold rchk chk
 rw [e]
 by_cases hP : h.P
 ·rw [qzq_ h.time now p.fut hP.2.2.1 hP.2.2.2.1 h2 h3]
  simp only [Bool.not_eq_true']
 ·rw [if_pos hP, if_pos hP]
theorem quq_ (p : NN.Pr) (hp : p.ok) (t : Tl) (tt : p.tl = t.C) (gs : List Gt) (cs : List Ck) (hgn : t.gn = gs.length) (hcn : t.cn = cs.length) (hgl : t.gn ≤ 1000) (hcl : t.cn ≤ 1000) (a : Option Addr) (g : Hd) (hs : List Hd) (n c : Nat) (hn : n = hs.length + 1) (hl : n ≤ 1000) (h : Hd) (ho : h.ok) (now : Int) (w : World) (hA : HeadersAt w a (g :: hs)) (hG : GatesAt w t.ga gs) (hC : ChecksAt w t.ca cs) :
  Ca_ 22 #[.agg (NN.prA p), .slice a n c, .agg (hdA h), .int .i64 now] w (.int .i64 (rchk p gs cs (way p g hs hs.length) h now)) := by
 have hz := NN.qal_ hp
 obtain ⟨q, hq⟩ : ∃ q, q = way p g hs hs.length := ⟨_, rfl⟩
 have e1 : n - 1 = hs.length := by omega
 have eh : q.x.h = (n : Int) := by rw [hq, way_h p g hs _ (Nat.le_refl _)]; omega
 have ep : q.prev = ((g :: hs).getD (n - 1) hdZ).id := by rw [hq, e1]; exact (way_bt p g hs _ (Nat.le_refl _)).2.2
 have et : q.ts = Md.last ((g :: hs).map Hd.time) := by
  rw [hq, qrg_ p g hs _ (Nat.le_refl _), List.take_of_length_le (by simp)]
 have lok : ((g :: hs).getD (n - 1) hdZ).ok := by
  obtain ⟨ab, ao, _, _, hc⟩ := hA (by simp)
  rw [qip_ (show n - 1 < (g :: hs).length by simp; omega)]
  exact (hc _ _).1
 have hne : q.ts.isEmpty = false := by
  have hl2 := way_ts p g hs hs.length (Nat.le_refl _)
  rw [← hq] at hl2
  cases hts : q.ts with
  | nil => rw [hts] at hl2; simp at hl2; omega
  | cons _ _ => rfl
 have key := rchk_w p hz a (g :: hs) n c (by simpa using hn) (by omega) hl h ho now w hA t tt gs cs hgn hcn hgl hcl hG hC (decide h.P) _ _ (wkd p.lim h) _ _ _ _ (Lib.hid fun w => qek_ h ho w) q.prev h.id (by rw [ep]; exact qz_ _) (qz_ h) (Lib.hid fun w => by rw [ep]; exact rid_at _ lok w) (Lib.hid (rid_at h ho)) rfl
  h.v h.bits h.time (NN.rnx p q.x h.time) p.fut (Lib.hid rfl) (Lib.hid rfl) (Lib.hid rfl) (Lib.hid rfl) (Lib.hid fun w' hA' => by have := qzo_ p hp a g hs n c hn hl h.time w' hA'; rw [e1, ← hq] at this; exact this) rfl
  (Lib.hid (qzn_ p h ho _ rfl)) (Md.mid q.ts) (by rw [et]) rfl rfl rfl rfl
 have efin : rres (decide h.P) (!(h.prev == q.prev)) (h.bits != NN.rnx p q.x h.time) (wkd p.lim h) (decide (h.time ≤ Md.mid q.ts)) (farB h.time now p.fut) (gbad (n : Int) h.v gs) (trk (n : Int) h.id cs) = rchk p gs cs q h now := by
  unfold rres rchk MM.late
  rw [eh, hne, Bool.false_or]
  by_cases hP : h.P
  ·rw [decide_eq_true hP, if_neg (show ¬ (true = false) by simp), if_neg (show ¬ ¬ h.P from fun hh => hh hP)]
   by_cases h1 : h.prev = q.prev
   ·rw [if_neg (show ¬ (!(h.prev == q.prev)) = true by simp [h1]), if_neg (show ¬ ¬ h.prev = q.prev from fun hh => hh h1)]
    by_cases h2 : h.bits = NN.rnx p q.x h.time
    ·rw [if_neg (show ¬ (h.bits != NN.rnx p q.x h.time) = true by rw [← h2]; simp), if_neg (show ¬ ¬ h.bits = NN.rnx p q.x h.time from fun hh => hh h2)]
     by_cases h3 : wkd p.lim h = false
     ·rw [if_pos h3, if_pos h3]
     ·rw [if_neg h3, if_neg h3]
      by_cases h4 : h.time ≤ Md.mid q.ts
      ·rw [if_pos (decide_eq_true h4), if_pos (show decide (Md.mid q.ts < h.time) = false from decide_eq_false (by omega))]
      ·rw [if_neg (show ¬ decide (h.time ≤ Md.mid q.ts) = true by simp only [decide_eq_true_eq]; exact h4), if_neg (show ¬ decide (Md.mid q.ts < h.time) = false by simp only [decide_eq_false_iff_not]; omega)]
       by_cases h5 : farB h.time now p.fut = true
       ·rw [if_pos h5, if_pos h5]
       ·rw [if_neg h5, if_neg h5]
        have hv : h.v < vers (n : Int) gs ↔ _ := qrh_ (n : Int) h.v gs (-2147483648)
        have hlo := hP.1
        by_cases h6 : gbad (n : Int) h.v gs = true
        ·rw [if_pos h6, if_pos (hv.2 (.inr h6))]
        ·rw [if_neg h6, if_neg (fun hh => (hv.1 hh).elim (fun h7 => by omega) h6)]
    ·rw [if_pos (show (h.bits != NN.rnx p q.x h.time) = true by simpa using h2), if_pos h2]
   ·rw [if_pos (show (!(h.prev == q.prev)) = true by simpa using h1), if_pos h1]
  ·rw [decide_eq_false hP, if_pos (show false = false from rfl), if_pos hP]
 rw [← hq, ← efin]
 exact key
end Go.Proofs.YtkclahiiijfllaaGreatDoor
namespace Go.Proofs.YtkclahiiijfllaaGreatDoor
open Go.RowKit Mem Sc NN.Rg2
def gUp : Int → List Gt → Bool
 | _, [] => true
 | m, y :: ys => decide (m < y.h) && gUp y.h ys
theorem qkr_ (a : Option Addr) (gs : List Gt) (n c : Nat) (hn : n = gs.length) (hl : n ≤ 4611686018427387904) (w : World) (hA : GatesAt w a gs) (g : Bool) (hg : gUp (-1) gs = g) :
  Calls Tryz.prog 55 #[.slice a n c] w fun r w' => r = .returned (.bool g) ∧ Below w.heap.size w w' := by
 have HN := Lib.hid hn
 have HV := Lib.hid hg
 have HA := Lib.hid hA
 clear hn hg hA
 go_enter Tryz.func55, Tryz.ntmps55
 go_wp2_with fail
 go_loopw [3, 8] (fun m i wr => ∃ k : Nat, k ≤ n ∧ i = .int .i64 (k : Int) ∧ ∃ z : Int, m = .int .i64 z ∧ Hid (gUp z (gs.drop k) = g) ∧ Below w.heap.size w wr) (fun _ i _ => n - (intOf i).toNat)
 case atStart => exact ⟨0, by omega, rfl, _, rfl, HV, Below.refl _ _⟩
 case round =>
  obtain ⟨k, hk, rfl, z, rfl, HZ, hB⟩ := hrel
  by_cases hlt : k < n
  ·obtain ⟨ab, ao, rfl, habl, hc⟩ := (HA.out.below hB) (by rw [← HN.out]; omega)
   have hd : gs.drop k = gs.getD k gtZ :: gs.drop (k + 1) := by
    have hk2 : k < gs.length := by rw [← HN.out]; exact hlt
    rw [List.drop_eq_getElem_cons hk2, List.getD_eq_getElem?_getD, List.getElem?_eq_getElem hk2]; rfl
   have q0 := hc k (by rw [← HN.out]; omega)
   rw [show gs[k]'(by rw [← HN.out]; omega) = gs.getD k gtZ by rw [List.getD_eq_getElem?_getD, List.getElem?_eq_getElem (by rw [← HN.out]; omega)]; rfl] at q0
   have hx := HZ.out
   rw [hd] at hx
   clear hd HZ
   generalize gs.getD k gtZ = y at *
   have HX := Lib.hid hx
   clear hx hc
   have hnew := qjb_ wr
   have hG : GtAt ((wr.alloc (.cells #[.int .i64 0, .int .i64 0] 77)).setRow wr.heap.size (gtA y)) wr.heap.size y := Has.row hnew _
   have hB2 : Below w.heap.size w ((wr.alloc (.cells #[.int .i64 0, .int .i64 0] 77)).setRow wr.heap.size (gtA y)) := below_setRow (hB.alloc hB.size _) hB.size _
   have c0 := hG.c0
   clear hG hB
   cases t1 : decide (y.h ≤ z)
   ·have HZ2 : Hid (gUp y.h (gs.drop (k + 1)) = g) := Lib.hid (by
     have := HX.out
     rw [show gUp z (y :: gs.drop (k + 1)) = (decide (z < y.h) && gUp y.h (gs.drop (k + 1))) from rfl, decide_eq_true (show z < y.h by have := of_decide_eq_false t1; omega), Bool.true_and] at this
     exact this)
    clear HX
    obtain ⟨yh, hyh⟩ : ∃ yh, yh = y.h := ⟨_, rfl⟩
    rw [← hyh] at c0 t1 HZ2
    clear hyh
    go_wp2_with (with_reducible first | refine qan_ rfl _ rfl ab (ao + k * 2) rfl y q0 ?_ | refine qbw_ rfl _ _ rfl _ y rfl rfl hnew ?_)
    go_roundw
    case rel => exact ⟨k + 1, by omega, by go_num, yh, rfl, HZ2, hB2⟩
    case measure => simp [intOf]; omega
   ·have hgf : g = false := by
     rw [← HX.out, show gUp z (y :: gs.drop (k + 1)) = (decide (z < y.h) && gUp y.h (gs.drop (k + 1))) from rfl, decide_eq_false (show ¬ z < y.h by have := of_decide_eq_true t1; omega), Bool.false_and]
    subst hgf
    clear HX HV
    go_wp2_with (with_reducible first | refine qan_ rfl _ rfl ab (ao + k * 2) rfl y q0 ?_ | refine qbw_ rfl _ _ rfl _ y rfl rfl hnew ?_)
    go_ret
    exact ⟨rfl, hB2⟩
  ·obtain rfl : k = n := by omega
   have e : g = true := by
    have := HZ.out
    rw [HN.out, List.drop_length] at this
    exact this.symm
   subst e
   go_wp2_with fail
   go_ret
   exact ⟨rfl, hB⟩
def cUp : Int → List Ck → Bool
 | _, [] => true
 | m, y :: ys => decide (m < y.h) && cUp y.h ys
theorem qjh_ (a : Option Addr) (gs : List Ck) (n c : Nat) (hn : n = gs.length) (hl : n ≤ 4611686018427387904) (w : World) (hA : ChecksAt w a gs) (g : Bool) (hg : cUp (0) gs = g) :
  Calls Tryz.prog 56 #[.slice a n c] w fun r w' => r = .returned (.bool g) ∧ Below w.heap.size w w' := by
 have HN := Lib.hid hn
 have HV := Lib.hid hg
 have HA := Lib.hid hA
 clear hn hg hA
 go_enter Tryz.func56, Tryz.ntmps56
 go_wp2_with fail
 go_loopw [3, 8] (fun m i wr => ∃ k : Nat, k ≤ n ∧ i = .int .i64 (k : Int) ∧ ∃ z : Int, m = .int .i64 z ∧ Hid (cUp z (gs.drop k) = g) ∧ Below w.heap.size w wr) (fun _ i _ => n - (intOf i).toNat)
 case atStart => exact ⟨0, by omega, rfl, _, rfl, HV, Below.refl _ _⟩
 case round =>
  obtain ⟨k, hk, rfl, z, rfl, HZ, hB⟩ := hrel
  by_cases hlt : k < n
  ·obtain ⟨ab, ao, rfl, habl, hc⟩ := (HA.out.below hB) (by rw [← HN.out]; omega)
   have hd : gs.drop k = gs.getD k ckZ :: gs.drop (k + 1) := by
    have hk2 : k < gs.length := by rw [← HN.out]; exact hlt
    rw [List.drop_eq_getElem_cons hk2, List.getD_eq_getElem?_getD, List.getElem?_eq_getElem hk2]; rfl
   have q0 := hc k (by rw [← HN.out]; omega)
   rw [show gs[k]'(by rw [← HN.out]; omega) = gs.getD k ckZ by rw [List.getD_eq_getElem?_getD, List.getElem?_eq_getElem (by rw [← HN.out]; omega)]; rfl] at q0
   have hx := HZ.out
   rw [hd] at hx
   clear hd HZ
   generalize gs.getD k ckZ = y at *
   have HX := Lib.hid hx
   clear hx hc
   obtain ⟨y32, q⟩ := q0
   have z1 := qbt_ y32
   have z2 := qex_ y32
   have z3 : (ckA ckZ).size = 33 := rfl
   have hnew := qjc_ wr
   have hG : CkAt ((wr.alloc (.cells #[.int .i64 0, .int .u8 0, .int .u8 0, .int .u8 0, .int .u8 0, .int .u8 0, .int .u8 0, .int .u8 0, .int .u8 0, .int .u8 0, .int .u8 0, .int .u8 0, .int .u8 0, .int .u8 0, .int .u8 0, .int .u8 0, .int .u8 0, .int .u8 0, .int .u8 0, .int .u8 0, .int .u8 0, .int .u8 0, .int .u8 0, .int .u8 0, .int .u8 0, .int .u8 0, .int .u8 0, .int .u8 0, .int .u8 0, .int .u8 0, .int .u8 0, .int .u8 0, .int .u8 0] 98)).setRow wr.heap.size (ckA y)) wr.heap.size y := Has.row hnew _
   have hB2 : Below w.heap.size w ((wr.alloc (.cells #[.int .i64 0, .int .u8 0, .int .u8 0, .int .u8 0, .int .u8 0, .int .u8 0, .int .u8 0, .int .u8 0, .int .u8 0, .int .u8 0, .int .u8 0, .int .u8 0, .int .u8 0, .int .u8 0, .int .u8 0, .int .u8 0, .int .u8 0, .int .u8 0, .int .u8 0, .int .u8 0, .int .u8 0, .int .u8 0, .int .u8 0, .int .u8 0, .int .u8 0, .int .u8 0, .int .u8 0, .int .u8 0, .int .u8 0, .int .u8 0, .int .u8 0, .int .u8 0, .int .u8 0] 98)).setRow wr.heap.size (ckA y)) := below_setRow (hB.alloc hB.size _) hB.size _
   have c0 := hG.c0
   clear hG hB
   cases t1 : decide (y.h ≤ z)
   ·have HZ2 : Hid (cUp y.h (gs.drop (k + 1)) = g) := Lib.hid (by
     have := HX.out
     rw [show cUp z (y :: gs.drop (k + 1)) = (decide (z < y.h) && cUp y.h (gs.drop (k + 1))) from rfl, decide_eq_true (show z < y.h by have := of_decide_eq_false t1; omega), Bool.true_and] at this
     exact this)
    clear HX
    obtain ⟨yh, hyh⟩ : ∃ yh, yh = y.h := ⟨_, rfl⟩
    rw [← hyh] at c0 t1 HZ2
    clear hyh
    go_wp2_with (with_reducible first | refine qbf_ rfl _ rfl ab (ao + k * 33) rfl y q z1 ?_ | refine qcv_ rfl _ _ rfl _ y rfl rfl z2 hnew z3 ?_)
    go_roundw
    case rel => exact ⟨k + 1, by omega, by go_num, yh, rfl, HZ2, hB2⟩
    case measure => simp [intOf]; omega
   ·have hgf : g = false := by
     rw [← HX.out, show cUp z (y :: gs.drop (k + 1)) = (decide (z < y.h) && cUp y.h (gs.drop (k + 1))) from rfl, decide_eq_false (show ¬ z < y.h by have := of_decide_eq_true t1; omega), Bool.false_and]
    subst hgf
    clear HX HV
    go_wp2_with (with_reducible first | refine qbf_ rfl _ rfl ab (ao + k * 33) rfl y q z1 ?_ | refine qcv_ rfl _ _ rfl _ y rfl rfl z2 hnew z3 ?_)
    go_ret
    exact ⟨rfl, hB2⟩
  ·obtain rfl : k = n := by omega
   have e : g = true := by
    have := HZ.out
    rw [HN.out, List.drop_length] at this
    exact this.symm
   subst e
   go_wp2_with fail
   go_ret
   exact ⟨rfl, hB⟩
def ruleP (p : NN.Pr) (g : Hd) (gs : List Gt) (cs : List Ck) : Bool := p.good && decide g.P && gUp (-1) gs && cUp 0 cs
theorem qzs_ (p : NN.Pr) (hz : (NN.prA p).size = 83) (t : Tl) (tt : p.tl = t.C) (ht : t.ok) (b1 b2 b3 b4 : Bool) (KP : Hid (Gv_ 54 #[.agg (NN.prA p)] (.bool b1))) (KH : Hid (Gv_ 34 #[.agg (hdA t.g)] (.bool b2))) (w : World)
  (KG : Hid (∀ w', Below w.heap.size w w' → Calls Tryz.prog 55 #[.slice t.ga t.gn t.gc] w' fun e w'' => e = .returned (.bool b3) ∧ Below w'.heap.size w' w'')) (KC : Hid (∀ w', Below w.heap.size w w' → Calls Tryz.prog 56 #[.slice t.ca t.cn t.cc] w' fun e w'' => e = .returned (.bool b4) ∧ Below w'.heap.size w' w'')) :
  Ca_ 30 #[.agg (NN.prA p)] w (.bool (b1 && b2 && b3 && b4)) := by
 have s1 := qj_ ht.2
 obtain ⟨ga, gn, gc, ca, cn, cc, nn, g⟩ := t
 have HTT := Lib.hid tt
 have HT := Lib.hid ht
 simp only at KG KC KH s1
 clear tt ht
 go_enter Tryz.func30, Tryz.ntmps30
 go_upto_region 1 with fail
 generalize hw0 : World.alloc _ _ = v0
 have hB : Below w.heap.size w v0 := bl_ hw0
 have hP : NN.PrAt v0 w.heap.size p := by rw [← hw0]; exact NN.Has.new _ _
 clear hw0
 obtain ⟨bP, hbP⟩ : ∃ b, b = w.heap.size := ⟨_, rfl⟩
 rw [← hbP] at hP ⊢
 clear hbP
 go_wp2_with (first | fail | (with_reducible refine NN.qh_ rfl _ rfl _ rfl hP hz ?_))
 refine (KP.out _).mono ?_
 rintro e v1 ⟨rfl, hb⟩
 replace hP := hP.on hb
 replace hB := hB.trans (hb.mono hB.size)
 clear hb
 cases b1
 ·go_wp2_with fail
  go_ret
  exact ⟨rfl, hB⟩
 have r15 := pr_gen hP HTT.out HT.out
 go_wp2_with (first | fail | (with_reducible refine qfi_ (by with_unfolding_all rfl) _ rfl bP 15 rfl g r15 s1 ?_))
 refine (KH.out _).mono ?_
 rintro e v2 ⟨rfl, hb⟩
 replace hP := hP.on hb
 replace hB := hB.trans (hb.mono hB.size)
 clear hb r15
 cases b2
 ·go_wp2_with fail
  go_ret
  exact ⟨rfl, hB⟩
 have c5 : v2.cell? ⟨bP, 5, none⟩ = some (.slice ga gn gc) := qdr_ hP HTT.out
 go_wp2_with fail
 refine (KG.out _ hB).mono ?_
 rintro e v3 ⟨rfl, hb⟩
 replace hP := hP.on hb
 replace hB := hB.trans (hb.mono hB.size)
 clear hb c5
 cases b3
 ·go_wp2_with fail
  go_ret
  exact ⟨rfl, hB⟩
 have c6 : v3.cell? ⟨bP, 6, none⟩ = some (.slice ca cn cc) := qcy_ hP HTT.out
 go_wp2_with fail
 refine (KC.out _ hB).mono ?_
 rintro e v4 ⟨rfl, hb⟩
 replace hB := hB.trans (hb.mono hB.size)
 go_wp2_with fail
 go_ret
 exact ⟨rfl, hB⟩
theorem qur_ (p : NN.Pr) (hp : p.ok) (t : Tl) (tt : p.tl = t.C) (ht : t.ok) (gs : List Gt) (cs : List Ck) (hgn : t.gn = gs.length) (hcn : t.cn = cs.length) (hgl : t.gn ≤ 1000) (hcl : t.cn ≤ 1000) (w : World) (hG : GatesAt w t.ga gs) (hC : ChecksAt w t.ca cs) :
  Ca_ 30 #[.agg (NN.prA p)] w (.bool (ruleP p t.g gs cs)) :=
 qzs_ p (NN.qal_ hp) t tt ht _ _ _ _ (Lib.hid (NN.qqk_ p)) (Lib.hid (qfy_ t.g ht.2)) w (Lib.hid fun w' hb => qkr_ t.ga gs t.gn t.gc hgn (by omega) w' (hG.below hb) _ rfl) (Lib.hid fun w' hb => qjh_ t.ca cs t.cn t.cc hcn (by omega) w' (hC.below hb) _ rfl)
end Go.Proofs.YtkclahiiijfllaaGreatDoor
