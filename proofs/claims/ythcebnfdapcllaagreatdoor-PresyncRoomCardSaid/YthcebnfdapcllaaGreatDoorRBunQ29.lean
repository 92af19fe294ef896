import Derived.Test.YthcebnfdapcllaaGreatDoorRBunQ14
import Derived.Test.YthcebnfdapcllaaGreatDoorRBunQ27
import Derived.Test.YthcebnfdapcllaaGreatDoorRBunQ26
namespace Go.Proofs.YthcebnfdapcllaaGreatDoor.NN
open Go.RowKit Rg2
def NumStep (B : Nat) (w w' : World) : Prop := ∀ b cs, B ≤ b → Has w b cs 26 → cs.size = 4 → ∃ cs', Has w' b cs' 26 ∧ cs'.size = 4
theorem NumStep.refl (B : Nat) (w : World) : NumStep B w w := fun _ cs _ h hs => ⟨cs, h, hs⟩
theorem NumStep.below {B : Nat} {w w' : World} (h : Below w.heap.size w w') : NumStep B w w' := fun _ cs _ h' hs => ⟨cs, h'.on h, hs⟩
theorem NumStep.row {B g z : Nat} {cs : Array Value} {w : World} (hg : Has w g cs 26) : NumStep B w (w.setRow g (numC z)) := fun b cs' _ h hs => by
  by_cases e : b = g
  · subst e; exact ⟨_, hg.row _, rfl⟩
  · exact ⟨cs', h.otherRow _ _ e, hs⟩
inductive Slot where
  | val (v : Value)
  | ptr
  | any
def Slot.holds (B : Nat) : Slot → Value → World → Prop
  | .val x, v, _ => v = x
  | .ptr, v, w => ∃ b cs, B ≤ b ∧ v = .pointer (some ⟨b, 0, none⟩) ∧ Has w b cs 26 ∧ cs.size = 4
  | .any, _, _ => True
theorem Slot.stays {B : Nat} (sp : Slot) (v : Value) (w w' : World) (hs : NumStep B w w') (h : sp.holds B v w) : sp.holds B v w' := by
  cases sp with
  | val x => exact h
  | ptr =>
    obtain ⟨b, cs, h1, h2, h3, h4⟩ := h
    obtain ⟨cs', h5, h6⟩ := hs b cs h1 h3 h4
    exact ⟨b, cs', h1, h2, h5, h6⟩
  | any => trivial
def Done (k : Nat) (p : Tmp) (B z : Nat) (listed : Array Bool) (a : Act) (w : World) : Prop := listed.getD k false = true → ∃ b, B ≤ b ∧ a.eval (.tmp p) = .pointer (some ⟨b, 0, none⟩) ∧ Has w b (numC z) 26
theorem Done.keep {k i : Nat} {p : Tmp} {B z : Nat} {listed : Array Bool} {a : Act} {w w' : World} {d : Option Tmp} {v : Value} (h : Done k p B z listed a w) (hi : i < listed.size) (hik : i ≠ k) (hd : d ≠ some p) (hw : ∀ b, Has w b (numC z) 26 → Has w' b (numC z) 26) : Done k p B z (listed.setIfInBounds i true) (a.put d v) w' := fun hl => by
  rw [getD_set _ _ _ hi, if_neg hik] at hl
  obtain ⟨b, hb, he, hh⟩ := h hl
  exact ⟨b, hb, by rw [Act.eval_put (fun d' hdd e => hd (by rw [hdd]; cases e; rfl))]; exact he, hw b hh⟩
theorem Done.pre {k i : Nat} {p : Tmp} {B z : Nat} {listed : Array Bool} {a : Act} {w : World} (h : (listed.setIfInBounds i true).getD k false = false) : Done k p B z (listed.setIfInBounds i true) a w := fun hl => by rw [h] at hl; cases hl
section
variable {ρ : Operand → Value} {o : Oper} {w : World}
theorem ex_load_num {x : Operand} {g z : Nat} (ho : o.op = .load 26 x) (hx : ρ x = .pointer (some ⟨g, 0, none⟩)) (hg : Has w g (numC z) 26) : (execOp ρ o).run Tryz.prog w = .ok (.value (.agg (numC z))) w := by
  have hl : (loadVar 26 ⟨g, 0, none⟩).run Tryz.prog w = .ok (.agg (numC z)) w := run_loadVar_row w g 26 26 (numC z) (0, 0) _ hg.out Tryz.underlying26 rfl infoNum
  unfold execOp
  simp only [ho, hx, Instr.loadAt, Instr.sureAddr, Sem.run_bind, Sem.run_pure, Result.andThen_ok, hl]
theorem ex_store_num {x y : Operand} {g z : Nat} {cs : Array Value} (ho : o.op = .store 26 x y) (hx : ρ x = .pointer (some ⟨g, 0, none⟩)) (hy : ρ y = .agg (numC z)) (hg : Has w g cs 26) (hs : cs.size = 4) : (execOp ρ o).run Tryz.prog w = .ok .skip (w.setRow g (numC z)) := by
  unfold execOp
  simp only [ho, hx, hy, Instr.storeAt, Instr.sureAddr, Sem.run_bind, Sem.run_pure, Result.andThen_ok, run_storeVar_row w g 26 26 cs (numC z) hg.out infoNum hs (numC_one z)]
theorem ex_alloc_num (ho : o.op = .alloc 26) : (execOp ρ o).run Tryz.prog w = .ok (.value (.pointer (some ⟨w.heap.size, 0, none⟩))) (w.alloc (.cells (numC 0) 26)) := by
  unfold execOp
  simp only [ho]
  kernel_rfl
theorem ex_move {x : Operand} (ho : o.op = .move x) : (execOp ρ o).run Tryz.prog w = .ok (.value (ρ x)) w := by
  unfold execOp; simp only [ho]; rfl
theorem ex_assign {x : Operand} (ho : o.op = .assign x) : (execOp ρ o).run Tryz.prog w = .ok (.value (ρ x)) w := by
  unfold execOp; simp only [ho]; rfl
theorem ex_extract {x : Operand} {n : Nat} {vs : Array Value} {v : Value} (ho : o.op = .extract x n) (hx : ρ x = .tuple vs) (hv : vs[n]? = some v) : (execOp ρ o).run Tryz.prog w = .ok (.value v) w := by
  unfold execOp; simp only [ho, hx]
  simp [Instr.extract, hv]
end
end Go.Proofs.YthcebnfdapcllaaGreatDoor.NN
namespace Go.Proofs.YthcebnfdapcllaaGreatDoor.NN
open Go.RowKit Rg2
structure Qs (w wr : World) (A B R S O T a b out rest : Nat) : Prop where
  below : Below w.heap.size w wr
  a : Has wr A (numC a) 26
  b : Has wr B (numC b) 26
  r : ∃ cs, Has wr R cs 26 ∧ cs.size = 4
  s : ∃ cs, Has wr S cs 26 ∧ cs.size = 4
  o : Has wr O (numC out) 26
  t : Has wr T (numC rest) 26
def Apart (w : World) (A B R S O T : Nat) : Prop := w.heap.size ≤ A ∧ A < B ∧ B < R ∧ R < S ∧ S < O ∧ O < T
section
variable {w wr w' : World} {A B R S O T a b out rest : Nat}
theorem Qs.on (h : Qs w wr A B R S O T a b out rest) (hb : Below wr.heap.size wr w') : Qs w w' A B R S O T a b out rest :=
  ⟨h.below.trans (hb.mono h.below.size), h.a.on hb, h.b.on hb, let ⟨cs, h1, h2⟩ := h.r; ⟨cs, h1.on hb, h2⟩, let ⟨cs, h1, h2⟩ := h.s; ⟨cs, h1.on hb, h2⟩, h.o.on hb, h.t.on hb⟩
theorem Qs.row (h : Qs w wr A B R S O T a b out rest) (hw : w.heap.size ≤ A) {g : Nat} (hg : T < g) (cs : Array Value) (hd : Apart w A B R S O T) : Qs w (wr.setRow g cs) A B R S O T a b out rest := by
  obtain ⟨_, d2, d3, d4, d5, d6⟩ := hd
  exact ⟨below_setRow h.below (by omega) _, h.a.otherRow _ _ (by omega), h.b.otherRow _ _ (by omega), let ⟨cs, h1, h2⟩ := h.r; ⟨cs, h1.otherRow _ _ (by omega), h2⟩, let ⟨cs, h1, h2⟩ := h.s; ⟨cs, h1.otherRow _ _ (by omega), h2⟩, h.o.otherRow _ _ (by omega), h.t.otherRow _ _ (by omega)⟩
theorem Qs.putT (h : Qs w wr A B R S O T a b out rest) (hd : Apart w A B R S O T) (v : Nat) : Qs w (wr.setRow T (numC v)) A B R S O T a b out v := by
  obtain ⟨d1, d2, d3, d4, d5, d6⟩ := hd
  exact ⟨below_setRow h.below (by omega) _, h.a.otherRow _ _ (by omega), h.b.otherRow _ _ (by omega), let ⟨cs, h1, h2⟩ := h.r; ⟨cs, h1.otherRow _ _ (by omega), h2⟩, let ⟨cs, h1, h2⟩ := h.s; ⟨cs, h1.otherRow _ _ (by omega), h2⟩, h.o.otherRow _ _ (by omega), h.t.row _⟩
theorem Qs.setO (h : Qs w wr A B R S O T a b out rest) (hd : Apart w A B R S O T) (i : Nat) (v : Value) (out' : Nat) (e : (numC out).setIfInBounds i v = numC out') : Qs w (wr.setCell ⟨O, i, none⟩ v).drew A B R S O T a b out' rest := by
  obtain ⟨d1, d2, d3, d4, d5, d6⟩ := hd
  exact ⟨(h.below.setCell (by simp; omega) _).drew, (h.a.other _ _ (by simp; omega)).drew, (h.b.other _ _ (by simp; omega)).drew, let ⟨cs, h1, h2⟩ := h.r; ⟨cs, (h1.other _ _ (by simp; omega)).drew, h2⟩, let ⟨cs, h1, h2⟩ := h.s; ⟨cs, (h1.other _ _ (by simp; omega)).drew, h2⟩, by rw [← e]; exact (h.o.set _).drew, (h.t.other _ _ (by simp; omega)).drew⟩
theorem Qs.putR (h : Qs w wr A B R S O T a b out rest) (hd : Apart w A B R S O T) (v : Nat) : Qs w (wr.setRow R (numC v)) A B R S O T a b out rest := by
  obtain ⟨d1, d2, d3, d4, d5, d6⟩ := hd
  exact ⟨below_setRow h.below (by omega) _, h.a.otherRow _ _ (by omega), h.b.otherRow _ _ (by omega), let ⟨_, h1, _⟩ := h.r; ⟨_, h1.row _, rfl⟩, let ⟨cs, h1, h2⟩ := h.s; ⟨cs, h1.otherRow _ _ (by omega), h2⟩, h.o.otherRow _ _ (by omega), h.t.otherRow _ _ (by omega)⟩
theorem Qs.putS (h : Qs w wr A B R S O T a b out rest) (hd : Apart w A B R S O T) (v : Nat) : Qs w (wr.setRow S (numC v)) A B R S O T a b out rest := by
  obtain ⟨d1, d2, d3, d4, d5, d6⟩ := hd
  exact ⟨below_setRow h.below (by omega) _, h.a.otherRow _ _ (by omega), h.b.otherRow _ _ (by omega), let ⟨cs, h1, h2⟩ := h.r; ⟨cs, h1.otherRow _ _ (by omega), h2⟩, let ⟨_, h1, _⟩ := h.s; ⟨_, h1.row _, rfl⟩, h.o.otherRow _ _ (by omega), h.t.otherRow _ _ (by omega)⟩
end
theorem num_results_cc {w : World} {fn : Func} {p q : Tmp} (h : fn.results = #[.cell p 26, .cell q 26]) (tmps : Array Value) (g k x y : Nat) (hp : tmps.getD p undef = .pointer (some ⟨g, 0, none⟩)) (hq : tmps.getD q undef = .pointer (some ⟨k, 0, none⟩)) (hg : Has w g (numC x) 26) (hk : Has w k (numC y) 26) :
    (results fn tmps).run Tryz.prog w = .ok (.tuple #[.agg (numC x), .agg (numC y)]) w := by
  have h1 : (loadVar 26 ⟨g, 0, none⟩).run Tryz.prog w = .ok (.agg (numC x)) w := run_loadVar_row w g 26 26 (numC x) (0, 0) _ hg.out Tryz.underlying26 rfl infoNum
  have h2 : (loadVar 26 ⟨k, 0, none⟩).run Tryz.prog w = .ok (.agg (numC y)) w := run_loadVar_row w k 26 26 (numC y) (0, 0) _ hk.out Tryz.underlying26 rfl infoNum
  have hp' : tmps[p]?.getD undef = .pointer (some ⟨g, 0, none⟩) := by simpa using hp
  have hq' : tmps[q]?.getD undef = .pointer (some ⟨k, 0, none⟩) := by simpa using hq
  simp [results, h, hp', hq', asAddr, h1, h2]
def DoneAt (k R z : Nat) (listed : Array Bool) (w : World) : Prop := listed.getD k false = true → Has w R (numC z) 26
theorem DoneAt.pre {k i R z : Nat} {listed : Array Bool} {w : World} (h : (listed.setIfInBounds i true).getD k false = false) : DoneAt k R z (listed.setIfInBounds i true) w := fun hl => by rw [h] at hl; cases hl
theorem DoneAt.keep {k i R z : Nat} {listed : Array Bool} {w w' : World} (h : DoneAt k R z listed w) (hi : i < listed.size) (hik : i ≠ k) (hw : Has w R (numC z) 26 → Has w' R (numC z) 26) : DoneAt k R z (listed.setIfInBounds i true) w' := fun hl => by
  rw [getD_set _ _ _ hi, if_neg hik] at hl
  exact hw (h hl)
theorem frame_quo (a : Act) (n : Nat) (u : Nat → Value) (hs : a.tmps.size = n) (hd : a.defers = []) (hu : ∀ t, u t = a.eval (.tmp t)) : a = ⟨((List.range n).map u).toArray, []⟩ := by
  obtain ⟨tm, df⟩ := a
  obtain rfl : df = [] := hd
  congr 1
  apply Array.ext
  · simpa using hs
  · intro i h1 h2
    simp only [List.getElem_toArray, List.getElem_map, List.getElem_range, hu]
    simp [Act.eval, Array.getD_eq_getD_getElem?, h1]
def endTab (out rest : Nat) : Nat → Slot
  | 0 => .val (.agg (numC out)) | 1 => .val (.agg (numC rest)) | _ => .any
end Go.Proofs.YthcebnfdapcllaaGreatDoor.NN
namespace Go.Proofs.YthcebnfdapcllaaGreatDoor.NN
open Go.RowKit Rg2
structure Three (w wr : World) (A B R x y : Nat) : Prop where
  below : Below w.heap.size w wr
  a : Has wr A (numC x) 26
  b : Has wr B (numC y) 26
  r : Has wr R (numC 0) 26
theorem Three.on {w wr w' : World} {A B R x y : Nat} (h : Three w wr A B R x y) (hb : Below wr.heap.size wr w') : Three w w' A B R x y :=
  ⟨h.below.trans (hb.mono h.below.size), h.a.on hb, h.b.on hb, h.r.on hb⟩
theorem Three.row {w wr : World} {A B R x y : Nat} (h : Three w wr A B R x y) (hA : A < w.heap.size) (hB : B < w.heap.size) (hR : R < w.heap.size) {b : Nat} (hb : w.heap.size ≤ b) (cs : Array Value) : Three w (wr.setRow b cs) A B R x y :=
  ⟨below_setRow h.below hb _, h.a.otherRow _ _ (by omega), h.b.otherRow _ _ (by omega), h.r.otherRow _ _ (by omega)⟩
theorem frame_of (a : Act) (n : Nat) (u : Nat → Value) (hs : a.tmps.size = n) (hd : a.defers = []) (hu : ∀ t, u t = a.eval (.tmp t)) : a = ⟨((List.range n).map u).toArray, []⟩ := by
  obtain ⟨tm, df⟩ := a
  obtain rfl : df = [] := hd
  congr 1
  apply Array.ext
  · simpa using hs
  · intro i h1 h2
    simp only [List.getElem_toArray, List.getElem_map, List.getElem_range, hu]
    simp [Act.eval, Array.getD_eq_getD_getElem?, h1]
structure Four (w wr : World) (A B O R x y z : Nat) : Prop where
  below : Below w.heap.size w wr
  a : Has wr A (numC x) 26
  b : Has wr B (numC y) 26
  o : Has wr O (numC z) 26
  r : ∃ cs, Has wr R cs 26 ∧ cs.size = 4
theorem Four.on {w wr w' : World} {A B O R x y z : Nat} (h : Four w wr A B O R x y z) (hb : Below wr.heap.size wr w') : Four w w' A B O R x y z :=
  ⟨h.below.trans (hb.mono h.below.size), h.a.on hb, h.b.on hb, h.o.on hb, let ⟨cs, h1, h2⟩ := h.r; ⟨cs, h1.on hb, h2⟩⟩
theorem Four.row {w wr : World} {A B O R x y z : Nat} (h : Four w wr A B O R x y z) (hA : A ≠ R) (hB : B ≠ R) (hO : O ≠ R) (hR : w.heap.size ≤ R) (v : Nat) : Four w (wr.setRow R (numC v)) A B O R x y z :=
  ⟨below_setRow h.below hR _, h.a.otherRow _ _ hA, h.b.otherRow _ _ hB, h.o.otherRow _ _ hO, let ⟨_, h1, _⟩ := h.r; ⟨_, h1.row _, rfl⟩⟩
def subTab2 (x y z : Nat) (c : Bool) : Nat → Slot
  | 0 => .val (.agg (numC z)) | 1 => .val (.agg (numC x)) | 2 => .val (.agg (numC y)) | 3 => .val (.bool c) | 4 => .any | _ => .val (.bool c)
theorem ref_add_one (z s : Nat) (c : Bool) (hz : z < Nm.big) (hs : s = (z + 1) % Nm.big) (hc : c = decide (Nm.big ≤ z + 1)) (w : World) :
    Calls Tryz.prog 36 #[.agg (numC z), .agg #[.int .u64 1, .int .u64 0, .int .u64 0, .int .u64 0]] w fun e w' => e = .returned (.tuple #[.agg (numC s), .bool c]) ∧ Below w.heap.size w w' := by
  subst hs; subst hc; exact ref_add z 1 hz (by decide) w
def subTab (x y z : Nat) (c : Bool) : Nat → Slot
  | 0 => .val (.agg (numC x)) | 1 => .val (.agg (numC y)) | 2 => .val (.agg (numC (Nm.big - 1 - y))) | 3 => .val (.tuple #[.agg (numC z), .bool c]) | 4 => .val (.tuple #[.agg (numC z), .bool c]) | 5 => .val (.agg (numC z))
  | 6 => .val (.bool c) | 7 => .ptr | 8 => .any | _ => .val (.bool c)
theorem ref_add_z (x y : Nat) (hx : x < Nm.big) (hy : y < Nm.big) (z : Nat) (c : Bool) (hz : z = (x + y) % Nm.big) (hc : c = decide (Nm.big ≤ x + y)) (w : World) :
    Calls Tryz.prog 36 #[.agg (numC x), .agg (numC y)] w fun e w' => e = .returned (.tuple #[.agg (numC z), .bool c]) ∧ Below w.heap.size w w' := by
  subst hz; subst hc; exact ref_add x y hx hy w
set_option maxRecDepth 100000 in
set_option maxHeartbeats 1000000 in
theorem ref_sub (x y : Nat) (hx : x < Nm.big) (hy : y < Nm.big) (w : World) :
    Calls Tryz.prog 47 #[.agg (numC x), .agg (numC y)] w fun e w' => e = .returned (.tuple #[.agg (numC ((x + Nm.big - y) % Nm.big)), .bool (decide (x < y))]) ∧ Below w.heap.size w w' := by
  go_enter Tryz.func47, Tryz.ntmps47
  go_wp2_with fail
  generalize hw1 : World.alloc _ _ = w1
  have h0 : Three w w1 w.heap.size (w.heap.size + 1) (w.heap.size + 1 + 1) x y := by
    rw [← hw1]
    exact ⟨(((Below.refl _ _).alloc (Nat.le_refl _) _).alloc (by simp) _).alloc (by simp; omega) _, ((Has.new _ _).alloc _).alloc _, (Has.new1 _ _ _).alloc _, Has.new2 _ _ _ _⟩
  have hRw : w.heap.size + 1 + 1 < w1.heap.size := h0.r.lt
  clear hw1
  generalize hR : w.heap.size + 1 + 1 = R at *
  generalize hB : w.heap.size + 1 = B at *
  generalize hA : w.heap.size = A at *
  have hAw : A < w1.heap.size := by omega
  have hBw : B < w1.heap.size := by omega
  have hz : Nm.big - 1 - y < Nm.big := by have : 0 < Nm.big := (by decide); omega
  obtain ⟨z, hzd⟩ : ∃ z, z = (x + (Nm.big - 1 - y)) % Nm.big := ⟨_, rfl⟩
  obtain ⟨c, hcd⟩ : ∃ c, c = decide (Nm.big ≤ x + (Nm.big - 1 - y)) := ⟨_, rfl⟩
  have HZ := Lib.hid hzd
  have HC := Lib.hid hcd
  clear hzd hcd
  have hT : Three w1 w1 A B R x y := ⟨Below.refl _ _, h0.a, h0.b, h0.r⟩
  refine Rg2.wp_region_inv (by kernel_rfl) (fun w' => Three w1 w' A B R x y) (fun i v w' => (subTab x y z c i).holds w1.heap.size v w') (Done 8 6 w1.heap.size z) (NumStep w1.heap.size) (fun _ _ => NumStep.refl _ _) (fun _ _ _ _ _ hs h => Slot.stays _ _ _ _ hs h) (by kernel_rfl) (hT.on (Below.refl _ _).drew) ?_ ?_ ?_
  · exact fun l hl => fun hk => by rw [hl] at hk; cases hk
  · intro i o listed a wx ho hn hdep hinv
    have hC := hinv.c
    have hI := hinv.i
    have hi : i < 10 := (Array.getElem?_eq_some_iff.1 ho).1
    obtain rfl | rfl | rfl | rfl | rfl | rfl | rfl | rfl | rfl | rfl : i = 0 ∨ i = 1 ∨ i = 2 ∨ i = 3 ∨ i = 4 ∨ i = 5 ∨ i = 6 ∨ i = 7 ∨ i = 8 ∨ i = 9 := by omega
    all_goals obtain rfl := Option.some.inj ho
    · exact duty_value ((fun _ _ => NumStep.refl _ _)) hC (wanted_free rfl) (ex_load_num rfl (hinv.old' 2 (by kernel_rfl)) hC.a) rfl (Done.pre (hinv.aheadT 3 (by kernel_rfl) hn (by decide) (by decide)))
    · exact duty_value ((fun _ _ => NumStep.refl _ _)) hC (wanted_free rfl) (ex_load_num rfl (hinv.old' 3 (by kernel_rfl)) hC.b) rfl (Done.pre (hinv.aheadT 3 (by kernel_rfl) hn (by decide) (by decide)))
    · have e10 := hinv.got 1 _ 10 rfl (hdep ⟨1, .data⟩ (by simp) rfl) rfl
      exact duty_call (wanted_free rfl) (f := 53) (args := #[a.eval (.tmp 10)]) (by kernel_rfl) (by rw [show a.eval (.tmp 10) = _ from e10];  exact ref_not y hy wx) (fun w' hb => ⟨hC.on hb, NumStep.below hb, rfl, Done.pre (hinv.aheadT 3 (by kernel_rfl) hn (by decide) (by decide))⟩)
    · have e9 := hinv.got 0 _ 9 rfl (hdep ⟨0, .data⟩ (by simp) rfl) rfl; have e11 := hinv.got 2 _ 11 rfl (hdep ⟨2, .data⟩ (by simp) rfl) rfl
      exact duty_call (wanted_free rfl) (f := 36) (args := #[a.eval (.tmp 9), a.eval (.tmp 11)]) (by kernel_rfl) (by rw [show a.eval (.tmp 9) = _ from e9]; rw [show a.eval (.tmp 11) = _ from e11];  exact ref_add_z x (Nm.big - 1 - y) hx hz z c HZ.out HC.out wx) (fun w' hb => ⟨hC.on hb, NumStep.below hb, rfl, Done.pre (hinv.aheadT 3 (by kernel_rfl) hn (by decide) (by decide))⟩)
    · exact duty_value ((fun _ _ => NumStep.refl _ _)) hC (wanted_free rfl) (ex_move rfl) (hinv.got 3 _ 12 rfl (hdep ⟨3, .data⟩ (by simp) rfl) rfl) (Done.pre (hinv.aheadT 3 (by kernel_rfl) hn (by decide) (by decide)))
    · exact duty_value ((fun _ _ => NumStep.refl _ _)) hC (wanted_free rfl) (ex_extract rfl (hinv.got 4 _ 8 rfl (hdep ⟨4, .data⟩ (by simp) rfl) rfl) rfl) rfl (Done.pre (hinv.aheadT 3 (by kernel_rfl) hn (by decide) (by decide)))
    · exact duty_value ((fun _ _ => NumStep.refl _ _)) hC (wanted_free rfl) (ex_extract rfl (hinv.got 4 _ 8 rfl (hdep ⟨4, .data⟩ (by simp) rfl) rfl) rfl) rfl (Done.keep hI (by rw [hinv.size]; decide) (by decide) (by decide) fun _ h => h)
    · have hbel : Below wx.heap.size wx (wx.alloc (.cells (numC 0) 26)) := (Below.refl _ _).alloc (Nat.le_refl _) _
      exact duty_made (wanted_free rfl) (ex_alloc_num rfl) (hC.on hbel) (NumStep.below hbel) ⟨wx.heap.size, numC 0, hC.below.size, rfl, Has.new _ _, rfl⟩ (Done.pre (hinv.aheadT 3 (by kernel_rfl) hn (by decide) (by decide)))
    · obtain ⟨b, cs, hb, he, hh, hsz⟩ : Slot.ptr.holds w1.heap.size (a.eval (.tmp 6)) wx := hinv.got 7 _ 6 rfl (hdep ⟨7, .data⟩ (by simp) rfl) rfl
      exact duty_store (wanted_free rfl) (ex_store_num rfl he (hinv.got 5 _ 13 rfl (hdep ⟨5, .data⟩ (by simp) rfl) rfl) hh hsz) (hC.row hAw hBw hRw hb _) (NumStep.row hh) trivial (fun _ => ⟨b, hb, he, hh.row _⟩)
    · exact duty_value ((fun _ _ => NumStep.refl _ _)) hC (wanted_free rfl) (ex_assign rfl) (hinv.got 6 _ 14 rfl (hdep ⟨6, .data⟩ (by simp) rfl) rfl) (Done.keep hI (by rw [hinv.size]; decide) (by decide) (by decide) fun _ h => h)
  · intro listed a wx hall hinv
    obtain ⟨b, hb, e6, hS⟩ := hinv.i (hall 8 (by decide))
    have e7 : a.eval (.tmp 7) = .bool c := hinv.got 9 _ 7 rfl (hall 9 (by decide)) rfl
    have e2 : a.eval (.tmp 2) = .pointer (some ⟨A, 0, none⟩) := hinv.old' 2 (by kernel_rfl)
    have e3 : a.eval (.tmp 3) = .pointer (some ⟨B, 0, none⟩) := hinv.old' 3 (by kernel_rfl)
    have e4 : a.eval (.tmp 4) = .pointer (some ⟨R, 0, none⟩) := hinv.old' 4 (by kernel_rfl)
    have hC := hinv.c
    obtain ⟨u, hu⟩ : ∃ u : Nat → Value, ∀ t, u t = a.eval (.tmp t) := ⟨_, fun _ => rfl⟩
    rw [frame_of a 25 u hinv.tsize hinv.defers hu]
    rw [← hu] at e2 e3 e4 e6 e7
    clear hu hinv hall
    show Exit.then _ _ _ (⟨#[u 0, u 1, u 2, u 3, u 4, u 5, u 6, u 7, u 8, u 9, u 10, u 11, u 12, u 13, u 14, u 15, u 16, u 17, u 18, u 19, u 20, u 21, u 22, u 23, u 24], []⟩ : Act) _
    rw [e2, e3, e4, e6, e7]
    clear e2 e3 e4 e6 e7
    obtain ⟨s, hs⟩ : ∃ s, s = (z + 1) % Nm.big := ⟨_, rfl⟩
    obtain ⟨d, hd⟩ : ∃ d, d = decide (Nm.big ≤ z + 1) := ⟨_, rfl⟩
    have hzl : z < Nm.big := by rw [HZ.out]; exact Nat.mod_lt _ (by decide)
    have hcall := ref_add_one z s d hzl hs hd
    have HCL := Lib.hid hcall
    have HS := Lib.hid hs
    clear hs hd hcall
    have hAb : A ≠ b := by omega
    have hBb : B ≠ b := by omega
    have hRb : R ≠ b := by omega
    have hwb : w.heap.size ≤ b := by omega
    have hAR : A ≠ R := by omega
    have hBR : B ≠ R := by omega
    have hwR : w.heap.size ≤ R := by omega
    have hbel := h0.below.trans (hC.below.mono h0.below.size)
    clear hR hB hA hAw hBw hRw hT hz h0 hb hzl
    go_wp2_with (with_reducible refine num_load rfl _ rfl _ rfl _ hS rfl ?_)
    refine (HCL.out _).mono ?_
    rintro e w3 ⟨rfl, hb3⟩
    have hS3 := hS.on hb3
    have hF0 : Four w w3 A B b R x y z := ⟨hbel.trans (hb3.mono hbel.size), hC.a.on hb3, hC.b.on hb3, hS3, _, hC.r.on hb3, rfl⟩
    go_wp2_with (with_reducible refine num_store rfl _ _ rfl _ _ rfl rfl _ hS3 rfl ?_)
    have hF : Four w (w3.setRow b (numC s)) A B b R x y s := by
      obtain ⟨cs, h1, h2⟩ := hF0.r
      exact ⟨below_setRow hF0.below hwb _, hF0.a.otherRow _ _ hAb, hF0.b.otherRow _ _ hBb, hF0.o.row _, cs, h1.otherRow _ _ hRb, h2⟩
    clear hS3 hb3 hF0 hbel hS hC
    generalize World.setRow _ _ _ = w4 at *
    have hbR : b ≠ R := fun e => hRb e.symm
    obtain ⟨l, hl⟩ : ∃ l, l = decide (x < y) := ⟨_, rfl⟩
    have hless := fun w => ref_less x y hx hy w
    rw [← hl] at hless
    have HL := Lib.hid hl
    clear hl
    refine Rg2.wp_region_inv (by kernel_rfl) (fun w' => Four w w' A B b R x y s) (fun i v w' => (subTab2 x y s l i).holds w.heap.size v w') (Done 4 4 w.heap.size s) (NumStep w.heap.size) (fun _ _ => NumStep.refl _ _) (fun _ _ _ _ _ hs h => Slot.stays _ _ _ _ hs h) (by kernel_rfl) (hF.on (Below.refl _ _).drew) ?_ ?_ ?_
    · exact fun l hl => fun hk => by rw [hl] at hk; cases hk
    · intro i o listed a wx ho hn hdep hinv
      have hC := hinv.c
      have hI := hinv.i
      have hi : i < 6 := (Array.getElem?_eq_some_iff.1 ho).1
      obtain rfl | rfl | rfl | rfl | rfl | rfl : i = 0 ∨ i = 1 ∨ i = 2 ∨ i = 3 ∨ i = 4 ∨ i = 5 := by omega
      all_goals obtain rfl := Option.some.inj ho
      · exact duty_value ((fun _ _ => NumStep.refl _ _)) hC (wanted_free rfl) (ex_load_num rfl (hinv.old' 6 (by kernel_rfl)) hC.o) rfl (Done.pre (hinv.aheadT 3 (by kernel_rfl) hn (by decide) (by decide)))
      · exact duty_value ((fun _ _ => NumStep.refl _ _)) hC (wanted_free rfl) (ex_load_num rfl (hinv.old' 2 (by kernel_rfl)) hC.a) rfl (Done.pre (hinv.aheadT 3 (by kernel_rfl) hn (by decide) (by decide)))
      · exact duty_value ((fun _ _ => NumStep.refl _ _)) hC (wanted_free rfl) (ex_load_num rfl (hinv.old' 3 (by kernel_rfl)) hC.b) rfl (Done.pre (hinv.aheadT 3 (by kernel_rfl) hn (by decide) (by decide)))
      · have e22 := hinv.got 1 _ 22 rfl (hdep ⟨1, .data⟩ (by simp) rfl) rfl; have e23 := hinv.got 2 _ 23 rfl (hdep ⟨2, .data⟩ (by simp) rfl) rfl
        exact duty_call (wanted_free rfl) (f := 48) (args := #[a.eval (.tmp 22), a.eval (.tmp 23)]) (by kernel_rfl) (by rw [show a.eval (.tmp 22) = _ from e22]; rw [show a.eval (.tmp 23) = _ from e23];  exact hless wx) (fun w' hb => ⟨hC.on hb, NumStep.below hb, rfl, Done.pre (hinv.aheadT 3 (by kernel_rfl) hn (by decide) (by decide))⟩)
      · obtain ⟨cs, hh, hsz⟩ := hC.r
        have he : a.eval (.tmp 4) = .pointer (some ⟨R, 0, none⟩) := hinv.old' 4 (by kernel_rfl)
        exact duty_store (wanted_free rfl) (ex_store_num rfl he (hinv.got 0 _ 21 rfl (hdep ⟨0, .data⟩ (by simp) rfl) rfl) hh hsz) (hC.row hAR hBR hbR hwR _) (NumStep.row hh) trivial (fun _ => ⟨R, hwR, he, hh.row _⟩)
      · exact duty_value ((fun _ _ => NumStep.refl _ _)) hC (wanted_free rfl) (ex_assign rfl) (hinv.got 3 _ 24 rfl (hdep ⟨3, .data⟩ (by simp) rfl) rfl) (Done.keep hI (by rw [hinv.size]; decide) (by decide) (by decide) fun _ h => h)
    · intro listed a wx hall hinv
      obtain ⟨b', hb', e4', hS⟩ := hinv.i (hall 4 (by decide))
      have e4 : a.eval (.tmp 4) = .pointer (some ⟨R, 0, none⟩) := hinv.old' 4 (by kernel_rfl)
      obtain rfl : b' = R := by rw [e4] at e4'; injection e4' with h; injection h with h; injection h with h; exact h.symm
      have e5 : a.eval (.tmp 5) = .bool l := hinv.got 5 _ 5 rfl (hall 5 (by decide)) rfl
      have hbel := hinv.c.below
      have hdf := hinv.defers
      obtain ⟨tm, df⟩ := a
      obtain rfl : df = [] := hdf
      clear hinv hall
      go_wp2_with fail
      refine bodyPost_ret (v := .tuple #[.agg (numC s), .bool l]) (num_results2 Tryz.results47 _ _ _ _ e4 e5 hS) rfl ⟨?_, hbel⟩
      rw [HS.out, HZ.out, HL.out]
      have hb0 : 0 < Nm.big := by decide
      rw [Nat.mod_add_mod, show x + (Nm.big - 1 - y) + 1 = x + Nm.big - y by omega]
end Go.Proofs.YthcebnfdapcllaaGreatDoor.NN
