/-
  Texts of this seat, one behind the other.
-/
import Derived.Test.YteblphnpealefaaBunQ18
import Derived.Test.YteblphnpealefaaBunQ12
import Derived.Deep.AppendSrc
import Derived.Deep.DeepCutAuto
import Derived.Deep.CutBlock
/-
  A talk (package shake's Hand): what a deed on it makes of it and says; in memory; rows of messages.
-/
namespace Go.Proofs.Yteblphnpealefaa.An
open Go.RowKit Mem Sc Rg2
set_option maxRecDepth 100000
/-! ### frames -/
/-- all blocks stand but those of F -/
structure Kp (F : Nat → Prop) (w w' : World) : Prop where
  os : w'.os = w.os
  tape : w'.tape = w.tape
  output : w'.output = w.output
  size : w.heap.size ≤ w'.heap.size
  block : ∀ k, k < w.heap.size → ¬ F k → w'.heap[k]? = w.heap[k]?
theorem Kp.refl (F : Nat → Prop) (w : World) : Kp F w w := ⟨rfl, rfl, rfl, Nat.le_refl _, fun _ _ _ => rfl⟩
theorem Kp.trans {F G : Nat → Prop} {a b c : World} (h : Kp F a b) (k : Kp G b c) (hG : ∀ i, G i → i < a.heap.size → F i) : Kp F a c :=
  ⟨k.os.trans h.os, k.tape.trans h.tape, k.output.trans h.output, Nat.le_trans h.size k.size, fun i hi hn => (k.block i (Nat.lt_of_lt_of_le hi h.size) (fun hg => hn (hG i hg hi))).trans (h.block i hi hn)⟩
theorem Kp.of {F : Nat → Prop} {w w' : World} (h : Below w.heap.size w w') : Kp F w w' := ⟨h.os, h.tape, h.output, h.size, fun k hk _ => h.block k hk⟩
theorem Kp.gb {F : Nat → Prop} {w w' : World} {r : Option Nat} (h : w.grownBy w' r) (hr : ∀ k, r = some k → F k) : Kp F w w' := ⟨h.os, h.tape, h.output, h.size, fun k hk hn => h.block k hk (fun e => hn (hr k e.symm))⟩
theorem Kp.mono {F G : Nat → Prop} {w w' : World} (h : Kp F w w') (hF : ∀ i, F i → i < w.heap.size → G i) : Kp G w w' := ⟨h.os, h.tape, h.output, h.size, fun k hk hn => h.block k hk (fun hf => hn (hF k hf hk))⟩
theorem Kp.below {F : Nat → Prop} {B : Nat} {w w' : World} (h : Kp F w w') (hF : ∀ i, F i → B ≤ i) (hB : B ≤ w.heap.size) : Below B w w' := ⟨h.os, h.tape, h.output, h.size, fun k hk => h.block k (Nat.lt_of_lt_of_le hk hB) (fun hf => absurd (hF k hf) (by omega))⟩
theorem Kp.has {F : Nat → Prop} {w w' : World} {k : Nat} {cs : Array Value} {t : TypeId} (h : Kp F w w') (hh : Has w k cs t) (hn : ¬ F k) : Has w' k cs t := (h.block k hh.lt hn).trans hh
theorem kp_set (w : World) (b i : Nat) (v : Value) : Kp (fun k => k = b) w (w.setCell ⟨b, i, none⟩ v) :=
  ⟨rfl, rfl, rfl, by simp [World.setCell], fun k _ hn => Below.heap_setCell _ _ _ _ hn⟩
/-- behind one another, of one block -/
theorem Kp.and {b : Nat} {u v w : World} (h : Kp (fun k => k = b) u v) (k : Kp (fun k => k = b) v w) : Kp (fun k => k = b) u w := h.trans k fun _ h _ => h
theorem Kp.bel {b : Nat} {u v w : World} (h : Kp (fun k => k = b) u v) (k : Below v.heap.size v w) : Kp (fun k => k = b) u w := h.trans (Kp.of (F := fun k => k = b) k) fun _ h _ => h
/-! ### messages that are said -/
/-- a message without names and headers -/
structure Mo where
  k : Int
  v : Int
  s : Int
  h : Int
  n : Int
def Mo.m (x : Mo) : Mm := ⟨x.k, x.v, x.s, x.h, x.n, slZ, z32, slZ⟩
def mo1 (k n : Int) : Mo := ⟨k, 0, 0, 0, n⟩
theorem Mo.ok (x : Mo) : x.m.ok := rfl
def mosC (l : List Mo) : List Value := l.flatMap fun x => mmC x.m
theorem mosC_length : ∀ l : List Mo, (mosC l).length = l.length * 39
  | [] => rfl
  | x :: l => by
    show (mmC x.m ++ mosC l).length = _
    rw [List.length_append, mosC_length l, mmC_length x.ok, List.length_cons]
    omega
theorem mosC_one (l : List Mo) : ∀ u ∈ mosC l, u.oneCell' = true := fun u hu => by
  obtain ⟨x, _, hx⟩ := List.mem_flatMap.1 hu
  exact mmC_one _ u hx
theorem mosC_app (l r : List Mo) : mosC (l ++ r) = mosC l ++ mosC r := List.flatMap_append
/-- a row of messages, at its block's head -/
def RowM (w : World) (v : Value) (l : List Mo) : Prop := w.ownsRow 0 39 39 v l.length (mosC l)
theorem RowM.nil (w : World) : RowM w (.slice none 0 0) [] := World.ownsRow_nil _ _ _ _
theorem row_made {w : World} {g : Nat} {l : List Mo} {cs : Array Value} (h : Has w g cs 39) (e : cs = (mosC l).toArray) (hl : l.length ≤ 100) : RowM w (.slice (some ⟨g, 0, none⟩) l.length l.length) l := by
  subst e
  refine ⟨mosC_length l, .inr ⟨g, l.length, _, rfl, Nat.zero_le _, h, Nat.le_refl _, by unfold maxLen; omega, by rw [List.size_toArray, mosC_length], ?_⟩⟩
  show (mosC l).take _ = _
  rw [← mosC_length l, List.take_length]
theorem RowM.slice {w : World} {v : Value} {l : List Mo} (h : RowM w v l) : ∃ p c, v = .slice p l.length c ∧ l.length ≤ c := by
  rcases h.2 with ⟨rfl, h0⟩ | ⟨g, c, cur, rfl, _, _, h3, _⟩
  · exact ⟨none, 0, by rw [h0], by omega⟩
  · exact ⟨_, c, rfl, h3⟩
theorem RowM.keep {w w' : World} {v : Value} {l : List Mo} (h : RowM w v l) (hb : ∀ k, v.ownBlock = some k → w'.heap[k]? = w.heap[k]?) : RowM w' v l := by
  refine ⟨h.1, ?_⟩
  rcases h.2 with h | ⟨g, c, cur, rfl, h1, h2, h3⟩
  · exact .inl h
  · exact .inr ⟨g, c, cur, rfl, h1, (hb g rfl).trans h2, h3⟩
theorem RowM.lt {w : World} {v : Value} {l : List Mo} (h : RowM w v l) {k : Nat} (hk : v.ownBlock = some k) : k < w.heap.size := by
  rcases h.2 with ⟨rfl, _⟩ | ⟨g, c, cur, rfl, _, h2, _⟩
  · cases hk
  · cases hk
    exact (Array.getElem?_eq_some_iff.1 h2).1
/-- where its messages lie -/
theorem mosC_get : ∀ (l : List Mo) (i : Nat) (x : Mo), l[i]? = some x → ∀ j u, (mmC x.m)[j]? = some u → (mosC l)[i * 39 + j]? = some u
  | y :: l, 0, x, h, j, u, hj => by
    obtain rfl := Option.some.inj h
    show (mmC y.m ++ mosC l)[0 * 39 + j]? = some u
    rw [Nat.zero_mul, Nat.zero_add, List.getElem?_append_left (List.getElem?_eq_some_iff.1 hj).1]
    exact hj
  | y :: l, i + 1, x, h, j, u, hj => by
    show (mmC y.m ++ mosC l)[(i + 1) * 39 + j]? = some u
    rw [List.getElem?_append_right (by rw [mmC_length y.ok]; omega), mmC_length y.ok, show (i + 1) * 39 + j - 39 = i * 39 + j by omega]
    exact mosC_get l i x (by simpa using h) j u hj
/-- the messages l lie at the address p -/
def LieM (w : World) (p : Option Addr) (l : List Mo) : Prop := 0 < l.length → ∃ b off, p = some ⟨b, off, none⟩ ∧ b < w.heap.size ∧ ∀ i x, l[i]? = some x → w.rangeAt b (off + i * 39) (mmC x.m)
theorem LieM.on {w w' : World} {p : Option Addr} {l : List Mo} (h : LieM w p l) (hs : w.heap.size ≤ w'.heap.size) (hb : ∀ b off, p = some ⟨b, off, none⟩ → b < w.heap.size → w'.heap[b]? = w.heap[b]?) : LieM w' p l := fun h0 => by
  obtain ⟨b, off, e, h1, h2⟩ := h h0
  exact ⟨b, off, e, Nat.lt_of_lt_of_le h1 hs, fun i x hi j u hu => (World.cell?_of_block (w := w) (a := ⟨b, off + i * 39 + j, none⟩) (hb b off e h1)).trans (h2 i x hi j u hu)⟩
theorem LieM.below {w w' : World} {p : Option Addr} {l : List Mo} (h : LieM w p l) (hb : Below w.heap.size w w') : LieM w' p l := h.on hb.size fun b _ _ h => hb.block b h
theorem RowM.lie {w : World} {v : Value} {l : List Mo} (h : RowM w v l) : ∃ p c, v = .slice p l.length c ∧ LieM w p l := by
  rcases h.2 with ⟨rfl, h0⟩ | ⟨g, c, cur, rfl, _, hg, h3, h4, h5, h6⟩
  · exact ⟨none, 0, by rw [h0], fun h => by omega⟩
  · refine ⟨_, c, rfl, fun _ => ⟨g, 0, rfl, (Array.getElem?_eq_some_iff.1 hg).1, fun i x hi j u hu => ?_⟩⟩
    have e := mosC_get l i x hi j u hu
    rw [← h6, List.getElem?_take] at e
    split at e
    · rw [Nat.zero_add, Has.cell (show Has w g cur 39 from hg), ← Array.getElem?_toList]
      exact e
    · cases e
/-! ### a talk -/
structure Tk where
  ver : Int
  serv : Int
  tall : Int
  num : Int
  inb : Bool
  far : Int
  began : Int
  hgt : Int
  dir : Bool
  ping : Int
  since : Int
def Tk.over (x : Tk) : Tk := { x with far := 3 }
def Tk.hello (x : Tk) : Mo := ⟨1, x.ver, x.serv, x.tall, x.num⟩
/-- the other one's version comes -/
def Tk.meet (x : Tk) (m : Mm) : Tk × List Mo × Int :=
  if x.far ≠ 0 then (x.over, [], 3)
  else if m.nb = x.num ∨ m.ver < 31800 then (x.over, [], 0)
  else ({ x with far := 1, hgt := m.height }, if x.inb = true then [x.hello, mo1 2 0] else [mo1 2 0], 0)
def Tk.agree (x : Tk) : Tk × List Mo × Int := if x.far ≠ 1 then (x.over, [], 3) else ({ x with far := 2 }, [mo1 8 0], 0)
def Tk.hear (x : Tk) (m : Mm) : Tk × List Mo × Int :=
  if m.kind = 6 then (x, [mo1 7 m.nb], 0)
  else if m.kind = 7 then (if x.ping = 0 ∨ m.nb ≠ x.ping then (x, [], 7) else ({ x with ping := 0 }, [], 0))
  else if m.kind = 8 then ({ x with dir := true }, [], 0)
  else (x, [], 0)
/-- a message comes: the talk behind it, what is said, the fault -/
def Tk.inn (x : Tk) (m : Mm) : Tk × List Mo × Int :=
  if x.far = 3 then (x, [], 0)
  else if m.kind = 1 then x.meet m
  else if m.kind = 2 then x.agree
  else if x.far ≠ 2 then (x.over, [], 3)
  else x.hear m
def Tk.pings (x : Tk) (n : Int) : Prop := x.far = 2 ∧ x.ping = 0 ∧ 1 ≤ n ∧ n ≤ 72057594037927935
instance (x : Tk) (n : Int) : Decidable (x.pings n) := by unfold Tk.pings; exact inferInstance
def Tk.late (x : Tk) (now : Int) : Bool := if x.far ≠ 2 then decide (60 < IntKind.i64.wrap (now - x.began)) else decide (x.ping ≠ 0) && decide (60 < IntKind.i64.wrap (now - x.since))
def Tk.tick (x : Tk) (now : Int) : Tk × Bool := if x.far = 3 then (x, false) else if x.late now = true then (x.over, false) else (x, true)
/-- what holds of every talk -/
structure Tk.Ok (x : Tk) : Prop where
  far : x.far = 0 ∨ x.far = 1 ∨ x.far = 2 ∨ x.far = 3
  calm : x.far = 0 ∨ x.far = 1 → x.ping = 0
def ownC (x : Tk) : Array Value := #[.int .i64 x.ver, .int .i64 x.serv, .int .i64 x.tall, .int .i64 x.num]
def tkC (x : Tk) : Array Value := #[.int .i64 x.ver, .int .i64 x.serv, .int .i64 x.tall, .int .i64 x.num, .bool x.inb, .int .i64 x.far, .int .i64 x.began, .int .i64 x.hgt, .bool x.dir, .int .i64 x.ping, .int .i64 x.since]
def rkC (x : Tk) : Array Value := #[.bool x.inb, .int .i64 x.num, .int .i64 x.began, .int .i64 x.far, .bool x.dir, .int .i64 x.hgt, .int .i64 x.ping, .int .i64 x.since]
/-- block b is this talk -/
def TkAt (w : World) (b : Nat) (x : Tk) : Prop := Has w b (tkC x) 59
/-- block b is the document's talk -/
def RkAt (w : World) (b : Nat) (x : Tk) : Prop := Has w b (rkC x) 32
section
variable {w w' : World} {b : Nat} {x : Tk}
theorem TkAt.lt (h : TkAt w b x) : b < w.heap.size := Has.lt h
theorem TkAt.on (h : TkAt w b x) (hb : Below w.heap.size w w') : TkAt w' b x := (hb.block b h.lt).trans h
theorem TkAt.free (h : TkAt w b x) (j : Nat) : w.frozen? ⟨b, j, none⟩ = false := Has.free h j
theorem TkAt.inb (h : TkAt w b x) : w.cell? ⟨b, 4, none⟩ = some (.bool x.inb) := Has.cell h 4
theorem TkAt.num (h : TkAt w b x) : w.cell? ⟨b, 3, none⟩ = some (.int .i64 x.num) := Has.cell h 3
theorem TkAt.far (h : TkAt w b x) : w.cell? ⟨b, 5, none⟩ = some (.int .i64 x.far) := Has.cell h 5
theorem TkAt.began (h : TkAt w b x) : w.cell? ⟨b, 6, none⟩ = some (.int .i64 x.began) := Has.cell h 6
theorem TkAt.hgt (h : TkAt w b x) : w.cell? ⟨b, 7, none⟩ = some (.int .i64 x.hgt) := Has.cell h 7
theorem TkAt.dir (h : TkAt w b x) : w.cell? ⟨b, 8, none⟩ = some (.bool x.dir) := Has.cell h 8
theorem TkAt.ping (h : TkAt w b x) : w.cell? ⟨b, 9, none⟩ = some (.int .i64 x.ping) := Has.cell h 9
theorem TkAt.since (h : TkAt w b x) : w.cell? ⟨b, 10, none⟩ = some (.int .i64 x.since) := Has.cell h 10
theorem TkAt.own (h : TkAt w b x) : w.rangeAt b 0 (ownC x).toList := fun j u hu => by
  have hj := (List.getElem?_eq_some_iff.1 hu).1
  have hj4 : j < 4 := hj
  rw [Nat.zero_add, Has.cell h j]
  match j, hj4 with
  | 0, _ => exact hu
  | 1, _ => exact hu
  | 2, _ => exact hu
  | 3, _ => exact hu
theorem TkAt.setFar (h : TkAt w b x) (z : Int) : TkAt (w.setCell ⟨b, 5, none⟩ (.int .i64 z)) b { x with far := z } := Has.set h _
theorem TkAt.setHgt (h : TkAt w b x) (z : Int) : TkAt (w.setCell ⟨b, 7, none⟩ (.int .i64 z)) b { x with hgt := z } := Has.set h _
theorem TkAt.setDir (h : TkAt w b x) (z : Bool) : TkAt (w.setCell ⟨b, 8, none⟩ (.bool z)) b { x with dir := z } := Has.set h _
theorem TkAt.setPing (h : TkAt w b x) (z : Int) : TkAt (w.setCell ⟨b, 9, none⟩ (.int .i64 z)) b { x with ping := z } := Has.set h _
theorem TkAt.setSince (h : TkAt w b x) (z : Int) : TkAt (w.setCell ⟨b, 10, none⟩ (.int .i64 z)) b { x with since := z } := Has.set h _
theorem RkAt.lt (h : RkAt w b x) : b < w.heap.size := Has.lt h
theorem RkAt.on (h : RkAt w b x) (hb : Below w.heap.size w w') : RkAt w' b x := (hb.block b h.lt).trans h
theorem RkAt.free (h : RkAt w b x) (j : Nat) : w.frozen? ⟨b, j, none⟩ = false := Has.free h j
theorem RkAt.inb (h : RkAt w b x) : w.cell? ⟨b, 0, none⟩ = some (.bool x.inb) := Has.cell h 0
theorem RkAt.num (h : RkAt w b x) : w.cell? ⟨b, 1, none⟩ = some (.int .i64 x.num) := Has.cell h 1
theorem RkAt.began (h : RkAt w b x) : w.cell? ⟨b, 2, none⟩ = some (.int .i64 x.began) := Has.cell h 2
theorem RkAt.far (h : RkAt w b x) : w.cell? ⟨b, 3, none⟩ = some (.int .i64 x.far) := Has.cell h 3
theorem RkAt.dir (h : RkAt w b x) : w.cell? ⟨b, 4, none⟩ = some (.bool x.dir) := Has.cell h 4
theorem RkAt.hgt (h : RkAt w b x) : w.cell? ⟨b, 5, none⟩ = some (.int .i64 x.hgt) := Has.cell h 5
theorem RkAt.ping (h : RkAt w b x) : w.cell? ⟨b, 6, none⟩ = some (.int .i64 x.ping) := Has.cell h 6
theorem RkAt.since (h : RkAt w b x) : w.cell? ⟨b, 7, none⟩ = some (.int .i64 x.since) := Has.cell h 7
theorem RkAt.setFar (h : RkAt w b x) (z : Int) : RkAt (w.setCell ⟨b, 3, none⟩ (.int .i64 z)) b { x with far := z } := Has.set h _
theorem RkAt.setHgt (h : RkAt w b x) (z : Int) : RkAt (w.setCell ⟨b, 5, none⟩ (.int .i64 z)) b { x with hgt := z } := Has.set h _
theorem RkAt.setDir (h : RkAt w b x) (z : Bool) : RkAt (w.setCell ⟨b, 4, none⟩ (.bool z)) b { x with dir := z } := Has.set h _
theorem RkAt.setPing (h : RkAt w b x) (z : Int) : RkAt (w.setCell ⟨b, 6, none⟩ (.int .i64 z)) b { x with ping := z } := Has.set h _
theorem RkAt.setSince (h : RkAt w b x) (z : Int) : RkAt (w.setCell ⟨b, 7, none⟩ (.int .i64 z)) b { x with since := z } := Has.set h _
end
/-! ### operations -/
theorem mo_built (k v s h n : Int) : Try.prog.built 39 [(0, .int .i64 k), (1, .int .i64 v), (2, .int .i64 s), (3, .int .i64 h), (4, .int .i64 n)] = some (mmA (Mo.m ⟨k, v, s, h, n⟩)) := by kernel_rfl
theorem mo_built1 (k : Int) : Try.prog.built 39 [(0, .int .i64 k)] = some (mmA (mo1 k 0).m) := by kernel_rfl
theorem mo_built2 (k n : Int) : Try.prog.built 39 [(0, .int .i64 k), (4, .int .i64 n)] = some (mmA (mo1 k n).m) := by kernel_rfl
theorem mo_built3 (k v n : Int) : Try.prog.built 39 [(0, .int .i64 k), (1, .int .i64 v), (4, .int .i64 n)] = some (mmA (Mo.m ⟨k, v, 0, 0, n⟩)) := by kernel_rfl
theorem mo_built0 : Try.prog.built 39 [] = some (mmA (mo1 0 0).m) := by kernel_rfl
theorem mo_row1 (x : Mo) (w : World) : (Instr.buildSlice 27 1 #[(0, .agg (mmA x.m))]).run Try.prog w = .ok (.slice (some ⟨w.heap.size, 0, none⟩) 1 1) (w.alloc (.cells (mmA x.m) 39)) := by
  obtain ⟨k, v, s, h, n⟩ := x
  kernel_rfl
theorem mo_row2 (x y : Mo) (w : World) : (Instr.buildSlice 27 2 #[(0, .agg (mmA x.m)), (1, .agg (mmA y.m))]).run Try.prog w = .ok (.slice (some ⟨w.heap.size, 0, none⟩) 2 2) (w.alloc (.cells (mosC [x, y]).toArray 39)) := by
  obtain ⟨k, v, s, h, n⟩ := x
  obtain ⟨k', v', s', h', n'⟩ := y
  kernel_rfl
section
variable {w : World} {ops : Array Oper} {rest : List Oper} {o : Oper} {a : Act} {Q : Exit → Act → World → Prop}
theorem mo_make (hgd : o.guard = none) (xs : Array (Nat × Operand)) (ho : o.op = .build 39 xs) (ps : Array (Nat × Value)) (hx : xs.map (fun (i, x) => (i, a.eval x)) = ps) (m : Mm) (hb : Try.prog.built 39 ps.toList = some (mmA m))
    (hk : wpList Try.prog ops Q rest (a.put o.dst (.agg (mmA m))) w) : wpList Try.prog ops Q (o :: rest) a w :=
  wpList_plain hgd fun _ hK => by
    unfold Oper.wp execOp
    simp only [ho, Sem.run_bind]
    rw [show xs.map (fun (i, x) => (i, a.eval x)) = ps from hx, run_build w 39 _ _ hb]
    exact hK _ _ hk
theorem mo_slice1 (hgd : o.guard = none) (x : Operand) (ho : o.op = .buildSlice 27 1 #[(0, x)]) (m : Mo) (hx : a.eval x = .agg (mmA m.m))
    (hk : ∀ w' g, RowM w' (.slice (some ⟨g, 0, none⟩) 1 1) [m] → w.heap.size ≤ g → Below w.heap.size w w' → wpList Try.prog ops Q rest (a.put o.dst (.slice (some ⟨g, 0, none⟩) 1 1)) w') : wpList Try.prog ops Q (o :: rest) a w :=
  wpList_plain hgd fun _ hK => by
    unfold Oper.wp execOp
    simp only [ho, Sem.run_bind]
    rw [show (#[(0, x)] : Array (Nat × Operand)).map (fun (i, x) => (i, a.eval x)) = #[(0, .agg (mmA m.m))] by simp [hx], mo_row1 m w]
    exact hK _ _ (hk _ _ (row_made (l := [m]) (Has.new _ _) (by show mmA m.m = (mmC m.m ++ []).toArray; rw [List.append_nil]; rfl) (by simp)) (Nat.le_refl _) ((Below.refl _ _).alloc (Nat.le_refl _) _))
theorem mo_slice2 (hgd : o.guard = none) (x y : Operand) (ho : o.op = .buildSlice 27 2 #[(0, x), (1, y)]) (m m' : Mo) (hx : a.eval x = .agg (mmA m.m)) (hy : a.eval y = .agg (mmA m'.m))
    (hk : ∀ w' g, RowM w' (.slice (some ⟨g, 0, none⟩) 2 2) [m, m'] → w.heap.size ≤ g → Below w.heap.size w w' → wpList Try.prog ops Q rest (a.put o.dst (.slice (some ⟨g, 0, none⟩) 2 2)) w') : wpList Try.prog ops Q (o :: rest) a w :=
  wpList_plain hgd fun _ hK => by
    unfold Oper.wp execOp
    simp only [ho, Sem.run_bind]
    rw [show (#[(0, x), (1, y)] : Array (Nat × Operand)).map (fun (i, x) => (i, a.eval x)) = #[(0, .agg (mmA m.m)), (1, .agg (mmA m'.m))] by simp [hx, hy], mo_row2 m m' w]
    exact hK _ _ (hk _ _ (row_made (l := [m, m']) (Has.new _ _) rfl (by simp)) (Nat.le_refl _) ((Below.refl _ _).alloc (Nat.le_refl _) _))
/-- what is ours is loaded whole -/
theorem own_load (hgd : o.guard = none) (x : Operand) (ho : o.op = .load 23 x) (b : Nat) (hx : a.eval x = .pointer (some ⟨b, 0, none⟩)) (t : Tk) (hc : w.rangeAt b 0 (ownC t).toList)
    (h : wpList Try.prog ops Q rest (a.put o.dst (.agg (ownC t))) w) : wpList Try.prog ops Q (o :: rest) a w :=
  wpList_load_mid hgd 23 x ho b 0 hx (ownC t).toList _ hc Try.underlying23 rfl (by kernel_rfl) h
end
end Go.Proofs.Yteblphnpealefaa.An
/-
  Package shake: what reads a talk, Tick, Ping, End, Open.
-/
namespace Go.Proofs.Yteblphnpealefaa.An
open Go.RowKit Mem Sc Rg2
set_option maxRecDepth 100000
section
variable {w : World} {b : Nat} {x : Tk}
theorem ready_at (h : TkAt w b x) : Calls Try.prog 17 #[.pointer (some ⟨b, 0, none⟩)] w fun e w' => e = .returned (.bool (decide (x.far = 2))) ∧ w' = w := by
  obtain ⟨g, hg⟩ : ∃ g, g = decide (x.far = 2) := ⟨_, rfl⟩
  have e1 : (x.far == 2) = g := by rw [hg]; rfl
  rw [← hg]
  have c5 := h.far
  clear hg h
  go_enter Try.func17, Try.ntmps17
  go_wp2_with fail
  go_ret
  exact ⟨rfl, rfl⟩
theorem ready_nil (w : World) : Calls Try.prog 17 #[.pointer none] w fun e w' => e = .returned (.bool false) ∧ w' = w := by
  go_enter Try.func17, Try.ntmps17
  go_wp2_with fail
  go_ret
  exact ⟨rfl, rfl⟩
theorem gone_at (h : TkAt w b x) : Calls Try.prog 18 #[.pointer (some ⟨b, 0, none⟩)] w fun e w' => e = .returned (.bool (decide (x.far = 3))) ∧ w' = w := by
  obtain ⟨g, hg⟩ : ∃ g, g = decide (x.far = 3) := ⟨_, rfl⟩
  have e1 : (x.far == 3) = g := by rw [hg]; rfl
  rw [← hg]
  have c5 := h.far
  clear hg h
  go_enter Try.func18, Try.ntmps18
  go_wp2_with fail
  go_ret
  exact ⟨rfl, rfl⟩
theorem gone_nil (w : World) : Calls Try.prog 18 #[.pointer none] w fun e w' => e = .returned (.bool true) ∧ w' = w := by
  go_enter Try.func18, Try.ntmps18
  go_wp2_with fail
  go_ret
  exact ⟨rfl, rfl⟩
theorem direct_at (h : TkAt w b x) : Calls Try.prog 19 #[.pointer (some ⟨b, 0, none⟩)] w fun e w' => e = .returned (.bool (decide (x.far = 2) && x.dir)) ∧ w' = w := by
  obtain ⟨g, hg⟩ : ∃ g, g = decide (x.far = 2) := ⟨_, rfl⟩
  have K := ready_at h
  rw [← hg] at K ⊢
  have K := Lib.hid K
  have c8 := h.dir
  clear hg h
  cases g
  all_goals
    go_enter Try.func19, Try.ntmps19
    go_wp2_with fail
    refine (K.out).mono ?_
    rintro e w' ⟨rfl, rfl⟩
    go_wp2_with fail
    go_ret
    exact ⟨rfl, rfl⟩
theorem direct_nil (w : World) : Calls Try.prog 19 #[.pointer none] w fun e w' => e = .returned (.bool false) ∧ w' = w := by
  have K := Lib.hid (ready_nil w)
  go_enter Try.func19, Try.ntmps19
  go_wp2_with fail
  refine (K.out).mono ?_
  rintro e w' ⟨rfl, rfl⟩
  go_wp2_with fail
  go_ret
  exact ⟨rfl, rfl⟩
theorem height_at (h : TkAt w b x) : Calls Try.prog 20 #[.pointer (some ⟨b, 0, none⟩)] w fun e w' => e = .returned (.int .i64 x.hgt) ∧ w' = w := by
  have c7 := h.hgt
  clear h
  go_enter Try.func20, Try.ntmps20
  go_wp2_with fail
  go_ret
  exact ⟨rfl, rfl⟩
theorem height_nil (w : World) : Calls Try.prog 20 #[.pointer none] w fun e w' => e = .returned (.int .i64 0) ∧ w' = w := by
  go_enter Try.func20, Try.ntmps20
  go_wp2_with fail
  go_ret
  exact ⟨rfl, rfl⟩
theorem late_at (h : TkAt w b x) (now : Int) : Calls Try.prog 27 #[.pointer (some ⟨b, 0, none⟩), .int .i64 now] w fun e w' => e = .returned (.bool (x.late now)) ∧ w' = w := by
  obtain ⟨d1, hd1⟩ : ∃ d1, IntKind.i64.wrap (now - x.began) = d1 := ⟨_, rfl⟩
  obtain ⟨d2, hd2⟩ : ∃ d2, IntKind.i64.wrap (now - x.since) = d2 := ⟨_, rfl⟩
  obtain ⟨g1, hg1⟩ : ∃ g1, decide ((60 : Int) < d1) = g1 := ⟨_, rfl⟩
  obtain ⟨g2, hg2⟩ : ∃ g2, decide ((60 : Int) < d2) = g2 := ⟨_, rfl⟩
  have hL : x.late now = if x.far ≠ 2 then g1 else decide (x.ping ≠ 0) && g2 := by
    unfold Tk.late
    rw [hd1, hd2, hg1, hg2]
  rw [hL]
  have c5 := h.far
  have c6 := h.began
  have c9 := h.ping
  have c10 := h.since
  by_cases h2 : x.far = 2
  · rw [if_neg (by omega)]
    have e5 : (x.far != 2) = false := by rw [h2]; rfl
    by_cases h0 : x.ping = 0
    · have e9 : (x.ping != 0) = false := by rw [h0]; rfl
      rw [show decide (x.ping ≠ 0) = false by rw [h0]; rfl]
      clear hL h h2 h0
      go_enter Try.func27, Try.ntmps27
      go_wp2_with fail
      go_ret
      exact ⟨rfl, rfl⟩
    · have e9 : (x.ping != 0) = true := bne_iff_ne.2 h0
      rw [show decide (x.ping ≠ 0) = true by simpa using h0]
      clear hL h h2 h0
      go_enter Try.func27, Try.ntmps27
      go_wp2_with fail
      go_ret
      exact ⟨rfl, rfl⟩
  · rw [if_pos h2]
    have e5 : (x.far != 2) = true := bne_iff_ne.2 h2
    clear hL h h2
    go_enter Try.func27, Try.ntmps27
    go_wp2_with fail
    go_ret
    exact ⟨rfl, rfl⟩
theorem tick_gone (h : TkAt w b x) (hf : x.far = 3) (now : Int) : Calls Try.prog 14 #[.pointer (some ⟨b, 0, none⟩), .int .i64 now] w fun e w' => e = .returned (.bool false) ∧ w' = w := by
  have K := gone_at h
  rw [show decide (x.far = 3) = true by simpa using hf] at K
  have K := Lib.hid K
  clear h hf
  go_enter Try.func14, Try.ntmps14
  go_wp2_with fail
  refine (K.out).mono ?_
  rintro e w' ⟨rfl, rfl⟩
  go_wp2_with fail
  go_ret
  exact ⟨rfl, rfl⟩
theorem tick_on (h : TkAt w b x) (hf : x.far ≠ 3) (now : Int) (hl : x.late now = false) : Calls Try.prog 14 #[.pointer (some ⟨b, 0, none⟩), .int .i64 now] w fun e w' => e = .returned (.bool true) ∧ w' = w := by
  have K := gone_at h
  rw [show decide (x.far = 3) = false by simpa using hf] at K
  have K := Lib.hid K
  have K2 := late_at h now
  rw [hl] at K2
  have K2 := Lib.hid K2
  clear h hf hl
  go_enter Try.func14, Try.ntmps14
  go_wp2_with fail
  refine (K.out).mono ?_
  rintro e w' ⟨rfl, rfl⟩
  go_wp2_with fail
  refine (K2.out).mono ?_
  rintro e w' ⟨rfl, rfl⟩
  go_wp2_with fail
  refine (K.out).mono ?_
  rintro e w' ⟨rfl, rfl⟩
  go_wp2_with fail
  go_ret
  exact ⟨rfl, rfl⟩
theorem tick_late (h : TkAt w b x) (hf : x.far ≠ 3) (now : Int) (hl : x.late now = true) : Calls Try.prog 14 #[.pointer (some ⟨b, 0, none⟩), .int .i64 now] w fun e w' => e = .returned (.bool false) ∧ TkAt w' b x.over ∧ Kp (fun k => k = b) w w' := by
  have K := gone_at h
  rw [show decide (x.far = 3) = false by simpa using hf] at K
  have K := Lib.hid K
  have K2 := late_at h now
  rw [hl] at K2
  have K2 := Lib.hid K2
  have c5 := h.far
  have f5 := h.free 5
  have h3 : TkAt (w.setCell ⟨b, 5, none⟩ (.int .i64 3)) b x.over := h.setFar 3
  have hk := kp_set w b 5 (.int .i64 3)
  have K3 := gone_at h3
  rw [show decide (x.over.far = 3) = true from rfl] at K3
  have K3 := Lib.hid K3
  have H3 := Lib.hid h3
  clear h hf hl h3
  go_enter Try.func14, Try.ntmps14
  go_wp2_with fail
  refine (K.out).mono ?_
  rintro e w' ⟨rfl, rfl⟩
  go_wp2_with fail
  refine (K2.out).mono ?_
  rintro e w' ⟨rfl, rfl⟩
  go_wp2_with fail
  refine (K3.out).mono ?_
  rintro e w' ⟨rfl, rfl⟩
  go_wp2_with fail
  go_ret
  exact ⟨rfl, H3.out, hk⟩
theorem tick_at (h : TkAt w b x) (now : Int) : Calls Try.prog 14 #[.pointer (some ⟨b, 0, none⟩), .int .i64 now] w fun e w' => e = .returned (.bool (x.tick now).2) ∧ TkAt w' b (x.tick now).1 ∧ Kp (fun k => k = b) w w' := by
  unfold Tk.tick
  by_cases hf : x.far = 3
  · rw [if_pos hf]
    exact (tick_gone h hf now).mono fun e w' ⟨h1, h2⟩ => by subst h2; exact ⟨h1, h, Kp.refl _ _⟩
  · rw [if_neg hf]
    by_cases hl : x.late now = true
    · rw [if_pos hl]
      exact tick_late h hf now hl
    · rw [if_neg hl]
      exact (tick_on h hf now (by simpa using hl)).mono fun e w' ⟨h1, h2⟩ => by subst h2; exact ⟨h1, h, Kp.refl _ _⟩
theorem tick_nil (now : Int) (w : World) : Calls Try.prog 14 #[.pointer none, .int .i64 now] w fun e w' => e = .returned (.bool false) ∧ w' = w := by
  have K := Lib.hid (gone_nil w)
  go_enter Try.func14, Try.ntmps14
  go_wp2_with fail
  refine (K.out).mono ?_
  rintro e w' ⟨rfl, rfl⟩
  go_wp2_with fail
  go_ret
  exact ⟨rfl, rfl⟩
theorem end_at (h : TkAt w b x) : Calls Try.prog 16 #[.pointer (some ⟨b, 0, none⟩)] w fun e w' => e = .returned (.tuple #[]) ∧ TkAt w' b x.over ∧ Kp (fun k => k = b) w w' := by
  have c5 := h.far
  have f5 := h.free 5
  have H3 := Lib.hid (show TkAt (w.setCell ⟨b, 5, none⟩ (.int .i64 3)) b x.over from h.setFar 3)
  have hk := kp_set w b 5 (.int .i64 3)
  clear h
  go_enter Try.func16, Try.ntmps16
  go_wp2_with fail
  go_end0
  exact ⟨rfl, H3.out, hk⟩
theorem end_nil (w : World) : Calls Try.prog 16 #[.pointer none] w fun e w' => e = .returned (.tuple #[]) ∧ w' = w := by
  go_enter Try.func16, Try.ntmps16
  go_wp2_with fail
  go_end0
  exact ⟨rfl, rfl⟩
end
end Go.Proofs.Yteblphnpealefaa.An
/-
  Package shake: In and its parts, Ping, Open.
-/
namespace Go.Proofs.Yteblphnpealefaa.An
open Go.RowKit Mem Sc Rg2
set_option maxRecDepth 100000
/-- what a message's coming leaves -/
def InP (w : World) (b : Nat) (r : Tk × List Mo × Int) (e : Ending) (w' : World) : Prop :=
  ∃ v, e = .returned (.tuple #[v, .int .i64 r.2.2]) ∧ TkAt w' b r.1 ∧ RowM w' v r.2.1 ∧ (∀ k, v.ownBlock = some k → w.heap.size ≤ k) ∧ Kp (fun k => k = b) w w'
theorem InP.from {w w1 w' : World} {b : Nat} {r : Tk × List Mo × Int} {v : Value} (hB : Below w.heap.size w w1) (h : TkAt w' b r.1 ∧ RowM w' v r.2.1 ∧ (∀ k, v.ownBlock = some k → w1.heap.size ≤ k) ∧ Kp (fun k => k = b) w1 w') : InP w b r (.returned (.tuple #[v, .int .i64 r.2.2])) w' :=
  ⟨v, rfl, h.1, h.2.1, fun k hk => Nat.le_trans hB.size (h.2.2.1 k hk), (Kp.of (F := fun k => k = b) hB).and h.2.2.2⟩
section
variable {ρ : Operand → Value} {o : Oper} {w w' : World}
theorem ex_load_of {T : TypeId} {x : Operand} {p : Addr} {u : Value} (ho : o.op = .load T x) (hx : ρ x = .pointer (some p)) (hl : (loadVar T p).run Try.prog w = .ok u w) : (execOp ρ o).run Try.prog w = .ok (.value u) w := by
  unfold execOp
  simp only [ho, hx, Instr.loadAt, Instr.sureAddr, Sem.run_bind, Sem.run_pure, Result.andThen_ok, hl]
theorem ld_own {b : Nat} {x : Tk} (h : TkAt w b x) : (loadVar 23 ⟨b, 0, none⟩).run Try.prog w = .ok (.agg (ownC x)) w :=
  run_loadVar_mid w b 0 23 (ownC x).toList _ h.own Try.underlying23 rfl (by kernel_rfl)
theorem ex_row2 {x y : Operand} {m m' : Mo} (ho : o.op = .buildSlice 27 2 #[(0, x), (1, y)]) (hx : ρ x = .agg (mmA m.m)) (hy : ρ y = .agg (mmA m'.m)) : (execOp ρ o).run Try.prog w = .ok (.value (.slice (some ⟨w.heap.size, 0, none⟩) 2 2)) (w.alloc (.cells (mosC [m, m']).toArray 39)) := by
  unfold execOp
  simp only [ho, Sem.run_bind]
  rw [show (#[(0, x), (1, y)] : Array (Nat × Operand)).map (fun (i, x) => (i, ρ x)) = #[(0, .agg (mmA m.m)), (1, .agg (mmA m'.m))] by simp [hx, hy], mo_row2 m m' w]
  rfl
end
theorem below_box (w : World) (ob : Obj) : Below w.heap.size w (w.alloc ob) := (Below.refl _ _).alloc (Nat.le_refl _) _
section
variable {w : World} {b : Nat} {x : Tk}
theorem version_at (x : Tk) (w : World) : Calls Try.prog 21 #[.agg (ownC x)] w fun e w' => e = .returned (.agg (mmA x.hello.m)) ∧ Below w.heap.size w w' := by
  have hz := mm_newz1 w (.cells (ownC x) 23)
  have hO : Has ((w.alloc (.cells (ownC x) 23)).alloc (.cells (mmA (mmZ 0)) 39)) w.heap.size (ownC x) 23 := (Has.new _ _).alloc _
  rw [mmZ_lit] at hO
  have hB : Below w.heap.size w ((w.alloc (.cells (ownC x) 23)).alloc (.cells (mmA (mmZ 0)) 39)) := (below_box w _).trans ((below_box _ _).mono (below_box w _).size)
  rw [mmZ_lit] at hB
  have hb := mo_built 1 x.ver x.serv x.tall x.num
  have hy : (⟨1, x.ver, x.serv, x.tall, x.num⟩ : Mo) = x.hello := rfl
  rw [hy] at hb
  generalize x.hello = y at *
  go_enter Try.func21, Try.ntmps21
  go_upto_region 1 with fail
  generalize World.alloc _ _ = w1 at *
  obtain ⟨P, hP⟩ : ∃ P, P = w.heap.size := ⟨_, rfl⟩
  obtain ⟨R, hR⟩ : ∃ R, R = w.heap.size + 1 := ⟨_, rfl⟩
  rw [← hR] at hz ⊢
  rw [← hP] at hO ⊢
  have hRw : w.heap.size ≤ R := by omega
  have c0 : w1.cell? ⟨P, 0, none⟩ = some (.int .i64 x.ver) := hO.cell 0
  have c1 : w1.cell? ⟨P, 1, none⟩ = some (.int .i64 x.serv) := hO.cell 1
  have c2 : w1.cell? ⟨P, 2, none⟩ = some (.int .i64 x.tall) := hO.cell 2
  have c3 : w1.cell? ⟨P, 3, none⟩ = some (.int .i64 x.num) := hO.cell 3
  have s1 : (mmA y.m).size = 39 := mmA_size y.ok
  clear hO hP hR hy
  go_wp2_with (first
    | (with_reducible refine mo_make rfl _ rfl _ (by with_unfolding_all rfl) _ hb ?_)
    | (with_reducible refine mm_store rfl _ _ rfl R _ _ rfl rfl rfl s1 hz rfl ?_))
  refine bodyPost_ret (v := .agg (mmA y.m)) (mm_results Try.results21 _ R rfl (Has.row hz _) s1) rfl ⟨rfl, below_setRow hB hRw _⟩
theorem breach_at (h : TkAt w b x) : Calls Try.prog 25 #[.pointer (some ⟨b, 0, none⟩)] w fun e w' => e = .returned (.tuple #[.slice none 0 0, .int .i64 3]) ∧ TkAt w' b x.over ∧ Kp (fun k => k = b) w w' := by
  have c5 := h.far
  have f5 := h.free 5
  have H3 := Lib.hid (show TkAt (w.setCell ⟨b, 5, none⟩ (.int .i64 3)) b x.over from h.setFar 3)
  have hk := kp_set w b 5 (.int .i64 3)
  clear h
  go_enter Try.func25, Try.ntmps25
  go_wp2_with fail
  go_ret2
  exact ⟨rfl, H3.out, hk⟩
theorem pong_no (h : TkAt w b x) (n : Int) (hn : x.ping = 0 ∨ n ≠ x.ping) : Calls Try.prog 31 #[.pointer (some ⟨b, 0, none⟩), .int .i64 n] w fun e w' => e = .returned (.int .i64 7) ∧ w' = w := by
  have c9 := h.ping
  by_cases h0 : x.ping = 0
  · have e0 : (x.ping == 0) = true := by rw [h0]; rfl
    clear h hn h0
    go_enter Try.func31, Try.ntmps31
    go_wp2_with fail
    go_ret
    exact ⟨rfl, rfl⟩
  · have e0 : (x.ping == 0) = false := beq_eq_false_iff_ne.2 h0
    have e1 : (n != x.ping) = true := bne_iff_ne.2 (hn.resolve_left h0)
    clear h hn h0
    go_enter Try.func31, Try.ntmps31
    go_wp2_with fail
    go_ret
    exact ⟨rfl, rfl⟩
theorem pong_yes (h : TkAt w b x) (n : Int) (h0 : x.ping ≠ 0) (hn : n = x.ping) : Calls Try.prog 31 #[.pointer (some ⟨b, 0, none⟩), .int .i64 n] w fun e w' => e = .returned (.int .i64 0) ∧ TkAt w' b { x with ping := 0 } ∧ Kp (fun k => k = b) w w' := by
  have c9 := h.ping
  have f9 := h.free 9
  have e0 : (x.ping == 0) = false := beq_eq_false_iff_ne.2 h0
  have e1 : (n != x.ping) = false := by rw [hn]; simp
  have H3 := Lib.hid (h.setPing 0)
  have hk := kp_set w b 9 (.int .i64 0)
  clear h hn h0
  go_enter Try.func31, Try.ntmps31
  go_wp2_with fail
  go_ret
  exact ⟨rfl, H3.out, hk⟩
theorem agree_at (h : TkAt w b x) : Calls Try.prog 24 #[.pointer (some ⟨b, 0, none⟩)] w fun e w' => InP w b x.agree e w' := by
  have c5 := h.far
  have f5 := h.free 5
  unfold Tk.agree
  by_cases h1 : x.far = 1
  · rw [if_neg (by omega)]
    have e1 : (x.far != 1) = false := by rw [h1]; rfl
    have h3 := h.setFar 2
    have hk := kp_set w b 5 (.int .i64 2)
    have hb := mo_built1 8
    clear h h1
    go_enter Try.func24, Try.ntmps24
    go_wp2_with (first
      | (with_reducible refine mo_make rfl _ rfl _ (by with_unfolding_all rfl) _ hb ?_)
      | ((with_reducible refine mo_slice1 rfl _ rfl _ rfl ?_); intro w' g hr hg hB; have h4 := h3.on hB; have hk2 := hk.bel hB))
    go_ret2
    exact ⟨_, rfl, h4, hr, fun k e => by cases e; exact Nat.le_trans hk.size hg, hk2⟩
  · rw [if_pos h1]
    have e1 : (x.far != 1) = true := bne_iff_ne.2 h1
    have K := Lib.hid (breach_at h)
    clear h h1
    go_enter Try.func24, Try.ntmps24
    go_wp2_with fail
    refine (K.out).mono ?_
    rintro e w' ⟨rfl, h3, hk⟩
    go_wp2_with fail
    go_ret2
    exact ⟨_, rfl, h3, RowM.nil _, fun k e => (by cases e), hk⟩
theorem meet_late (h : TkAt w b x) (m : Mm) (ho : m.ok) (hf : x.far ≠ 0) : Calls Try.prog 23 #[.pointer (some ⟨b, 0, none⟩), .agg (mmA m)] w fun e w' => InP w b (x.over, [], 3) e w' := by
  have e1 : (x.far != 0) = true := bne_iff_ne.2 hf
  clear hf
  have hM := mm_new w m
  have hT : TkAt (w.alloc (.cells (mmA m) 39)) b x := h.on (below_box _ _)
  have hB := below_box w (.cells (mmA m) 39)
  have hz : (mmA m).size = 39 := mmA_size ho
  go_enter Try.func23, Try.ntmps23
  go_upto_region 1 with fail
  generalize World.alloc _ _ = w1 at *
  obtain ⟨P, hP⟩ : ∃ P, P = w.heap.size := ⟨_, rfl⟩
  rw [← hP] at hM ⊢
  clear h hP
  have c5 := hT.far
  have K := Lib.hid (breach_at hT)
  clear hT
  go_wp2_with fail
  refine (K.out).mono ?_
  rintro e w' ⟨rfl, h3, hk⟩
  go_wp2_with fail
  go_ret2
  exact InP.from (r := (_, [], _)) hB ⟨h3, RowM.nil _, fun k e => (by cases e), hk⟩
theorem meet_self (h : TkAt w b x) (m : Mm) (ho : m.ok) (hf : x.far = 0) (hs : m.nb = x.num ∨ m.ver < 31800) : Calls Try.prog 23 #[.pointer (some ⟨b, 0, none⟩), .agg (mmA m)] w fun e w' => InP w b (x.over, [], 0) e w' := by
  have e1 : (x.far != 0) = false := by rw [hf]; rfl
  obtain ⟨g1, hg1⟩ : ∃ g1, (m.nb == x.num) = g1 := ⟨_, rfl⟩
  obtain ⟨g2, hg2⟩ : ∃ g2, decide (m.ver < 31800) = g2 := ⟨_, rfl⟩
  have hg : g1 = true ∨ g2 = true := hs.imp (fun h => by rw [← hg1, h]; simp) (fun h => by rw [← hg2]; simpa using h)
  clear hf hs
  have hM := mm_new w m
  have hT : TkAt (w.alloc (.cells (mmA m) 39)) b x := h.on (below_box _ _)
  have hB := below_box w (.cells (mmA m) 39)
  have hz : (mmA m).size = 39 := mmA_size ho
  go_enter Try.func23, Try.ntmps23
  go_upto_region 1 with fail
  generalize World.alloc _ _ = w1 at *
  obtain ⟨P, hP⟩ : ∃ P, P = w.heap.size := ⟨_, rfl⟩
  rw [← hP] at hM ⊢
  clear h hP
  have c5 := hT.far
  have c3 := hT.num
  have m1 := hM.ver
  have m4 := hM.nb
  have hT2 : TkAt w1.drew b x := hT
  have hM2 : MmAt w1.drew P m := hM
  have hB2 : Below w.heap.size w w1.drew := hB.drew
  clear hT hM hB
  cases g1
  · obtain rfl : g2 = true := hg.resolve_left (by decide)
    clear hg
    go_wp2_with fail
    go_region
    clear c5 c3 m1 m4
    generalize World.drew _ = w2 at *
    have c5 := hT2.far
    have f5 := hT2.free 5
    have h3 := hT2.setFar 3
    have hk := kp_set w2 b 5 (.int .i64 3)
    clear hT2 hM2
    go_wp2_with fail
    go_ret2
    exact InP.from (r := (_, [], _)) hB2 ⟨h3, RowM.nil _, fun k e => (by cases e), hk⟩
  · clear hg
    go_wp2_with fail
    go_region
    clear c5 c3 m1 m4
    generalize World.drew _ = w2 at *
    have c5 := hT2.far
    have f5 := hT2.free 5
    have h3 := hT2.setFar 3
    have hk := kp_set w2 b 5 (.int .i64 3)
    clear hT2 hM2
    go_wp2_with fail
    go_ret2
    exact InP.from (r := (_, [], _)) hB2 ⟨h3, RowM.nil _, fun k e => (by cases e), hk⟩
theorem meet_yes (h : TkAt w b x) (m : Mm) (ho : m.ok) (hf : x.far = 0) (h1 : m.nb ≠ x.num) (h2 : ¬ m.ver < 31800) : Calls Try.prog 23 #[.pointer (some ⟨b, 0, none⟩), .agg (mmA m)] w fun e w' => InP w b ({ x with far := 1, hgt := m.height }, if x.inb = true then [x.hello, mo1 2 0] else [mo1 2 0], 0) e w' := by
  obtain ⟨g, hg⟩ : ∃ g, x.inb = g := ⟨_, rfl⟩
  rw [show (if x.inb = true then [x.hello, mo1 2 0] else [mo1 2 0]) = bif g then [x.hello, mo1 2 0] else [mo1 2 0] by rw [← hg]; cases x.inb <;> rfl]
  have e1 : (x.far != 0) = false := by rw [hf]; rfl
  have e2 : (m.nb == x.num) = false := beq_eq_false_iff_ne.2 h1
  have e3 : decide (m.ver < 31800) = false := by simpa using h2
  clear hf h1 h2
  have hM := mm_new w m
  have hT : TkAt (w.alloc (.cells (mmA m) 39)) b x := h.on (below_box _ _)
  have hB := below_box w (.cells (mmA m) 39)
  have hz : (mmA m).size = 39 := mmA_size ho
  have hbl := h.lt
  go_enter Try.func23, Try.ntmps23
  go_upto_region 1 with fail
  generalize World.alloc _ _ = w1 at *
  obtain ⟨P, hP⟩ : ∃ P, P = w.heap.size := ⟨_, rfl⟩
  rw [← hP] at hM ⊢
  have hPb : P ≠ b := by omega
  have hbP : b ≠ P := by omega
  clear h hP hbl
  have c5 := hT.far
  have c3 := hT.num
  have m1 := hM.ver
  have m4 := hM.nb
  have hT2 : TkAt w1.drew b x := hT
  have hM2 : MmAt w1.drew P m := hM
  have hB2 : Below w.heap.size w w1.drew := hB.drew
  clear hT hM hB
  go_wp2_with fail
  go_region
  clear c5 c3 m1 m4
  generalize World.drew _ = w2 at *
  have c5 := hT2.far
  have c7 := hT2.hgt
  have f5 := hT2.free 5
  have f7 := hT2.free 7
  have m3 := hM2.height
  have hT3 := (hT2.setFar 1).setHgt m.height
  have hk := ((kp_set w2 b 5 (.int .i64 1)).and (kp_set _ b 7 (.int .i64 m.height)))
  go_wp2_with fail
  go_region
  have hT4 : TkAt (World.drew (World.setCell (World.setCell w2 ⟨b, 5, none⟩ (.int .i64 1)) ⟨b, 7, none⟩ (.int .i64 m.height))) b { x with far := 1, hgt := m.height } := hT3
  have hk4 : Kp (fun k => k = b) w2 (World.drew (World.setCell (World.setCell w2 ⟨b, 5, none⟩ (.int .i64 1)) ⟨b, 7, none⟩ (.int .i64 m.height))) := hk.bel (Below.refl _ _).drew
  clear c5 c7 f5 f7 m3 hT3 hk hT2 hM2
  generalize World.drew _ = w3 at *
  obtain ⟨V, hV⟩ : ∃ V, V = w3.heap.size := ⟨_, rfl⟩
  have HV := Lib.hid hV.symm
  clear hV
  go_upto_region 8 with (((with_reducible refine mm_make rfl _ rfl 2 rfl rfl rfl rfl _ _ rfl V HV.out rfl rfl ?_); intro w4 hW hb4 _))
  have hT5 := hT4.on hb4
  have hk5 := hk4.bel hb4
  have c4 := hT5.inb
  replace c4 : w4.cell? ⟨b, 4, none⟩ = some (.bool g) := by rw [← hg]; exact c4
  have hzk : (mmA (mmZ 2)).size = 39 := rfl
  replace hk5 : Kp (fun k => k = b) w2 w4 := hk5
  clear hT4 hk4 hb4 HV hg
  cases g
  · go_wp2_with (first
      | (with_reducible refine mm_load rfl _ rfl V rfl hW hzk ?_)
      | ((with_reducible refine mo_slice1 rfl _ rfl (mo1 2 0) rfl ?_); intro w5 g hr hg hB; have h6 := hT5.on hB; have hk6 := hk5.bel hB))
    go_ret2
    exact InP.from (r := (_, [mo1 2 0], 0)) hB2 ⟨h6, hr, fun k e => by cases e; exact Nat.le_trans hk5.size hg, hk6⟩
  · go_wp2_with fail
    refine wp_tabF (fun fl (g : Nat) w' => Below w4.heap.size w4 w' ∧ (fl 6 = true → RowM w' (.slice (some ⟨g, 0, none⟩) 2 2) [x.hello, mo1 2 0] ∧ w4.heap.size ≤ g)) [6] [3, 4, 5, 6] (fun g => [.pointer (some ⟨b, 0, none⟩), .pointer (some ⟨b, 0, none⟩), .pointer (some ⟨b, 0, none⟩), .agg (ownC x), .agg (mmA x.hello.m), .agg (mmA (mo1 2 0).m), .slice (some ⟨g, 0, none⟩) 2 2, .slice (some ⟨g, 0, none⟩) 2 2, .int .i64 0]) 0 ⟨(Below.refl _ _).drew, fun q => by cases q⟩
      ⟨fun fl g w' f hC => .val (ex_load_of rfl rfl (ld_own (x := { x with far := 1, hgt := m.height }) (hT5.on hC.1))) hC, fun fl g w' f hC => ?_, fun fl g w' f hC => .val (ex_load_mm rfl rfl (hW.on hC.1) rfl) hC, fun fl g w' f hC => ?_, trivial⟩ ?_
    · have h6 := f.no 6 (by kernel_rfl)
      exact .call ((version_at _ w').mono fun _ _ h => ⟨h.1, hC.1.trans (h.2.mono hC.1.size), fun q => (by have q' : fl 6 = true := q; rw [h6] at q'; cases q')⟩)
    · refine .new w'.heap.size [6, 7] rfl (ex_row2 rfl rfl rfl) ⟨hC.1.trans ((below_box _ _).mono hC.1.size), fun _ => ⟨row_made (l := [x.hello, mo1 2 0]) (Has.new _ _) rfl (by simp), hC.1.size⟩⟩
    rintro g w5 ⟨hb5, hr⟩
    replace hr := hr rfl
    have h6 := hT5.on hb5
    have hk6 := hk5.bel hb5
    simp only [finT, List.set_cons_zero, List.set_cons_succ, List.tail_cons, List.headD_cons]
    go_wp2_with fail
    go_ret2
    exact InP.from (r := (_, [x.hello, mo1 2 0], 0)) hB2 ⟨h6, hr.1, fun k e => by cases e; exact Nat.le_trans hk5.size hr.2, hk6⟩
end
end Go.Proofs.Yteblphnpealefaa.An
/-
  Package shake: hear, In, Ping, Open.
-/
namespace Go.Proofs.Yteblphnpealefaa.An
open Go.RowKit Mem Sc Rg2
set_option maxRecDepth 100000
section
variable {w : World} {b : Nat} {x : Tk}
theorem hear_6 (h : TkAt w b x) (m : Mm) (ho : m.ok) (hk : m.kind = 6) : Calls Try.prog 26 #[.pointer (some ⟨b, 0, none⟩), .agg (mmA m)] w fun e w' => InP w b (x, [mo1 7 m.nb], 0) e w' := by
  have e6 : (m.kind == 6) = true := by rw [hk]; rfl
  have hb := mo_built2 7 m.nb
  clear hk
  have hM := mm_new w m
  have hT : TkAt (w.alloc (.cells (mmA m) 39)) b x := h.on (below_box _ _)
  have hB := below_box w (.cells (mmA m) 39)
  have hz : (mmA m).size = 39 := mmA_size ho
  have hbl := h.lt
  go_enter Try.func26, Try.ntmps26
  go_upto_region 1 with fail
  generalize World.alloc _ _ = w1 at *
  obtain ⟨P, hP⟩ : ∃ P, P = w.heap.size := ⟨_, rfl⟩
  rw [← hP] at hM ⊢
  have hPb : P ≠ b := by omega
  have hbP : b ≠ P := by omega
  clear h hP hbl
  have m0 := hM.kind
  have m4 := hM.nb
  clear hM
  go_wp2_with (first
    | (with_reducible refine mo_make rfl _ rfl _ (by with_unfolding_all rfl) _ hb ?_)
    | ((with_reducible refine mo_slice1 rfl _ rfl _ rfl ?_); intro w5 g hr hg hb5; have h6 := hT.on hb5))
  go_ret2
  exact InP.from (r := (_, [mo1 7 m.nb], 0)) hB ⟨h6, hr, fun k e => by cases e; exact hg, (Kp.refl _ _).bel hb5⟩
theorem hear_7no (h : TkAt w b x) (m : Mm) (ho : m.ok) (hk : m.kind = 7) (hn : x.ping = 0 ∨ m.nb ≠ x.ping) : Calls Try.prog 26 #[.pointer (some ⟨b, 0, none⟩), .agg (mmA m)] w fun e w' => InP w b (x, [], 7) e w' := by
  have e6 : (m.kind == 6) = false := beq_eq_false_iff_ne.2 (by omega)
  have e7 : (m.kind == 7) = true := by rw [hk]; rfl
  clear hk
  have hM := mm_new w m
  have hT : TkAt (w.alloc (.cells (mmA m) 39)) b x := h.on (below_box _ _)
  have hB := below_box w (.cells (mmA m) 39)
  have hz : (mmA m).size = 39 := mmA_size ho
  have hbl := h.lt
  go_enter Try.func26, Try.ntmps26
  go_upto_region 1 with fail
  generalize World.alloc _ _ = w1 at *
  obtain ⟨P, hP⟩ : ∃ P, P = w.heap.size := ⟨_, rfl⟩
  rw [← hP] at hM ⊢
  have hPb : P ≠ b := by omega
  have hbP : b ≠ P := by omega
  clear h hP hbl
  have m0 := hM.kind
  have m4 := hM.nb
  have K := Lib.hid (pong_no hT m.nb hn)
  clear hM hn
  go_wp2_with fail
  refine (K.out).mono ?_
  rintro e w' ⟨rfl, rfl⟩
  go_wp2_with fail
  go_ret2
  exact InP.from (r := (_, [], 7)) hB ⟨hT, RowM.nil _, fun k e => (by cases e), Kp.refl _ _⟩
theorem hear_7yes (h : TkAt w b x) (m : Mm) (ho : m.ok) (hk : m.kind = 7) (h0 : x.ping ≠ 0) (hn : m.nb = x.ping) : Calls Try.prog 26 #[.pointer (some ⟨b, 0, none⟩), .agg (mmA m)] w fun e w' => InP w b ({ x with ping := 0 }, [], 0) e w' := by
  have e6 : (m.kind == 6) = false := beq_eq_false_iff_ne.2 (by omega)
  have e7 : (m.kind == 7) = true := by rw [hk]; rfl
  clear hk
  have hM := mm_new w m
  have hT : TkAt (w.alloc (.cells (mmA m) 39)) b x := h.on (below_box _ _)
  have hB := below_box w (.cells (mmA m) 39)
  have hz : (mmA m).size = 39 := mmA_size ho
  have hbl := h.lt
  go_enter Try.func26, Try.ntmps26
  go_upto_region 1 with fail
  generalize World.alloc _ _ = w1 at *
  obtain ⟨P, hP⟩ : ∃ P, P = w.heap.size := ⟨_, rfl⟩
  rw [← hP] at hM ⊢
  have hPb : P ≠ b := by omega
  have hbP : b ≠ P := by omega
  clear h hP hbl
  have m0 := hM.kind
  have m4 := hM.nb
  have K := Lib.hid (pong_yes hT m.nb h0 hn)
  clear hM hn h0
  go_wp2_with fail
  refine (K.out).mono ?_
  rintro e w' ⟨rfl, h3, hk⟩
  go_wp2_with fail
  go_ret2
  exact InP.from (r := (_, [], 0)) hB ⟨h3, RowM.nil _, fun k e => (by cases e), hk⟩
theorem hear_8 (h : TkAt w b x) (m : Mm) (ho : m.ok) (hk : m.kind = 8) : Calls Try.prog 26 #[.pointer (some ⟨b, 0, none⟩), .agg (mmA m)] w fun e w' => InP w b ({ x with dir := true }, [], 0) e w' := by
  have e6 : (m.kind == 6) = false := beq_eq_false_iff_ne.2 (by omega)
  have e7 : (m.kind == 7) = false := beq_eq_false_iff_ne.2 (by omega)
  have e8 : (m.kind == 8) = true := by rw [hk]; rfl
  clear hk
  have hM := mm_new w m
  have hT : TkAt (w.alloc (.cells (mmA m) 39)) b x := h.on (below_box _ _)
  have hB := below_box w (.cells (mmA m) 39)
  have hz : (mmA m).size = 39 := mmA_size ho
  have hbl := h.lt
  go_enter Try.func26, Try.ntmps26
  go_upto_region 1 with fail
  generalize World.alloc _ _ = w1 at *
  obtain ⟨P, hP⟩ : ∃ P, P = w.heap.size := ⟨_, rfl⟩
  rw [← hP] at hM ⊢
  have hPb : P ≠ b := by omega
  have hbP : b ≠ P := by omega
  clear h hP hbl
  have m0 := hM.kind
  have c8 := hT.dir
  have f8 := hT.free 8
  have h3 := hT.setDir true
  have hk := kp_set w1 b 8 (.bool true)
  clear hM
  go_wp2_with fail
  go_ret2
  exact InP.from (r := (_, [], 0)) hB ⟨h3, RowM.nil _, fun k e => (by cases e), hk⟩
theorem hear_on (h : TkAt w b x) (m : Mm) (ho : m.ok) (h6 : m.kind ≠ 6) (h7 : m.kind ≠ 7) (h8 : m.kind ≠ 8) : Calls Try.prog 26 #[.pointer (some ⟨b, 0, none⟩), .agg (mmA m)] w fun e w' => InP w b (x, [], 0) e w' := by
  have e6 : (m.kind == 6) = false := beq_eq_false_iff_ne.2 (by omega)
  have e7 : (m.kind == 7) = false := beq_eq_false_iff_ne.2 (by omega)
  have e8 : (m.kind == 8) = false := beq_eq_false_iff_ne.2 (by omega)
  clear h6 h7 h8
  have hM := mm_new w m
  have hT : TkAt (w.alloc (.cells (mmA m) 39)) b x := h.on (below_box _ _)
  have hB := below_box w (.cells (mmA m) 39)
  have hz : (mmA m).size = 39 := mmA_size ho
  have hbl := h.lt
  go_enter Try.func26, Try.ntmps26
  go_upto_region 1 with fail
  generalize World.alloc _ _ = w1 at *
  obtain ⟨P, hP⟩ : ∃ P, P = w.heap.size := ⟨_, rfl⟩
  rw [← hP] at hM ⊢
  have hPb : P ≠ b := by omega
  have hbP : b ≠ P := by omega
  clear h hP hbl
  have m0 := hM.kind
  clear hM
  go_wp2_with fail
  go_ret2
  exact InP.from (r := (_, [], 0)) hB ⟨hT, RowM.nil _, fun k e => (by cases e), Kp.refl _ _⟩
theorem hear_at (h : TkAt w b x) (m : Mm) (ho : m.ok) : Calls Try.prog 26 #[.pointer (some ⟨b, 0, none⟩), .agg (mmA m)] w fun e w' => InP w b (x.hear m) e w' := by
  unfold Tk.hear
  by_cases h6 : m.kind = 6
  · rw [if_pos h6]; exact hear_6 h m ho h6
  rw [if_neg h6]
  by_cases h7 : m.kind = 7
  · rw [if_pos h7]
    by_cases hn : x.ping = 0 ∨ m.nb ≠ x.ping
    · rw [if_pos hn]; exact hear_7no h m ho h7 hn
    · rw [if_neg hn]; exact hear_7yes h m ho h7 (fun e => hn (.inl e)) (Decidable.byContradiction fun e => hn (.inr e))
  rw [if_neg h7]
  by_cases h8 : m.kind = 8
  · rw [if_pos h8]; exact hear_8 h m ho h8
  rw [if_neg h8]
  exact hear_on h m ho h6 h7 h8
theorem meet_at (h : TkAt w b x) (m : Mm) (ho : m.ok) : Calls Try.prog 23 #[.pointer (some ⟨b, 0, none⟩), .agg (mmA m)] w fun e w' => InP w b (x.meet m) e w' := by
  unfold Tk.meet
  by_cases h0 : x.far = 0
  · rw [if_neg (fun e => e h0)]
    by_cases hs : m.nb = x.num ∨ m.ver < 31800
    · rw [if_pos hs]; exact meet_self h m ho h0 hs
    · rw [if_neg hs]; exact meet_yes h m ho h0 (fun e => hs (.inl e)) (fun e => hs (.inr e))
  · rw [if_pos h0]; exact meet_late h m ho h0
theorem in_gone (h : TkAt w b x) (m : Mm) (ho : m.ok) (hf : x.far = 3) : Calls Try.prog 10 #[.pointer (some ⟨b, 0, none⟩), .agg (mmA m)] w fun e w' => e = .returned (.tuple #[.slice none 0 0, .int .i64 0]) ∧ Below w.heap.size w w' := by
  have hg : decide (x.far = 3) = true := by simpa using hf
  clear hf
  have hM := mm_new w m
  have hT : TkAt (w.alloc (.cells (mmA m) 39)) b x := h.on (below_box _ _)
  have hB := below_box w (.cells (mmA m) 39)
  have hz : (mmA m).size = 39 := mmA_size ho
  have hbl := h.lt
  go_enter Try.func10, Try.ntmps10
  go_upto_region 1 with fail
  generalize World.alloc _ _ = w1 at *
  obtain ⟨P, hP⟩ : ∃ P, P = w.heap.size := ⟨_, rfl⟩
  rw [← hP] at hM ⊢
  have hPb : P ≠ b := by omega
  have hbP : b ≠ P := by omega
  clear h hP hbl
  have K := gone_at hT
  rw [hg] at K
  have K := Lib.hid K
  clear hM hT
  go_wp2_with fail
  refine (K.out).mono ?_
  rintro e w' ⟨rfl, rfl⟩
  go_wp2_with fail
  go_ret2
  exact ⟨rfl, hB⟩
theorem in_1 (h : TkAt w b x) (m : Mm) (ho : m.ok) (hf : x.far ≠ 3) (hk : m.kind = 1) : Calls Try.prog 10 #[.pointer (some ⟨b, 0, none⟩), .agg (mmA m)] w fun e w' => InP w b (x.meet m) e w' := by
  have hg : decide (x.far = 3) = false := by simpa using hf
  have e1 : (m.kind == 1) = true := by rw [hk]; rfl
  clear hf hk
  have hM := mm_new w m
  have hT : TkAt (w.alloc (.cells (mmA m) 39)) b x := h.on (below_box _ _)
  have hB := below_box w (.cells (mmA m) 39)
  have hz : (mmA m).size = 39 := mmA_size ho
  have hbl := h.lt
  go_enter Try.func10, Try.ntmps10
  go_upto_region 1 with fail
  generalize World.alloc _ _ = w1 at *
  obtain ⟨P, hP⟩ : ∃ P, P = w.heap.size := ⟨_, rfl⟩
  rw [← hP] at hM ⊢
  have hPb : P ≠ b := by omega
  have hbP : b ≠ P := by omega
  clear h hP hbl
  have m0 := hM.kind
  have c5 := hT.far
  have K := gone_at hT
  rw [hg] at K
  have K := Lib.hid K
  have K2 := Lib.hid (meet_at hT m ho)
  clear hT
  go_wp2_with fail
  refine (K.out).mono ?_
  rintro e w' ⟨rfl, rfl⟩
  go_wp2_with (first | (with_reducible refine mm_load rfl _ rfl P rfl hM hz ?_))
  refine (K2.out).mono ?_
  rintro e w' ⟨v, rfl, h3⟩
  have HX := Lib.hid h3
  clear h3
  go_wp2_with fail
  go_ret2
  exact InP.from hB HX.out
theorem in_2 (h : TkAt w b x) (m : Mm) (ho : m.ok) (hf : x.far ≠ 3) (hk : m.kind = 2) : Calls Try.prog 10 #[.pointer (some ⟨b, 0, none⟩), .agg (mmA m)] w fun e w' => InP w b (x.agree) e w' := by
  have hg : decide (x.far = 3) = false := by simpa using hf
  have e1 : (m.kind == 1) = false := beq_eq_false_iff_ne.2 (by omega)
  have e2 : (m.kind == 2) = true := by rw [hk]; rfl
  clear hf hk
  have hM := mm_new w m
  have hT : TkAt (w.alloc (.cells (mmA m) 39)) b x := h.on (below_box _ _)
  have hB := below_box w (.cells (mmA m) 39)
  have hz : (mmA m).size = 39 := mmA_size ho
  have hbl := h.lt
  go_enter Try.func10, Try.ntmps10
  go_upto_region 1 with fail
  generalize World.alloc _ _ = w1 at *
  obtain ⟨P, hP⟩ : ∃ P, P = w.heap.size := ⟨_, rfl⟩
  rw [← hP] at hM ⊢
  have hPb : P ≠ b := by omega
  have hbP : b ≠ P := by omega
  clear h hP hbl
  have m0 := hM.kind
  have c5 := hT.far
  have K := gone_at hT
  rw [hg] at K
  have K := Lib.hid K
  have K2 := Lib.hid (agree_at hT)
  clear hT hM
  go_wp2_with fail
  refine (K.out).mono ?_
  rintro e w' ⟨rfl, rfl⟩
  go_wp2_with fail
  refine (K2.out).mono ?_
  rintro e w' ⟨v, rfl, h3⟩
  have HX := Lib.hid h3
  clear h3
  go_wp2_with fail
  go_ret2
  exact InP.from hB HX.out
theorem in_breach (h : TkAt w b x) (m : Mm) (ho : m.ok) (hf : x.far ≠ 3) (h1 : m.kind ≠ 1) (h2 : m.kind ≠ 2) (h22 : x.far ≠ 2) : Calls Try.prog 10 #[.pointer (some ⟨b, 0, none⟩), .agg (mmA m)] w fun e w' => InP w b (x.over, [], 3) e w' := by
  have hg : decide (x.far = 3) = false := by simpa using hf
  have e1 : (m.kind == 1) = false := beq_eq_false_iff_ne.2 (by omega)
  have e2 : (m.kind == 2) = false := beq_eq_false_iff_ne.2 (by omega)
  have e5 : (x.far != 2) = true := bne_iff_ne.2 h22
  clear hf h1 h2 h22
  have hM := mm_new w m
  have hT : TkAt (w.alloc (.cells (mmA m) 39)) b x := h.on (below_box _ _)
  have hB := below_box w (.cells (mmA m) 39)
  have hz : (mmA m).size = 39 := mmA_size ho
  have hbl := h.lt
  go_enter Try.func10, Try.ntmps10
  go_upto_region 1 with fail
  generalize World.alloc _ _ = w1 at *
  obtain ⟨P, hP⟩ : ∃ P, P = w.heap.size := ⟨_, rfl⟩
  rw [← hP] at hM ⊢
  have hPb : P ≠ b := by omega
  have hbP : b ≠ P := by omega
  clear h hP hbl
  have m0 := hM.kind
  have c5 := hT.far
  have K := gone_at hT
  rw [hg] at K
  have K := Lib.hid K
  have K2 := Lib.hid (breach_at hT)
  clear hT hM
  go_wp2_with fail
  refine (K.out).mono ?_
  rintro e w' ⟨rfl, rfl⟩
  go_wp2_with fail
  refine (K2.out).mono ?_
  rintro e w' ⟨rfl, h3, hk⟩
  go_wp2_with fail
  go_ret2
  exact InP.from (r := (_, [], 3)) hB ⟨h3, RowM.nil _, fun k e => (by cases e), hk⟩
theorem in_hear (h : TkAt w b x) (m : Mm) (ho : m.ok) (hf : x.far ≠ 3) (h1 : m.kind ≠ 1) (h2 : m.kind ≠ 2) (h22 : x.far = 2) : Calls Try.prog 10 #[.pointer (some ⟨b, 0, none⟩), .agg (mmA m)] w fun e w' => InP w b (x.hear m) e w' := by
  have hg : decide (x.far = 3) = false := by simpa using hf
  have e1 : (m.kind == 1) = false := beq_eq_false_iff_ne.2 (by omega)
  have e2 : (m.kind == 2) = false := beq_eq_false_iff_ne.2 (by omega)
  have e5 : (x.far != 2) = false := by rw [h22]; rfl
  clear hf h1 h2 h22
  have hM := mm_new w m
  have hT : TkAt (w.alloc (.cells (mmA m) 39)) b x := h.on (below_box _ _)
  have hB := below_box w (.cells (mmA m) 39)
  have hz : (mmA m).size = 39 := mmA_size ho
  have hbl := h.lt
  go_enter Try.func10, Try.ntmps10
  go_upto_region 1 with fail
  generalize World.alloc _ _ = w1 at *
  obtain ⟨P, hP⟩ : ∃ P, P = w.heap.size := ⟨_, rfl⟩
  rw [← hP] at hM ⊢
  have hPb : P ≠ b := by omega
  have hbP : b ≠ P := by omega
  clear h hP hbl
  have m0 := hM.kind
  have c5 := hT.far
  have K := gone_at hT
  rw [hg] at K
  have K := Lib.hid K
  have K2 := Lib.hid (hear_at hT m ho)
  clear hT
  go_wp2_with fail
  refine (K.out).mono ?_
  rintro e w' ⟨rfl, rfl⟩
  go_wp2_with (first | (with_reducible refine mm_load rfl _ rfl P rfl hM hz ?_))
  refine (K2.out).mono ?_
  rintro e w' ⟨v, rfl, h3⟩
  have HX := Lib.hid h3
  clear h3
  go_wp2_with fail
  go_ret2
  exact InP.from hB HX.out
/-- In -/
theorem in_at (h : TkAt w b x) (m : Mm) (ho : m.ok) : Calls Try.prog 10 #[.pointer (some ⟨b, 0, none⟩), .agg (mmA m)] w fun e w' => InP w b (x.inn m) e w' := by
  unfold Tk.inn
  by_cases hf : x.far = 3
  · rw [if_pos hf]
    exact (in_gone h m ho hf).mono fun e w' ⟨h1, hB⟩ => ⟨_, h1, h.on hB, RowM.nil _, fun k e => (by cases e), (Kp.refl _ _).bel hB⟩
  rw [if_neg hf]
  by_cases h1 : m.kind = 1
  · rw [if_pos h1]; exact in_1 h m ho hf h1
  rw [if_neg h1]
  by_cases h2 : m.kind = 2
  · rw [if_pos h2]; exact in_2 h m ho hf h2
  rw [if_neg h2]
  by_cases h22 : x.far = 2
  · rw [if_neg (fun e => e h22)]; exact in_hear h m ho hf h1 h2 h22
  · rw [if_pos h22]; exact in_breach h m ho hf h1 h2 h22
theorem in_nil (m : Mm) (w : World) : Calls Try.prog 10 #[.pointer none, .agg (mmA m)] w fun e w' => e = .returned (.tuple #[.slice none 0 0, .int .i64 0]) ∧ Below w.heap.size w w' := by
  have hB := below_box w (.cells (mmA m) 39)
  go_enter Try.func10, Try.ntmps10
  go_upto_region 1 with fail
  generalize World.alloc _ _ = w1 at *
  have K := Lib.hid (gone_nil w1)
  go_wp2_with fail
  refine (K.out).mono ?_
  rintro e w' ⟨rfl, rfl⟩
  go_wp2_with fail
  go_ret2
  exact ⟨rfl, hB⟩
theorem ping_no (h : TkAt w b x) (n now : Int) (hn : ¬ x.pings n) : Calls Try.prog 12 #[.pointer (some ⟨b, 0, none⟩), .int .i64 n, .int .i64 now] w fun e w' => e = .returned (.slice none 0 0) ∧ w' = w := by
  have K := ready_at h
  have c9 := h.ping
  obtain ⟨g, hg⟩ : ∃ g, decide (x.far = 2) = g := ⟨_, rfl⟩
  obtain ⟨g9, hg9⟩ : ∃ g, (x.ping != 0) = g := ⟨_, rfl⟩
  obtain ⟨g1, hg1⟩ : ∃ g, decide (n < 1) = g := ⟨_, rfl⟩
  obtain ⟨g2, hg2⟩ : ∃ g, decide ((72057594037927935 : Int) < n) = g := ⟨_, rfl⟩
  have hh : g = false ∨ g9 = true ∨ g1 = true ∨ g2 = true := by
    rw [← hg, ← hg9, ← hg1, ← hg2]
    simp only [decide_eq_false_iff_not, bne_iff_ne, decide_eq_true_eq]
    unfold Tk.pings at hn
    omega
  rw [hg] at K
  have K := Lib.hid K
  clear h hn hg
  cases g
  · clear hh
    go_enter Try.func12, Try.ntmps12
    go_wp2_with fail
    refine (K.out).mono ?_
    rintro e w' ⟨rfl, rfl⟩
    go_wp2_with fail
    go_ret
    exact ⟨rfl, rfl⟩
  obtain rfl | rfl : g9 = true ∨ g9 = false := by cases g9 <;> simp
  · clear hh
    go_enter Try.func12, Try.ntmps12
    go_wp2_with fail
    refine (K.out).mono ?_
    rintro e w' ⟨rfl, rfl⟩
    go_wp2_with fail
    go_ret
    exact ⟨rfl, rfl⟩
  obtain rfl | rfl : g1 = true ∨ g1 = false := by cases g1 <;> simp
  · clear hh
    go_enter Try.func12, Try.ntmps12
    go_wp2_with fail
    refine (K.out).mono ?_
    rintro e w' ⟨rfl, rfl⟩
    go_wp2_with fail
    go_ret
    exact ⟨rfl, rfl⟩
  cases g2
  · simp at hh
  · clear hh
    go_enter Try.func12, Try.ntmps12
    go_wp2_with fail
    refine (K.out).mono ?_
    rintro e w' ⟨rfl, rfl⟩
    go_wp2_with fail
    go_ret
    exact ⟨rfl, rfl⟩
theorem ping_yes (h : TkAt w b x) (n now : Int) (hn : x.pings n) : Calls Try.prog 12 #[.pointer (some ⟨b, 0, none⟩), .int .i64 n, .int .i64 now] w fun e w' => ∃ g, e = .returned (.slice (some ⟨g, 0, none⟩) 1 1) ∧ TkAt w' b { x with ping := n, since := now } ∧ RowM w' (.slice (some ⟨g, 0, none⟩) 1 1) [mo1 6 n] ∧ w.heap.size ≤ g ∧ Kp (fun k => k = b) w w' := by
  obtain ⟨h1, h2, h3, h4⟩ := hn
  have K := ready_at h
  have hg : decide (x.far = 2) = true := by simpa using h1
  have e9 : (x.ping != 0) = false := by rw [h2]; rfl
  have e1 : decide (n < 1) = false := by simp; omega
  have e2 : decide ((72057594037927935 : Int) < n) = false := by simp; omega
  rw [hg] at K
  have K := Lib.hid K
  have c9 := h.ping
  have c10 := h.since
  have f9 := h.free 9
  have f10 := h.free 10
  have hT3 := (h.setPing n).setSince now
  have hk := ((kp_set w b 9 (.int .i64 n)).and (kp_set _ b 10 (.int .i64 now)))
  have hbl := mo_built2 6 n
  clear h1 h2 h3 h4 hg h
  go_enter Try.func12, Try.ntmps12
  go_wp2_with fail
  refine (K.out).mono ?_
  rintro e w' ⟨rfl, rfl⟩
  go_upto_region 4 with fail
  generalize World.setCell (World.setCell _ _ _) _ _ = w3 at *
  go_wp2_with (first
    | (with_reducible refine mo_make rfl _ rfl _ (by with_unfolding_all rfl) _ hbl ?_)
    | ((with_reducible refine mo_slice1 rfl _ rfl _ rfl ?_); intro w5 g hr hg hb5; have h6 := hT3.on hb5; have hk6 := hk.bel hb5))
  go_ret
  exact ⟨g, rfl, h6, hr, Nat.le_trans hk.size hg, hk6⟩
theorem ping_nil (n now : Int) (w : World) : Calls Try.prog 12 #[.pointer none, .int .i64 n, .int .i64 now] w fun e w' => e = .returned (.slice none 0 0) ∧ w' = w := by
  have K := Lib.hid (ready_nil w)
  go_enter Try.func12, Try.ntmps12
  go_wp2_with fail
  refine (K.out).mono ?_
  rintro e w' ⟨rfl, rfl⟩
  go_wp2_with fail
  go_ret
  exact ⟨rfl, rfl⟩
end
end Go.Proofs.Yteblphnpealefaa.An
/-
  The document's talk: In, Ping, Tick.
-/
namespace Go.Proofs.Yteblphnpealefaa.An
open Go.RowKit Mem Sc Rg2
set_option maxRecDepth 100000
/-- a row of numbers -/
def RowZ (w : World) (v : Value) (l : List Int) : Prop := w.ownsRow 0 3 1 v l.length (l.map (Value.int .i64))
theorem RowZ.nil (w : World) : RowZ w (.slice none 0 0) [] := World.ownsRow_nil _ _ _ _
theorem RowZ.keep {w w' : World} {v : Value} {l : List Int} (h : RowZ w v l) (hb : ∀ k, v.ownBlock = some k → w'.heap[k]? = w.heap[k]?) : RowZ w' v l := by
  refine ⟨h.1, ?_⟩
  rcases h.2 with h | ⟨g, c, cur, rfl, h1, h2, h3⟩
  · exact .inl h
  · exact .inr ⟨g, c, cur, rfl, h1, (hb g rfl).trans h2, h3⟩
theorem RowZ.lt {w : World} {v : Value} {l : List Int} (h : RowZ w v l) {k : Nat} (hk : v.ownBlock = some k) : k < w.heap.size := by
  rcases h.2 with ⟨rfl, _⟩ | ⟨g, c, cur, rfl, _, h2, _⟩
  · cases hk
  · cases hk
    exact (Array.getElem?_eq_some_iff.1 h2).1
theorem rowz_made {w : World} {g : Nat} {l : List Int} (h : Has w g (l.map (Value.int .i64)).toArray 3) (hl : l.length ≤ 100) : RowZ w (.slice (some ⟨g, 0, none⟩) l.length l.length) l :=
  ⟨by simp, .inr ⟨g, l.length, _, rfl, Nat.zero_le _, h, Nat.le_refl _, by unfold maxLen; omega, by simp, List.take_of_length_le (by simp)⟩⟩
/-- the numbers l lie at the address p -/
def LieZ (w : World) (p : Option Addr) (l : List Int) : Prop := 0 < l.length → ∃ b off, p = some ⟨b, off, none⟩ ∧ b < w.heap.size ∧ ∀ i z, l[i]? = some z → w.cell? ⟨b, off + i, none⟩ = some (.int .i64 z)
theorem LieZ.on {w w' : World} {p : Option Addr} {l : List Int} (h : LieZ w p l) (hs : w.heap.size ≤ w'.heap.size) (hb : ∀ b off, p = some ⟨b, off, none⟩ → b < w.heap.size → w'.heap[b]? = w.heap[b]?) : LieZ w' p l := fun h0 => by
  obtain ⟨b, off, e, h1, h2⟩ := h h0
  exact ⟨b, off, e, Nat.lt_of_lt_of_le h1 hs, fun i x hi => (World.cell?_of_block (w := w) (a := ⟨b, off + i, none⟩) (hb b off e h1)).trans (h2 i x hi)⟩
theorem RowZ.lie {w : World} {v : Value} {l : List Int} (h : RowZ w v l) : ∃ p c, v = .slice p l.length c ∧ LieZ w p l := by
  rcases h.2 with ⟨rfl, h0⟩ | ⟨g, c, cur, rfl, _, hg, h3, h4, h5, h6⟩
  · exact ⟨none, 0, by rw [h0], fun h => by omega⟩
  · refine ⟨_, c, rfl, fun _ => ⟨g, 0, rfl, (Array.getElem?_eq_some_iff.1 hg).1, fun i x hi => ?_⟩⟩
    have e : (l.map (Value.int .i64))[i]? = some (.int .i64 x) := by rw [List.getElem?_map, hi]; rfl
    rw [← h6, List.getElem?_take] at e
    split at e
    · rw [Nat.zero_add, Has.cell (show Has w g cur 3 from hg), ← Array.getElem?_toList]
      exact e
    · cases e
def RinP (w : World) (b : Nat) (r : Tk × List Mo × Int) (e : Ending) (w' : World) : Prop :=
  ∃ v, e = .returned (.tuple #[v, .int .i64 r.2.2]) ∧ RkAt w' b r.1 ∧ RowZ w' v (r.2.1.map Mo.k) ∧ (∀ k, v.ownBlock = some k → w.heap.size ≤ k) ∧ Kp (fun k => k = b) w w'
theorem RinP.from {w w1 w' : World} {b : Nat} {r : Tk × List Mo × Int} {v : Value} (hB : Below w.heap.size w w1) (h : RkAt w' b r.1 ∧ RowZ w' v (r.2.1.map Mo.k) ∧ (∀ k, v.ownBlock = some k → w1.heap.size ≤ k) ∧ Kp (fun k => k = b) w1 w') : RinP w b r (.returned (.tuple #[v, .int .i64 r.2.2])) w' :=
  ⟨v, rfl, h.1, h.2.1, fun k hk => Nat.le_trans hB.size (h.2.2.1 k hk), (Kp.of (F := fun k => k = b) hB).and h.2.2.2⟩
section
variable {w : World} {b : Nat} {x : Tk}
theorem rin_gone (h : RkAt w b x) (m : Mm) (hf : x.far = 3) : Calls Try.prog 11 #[.pointer (some ⟨b, 0, none⟩), .agg (mmA m)] w fun e w' => RinP w b (x, [], 0) e w' := by
  have t3 : (x.far == 3) = true := by rw [hf]; rfl
  clear hf
  have hM := mm_new w m
  have hT : RkAt (w.alloc (.cells (mmA m) 39)) b x := h.on (below_box _ _)
  have hB := below_box w (.cells (mmA m) 39)
  have hbl := h.lt
  go_enter Try.func11, Try.ntmps11
  go_upto_region 1 with fail
  generalize World.alloc _ _ = w1 at *
  obtain ⟨P, hP⟩ : ∃ P, P = w.heap.size := ⟨_, rfl⟩
  rw [← hP] at hM ⊢
  have hPb : P ≠ b := by omega
  have hbP : b ≠ P := by omega
  clear h hP hbl
  have c3 := hT.far
  clear hM
  go_wp2_with fail
  go_ret2
  exact RinP.from (r := (_, [], 0)) hB ⟨hT, RowZ.nil _, fun k e => (by cases e), Kp.refl _ _⟩
theorem rin_late (h : RkAt w b x) (m : Mm) (hf : 0 < x.far) (hf3 : x.far ≠ 3) (hk : m.kind = 1) : Calls Try.prog 11 #[.pointer (some ⟨b, 0, none⟩), .agg (mmA m)] w fun e w' => RinP w b (x.over, [], 3) e w' := by
  have t3 : (x.far == 3) = false := beq_eq_false_iff_ne.2 (by omega)
  have t0 : decide ((0 : Int) < x.far) = true := by simpa using hf
  have e1 : (m.kind == 1) = true := by rw [hk]; rfl
  clear hf hf3 hk
  have hM := mm_new w m
  have hT : RkAt (w.alloc (.cells (mmA m) 39)) b x := h.on (below_box _ _)
  have hB := below_box w (.cells (mmA m) 39)
  have hbl := h.lt
  go_enter Try.func11, Try.ntmps11
  go_upto_region 1 with fail
  generalize World.alloc _ _ = w1 at *
  obtain ⟨P, hP⟩ : ∃ P, P = w.heap.size := ⟨_, rfl⟩
  rw [← hP] at hM ⊢
  have hPb : P ≠ b := by omega
  have hbP : b ≠ P := by omega
  clear h hP hbl
  have c3 := hT.far
  have f3 := hT.free 3
  have h3 := hT.setFar 3
  have hk3 := kp_set w1 b 3 (.int .i64 3)
  have m0 := hM.kind
  clear hM hT
  go_wp2_with fail
  go_ret2
  exact RinP.from (r := (_, [], 3)) hB ⟨h3, RowZ.nil _, fun k e => (by cases e), hk3⟩
theorem rin_self (h : RkAt w b x) (m : Mm) (hf : x.far = 0) (hk : m.kind = 1) (hs : m.nb = x.num ∨ m.ver < 31800) : Calls Try.prog 11 #[.pointer (some ⟨b, 0, none⟩), .agg (mmA m)] w fun e w' => RinP w b (x.over, [], 0) e w' := by
  have t3 : (x.far == 3) = false := by rw [hf]; rfl
  have t0 : decide ((0 : Int) < x.far) = false := by rw [hf]; rfl
  have e1 : (m.kind == 1) = true := by rw [hk]; rfl
  obtain ⟨g1, hg1⟩ : ∃ g1, (m.nb == x.num) = g1 := ⟨_, rfl⟩
  obtain ⟨g2, hg2⟩ : ∃ g2, decide (m.ver < 31800) = g2 := ⟨_, rfl⟩
  have hg : g1 = true ∨ g2 = true := hs.imp (fun h => by rw [← hg1, h]; simp) (fun h => by rw [← hg2]; simpa using h)
  clear hf hs hk
  have hM := mm_new w m
  have hT : RkAt (w.alloc (.cells (mmA m) 39)) b x := h.on (below_box _ _)
  have hB := below_box w (.cells (mmA m) 39)
  have hbl := h.lt
  go_enter Try.func11, Try.ntmps11
  go_upto_region 1 with fail
  generalize World.alloc _ _ = w1 at *
  obtain ⟨P, hP⟩ : ∃ P, P = w.heap.size := ⟨_, rfl⟩
  rw [← hP] at hM ⊢
  have hPb : P ≠ b := by omega
  have hbP : b ≠ P := by omega
  clear h hP hbl
  have c3 := hT.far
  have c1 := hT.num
  have m0 := hM.kind
  have m1 := hM.ver
  have m4 := hM.nb
  have hT2 : RkAt w1.drew b x := hT
  have hM2 : MmAt w1.drew P m := hM
  have hB2 : Below w.heap.size w w1.drew := hB.drew
  clear hT hM hB
  cases g1
  · obtain rfl : g2 = true := hg.resolve_left (by decide)
    clear hg
    go_wp2_with fail
    go_region
    clear c3 c1 m0 m1 m4
    generalize World.drew _ = w2 at *
    have c3 := hT2.far
    have f3 := hT2.free 3
    have h3 := hT2.setFar 3
    have hk3 := kp_set w2 b 3 (.int .i64 3)
    clear hT2 hM2
    go_wp2_with fail
    go_ret2
    exact RinP.from (r := (_, [], 0)) hB2 ⟨h3, RowZ.nil _, fun k e => (by cases e), hk3⟩
  · clear hg
    go_wp2_with fail
    go_region
    clear c3 c1 m0 m1 m4
    generalize World.drew _ = w2 at *
    have c3 := hT2.far
    have f3 := hT2.free 3
    have h3 := hT2.setFar 3
    have hk3 := kp_set w2 b 3 (.int .i64 3)
    clear hT2 hM2
    go_wp2_with fail
    go_ret2
    exact RinP.from (r := (_, [], 0)) hB2 ⟨h3, RowZ.nil _, fun k e => (by cases e), hk3⟩
theorem rin_meet (h : RkAt w b x) (m : Mm) (hf : x.far = 0) (hk : m.kind = 1) (h1 : m.nb ≠ x.num) (h2 : ¬ m.ver < 31800) : Calls Try.prog 11 #[.pointer (some ⟨b, 0, none⟩), .agg (mmA m)] w fun e w' => RinP w b ({ x with far := 1, hgt := m.height }, if x.inb = true then [x.hello, mo1 2 0] else [mo1 2 0], 0) e w' := by
  obtain ⟨g, hg⟩ : ∃ g, x.inb = g := ⟨_, rfl⟩
  rw [show (if x.inb = true then [x.hello, mo1 2 0] else [mo1 2 0]) = bif g then [x.hello, mo1 2 0] else [mo1 2 0] by rw [← hg]; cases x.inb <;> rfl]
  have t3 : (x.far == 3) = false := by rw [hf]; rfl
  have t0 : decide ((0 : Int) < x.far) = false := by rw [hf]; rfl
  have e1 : (m.kind == 1) = true := by rw [hk]; rfl
  have e2 : (m.nb == x.num) = false := beq_eq_false_iff_ne.2 h1
  have e3 : decide (m.ver < 31800) = false := by simpa using h2
  clear hf h1 h2 hk
  have hM := mm_new w m
  have hT : RkAt (w.alloc (.cells (mmA m) 39)) b x := h.on (below_box _ _)
  have hB := below_box w (.cells (mmA m) 39)
  have hbl := h.lt
  go_enter Try.func11, Try.ntmps11
  go_upto_region 1 with fail
  generalize World.alloc _ _ = w1 at *
  obtain ⟨P, hP⟩ : ∃ P, P = w.heap.size := ⟨_, rfl⟩
  rw [← hP] at hM ⊢
  have hPb : P ≠ b := by omega
  have hbP : b ≠ P := by omega
  clear h hP hbl
  have c3 := hT.far
  have c1 := hT.num
  have m0 := hM.kind
  have m1 := hM.ver
  have m4 := hM.nb
  have hT2 : RkAt w1.drew b x := hT
  have hM2 : MmAt w1.drew P m := hM
  have hB2 : Below w.heap.size w w1.drew := hB.drew
  clear hT hM hB
  go_wp2_with fail
  go_region
  clear c3 c1 m0 m1 m4
  generalize World.drew _ = w2 at *
  have c3 := hT2.far
  have c5 := hT2.hgt
  have f3 := hT2.free 3
  have f5 := hT2.free 5
  have m3 := hM2.height
  have hT3 := (hT2.setFar 1).setHgt m.height
  have hk := ((kp_set w2 b 3 (.int .i64 1)).and (kp_set _ b 5 (.int .i64 m.height)))
  clear hT2 hM2
  go_upto_region 12 with fail
  generalize World.setCell (World.setCell _ _ _) _ _ = w3 at *
  have c0 : w3.cell? ⟨b, 0, none⟩ = some (.bool g) := by rw [← hg]; exact hT3.inb
  clear c3 c5 f3 f5 m3 hg
  cases g
  · have hN : Has (w3.alloc (.cells #[.int .i64 2] 3)) w3.heap.size #[.int .i64 2] 3 := Has.new _ _
    have hb4 := below_box w3 (.cells #[.int .i64 2] 3)
    have hs1 : (Instr.buildSlice 45 1 #[(0, .int .i64 2)]).run Try.prog w3 = .ok (.slice (some ⟨w3.heap.size, 0, none⟩) 1 1) (w3.alloc (.cells #[.int .i64 2] 3)) := by kernel_rfl
    go_wp2_with fail
    go_ret2
    exact RinP.from (r := (_, [mo1 2 0], 0)) hB2 ⟨hT3.on hb4, rowz_made (l := [2]) hN (by decide), fun k e => by cases e; exact hk.size, hk.bel hb4⟩
  · have hN : Has (w3.alloc (.cells #[.int .i64 1, .int .i64 2] 3)) w3.heap.size #[.int .i64 1, .int .i64 2] 3 := Has.new _ _
    have hb4 := below_box w3 (.cells #[.int .i64 1, .int .i64 2] 3)
    have hs1 : (Instr.buildSlice 45 2 #[(0, .int .i64 1), (1, .int .i64 2)]).run Try.prog w3 = .ok (.slice (some ⟨w3.heap.size, 0, none⟩) 2 2) (w3.alloc (.cells #[.int .i64 1, .int .i64 2] 3)) := by kernel_rfl
    go_wp2_with fail
    go_ret2
    exact RinP.from (r := (_, [x.hello, mo1 2 0], 0)) hB2 ⟨hT3.on hb4, rowz_made (l := [1, 2]) hN (by decide), fun k e => by cases e; exact hk.size, hk.bel hb4⟩
theorem rin_agree (h : RkAt w b x) (m : Mm) (hf : x.far = 1) (hk : m.kind = 2) : Calls Try.prog 11 #[.pointer (some ⟨b, 0, none⟩), .agg (mmA m)] w fun e w' => RinP w b ({ x with far := 2 }, [mo1 8 0], 0) e w' := by
  have t3 : (x.far == 3) = false := by rw [hf]; rfl
  have t1 : (x.far == 1) = true := by rw [hf]; rfl
  have e1 : (m.kind == 1) = false := beq_eq_false_iff_ne.2 (by omega)
  have e2 : (m.kind == 2) = true := by rw [hk]; rfl
  clear hf hk
  have hM := mm_new w m
  have hT : RkAt (w.alloc (.cells (mmA m) 39)) b x := h.on (below_box _ _)
  have hB := below_box w (.cells (mmA m) 39)
  have hbl := h.lt
  go_enter Try.func11, Try.ntmps11
  go_upto_region 1 with fail
  generalize World.alloc _ _ = w1 at *
  obtain ⟨P, hP⟩ : ∃ P, P = w.heap.size := ⟨_, rfl⟩
  rw [← hP] at hM ⊢
  have hPb : P ≠ b := by omega
  have hbP : b ≠ P := by omega
  clear h hP hbl
  have m0 := hM.kind
  have c3 := hT.far
  have f3 := hT.free 3
  have h3 := hT.setFar 2
  have hk3 := kp_set w1 b 3 (.int .i64 2)
  clear hM hT
  go_upto_region 17 with fail
  generalize World.setCell _ _ _ = w3 at *
  have hN : Has (w3.alloc (.cells #[.int .i64 8] 3)) w3.heap.size #[.int .i64 8] 3 := Has.new _ _
  have hb4 := below_box w3 (.cells #[.int .i64 8] 3)
  have hs1 : (Instr.buildSlice 45 1 #[(0, .int .i64 8)]).run Try.prog w3 = .ok (.slice (some ⟨w3.heap.size, 0, none⟩) 1 1) (w3.alloc (.cells #[.int .i64 8] 3)) := by kernel_rfl
  go_wp2_with fail
  go_ret2
  exact RinP.from (r := (_, [mo1 8 0], 0)) hB ⟨h3.on hb4, rowz_made (l := [8]) hN (by decide), fun k e => by cases e; exact hk3.size, hk3.bel hb4⟩
theorem rin_two (h : RkAt w b x) (m : Mm) (hf : x.far ≠ 1) (hf3 : x.far ≠ 3) (hk : m.kind = 2) : Calls Try.prog 11 #[.pointer (some ⟨b, 0, none⟩), .agg (mmA m)] w fun e w' => RinP w b (x.over, [], 3) e w' := by
  have t3 : (x.far == 3) = false := beq_eq_false_iff_ne.2 (by omega)
  have t1 : (x.far == 1) = false := beq_eq_false_iff_ne.2 hf
  have e1 : (m.kind == 1) = false := beq_eq_false_iff_ne.2 (by omega)
  have e2 : (m.kind == 2) = true := by rw [hk]; rfl
  clear hf hf3 hk
  have hM := mm_new w m
  have hT : RkAt (w.alloc (.cells (mmA m) 39)) b x := h.on (below_box _ _)
  have hB := below_box w (.cells (mmA m) 39)
  have hbl := h.lt
  go_enter Try.func11, Try.ntmps11
  go_upto_region 1 with fail
  generalize World.alloc _ _ = w1 at *
  obtain ⟨P, hP⟩ : ∃ P, P = w.heap.size := ⟨_, rfl⟩
  rw [← hP] at hM ⊢
  have hPb : P ≠ b := by omega
  have hbP : b ≠ P := by omega
  clear h hP hbl
  have c3 := hT.far
  have f3 := hT.free 3
  have h3 := hT.setFar 3
  have hk3 := kp_set w1 b 3 (.int .i64 3)
  have m0 := hM.kind
  clear hM hT
  go_wp2_with fail
  go_ret2
  exact RinP.from (r := (_, [], 3)) hB ⟨h3, RowZ.nil _, fun k e => (by cases e), hk3⟩
theorem rin_early (h : RkAt w b x) (m : Mm) (hf : x.far < 2) (h1 : m.kind ≠ 1) (h2 : m.kind ≠ 2) : Calls Try.prog 11 #[.pointer (some ⟨b, 0, none⟩), .agg (mmA m)] w fun e w' => RinP w b (x.over, [], 3) e w' := by
  have t3 : (x.far == 3) = false := beq_eq_false_iff_ne.2 (by omega)
  have t2 : decide (x.far < 2) = true := by simpa using hf
  have e1 : (m.kind == 1) = false := beq_eq_false_iff_ne.2 (by omega)
  have e2 : (m.kind == 2) = false := beq_eq_false_iff_ne.2 (by omega)
  clear hf h1 h2
  have hM := mm_new w m
  have hT : RkAt (w.alloc (.cells (mmA m) 39)) b x := h.on (below_box _ _)
  have hB := below_box w (.cells (mmA m) 39)
  have hbl := h.lt
  go_enter Try.func11, Try.ntmps11
  go_upto_region 1 with fail
  generalize World.alloc _ _ = w1 at *
  obtain ⟨P, hP⟩ : ∃ P, P = w.heap.size := ⟨_, rfl⟩
  rw [← hP] at hM ⊢
  have hPb : P ≠ b := by omega
  have hbP : b ≠ P := by omega
  clear h hP hbl
  have c3 := hT.far
  have f3 := hT.free 3
  have h3 := hT.setFar 3
  have hk3 := kp_set w1 b 3 (.int .i64 3)
  have m0 := hM.kind
  clear hM hT
  go_wp2_with fail
  go_ret2
  exact RinP.from (r := (_, [], 3)) hB ⟨h3, RowZ.nil _, fun k e => (by cases e), hk3⟩
theorem rin_6 (h : RkAt w b x) (m : Mm) (hf : x.far = 2) (hk : m.kind = 6) : Calls Try.prog 11 #[.pointer (some ⟨b, 0, none⟩), .agg (mmA m)] w fun e w' => RinP w b (x, [mo1 7 m.nb], 0) e w' := by
  have t3 : (x.far == 3) = false := by rw [hf]; rfl
  have t2 : decide (x.far < 2) = false := by rw [hf]; rfl
  have e1 : (m.kind == 1) = false := beq_eq_false_iff_ne.2 (by omega)
  have e2 : (m.kind == 2) = false := beq_eq_false_iff_ne.2 (by omega)
  have e6 : (m.kind == 6) = true := by rw [hk]; rfl
  clear hf hk
  have hM := mm_new w m
  have hT : RkAt (w.alloc (.cells (mmA m) 39)) b x := h.on (below_box _ _)
  have hB := below_box w (.cells (mmA m) 39)
  have hbl := h.lt
  go_enter Try.func11, Try.ntmps11
  go_upto_region 1 with fail
  generalize World.alloc _ _ = w1 at *
  obtain ⟨P, hP⟩ : ∃ P, P = w.heap.size := ⟨_, rfl⟩
  rw [← hP] at hM ⊢
  have hPb : P ≠ b := by omega
  have hbP : b ≠ P := by omega
  clear h hP hbl
  have m0 := hM.kind
  have c3 := hT.far
  clear hM
  rename World => w3
  have hN : Has (w3.alloc (.cells #[.int .i64 7] 3)) w3.heap.size #[.int .i64 7] 3 := Has.new _ _
  have hb4 := below_box w3 (.cells #[.int .i64 7] 3)
  have hs1 : (Instr.buildSlice 45 1 #[(0, .int .i64 7)]).run Try.prog w3 = .ok (.slice (some ⟨w3.heap.size, 0, none⟩) 1 1) (w3.alloc (.cells #[.int .i64 7] 3)) := by kernel_rfl
  go_wp2_with fail
  go_ret2
  exact RinP.from (r := (_, [mo1 7 m.nb], 0)) hB ⟨hT.on hb4, rowz_made (l := [7]) hN (by decide), fun k e => by cases e; exact Nat.le_refl _, (Kp.refl _ _).bel hb4⟩
theorem rin_7no (h : RkAt w b x) (m : Mm) (hf : x.far = 2) (hk : m.kind = 7) (hn : x.ping = 0 ∨ m.nb ≠ x.ping) : Calls Try.prog 11 #[.pointer (some ⟨b, 0, none⟩), .agg (mmA m)] w fun e w' => RinP w b (x, [], 7) e w' := by
  have t3 : (x.far == 3) = false := by rw [hf]; rfl
  have t2 : decide (x.far < 2) = false := by rw [hf]; rfl
  have e1 : (m.kind == 1) = false := beq_eq_false_iff_ne.2 (by omega)
  have e2 : (m.kind == 2) = false := beq_eq_false_iff_ne.2 (by omega)
  have e6 : (m.kind == 6) = false := beq_eq_false_iff_ne.2 (by omega)
  have e7 : (m.kind == 7) = true := by rw [hk]; rfl
  obtain ⟨g1, hg1⟩ : ∃ g1, (x.ping == 0) = g1 := ⟨_, rfl⟩
  obtain ⟨g2, hg2⟩ : ∃ g2, (x.ping != m.nb) = g2 := ⟨_, rfl⟩
  have hg : g1 = true ∨ g2 = true := hn.imp (fun h => by rw [← hg1, h]; rfl) (fun h => by rw [← hg2]; exact bne_iff_ne.2 fun e => h e.symm)
  clear hf hk hn
  have hM := mm_new w m
  have hT : RkAt (w.alloc (.cells (mmA m) 39)) b x := h.on (below_box _ _)
  have hB := below_box w (.cells (mmA m) 39)
  have hbl := h.lt
  go_enter Try.func11, Try.ntmps11
  go_upto_region 1 with fail
  generalize World.alloc _ _ = w1 at *
  obtain ⟨P, hP⟩ : ∃ P, P = w.heap.size := ⟨_, rfl⟩
  rw [← hP] at hM ⊢
  have hPb : P ≠ b := by omega
  have hbP : b ≠ P := by omega
  clear h hP hbl
  have m0 := hM.kind
  have m4 := hM.nb
  have c3 := hT.far
  have c6 := hT.ping
  have hT2 : RkAt w1.drew b x := hT
  have hB2 : Below w.heap.size w w1.drew := hB.drew
  clear hT hM hB
  cases g1
  · obtain rfl : g2 = true := hg.resolve_left (by decide)
    clear hg
    go_wp2_with fail
    go_region
    clear c3 c6 m0 m4
    generalize World.drew _ = w2 at *
    go_wp2_with fail
    go_ret2
    exact RinP.from (r := (_, [], 7)) hB2 ⟨hT2, RowZ.nil _, fun k e => (by cases e), Kp.refl _ _⟩
  · clear hg
    go_wp2_with fail
    go_region
    clear c3 c6 m0 m4
    generalize World.drew _ = w2 at *
    go_wp2_with fail
    go_ret2
    exact RinP.from (r := (_, [], 7)) hB2 ⟨hT2, RowZ.nil _, fun k e => (by cases e), Kp.refl _ _⟩
theorem rin_7yes (h : RkAt w b x) (m : Mm) (hf : x.far = 2) (hk : m.kind = 7) (h0 : x.ping ≠ 0) (hn : m.nb = x.ping) : Calls Try.prog 11 #[.pointer (some ⟨b, 0, none⟩), .agg (mmA m)] w fun e w' => RinP w b ({ x with ping := 0 }, [], 0) e w' := by
  have t3 : (x.far == 3) = false := by rw [hf]; rfl
  have t2 : decide (x.far < 2) = false := by rw [hf]; rfl
  have e1 : (m.kind == 1) = false := beq_eq_false_iff_ne.2 (by omega)
  have e2 : (m.kind == 2) = false := beq_eq_false_iff_ne.2 (by omega)
  have e6 : (m.kind == 6) = false := beq_eq_false_iff_ne.2 (by omega)
  have e7 : (m.kind == 7) = true := by rw [hk]; rfl
  have g1 : (x.ping == 0) = false := beq_eq_false_iff_ne.2 h0
  have g2 : (x.ping != m.nb) = false := by rw [hn]; simp
  clear hf hk hn h0
  have hM := mm_new w m
  have hT : RkAt (w.alloc (.cells (mmA m) 39)) b x := h.on (below_box _ _)
  have hB := below_box w (.cells (mmA m) 39)
  have hbl := h.lt
  go_enter Try.func11, Try.ntmps11
  go_upto_region 1 with fail
  generalize World.alloc _ _ = w1 at *
  obtain ⟨P, hP⟩ : ∃ P, P = w.heap.size := ⟨_, rfl⟩
  rw [← hP] at hM ⊢
  have hPb : P ≠ b := by omega
  have hbP : b ≠ P := by omega
  clear h hP hbl
  have m0 := hM.kind
  have m4 := hM.nb
  have c3 := hT.far
  have c6 := hT.ping
  have hT2 : RkAt w1.drew b x := hT
  have hB2 : Below w.heap.size w w1.drew := hB.drew
  clear hT hM hB
  go_wp2_with fail
  go_region
  clear c3 c6 m0 m4
  generalize World.drew _ = w2 at *
  have c6 := hT2.ping
  have f6 := hT2.free 6
  have h3 := hT2.setPing 0
  have hk3 := kp_set w2 b 6 (.int .i64 0)
  clear hT2
  go_wp2_with fail
  go_ret2
  exact RinP.from (r := (_, [], 0)) hB2 ⟨h3, RowZ.nil _, fun k e => (by cases e), hk3⟩
theorem rin_8 (h : RkAt w b x) (m : Mm) (hf : x.far = 2) (hk : m.kind = 8) : Calls Try.prog 11 #[.pointer (some ⟨b, 0, none⟩), .agg (mmA m)] w fun e w' => RinP w b ({ x with dir := true }, [], 0) e w' := by
  have t3 : (x.far == 3) = false := by rw [hf]; rfl
  have t2 : decide (x.far < 2) = false := by rw [hf]; rfl
  have e1 : (m.kind == 1) = false := beq_eq_false_iff_ne.2 (by omega)
  have e2 : (m.kind == 2) = false := beq_eq_false_iff_ne.2 (by omega)
  have e6 : (m.kind == 6) = false := beq_eq_false_iff_ne.2 (by omega)
  have e7 : (m.kind == 7) = false := beq_eq_false_iff_ne.2 (by omega)
  have e8 : (m.kind == 8) = true := by rw [hk]; rfl
  clear hf hk
  have hM := mm_new w m
  have hT : RkAt (w.alloc (.cells (mmA m) 39)) b x := h.on (below_box _ _)
  have hB := below_box w (.cells (mmA m) 39)
  have hbl := h.lt
  go_enter Try.func11, Try.ntmps11
  go_upto_region 1 with fail
  generalize World.alloc _ _ = w1 at *
  obtain ⟨P, hP⟩ : ∃ P, P = w.heap.size := ⟨_, rfl⟩
  rw [← hP] at hM ⊢
  have hPb : P ≠ b := by omega
  have hbP : b ≠ P := by omega
  clear h hP hbl
  have m0 := hM.kind
  have c3 := hT.far
  have c4 := hT.dir
  have f4 := hT.free 4
  have h3 := hT.setDir true
  have hk3 := kp_set w1 b 4 (.bool true)
  clear hM hT
  go_wp2_with fail
  go_ret2
  exact RinP.from (r := (_, [], 0)) hB ⟨h3, RowZ.nil _, fun k e => (by cases e), hk3⟩
theorem rin_on (h : RkAt w b x) (m : Mm) (hf : x.far = 2) (h1 : m.kind ≠ 1) (h2 : m.kind ≠ 2) (h6 : m.kind ≠ 6) (h7 : m.kind ≠ 7) (h8 : m.kind ≠ 8) : Calls Try.prog 11 #[.pointer (some ⟨b, 0, none⟩), .agg (mmA m)] w fun e w' => RinP w b (x, [], 0) e w' := by
  have t3 : (x.far == 3) = false := by rw [hf]; rfl
  have t2 : decide (x.far < 2) = false := by rw [hf]; rfl
  have e1 : (m.kind == 1) = false := beq_eq_false_iff_ne.2 (by omega)
  have e2 : (m.kind == 2) = false := beq_eq_false_iff_ne.2 (by omega)
  have e6 : (m.kind == 6) = false := beq_eq_false_iff_ne.2 (by omega)
  have e7 : (m.kind == 7) = false := beq_eq_false_iff_ne.2 (by omega)
  have e8 : (m.kind == 8) = false := beq_eq_false_iff_ne.2 (by omega)
  clear hf h1 h2 h6 h7 h8
  have hM := mm_new w m
  have hT : RkAt (w.alloc (.cells (mmA m) 39)) b x := h.on (below_box _ _)
  have hB := below_box w (.cells (mmA m) 39)
  have hbl := h.lt
  go_enter Try.func11, Try.ntmps11
  go_upto_region 1 with fail
  generalize World.alloc _ _ = w1 at *
  obtain ⟨P, hP⟩ : ∃ P, P = w.heap.size := ⟨_, rfl⟩
  rw [← hP] at hM ⊢
  have hPb : P ≠ b := by omega
  have hbP : b ≠ P := by omega
  clear h hP hbl
  have m0 := hM.kind
  have c3 := hT.far
  clear hM
  go_wp2_with fail
  go_ret2
  exact RinP.from (r := (_, [], 0)) hB ⟨hT, RowZ.nil _, fun k e => (by cases e), Kp.refl _ _⟩
theorem rin_at (h : RkAt w b x) (hx : x.Ok) (m : Mm) : Calls Try.prog 11 #[.pointer (some ⟨b, 0, none⟩), .agg (mmA m)] w fun e w' => RinP w b (x.inn m) e w' := by
  have hfar := hx.far
  unfold Tk.inn Tk.meet Tk.agree Tk.hear
  by_cases hf : x.far = 3
  · rw [if_pos hf]; exact rin_gone h m hf
  rw [if_neg hf]
  by_cases h1 : m.kind = 1
  · rw [if_pos h1]
    by_cases h0 : x.far = 0
    · rw [if_neg (fun e => e h0)]
      by_cases hs : m.nb = x.num ∨ m.ver < 31800
      · rw [if_pos hs]; exact rin_self h m h0 h1 hs
      · rw [if_neg hs]; exact rin_meet h m h0 h1 (fun e => hs (.inl e)) (fun e => hs (.inr e))
    · rw [if_pos h0]; exact rin_late h m (by omega) hf h1
  rw [if_neg h1]
  by_cases h2 : m.kind = 2
  · rw [if_pos h2]
    by_cases hf1 : x.far = 1
    · rw [if_neg (fun e => e hf1)]; exact rin_agree h m hf1 h2
    · rw [if_pos hf1]; exact rin_two h m hf1 hf h2
  rw [if_neg h2]
  by_cases h22 : x.far ≠ 2
  · rw [if_pos h22]; exact rin_early h m (by omega) h1 h2
  rw [if_neg h22]
  replace h22 : x.far = 2 := Decidable.byContradiction h22
  by_cases h6 : m.kind = 6
  · rw [if_pos h6]; exact rin_6 h m h22 h6
  rw [if_neg h6]
  by_cases h7 : m.kind = 7
  · rw [if_pos h7]
    by_cases hn : x.ping = 0 ∨ m.nb ≠ x.ping
    · rw [if_pos hn]; exact rin_7no h m h22 h7 hn
    · rw [if_neg hn]; exact rin_7yes h m h22 h7 (fun e => hn (.inl e)) (Decidable.byContradiction fun e => hn (.inr e))
  rw [if_neg h7]
  by_cases h8 : m.kind = 8
  · rw [if_pos h8]; exact rin_8 h m h22 h8
  rw [if_neg h8]
  exact rin_on h m h22 h1 h2 h6 h7 h8
end
end Go.Proofs.Yteblphnpealefaa.An
/-
  Package shake's Open; the document's Ping and Tick; the laws' hello and alive.
-/
namespace Go.Proofs.Yteblphnpealefaa.An
open Go.RowKit Mem Sc Rg2
set_option maxRecDepth 100000
def Tk.new (ver serv tall num : Int) (inb : Bool) (now : Int) : Tk := ⟨ver, serv, tall, num, inb, 0, now, 0, false, 0, 0⟩
theorem Tk.new_ok (ver serv tall num : Int) (inb : Bool) (now : Int) : (Tk.new ver serv tall num inb now).Ok := ⟨.inl rfl, fun _ => rfl⟩
theorem Tk.inn_ok {x : Tk} (h : x.Ok) (m : Mm) : (x.inn m).1.Ok := by
  obtain ⟨h1, h2⟩ := h
  have hov : x.over.Ok := ⟨.inr (.inr (.inr rfl)), fun h => by cases h with | inl h => exact absurd h (by show (3 : Int) ≠ 0; decide) | inr h => exact absurd h (by show (3 : Int) ≠ 1; decide)⟩
  unfold Tk.inn Tk.meet Tk.agree Tk.hear
  repeat' split
  all_goals first
    | exact ⟨h1, h2⟩
    | exact hov
    | exact ⟨.inr (.inl rfl), fun _ => h2 (.inl (Decidable.byContradiction fun e => by contradiction))⟩
    | exact ⟨.inr (.inr (.inl rfl)), fun h => by cases h with | inl h => exact absurd h (by show (2 : Int) ≠ 0; decide) | inr h => exact absurd h (by show (2 : Int) ≠ 1; decide)⟩
    | exact ⟨h1, fun _ => rfl⟩
theorem Tk.over_ok {x : Tk} : x.over.Ok := ⟨.inr (.inr (.inr rfl)), fun h => by cases h with | inl h => exact absurd h (by show (3 : Int) ≠ 0; decide) | inr h => exact absurd h (by show (3 : Int) ≠ 1; decide)⟩
theorem Tk.tick_ok {x : Tk} (h : x.Ok) (now : Int) : (x.tick now).1.Ok := by
  unfold Tk.tick
  repeat' split
  all_goals first | exact h | exact Tk.over_ok
theorem Tk.ping_ok {x : Tk} (h : x.Ok) (n now : Int) (hp : x.pings n) : ({ x with ping := n, since := now } : Tk).Ok := ⟨h.far, fun hf => by
  have h1 : x.far = 0 ∨ x.far = 1 := hf
  have h2 := hp.1
  omega⟩
section
variable {w : World} {b : Nat} {x : Tk}
theorem rping_no (h : RkAt w b x) (n now : Int) (hn : ¬ x.pings n) : Calls Try.prog 13 #[.pointer (some ⟨b, 0, none⟩), .int .i64 n, .int .i64 now] w fun e w' => e = .returned (.bool false) ∧ w' = w := by
  have c3 := h.far
  have c6 := h.ping
  obtain ⟨g, hg⟩ : ∃ g, (x.far != 2) = g := ⟨_, rfl⟩
  obtain ⟨g9, hg9⟩ : ∃ g, (x.ping != 0) = g := ⟨_, rfl⟩
  obtain ⟨g1, hg1⟩ : ∃ g, decide (n ≤ 0) = g := ⟨_, rfl⟩
  obtain ⟨g2, hg2⟩ : ∃ g, decide ((72057594037927935 : Int) < n) = g := ⟨_, rfl⟩
  have hh : g = true ∨ g9 = true ∨ g1 = true ∨ g2 = true := by
    rw [← hg, ← hg9, ← hg1, ← hg2]
    simp only [bne_iff_ne, decide_eq_true_eq]
    unfold Tk.pings at hn
    omega
  clear h hn
  obtain rfl | rfl : g = true ∨ g = false := by cases g <;> simp
  · clear hh
    go_enter Try.func13, Try.ntmps13
    go_wp2_with fail
    go_ret
    exact ⟨rfl, rfl⟩
  obtain rfl | rfl : g9 = true ∨ g9 = false := by cases g9 <;> simp
  · clear hh
    go_enter Try.func13, Try.ntmps13
    go_wp2_with fail
    go_ret
    exact ⟨rfl, rfl⟩
  obtain rfl | rfl : g1 = true ∨ g1 = false := by cases g1 <;> simp
  · clear hh
    go_enter Try.func13, Try.ntmps13
    go_wp2_with fail
    go_ret
    exact ⟨rfl, rfl⟩
  obtain rfl : g2 = true := by simpa using hh
  clear hh
  go_enter Try.func13, Try.ntmps13
  go_wp2_with fail
  go_ret
  exact ⟨rfl, rfl⟩
theorem rping_yes (h : RkAt w b x) (n now : Int) (hn : x.pings n) : Calls Try.prog 13 #[.pointer (some ⟨b, 0, none⟩), .int .i64 n, .int .i64 now] w fun e w' => e = .returned (.bool true) ∧ RkAt w' b { x with ping := n, since := now } ∧ Kp (fun k => k = b) w w' := by
  obtain ⟨h1, h2, h3, h4⟩ := hn
  have g : (x.far != 2) = false := by rw [h1]; rfl
  have g9 : (x.ping != 0) = false := by rw [h2]; rfl
  have g1 : decide (n ≤ 0) = false := by simp; omega
  have g2 : decide ((72057594037927935 : Int) < n) = false := by simp; omega
  have c3 := h.far
  have c6 := h.ping
  have c7 := h.since
  have f6 := h.free 6
  have f7 := h.free 7
  have hT3 := (h.setPing n).setSince now
  have hk := ((kp_set w b 6 (.int .i64 n)).and (kp_set _ b 7 (.int .i64 now)))
  clear h1 h2 h3 h4 h
  go_enter Try.func13, Try.ntmps13
  go_wp2_with fail
  go_ret
  exact ⟨rfl, hT3, hk⟩
theorem rtick_at (h : RkAt w b x) (hx : x.Ok) (now : Int) : Calls Try.prog 15 #[.pointer (some ⟨b, 0, none⟩), .int .i64 now] w fun e w' => e = .returned (.bool (x.tick now).2) ∧ RkAt w' b (x.tick now).1 ∧ Kp (fun k => k = b) w w' := by
  obtain ⟨d1, hd1⟩ : ∃ d1, IntKind.i64.wrap (now - x.began) = d1 := ⟨_, rfl⟩
  obtain ⟨d2, hd2⟩ : ∃ d2, IntKind.i64.wrap (now - x.since) = d2 := ⟨_, rfl⟩
  obtain ⟨g1, hg1⟩ : ∃ g1, decide ((60 : Int) < d1) = g1 := ⟨_, rfl⟩
  obtain ⟨g2, hg2⟩ : ∃ g2, decide ((60 : Int) < d2) = g2 := ⟨_, rfl⟩
  have hL : x.late now = if x.far ≠ 2 then g1 else decide (x.ping ≠ 0) && g2 := by
    unfold Tk.late
    rw [hd1, hd2, hg1, hg2]
  unfold Tk.tick
  rw [hL]
  have c3 := h.far
  have c2 := h.began
  have c6 := h.ping
  have c7 := h.since
  have f3 := h.free 3
  have h3 : RkAt (w.setCell ⟨b, 3, none⟩ (.int .i64 3)) b x.over := h.setFar 3
  have hk3 := kp_set w b 3 (.int .i64 3)
  have n3 : (w.setCell ⟨b, 3, none⟩ (.int .i64 3)).cell? ⟨b, 3, none⟩ = some (.int .i64 3) := h3.far
  have hk0 := Kp.refl (fun k => k = b) w
  by_cases hf3 : x.far = 3
  · rw [if_pos hf3]
    have t2 : decide (x.far < 2) = false := by rw [hf3]; rfl
    have t3 : decide (x.far < 3) = false := by rw [hf3]; rfl
    have HT := Lib.hid h
    clear h hL hf3 h3 n3
    go_enter Try.func15, Try.ntmps15
    go_wp2_with fail
    go_ret
    exact ⟨rfl, HT.out, hk0⟩
  rw [if_neg hf3]
  have hfar := hx.far
  have t3 : decide (x.far < 3) = true := by simp; omega
  by_cases hf2 : x.far = 2
  · rw [if_neg (show ¬ (x.far ≠ 2) from fun e => e hf2)]
    have t2 : decide (x.far < 2) = false := by rw [hf2]; rfl
    by_cases h0 : x.ping = 0
    · rw [show decide (x.ping ≠ 0) = false by rw [h0]; rfl]
      have e6 : (x.ping != 0) = false := by rw [h0]; rfl
      have HT := Lib.hid h
      clear h hL hf3 hf2 h0 hfar h3 n3 hx
      rw [if_neg (by simp)]
      go_enter Try.func15, Try.ntmps15
      go_wp2_with fail
      go_ret
      exact ⟨rfl, HT.out, hk0⟩
    · rw [show decide (x.ping ≠ 0) = true by simpa using h0, Bool.true_and]
      have e6 : (x.ping != 0) = true := bne_iff_ne.2 h0
      have HT := Lib.hid h
      have HT3 := Lib.hid h3
      clear h hL hf3 hf2 h0 hfar h3 hx
      cases g2
      · rw [if_neg (by simp)]
        clear n3
        go_enter Try.func15, Try.ntmps15
        go_wp2_with fail
        go_ret
        exact ⟨rfl, HT.out, hk0⟩
      · rw [if_pos rfl]
        go_enter Try.func15, Try.ntmps15
        go_wp2_with fail
        go_ret
        exact ⟨rfl, HT3.out, hk3⟩
  · rw [if_pos (show x.far ≠ 2 from hf2)]
    have t2 : decide (x.far < 2) = true := by simp; omega
    have e6 : (x.ping != 0) = false := by rw [hx.calm (by omega)]; rfl
    have HT := Lib.hid h
    have HT3 := Lib.hid h3
    clear h hL hf3 hf2 hfar h3 hx
    cases g1
    · rw [if_neg (by simp)]
      clear n3
      go_enter Try.func15, Try.ntmps15
      go_wp2_with fail
      go_ret
      exact ⟨rfl, HT.out, hk0⟩
    · rw [if_pos rfl]
      go_enter Try.func15, Try.ntmps15
      go_wp2_with fail
      go_ret
      exact ⟨rfl, HT3.out, hk3⟩
end
/-- what Open leaves -/
def OpnP (w : World) (x : Tk) (l : List Mo) (e : Ending) (w' : World) : Prop :=
  ∃ b v, e = .returned (.tuple #[.pointer (some ⟨b, 0, none⟩), v]) ∧ w.heap.size ≤ b ∧ TkAt w' b x ∧ RowM w' v l ∧ (∀ k, v.ownBlock = some k → w.heap.size ≤ k ∧ k ≠ b) ∧ Below w.heap.size w w'
theorem open_in (ver serv tall num now : Int) (w : World) : Calls Try.prog 8 #[.agg #[.int .i64 ver, .int .i64 serv, .int .i64 tall, .int .i64 num], .bool true, .int .i64 now] w fun e w' => OpnP w (Tk.new ver serv tall num true now) [] e w' := by
  have hO : Has (w.alloc (.cells #[.int .i64 ver, .int .i64 serv, .int .i64 tall, .int .i64 num] 23)) w.heap.size #[.int .i64 ver, .int .i64 serv, .int .i64 tall, .int .i64 num] 23 := Has.new _ _
  have hB := below_box w (.cells #[.int .i64 ver, .int .i64 serv, .int .i64 tall, .int .i64 num] 23)
  go_enter Try.func8, Try.ntmps8
  go_upto_region 1 with fail
  generalize World.alloc _ _ = w1 at *
  obtain ⟨P, hP⟩ : ∃ P, P = w.heap.size := ⟨_, rfl⟩
  rw [← hP] at hO ⊢
  clear hP
  have c0 : w1.cell? ⟨P, 0, none⟩ = some (.int .i64 ver) := hO.cell 0
  have c1 : w1.cell? ⟨P, 1, none⟩ = some (.int .i64 serv) := hO.cell 1
  have c2 : w1.cell? ⟨P, 2, none⟩ = some (.int .i64 tall) := hO.cell 2
  have c3 : w1.cell? ⟨P, 3, none⟩ = some (.int .i64 num) := hO.cell 3
  have hN : TkAt (w1.alloc (.cells (tkC (Tk.new ver serv tall num true now)) 59)) w1.heap.size (Tk.new ver serv tall num true now) := Has.new _ _
  have hB2 := below_box w1 (.cells (tkC (Tk.new ver serv tall num true now)) 59)
  go_wp2_with fail
  go_ret2
  exact ⟨_, _, rfl, hB.size, hN, RowM.nil _, fun k e => (by cases e), hB.trans (hB2.mono hB.size)⟩
theorem open_out (ver serv tall num now : Int) (w : World) : Calls Try.prog 8 #[.agg #[.int .i64 ver, .int .i64 serv, .int .i64 tall, .int .i64 num], .bool false, .int .i64 now] w fun e w' => OpnP w (Tk.new ver serv tall num false now) [⟨1, ver, serv, tall, num⟩] e w' := by
  have hO : Has (w.alloc (.cells #[.int .i64 ver, .int .i64 serv, .int .i64 tall, .int .i64 num] 23)) w.heap.size #[.int .i64 ver, .int .i64 serv, .int .i64 tall, .int .i64 num] 23 := Has.new _ _
  have hB := below_box w (.cells #[.int .i64 ver, .int .i64 serv, .int .i64 tall, .int .i64 num] 23)
  go_enter Try.func8, Try.ntmps8
  go_upto_region 1 with fail
  generalize World.alloc _ _ = w1 at *
  obtain ⟨P, hP⟩ : ∃ P, P = w.heap.size := ⟨_, rfl⟩
  rw [← hP] at hO ⊢
  have hPl := hO.lt
  clear hP
  have c0 : w1.cell? ⟨P, 0, none⟩ = some (.int .i64 ver) := hO.cell 0
  have c1 : w1.cell? ⟨P, 1, none⟩ = some (.int .i64 serv) := hO.cell 1
  have c2 : w1.cell? ⟨P, 2, none⟩ = some (.int .i64 tall) := hO.cell 2
  have c3 : w1.cell? ⟨P, 3, none⟩ = some (.int .i64 num) := hO.cell 3
  have hN : TkAt (w1.alloc (.cells #[.int .i64 ver, .int .i64 serv, .int .i64 tall, .int .i64 num, .bool false, .int .i64 0, .int .i64 now, .int .i64 0, .bool false, .int .i64 0, .int .i64 0] 59)) w1.heap.size (Tk.new ver serv tall num false now) := Has.new _ _
  have hB2 := below_box w1 (.cells #[.int .i64 ver, .int .i64 serv, .int .i64 tall, .int .i64 num, .bool false, .int .i64 0, .int .i64 now, .int .i64 0, .bool false, .int .i64 0, .int .i64 0] 59)
  have hO2 : Has (w1.alloc (.cells #[.int .i64 ver, .int .i64 serv, .int .i64 tall, .int .i64 num, .bool false, .int .i64 0, .int .i64 now, .int .i64 0, .bool false, .int .i64 0, .int .i64 0] 59)) P #[.int .i64 ver, .int .i64 serv, .int .i64 tall, .int .i64 num] 23 := hO.alloc _
  go_upto_region 4 with fail
  obtain ⟨H, hH⟩ : ∃ H, H = w1.heap.size := ⟨_, rfl⟩
  have hHw : w.heap.size ≤ H := hH ▸ hB.size
  rw [← hH] at hN ⊢
  have hB3 := hB.trans (hB2.mono hB.size)
  clear hH c0 c1 c2 c3 hO hPl hB hB2
  generalize World.alloc _ _ = w2 at *
  have c0 : w2.cell? ⟨P, 0, none⟩ = some (.int .i64 ver) := hO2.cell 0
  have c1 : w2.cell? ⟨P, 1, none⟩ = some (.int .i64 serv) := hO2.cell 1
  have c2 : w2.cell? ⟨P, 2, none⟩ = some (.int .i64 tall) := hO2.cell 2
  have c3 : w2.cell? ⟨P, 3, none⟩ = some (.int .i64 num) := hO2.cell 3
  have K := Lib.hid (version_at (Tk.new ver serv tall num false now) w2)
  have hHl := hN.lt
  clear hO2
  go_wp2_with fail
  refine (K.out).mono ?_
  rintro e w3 ⟨rfl, hB4⟩
  have hN3 := hN.on hB4
  have hB5 := hB3.trans (hB4.mono hB3.size)
  have hHl3 := hN3.lt
  clear hN hB3
  go_wp2_with (first
    | ((with_reducible refine mo_slice1 rfl _ rfl (Tk.new ver serv tall num false now).hello rfl ?_); intro w4 g hr hg hB6; have h6 := hN3.on hB6))
  go_ret2
  exact ⟨_, _, rfl, hHw, h6, hr, fun k e => by cases e; exact ⟨Nat.le_trans hB5.size hg, Nat.ne_of_gt (Nat.lt_of_lt_of_le hHl3 hg)⟩, hB5.trans (hB6.mono hB5.size)⟩
theorem open_at (ver serv tall num now : Int) (g : Bool) (w : World) : Calls Try.prog 8 #[.agg #[.int .i64 ver, .int .i64 serv, .int .i64 tall, .int .i64 num], .bool g, .int .i64 now] w fun e w' => OpnP w (Tk.new ver serv tall num g now) (bif g then [] else [⟨1, ver, serv, tall, num⟩]) e w' := by
  cases g
  · exact open_out ver serv tall num now w
  · exact open_in ver serv tall num now w
/-- a message that we have told of ourselves is just that -/
theorem hello_at (x : Tk) (w : World) : Calls Try.prog 9 #[.agg (mmA x.hello.m), .agg #[.int .i64 x.ver, .int .i64 x.serv, .int .i64 x.tall, .int .i64 x.num]] w fun e w' => e = .returned (.bool true) ∧ Below w.heap.size w w' := by
  have hL : ∀ w, Lies w x.hello.m ⟨1, x.ver, x.serv, x.tall, x.num, [], z32, []⟩ := fun w => ⟨rfl, rfl, rfl, rfl, rfl, rfl, rfl, Nat.zero_le _, names_nil _ _, rfl, Nat.zero_le _, heads_nil _ _, ⟨by simp, z32_length, by simp⟩⟩
  have KS := Lib.hid (fun w => same8_at x.hello.m x.hello.m _ _ w (hL w) (hL w) true (by simp))
  have hM := mm_new w x.hello.m
  have hB := below_box w (.cells (mmA x.hello.m) 39)
  have hz : (mmA x.hello.m).size = 39 := mmA_size x.hello.ok
  have hb := mo_built 1 x.ver x.serv x.tall x.num
  have hy : (⟨1, x.ver, x.serv, x.tall, x.num⟩ : Mo) = x.hello := rfl
  rw [hy] at hb
  clear hL hy
  generalize x.hello = y at *
  have hM2 := hM.on (below_box _ (.cells #[.int .i64 x.ver, .int .i64 x.serv, .int .i64 x.tall, .int .i64 x.num] 23))
  have hO : Has ((w.alloc (.cells (mmA y.m) 39)).alloc (.cells #[.int .i64 x.ver, .int .i64 x.serv, .int .i64 x.tall, .int .i64 x.num] 23)) (w.heap.size + 1) #[.int .i64 x.ver, .int .i64 x.serv, .int .i64 x.tall, .int .i64 x.num] 23 := Has.new1 _ _ _
  have hB2 := hB.trans ((below_box _ (.cells #[.int .i64 x.ver, .int .i64 x.serv, .int .i64 x.tall, .int .i64 x.num] 23)).mono hB.size)
  clear hM hB
  go_enter Try.func9, Try.ntmps9
  go_upto_region 1 with fail
  generalize World.alloc _ _ = w1 at *
  obtain ⟨P, hP⟩ : ∃ P, P = w.heap.size := ⟨_, rfl⟩
  obtain ⟨R, hR⟩ : ∃ R, R = w.heap.size + 1 := ⟨_, rfl⟩
  rw [← hR] at hO ⊢
  rw [← hP] at hM2 ⊢
  have c0 : w1.cell? ⟨R, 0, none⟩ = some (.int .i64 x.ver) := hO.cell 0
  have c1 : w1.cell? ⟨R, 1, none⟩ = some (.int .i64 x.serv) := hO.cell 1
  have c2 : w1.cell? ⟨R, 2, none⟩ = some (.int .i64 x.tall) := hO.cell 2
  have c3 : w1.cell? ⟨R, 3, none⟩ = some (.int .i64 x.num) := hO.cell 3
  clear hO hP hR
  go_wp2_with (first
    | (with_reducible refine mm_load rfl _ rfl P rfl hM2 hz ?_)
    | (with_reducible refine mo_make rfl _ rfl _ (by with_unfolding_all rfl) _ hb ?_))
  refine (KS.out _).mono ?_
  rintro e w2 ⟨rfl, hB3⟩
  have hB4 := hB2.trans (hB3.mono hB2.size)
  clear hB2 hB3 hM2
  go_wp2_with fail
  go_ret
  exact ⟨rfl, hB4⟩
end Go.Proofs.Yteblphnpealefaa.An
