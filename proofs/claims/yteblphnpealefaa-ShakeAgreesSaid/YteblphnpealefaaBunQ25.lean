/-
  Texts of this seat, one behind the other.
-/
import Derived.Test.YteblphnpealefaaBunQ24
import Derived.Deep.Upon
/-
  A row of messages, wherever in its block it begins: taken from, one by one; appended to.
-/
namespace Go.Proofs.Yteblphnpealefaa.An
open Go.RowKit Mem Sc Rg2
set_option maxRecDepth 100000
theorem msg_zero : ((Try.prog.info? 39).bind (·.zero)).map (·.cells.size) = some 39 := by kernel_rfl
theorem msg_bytes : (Try.prog.info? 39).map (fun i => decide (i.bytes ≤ 1000000)) = some true := by kernel_rfl
theorem msg_info : ∃ i z, Try.prog.info? 39 = some i ∧ i.zero = some z ∧ i.size = 39 ∧ i.bytes ≤ 1000000 ∧ z.cells.size = 39 := by
  have h1 := mminfo
  have h2 := msg_zero
  have h3 := msg_bytes
  cases hi : Try.prog.info? 39 with
  | none => rw [hi] at h1; cases h1
  | some i =>
    rw [hi] at h1 h2 h3
    simp only [Option.map_some, Option.some.injEq, Option.bind_some] at h1 h2 h3
    cases hz : i.zero with
    | none => rw [hz] at h2; cases h2
    | some z =>
      rw [hz] at h2
      simp only [Option.map_some, Option.some.injEq] at h2
      exact ⟨i, z, rfl, hz, h1, of_decide_eq_true h3, h2⟩
theorem kp_setCells (w : World) (b o : Nat) (vs : List Value) : Kp (fun k => k = b) w (w.setCells b o vs) := by
  obtain ⟨h1, h2, h3, h4⟩ := setCells_rest b vs o w
  exact ⟨h1, h2, h3, by rw [h4]; exact Nat.le_refl _, fun k _ hn => setCells_other b k hn vs o w⟩
/-- the block of a slice that has room -/
def qb : Value → Option Nat
  | .slice (some a) _ (_ + 1) => some a.block
  | _ => none
theorem qb_some {a : Addr} {n c k : Nat} (h : qb (.slice (some a) n c) = some k) : 0 < c ∧ a.block = k := by
  cases c with
  | zero => cases h
  | succ c => exact ⟨Nat.succ_pos _, Option.some.inj h⟩
theorem qb_none {n c : Nat} : qb (.slice none n c) = none := by cases c <;> rfl
/-- a row of messages at an address -/
def RowQ (w : World) (v : Value) (l : List Mo) : Prop :=
  ∃ p c, v = .slice p l.length c ∧ l.length ≤ c ∧ (0 < c → ∃ b off, p = some ⟨b, off, none⟩ ∧ (∀ j, j < c * 39 → (w.cell? ⟨b, off + j, none⟩).isSome = true ∧ w.frozen? ⟨b, off + j, none⟩ = false) ∧ ∀ j u, (mosC l)[j]? = some u → w.cell? ⟨b, off + j, none⟩ = some u)
theorem RowM.q {w : World} {v : Value} {l : List Mo} (h : RowM w v l) : RowQ w v l := by
  rcases h.2 with ⟨rfl, h0⟩ | ⟨g, c, cur, rfl, _, hg, h3, h4, h5, h6⟩
  · exact ⟨none, 0, by rw [h0], by omega, fun h => absurd h (Nat.lt_irrefl _)⟩
  · have hH : Has w g cur 39 := hg
    refine ⟨_, c, rfl, h3, fun _ => ⟨g, 0, rfl, fun j hj => ?_, fun j u hu => ?_⟩⟩
    · rw [Nat.zero_add, hH.cell j]
      exact ⟨by rw [Array.getElem?_eq_getElem (by omega)]; rfl, hH.free j⟩
    · rw [← h6, List.getElem?_take] at hu
      split at hu
      · rw [Nat.zero_add, hH.cell j, ← Array.getElem?_toList]
        exact hu
      · cases hu
theorem cell_lt {w : World} {b o : Nat} (h : (w.cell? ⟨b, o, none⟩).isSome = true) : b < w.heap.size := by
  obtain ⟨u, hu⟩ := Option.isSome_iff_exists.1 h
  exact World.block_lt_of_cell? _ _ hu
theorem RowQ.lt {w : World} {v : Value} {l : List Mo} (h : RowQ w v l) {k : Nat} (hk : qb v = some k) : k < w.heap.size := by
  obtain ⟨p, c, rfl, hc, hx⟩ := h
  cases p with
  | none => rw [qb_none] at hk; cases hk
  | some a =>
    obtain ⟨h0, h1⟩ := qb_some hk
    obtain ⟨b, off, e, h2, _⟩ := hx h0
    cases e
    rw [← h1]
    exact cell_lt (h2 0 (by omega)).1
theorem RowQ.keep {w w' : World} {v : Value} {l : List Mo} (h : RowQ w v l) (hb : ∀ k, qb v = some k → w'.heap[k]? = w.heap[k]?) : RowQ w' v l := by
  obtain ⟨p, c, rfl, hc, hx⟩ := h
  refine ⟨p, c, rfl, hc, fun h0 => ?_⟩
  obtain ⟨b, off, rfl, h2, h3⟩ := hx h0
  have e := hb b (by cases c with | zero => exact absurd h0 (Nat.lt_irrefl _) | succ c => rfl)
  refine ⟨b, off, rfl, fun j hj => ⟨?_, ?_⟩, fun j u hu => ?_⟩
  · rw [World.cell?_of_block (a := ⟨b, off + j, none⟩) e]; exact (h2 j hj).1
  · rw [World.frozen?_of_block (a := ⟨b, off + j, none⟩) e]; exact (h2 j hj).2
  · rw [World.cell?_of_block (a := ⟨b, off + j, none⟩) e]; exact h3 j u hu
/-- the first one, and what is left -/
theorem RowQ.first {w : World} {v : Value} {m : Mo} {r : List Mo} (h : RowQ w v (m :: r)) : ∃ b off c, v = .slice (some ⟨b, off, none⟩) (r.length + 1) c ∧ r.length + 1 ≤ c ∧ w.rangeAt b off (mmC m.m) ∧
    ∃ p', (∀ w' : World, (Instr.sliceAt 27 (.slice (some ⟨b, off, none⟩) (r.length + 1) c) (some (.int .i64 1)) none none).run Try.prog w' = .ok (.slice p' r.length (c - 1)) w') ∧ RowQ w (.slice p' r.length (c - 1)) r ∧ ∀ k, qb (.slice p' r.length (c - 1)) = some k → qb v = some k := by
  obtain ⟨p, c, rfl, hc, hx⟩ := h
  have hc1 : r.length + 1 ≤ c := hc
  obtain ⟨b, off, rfl, h2, h3⟩ := hx (by omega)
  have hml : (mmC m.m).length = 39 := mmC_length m.ok
  refine ⟨b, off, c, rfl, hc1, fun j u hu => h3 j u (by
    show (mmC m.m ++ mosC r)[j]? = some u
    rw [List.getElem?_append_left (List.getElem?_eq_some_iff.1 hu).1]
    exact hu), if c = 1 then some ⟨b, off, none⟩ else some ⟨b, off + 39, none⟩, fun w' => ?_, ⟨_, c - 1, rfl, by omega, fun h0 => ⟨b, off + 39, by rw [if_neg (by omega)], fun j hj => ?_, fun j u hu => ?_⟩⟩, fun k hk => ?_⟩
  · rw [run_sliceAt_slice w' 27 _ _ _ _ (by kernel_rfl), run_slice_l w' 27 (some ⟨b, off, none⟩) (r.length + 1) c (by kernel_rfl) .i64 1 (by omega) (by omega)]
    rw [show Try.prog.elem 27 = 39 by kernel_rfl]
    simp [sliced, Try.sizeOf39, Addr.add]
  · have := h2 (39 + j) (by omega)
    rw [← Nat.add_assoc] at this
    exact this
  · have := h3 (39 + j) u (by
      show (mmC m.m ++ mosC r)[39 + j]? = some u
      rw [List.getElem?_append_right (by omega), hml, Nat.add_sub_cancel_left]
      exact hu)
    rw [← Nat.add_assoc] at this
    exact this
  · by_cases h1 : c = 1
    · subst h1
      rw [if_pos rfl] at hk
      cases hk
    · rw [if_neg h1] at hk
      obtain ⟨_, e⟩ := qb_some hk
      rw [← e]
      cases c with
      | zero => omega
      | succ c => rfl
/-- append -/
theorem run_app {w : World} {v : Value} {l : List Mo} (h : RowQ w v l) {u : Value} {out : List Mo} (ho : RowM w u out) (hn : l.length + out.length ≤ 1000) (ty : TypeId) :
    ∃ v' w', (Builtin.append_ #[27, 27] ty #[v, u]).run Try.prog w = .ok v' w' ∧ RowQ w' v' (l ++ out) ∧ Kp (fun k => qb v = some k) w w' ∧ ∀ k, qb v' = some k → qb v = some k ∨ k = w.heap.size := by
  obtain ⟨i, z, hi, hz, e1, e2, e3⟩ := msg_info
  have hs : Src Try.prog 39 27 u out.length (mosC out) w := by
    rcases ho.2 with ⟨rfl, h0⟩ | ⟨g, c, cur, rfl, _, hg, h3, h4, h5, h6⟩
    · obtain rfl := List.eq_nil_of_length_eq_zero h0
      exact Src.ofNil w Try.underlying27 0
    · have hH : Has w g cur 39 := hg
      refine Src.ofSlice w Try.underlying27 ⟨g, 0, none⟩ out.length c _ (mosC_length _) (fun j u hu => ?_) (mosC_one _)
      rw [← h6, List.getElem?_take] at hu
      split at hu
      · rw [Addr.add_lit, Nat.zero_add, hH.cell j, ← Array.getElem?_toList]
        exact hu
      · cases hu
  have hol := mosC_length out
  have hll := mosC_length l
  rw [← e1] at hs
  obtain ⟨p, c, rfl, hlc, hx⟩ := h
  by_cases hr : l.length + out.length ≤ c
  · by_cases h0 : c = 0
    · subst h0
      obtain rfl : l = [] := List.eq_nil_of_length_eq_zero (by omega)
      obtain rfl : out = [] := List.eq_nil_of_length_eq_zero (by omega)
      refine ⟨_, w, run_append_nothing (P := Try.prog) w 27 27 ty 39 i Try.underlying27 hi p 0 0 (Nat.le_refl _) u hs, ⟨p, 0, rfl, Nat.le_refl _, fun h => absurd h (Nat.lt_irrefl _)⟩, Kp.refl _ _, fun k hk => .inl hk⟩
    · obtain ⟨b, off, rfl, h2, h3⟩ := hx (by omega)
      have hsome : ∀ j, j < (mosC out).length → (w.cell? ⟨b, off + l.length * i.size + j, none⟩).isSome = true ∧ w.frozen? ⟨b, off + l.length * i.size + j, none⟩ = false := fun j hj => by
        rw [e1, Nat.add_assoc]
        exact h2 _ (by omega)
      have hrun := run_append_room_src (P := Try.prog) w 27 27 ty 39 i Try.underlying27 hi b off l.length c u out.length (mosC out) hs hr (fun j hj => (hsome j hj).1) (fun j hj => (hsome j hj).2)
      rw [e1] at hrun hsome
      refine ⟨_, _, hrun, ⟨_, c, by rw [List.length_append], by rw [List.length_append]; exact hr, fun hc0 => ⟨b, off, rfl, fun j hj => ⟨?_, (World.frozen?_setCells b _ _ _ _).trans (h2 j hj).2⟩, fun j q hq => ?_⟩⟩, (kp_setCells w b _ _).mono fun k hk _ => ?_, fun k hk => .inl ?_⟩
      · by_cases hin : l.length * 39 ≤ j ∧ j < l.length * 39 + (mosC out).length
        · have := World.cell?_setCells_in b (mosC out) (off + l.length * 39) w (fun j hj => (hsome j hj).1) (j - l.length * 39) (by omega)
          rw [show off + l.length * 39 + (j - l.length * 39) = off + j by omega] at this
          rw [this]; rfl
        · rw [World.cell?_setCells_out b _ _ _ _ (fun _ _ => by show off + j < off + l.length * 39 ∨ off + l.length * 39 + (mosC out).length ≤ off + j; omega)]
          exact (h2 j hj).1
      · rw [mosC_app] at hq
        by_cases hj : j < l.length * 39
        · rw [List.getElem?_append_left (by omega)] at hq
          rw [World.cell?_setCells_out b _ _ _ _ (fun _ _ => .inl (by show off + j < off + l.length * 39; omega))]
          exact h3 j q hq
        · rw [List.getElem?_append_right (by omega), hll] at hq
          have hjl := (List.getElem?_eq_some_iff.1 hq).1
          have := World.cell?_setCells_in b (mosC out) (off + l.length * 39) w (fun j hj => (hsome j hj).1) (j - l.length * 39) hjl
          rw [show off + l.length * 39 + (j - l.length * 39) = off + j by omega] at this
          rw [this, ← hq, List.getElem?_eq_getElem hjl]
      · subst hk
        cases c with
        | zero => exact absurd rfl h0
        | succ c => rfl
      · obtain ⟨_, e⟩ := qb_some hk
        rw [← e]
        cases c with
        | zero => exact absurd rfl h0
        | succ c => rfl
  · have hold : (Builtin.firstCells i.size l.length (.slice p l.length c)).run Try.prog w.drew = .ok (mosC l).toArray w.drew := by
      by_cases h0 : c = 0
      · subst h0
        obtain rfl : l = [] := List.eq_nil_of_length_eq_zero (by omega)
        cases p with
        | none => exact run_firstCells_none w.drew i.size 0 0 0
        | some a' => exact run_firstCells_some w.drew i.size 0 a' 0 0 [] (by simp) (by intro _ _ h'; simp at h')
      · obtain ⟨b, off, rfl, h2, h3⟩ := hx (by omega)
        refine run_firstCells_some w.drew i.size l.length ⟨b, off, none⟩ l.length c (mosC l) (by rw [hll, e1]) (fun j q hq => ?_)
        rw [Addr.add_lit]
        exact h3 j q hq
    have hrun := run_append_grow_src (P := Try.prog) w 27 27 ty 39 i z Try.underlying27 hi hz p l.length c (mosC l) hold u out.length (mosC out) hs (by omega) (by omega) (growslice_fits (by omega) (by
      have := Nat.mul_le_mul hn e2
      omega))
    have hge := grownCap_ge w (l.length + out.length) c 39
    have hB : Kp (fun k => qb (.slice p l.length c) = some k) w (w.drew.alloc (.cells (((mosC l) ++ (mosC out)).toArray ++ Builtin.zeroCells z.cells (grownCap w (l.length + out.length) c 39 - (l.length + out.length))) 39)) :=
      Kp.of (((Below.refl w.heap.size w).drew).alloc (Nat.le_refl _) _)
    refine ⟨_, _, hrun, ⟨_, _, by rw [List.length_append], by rw [List.length_append]; exact hge, fun _ => ⟨w.heap.size, 0, rfl, fun j hj => ⟨?_, World.frozen?_alloc_new w.drew _ _ _⟩, fun j q hq => ?_⟩⟩, hB, fun k hk => .inr ?_⟩
    · have e9 : (w.drew.alloc (.cells (((mosC l) ++ (mosC out)).toArray ++ Builtin.zeroCells z.cells (grownCap w (l.length + out.length) c 39 - (l.length + out.length))) 39)).cell? ⟨w.heap.size, 0 + j, none⟩ = _ := World.cell?_alloc_new w.drew _ _ (0 + j)
      rw [e9, Nat.zero_add, Array.getElem?_eq_getElem (by
        rw [Array.size_append, List.size_toArray, List.length_append, hll, hol, size_zeroCells, e3]
        have : (l.length + out.length) * 39 + (grownCap w (l.length + out.length) c 39 - (l.length + out.length)) * 39 = grownCap w (l.length + out.length) c 39 * 39 := by rw [← Nat.add_mul]; congr 1; omega
        omega)]
      rfl
    · have e9 : (w.drew.alloc (.cells (((mosC l) ++ (mosC out)).toArray ++ Builtin.zeroCells z.cells (grownCap w (l.length + out.length) c 39 - (l.length + out.length))) 39)).cell? ⟨w.heap.size, 0 + j, none⟩ = _ := World.cell?_alloc_new w.drew _ _ (0 + j)
      rw [mosC_app] at hq
      rw [e9, Nat.zero_add, Array.getElem?_append_left (by rw [List.size_toArray]; exact (List.getElem?_eq_some_iff.1 hq).1), List.getElem?_toArray]
      exact hq
    · obtain ⟨_, e⟩ := qb_some hk
      exact e.symm
end Go.Proofs.Yteblphnpealefaa.An
/-
  Two talks with one another: what each says in which order; what stands while messages go to and fro.
-/
namespace Go.Proofs.Yteblphnpealefaa.An
open Go.RowKit Mem Sc Rg2
set_option maxRecDepth 100000
/-! ### how far each is -/
def ats (x : Tk) (t : Int) : Nat → Tk
  | 0 => x
  | 1 => { x with far := 1, hgt := t }
  | 2 => { x with far := 2, hgt := t }
  | _ => { x with far := 2, hgt := t, dir := true }
def sx : Nat → Nat
  | 0 => 0
  | 1 => 2
  | _ => 3
def sy : Nat → Nat
  | 0 => 1
  | 1 => 2
  | _ => 3
def tells (x : Tk) : List Mo := [x.hello, mo1 2 0, mo1 8 0]
/-- what is on its way to the one that began, when it has heard i and the other one j -/
def qx (y : Tk) (i j : Nat) : List Mo := ((tells y).take (sx j)).drop i
def qy (x : Tk) (i j : Nat) : List Mo := ((tells x).take (sy i)).drop j
theorem inn_hello {x y : Tk} (h0 : x.far = 0) (hn : y.num ≠ x.num) (hv : ¬ y.ver < 31800) (t : Int) : (ats x t 0).inn y.hello.m = (ats x y.tall 1, if x.inb = true then [x.hello, mo1 2 0] else [mo1 2 0], 0) := by
  have h3 : ¬ x.far = 3 := by omega
  show x.inn y.hello.m = _
  unfold Tk.inn
  rw [if_neg h3, if_pos (show y.hello.m.kind = 1 from rfl)]
  unfold Tk.meet
  rw [if_neg (fun e => e h0), if_neg (show ¬ (y.hello.m.nb = x.num ∨ y.hello.m.ver < 31800) from fun h => h.elim hn hv)]
  rfl
theorem inn_two (x : Tk) (t : Int) : (ats x t 1).inn (mo1 2 0).m = (ats x t 2, [mo1 8 0], 0) := rfl
theorem inn_three (x : Tk) (t : Int) : (ats x t 2).inn (mo1 8 0).m = (ats x t 3, [], 0) := rfl
theorem inn_pong {x : Tk} (hf : x.far = 2) {n : Int} (h0 : n ≠ 0) (hp : x.ping = n) : x.inn (mo1 7 n).m = ({ x with ping := 0 }, [], 0) := by
  unfold Tk.inn
  rw [if_neg (by omega), if_neg (show ¬ (mo1 7 n).m.kind = 1 from fun h => absurd (show (7 : Int) = 1 from h) (by decide)), if_neg (show ¬ (mo1 7 n).m.kind = 2 from fun h => absurd (show (7 : Int) = 2 from h) (by decide)), if_neg (fun h => h hf)]
  unfold Tk.hear
  rw [if_neg (show ¬ (mo1 7 n).m.kind = 6 from fun h => absurd (show (7 : Int) = 6 from h) (by decide)), if_pos (show (mo1 7 n).m.kind = 7 from rfl), if_neg (show ¬ (x.ping = 0 ∨ (mo1 7 n).m.nb ≠ x.ping) from fun h => h.elim (fun e => h0 (hp.symm.trans e)) (fun e => e (show n = x.ping from hp.symm)))]
theorem late_calm {x : Tk} (hf : x.far = 2) (hp : x.ping = 0) (now : Int) : x.late now = false := by
  unfold Tk.late
  rw [if_neg (fun h => h hf), hp]
  rfl
theorem step_y {x y : Tk} (h0 : y.far = 0) (hi : y.inb = true) (hn : x.num ≠ y.num) (hv : ¬ x.ver < 31800) {i j : Nat} (hj : j ≤ 3) (h1 : i ≤ sx j) (h2 : j ≤ sy i) (hq : qy x i j ≠ []) :
    ∃ m out, qy x i j = m :: qy x i (j + 1) ∧ (ats y x.tall j).inn m.m = (ats y x.tall (j + 1), out, 0) ∧ qx y i j ++ out = qx y i (j + 1) ∧ j + 1 ≤ 3 ∧ i ≤ sx (j + 1) ∧ j + 1 ≤ sy i := by
  have e0 := inn_hello h0 hn hv x.tall
  rw [if_pos hi] at e0
  match j, hj with
  | 0, _ =>
    obtain rfl : i = 0 := by have : i ≤ 0 := h1; omega
    exact ⟨x.hello, _, rfl, e0, rfl, by decide, by decide, by decide⟩
  | 1, _ =>
    match i, (show i ≤ 2 from h1) with
    | 0, _ => exact absurd rfl hq
    | 1, _ => exact ⟨mo1 2 0, _, rfl, inn_two y x.tall, rfl, by decide, by decide, by decide⟩
    | 2, _ => exact ⟨mo1 2 0, _, rfl, inn_two y x.tall, rfl, by decide, by decide, by decide⟩
  | 2, _ =>
    match i, (show i ≤ 3 from h1) with
    | 0, _ => exact absurd rfl hq
    | 1, _ => exact absurd rfl hq
    | 2, _ => exact ⟨mo1 8 0, _, rfl, inn_three y x.tall, rfl, by decide, by decide, by decide⟩
    | 3, _ => exact ⟨mo1 8 0, _, rfl, inn_three y x.tall, rfl, by decide, by decide, by decide⟩
  | 3, _ =>
    match i, (show i ≤ 3 from h1) with
    | 0, _ => exact absurd rfl hq
    | 1, _ => exact absurd rfl hq
    | 2, _ => exact absurd rfl hq
    | 3, _ => exact absurd rfl hq
theorem step_x {x y : Tk} (h0 : x.far = 0) (hi : x.inb = false) (hn : x.num ≠ y.num) (hv : ¬ y.ver < 31800) {i j : Nat} (hi3 : i ≤ 3) (h1 : i ≤ sx j) (h2 : j ≤ sy i) (hq : qx y i j ≠ []) :
    ∃ m out, qx y i j = m :: qx y (i + 1) j ∧ (ats x y.tall i).inn m.m = (ats x y.tall (i + 1), out, 0) ∧ qy x i j ++ out = qy x (i + 1) j ∧ i + 1 ≤ 3 ∧ i + 1 ≤ sx j ∧ j ≤ sy (i + 1) := by
  have e0 := inn_hello (x := x) (y := y) h0 (fun e => hn e.symm) hv y.tall
  rw [if_neg (by rw [hi]; decide)] at e0
  match i, hi3 with
  | 0, _ =>
    match j, (show j ≤ 1 from h2) with
    | 0, _ => exact absurd rfl hq
    | 1, _ => exact ⟨y.hello, _, rfl, e0, rfl, by decide, by decide, by decide⟩
  | 1, _ =>
    match j, (show j ≤ 2 from h2) with
    | 0, _ => exact absurd rfl hq
    | 1, _ => exact ⟨mo1 2 0, _, rfl, inn_two x y.tall, rfl, by decide, by decide, by decide⟩
    | 2, _ => exact ⟨mo1 2 0, _, rfl, inn_two x y.tall, rfl, by decide, by decide, by decide⟩
  | 2, _ =>
    match j, (show j ≤ 3 from h2) with
    | 0, _ => exact absurd rfl hq
    | 1, _ => exact absurd rfl hq
    | 2, _ => exact ⟨mo1 8 0, _, rfl, inn_three x y.tall, rfl, by decide, by decide, by decide⟩
    | 3, _ => exact ⟨mo1 8 0, _, rfl, inn_three x y.tall, rfl, by decide, by decide, by decide⟩
  | 3, _ =>
    match j, (show j ≤ 3 from h2) with
    | 0, _ => exact absurd rfl hq
    | 1, _ => exact absurd rfl hq
    | 2, _ => exact absurd rfl hq
    | 3, _ => exact absurd rfl hq
theorem step_end {x y : Tk} {i j : Nat} (hi3 : i ≤ 3) (hj3 : j ≤ 3) (h1 : i ≤ sx j) (h2 : j ≤ sy i) (hx : qx y i j = []) (hy : qy x i j = []) : i = 3 ∧ j = 3 := by
  match i, hi3 with
  | 0, _ =>
    match j, (show j ≤ 1 from h2) with
    | 0, _ => cases hy
    | 1, _ => cases hx
  | 1, _ =>
    match j, (show j ≤ 2 from h2) with
    | 0, _ => exact absurd (show 1 ≤ 0 from h1) (by decide)
    | 1, _ => cases hx
    | 2, _ => cases hx
  | 2, _ =>
    match j, (show j ≤ 3 from h2) with
    | 0, _ => exact absurd (show 2 ≤ 0 from h1) (by decide)
    | 1, _ => cases hy
    | 2, _ => cases hx
    | 3, _ => cases hx
  | 3, _ =>
    match j, (show j ≤ 3 from h2) with
    | 0, _ => exact absurd (show 3 ≤ 0 from h1) (by decide)
    | 1, _ => exact absurd (show 3 ≤ 2 from h1) (by decide)
    | 2, _ => cases hy
    | 3, _ => exact ⟨rfl, rfl⟩
theorem qx_few (y : Tk) (i j : Nat) : (qx y i j).length ≤ 3 := by
  unfold qx
  rw [List.length_drop, List.length_take]
  have : (tells y).length = 3 := rfl
  omega
theorem qy_few (x : Tk) (i j : Nat) : (qy x i j).length ≤ 3 := by
  unfold qy
  rw [List.length_drop, List.length_take]
  have : (tells x).length = 3 := rfl
  omega
/-! ### in memory -/
structure Ag (W w : World) (bx bz : Nat) (x z : Tk) (vx vz : Value) (lx lz : List Mo) : Prop where
  tx : TkAt w bx x
  tz : TkAt w bz z
  rx : RowQ w vx lx
  rz : RowQ w vz lz
  ax : ∀ k, qb vx = some k → W.heap.size ≤ k ∧ k ≠ bx ∧ k ≠ bz ∧ qb vz ≠ some k
  az : ∀ k, qb vz = some k → W.heap.size ≤ k ∧ k ≠ bx ∧ k ≠ bz
  ne : bx ≠ bz
  wx : W.heap.size ≤ bx
  wz : W.heap.size ≤ bz
  bel : Below W.heap.size W w
section
variable {W w w' : World} {bx bz : Nat} {x z : Tk} {vx vz : Value} {lx lz : List Mo}
theorem Ag.swap (h : Ag W w bx bz x z vx vz lx lz) : Ag W w bz bx z x vz vx lz lx :=
  ⟨h.tz, h.tx, h.rz, h.rx, fun k hk => ⟨(h.az k hk).1, (h.az k hk).2.2, (h.az k hk).2.1, fun e => (h.ax k e).2.2.2 hk⟩, fun k hk => ⟨(h.ax k hk).1, (h.ax k hk).2.2.1, (h.ax k hk).2.1⟩, h.ne.symm, h.wz, h.wx, h.bel⟩
theorem Ag.inZ (h : Ag W w bx bz x z vx vz lx lz) (m : Mm) (ho : m.ok) (z' : Tk) (out : List Mo) (f : Int) (hi : z.inn m = (z', out, f)) : Calls Try.prog 10 #[.pointer (some ⟨bz, 0, none⟩), .agg (mmA m)] w fun e w' => ∃ u, e = .returned (.tuple #[u, .int .i64 f]) ∧ Ag W w' bx bz x z' vx vz lx lz ∧ RowM w' u out := by
  refine (in_at h.tz m ho).mono ?_
  rw [hi]
  rintro e w' ⟨u, rfl, ht, hr, _, hk⟩
  exact ⟨u, rfl, ⟨hk.has h.tx h.ne, ht, h.rx.keep fun k e => hk.block k (h.rx.lt e) (h.ax k e).2.2.1, h.rz.keep fun k e => hk.block k (h.rz.lt e) (h.az k e).2.2, h.ax, h.az, h.ne, h.wx, h.wz, h.bel.trans (hk.below (fun i hi => by rw [hi]; exact h.wz) h.bel.size)⟩, hr⟩
theorem Ag.cutZ {r : List Mo} {v' : Value} (h : Ag W w bx bz x z vx vz lx lz) (hr : RowQ w v' r) (hk : ∀ k, qb v' = some k → qb vz = some k) : Ag W w bx bz x z vx v' lx r :=
  ⟨h.tx, h.tz, h.rx, hr, fun k e => ⟨(h.ax k e).1, (h.ax k e).2.1, (h.ax k e).2.2.1, fun e2 => (h.ax k e).2.2.2 (hk k e2)⟩, fun k e => h.az k (hk k e), h.ne, h.wx, h.wz, h.bel⟩
theorem Ag.appX {v' : Value} {l' : List Mo} (h : Ag W w bx bz x z vx vz lx lz) (hr : RowQ w' v' l') (hk : Kp (fun k => qb vx = some k) w w') (hn : ∀ k, qb v' = some k → qb vx = some k ∨ k = w.heap.size) : Ag W w' bx bz x z v' vz l' lz :=
  ⟨hk.has h.tx (fun e => (h.ax bx e).2.1 rfl), hk.has h.tz (fun e => (h.ax bz e).2.2.1 rfl), hr, h.rz.keep fun k e => hk.block k (h.rz.lt e) (fun e2 => (h.ax k e2).2.2.2 e), fun k e => by
    rcases hn k e with e2 | rfl
    · exact h.ax k e2
    · exact ⟨h.bel.size, Nat.ne_of_gt h.tx.lt, Nat.ne_of_gt h.tz.lt, fun e2 => absurd (h.rz.lt e2) (Nat.lt_irrefl _)⟩, h.az, h.ne, h.wx, h.wz, h.bel.trans (hk.below (fun i hi => (h.ax i hi).1) h.bel.size)⟩
end
theorem app_op {w : World} {ops : Array Oper} {rest : List Oper} {o : Oper} {a : Act} {Q : Exit → Act → World → Prop} (hgd : o.guard = none) (s x : Operand) (ho : o.op = .call { callee := .builtin .append, args := #[s, x], argTypes := #[27, 27] })
    (v : Value) (l : List Mo) (hs : a.eval s = v) (hv : RowQ w v l) (u : Value) (out : List Mo) (hx : a.eval x = u) (hu : RowM w u out) (hn : l.length + out.length ≤ 1000)
    (h : ∀ v' w', RowQ w' v' (l ++ out) → Kp (fun k => qb v = some k) w w' → (∀ k, qb v' = some k → qb v = some k ∨ k = w.heap.size) → wpList Try.prog ops Q rest (a.put o.dst v') w') : wpList Try.prog ops Q (o :: rest) a w := by
  refine wpList_plain hgd fun K hK => ?_
  obtain ⟨v', w', hr, h2, h3, h4⟩ := run_app hv hu hn o.type
  unfold Oper.wp execOp
  simp only [ho, resolve, invoke, builtin, Sem.run_bind, Sem.run_pure, Result.andThen_ok, List.map_toArray, List.map_cons, List.map_nil, hs, hx, hr]
  exact hK _ _ (h v' w' h2 h3 h4)
end Go.Proofs.Yteblphnpealefaa.An
