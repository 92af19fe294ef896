/-
  Texts of this seat, one behind the other.
-/
import Derived.Test.YtomegahohiijcaaDoorBunQ22
import Derived.Test.YtomegahohiijcaaDoorZPgOpen
import Derived.Maps.AppendAt
/-
  PledgeDoes: a book and a row of bits side by side; a call of the script in its box.
-/
namespace Go.Proofs.YtomegahohiijcaaDoor.An
open Go.RowKit Mem Sc NN.Rg2
open Pg (Pl pbit gv Ws)
set_option maxRecDepth 100000
/-- what a call of the book, or an append to the row, leaves: all blocks but theirs -/
structure DStep (w w' : World) (b : Nat) (v v' u u' : Value) : Prop where
  os : w'.os = w.os
  tape : w'.tape = w.tape
  output : w'.output = w.output
  size : w.heap.size ≤ w'.heap.size
  block : ∀ k, k < w.heap.size → k ≠ b → v.ownBlock ≠ some k → u.ownBlock ≠ some k → w'.heap[k]? = w.heap[k]?
  lv : ∀ k, v'.ownBlock = some k → v.ownBlock = some k ∨ w.heap.size ≤ k
  lu : ∀ k, u'.ownBlock = some k → u.ownBlock = some k ∨ w.heap.size ≤ k
variable {w w1 w2 w' : World} {b : Nat} {v v1 v' u u1 u' : Value} {x : Pl} {bs cs : List Bool} {m : Nat}
theorem DStep.pen (h : PenStep w w' b v v') (u : Value) : DStep w w' b v v' u u := ⟨h.os, h.tape, h.output, h.size, fun k hk h1 h2 _ => h.block k hk h1 h2, h.lies, fun _ h => .inl h⟩
theorem DStep.mem (h : Below w.heap.size w w') (b : Nat) (v u : Value) : DStep w w' b v v u u := ⟨h.os, h.tape, h.output, h.size, fun k hk _ _ _ => h.block k hk, fun _ h => .inl h, fun _ h => .inl h⟩
theorem DStep.row (h : w.grownBy w' u.ownBlock) (hu : u'.ownBlock = u.ownBlock ∨ u'.ownBlock = some w.heap.size) (b : Nat) (v : Value) : DStep w w' b v v u u' :=
  ⟨h.os, h.tape, h.output, h.size, fun k hk _ _ h3 => h.block k hk (fun e => h3 e.symm), fun _ h => .inl h, fun k hk => by
    rcases hu with e | e
    · exact .inl (e ▸ hk)
    · rw [e] at hk
      exact .inr (by rw [Option.some.inj hk]; exact Nat.le_refl _)⟩
theorem DStep.trans (h : DStep w w1 b v v1 u u1) (h2 : DStep w1 w2 b v1 v' u1 u') : DStep w w2 b v v' u u' :=
  ⟨h2.os.trans h.os, h2.tape.trans h.tape, h2.output.trans h.output, Nat.le_trans h.size h2.size,
    fun k hk hb hv hu => (h2.block k (Nat.lt_of_lt_of_le hk h.size) hb (fun e => by
      rcases h.lv k e with e | e
      · exact hv e
      · omega) (fun e => by
      rcases h.lu k e with e | e
      · exact hu e
      · omega)).trans (h.block k hk hb hv hu),
    fun k hk => by
      rcases h2.lv k hk with e | e
      · exact h.lv k e
      · exact .inr (Nat.le_trans h.size e),
    fun k hk => by
      rcases h2.lu k hk with e | e
      · exact h.lu k e
      · exact .inr (Nat.le_trans h.size e)⟩
/-- the book, the row of bits -/
structure DS (w : World) (b : Nat) (v u : Value) (x : Pl) (bs : List Bool) (m : Nat) (cs : List Bool) : Prop where
  book : BookAt w b v x bs m
  row : w.ownsRow (b + 1) 4 1 u cs.length (cs.map Value.bool)
  apart : ∀ k, v.ownBlock = some k → u.ownBlock ≠ some k
theorem DS.uLt (h : DS w b v u x bs m cs) {k : Nat} (hk : u.ownBlock = some k) : b + 1 ≤ k ∧ k < w.heap.size := h.row.lt k hk
theorem DS.below (h : DS w b v u x bs m cs) (hb : Below w.heap.size w w') : DS w' b v u x bs m cs :=
  ⟨h.book.below hb, h.row.kept (gb_below hb none) (by cases hv : u.ownBlock <;> simp), h.apart⟩
theorem DS.pen (h : DS w b v u x bs m cs) (hs : PenStep w w' b v v') {bs' : List Bool} {m' : Nat} (hB : BookAt w' b v' x bs' m') : DS w' b v' u x bs' m' cs := by
  refine ⟨hB, ?_, fun k hk e => ?_⟩
  · rcases h.row.2 with ⟨rfl, e⟩ | ⟨g, cap, cur, rfl, hb, hg, hc, hm, hcs, ht⟩
    · exact ⟨h.row.1, .inl ⟨rfl, e⟩⟩
    · have hk : g < w.heap.size := (h.uLt (k := g) rfl).2
      exact ⟨h.row.1, .inr ⟨g, cap, cur, rfl, hb, (hs.block g hk (by omega) (fun e => h.apart g e rfl)).trans hg, hc, hm, hcs, ht⟩⟩
  · rcases hs.lies k hk with e2 | e2
    · exact h.apart k e2 e
    · have := (h.uLt e).2; omega
theorem DStep.toBelow (h : DStep w w' b v v' u u') (hd : DS w b v u x bs m cs) : Below b w w' :=
  ⟨h.os, h.tape, h.output, h.size, fun k hk => h.block k (by have := hd.book.lt; omega) (by omega) (fun e => by have := (hd.book.ownLt e).1; omega) (fun e => by have := (hd.uLt e).1; omega)⟩
/-- a box beside them -/
theorem DStep.has (h : DStep w w' b v v' u u') {g : Nat} {xs : Array Value} {T : TypeId} (hg : Has w g xs T) (h1 : g ≠ b) (h2 : v.ownBlock ≠ some g) (h3 : u.ownBlock ≠ some g) : Has w' g xs T := (h.block g hg.lt h1 h2 h3).trans hg
theorem BookAt.row_kept (h : BookAt w b v x bs m) {r : Option Nat} (hg : w.grownBy w' r) (h1 : r ≠ some b) (h2 : ∀ k, v.ownBlock = some k → r ≠ some k) : BookAt w' b v x bs m := by
  obtain ⟨ws, ho, hw⟩ := h.own
  refine ⟨gb_has hg h.cell (fun e => h1 e.symm), ⟨ws, ?_, hw⟩, h.good, h.met, h.few⟩
  rcases ho.2 with ⟨rfl, e⟩ | ⟨k, cap, cur, rfl, hb, hgk, hc, hm, hcs, ht⟩
  · exact ⟨ho.1, .inl ⟨rfl, e⟩⟩
  · exact ⟨ho.1, .inr ⟨k, cap, cur, rfl, hb, (hg.block k (h.ownLt (k := k) rfl).2 (fun e => h2 k rfl e.symm)).trans hgk, hc, hm, hcs, ht⟩⟩
theorem bool_info5 : ∃ i z, Tryd.prog.info? 4 = some i ∧ i.zero = some z ∧ i.size = 1 ∧ i.bytes = 1 ∧ z.cells.size = 1 := by
  have h := bool_info
  obtain ⟨i, hi, hzz⟩ := Option.map_eq_some_iff.1 h
  simp only [Prod.mk.injEq] at hzz
  exact ⟨i, _, hi, hzz.1, hzz.2.1, hzz.2.2, rfl⟩
theorem append_bool {ops : Array Oper} {rest : List Oper} {o : Oper} {a : Act} {Q : Exit → Act → World → Prop} (hgd : o.guard = none) (s y : Operand) (ho : o.op = .call { callee := .builtin .append, args := #[s, y], argTypes := #[41, 41] }) (base : Nat) (u : Value) (n : Nat) (l : List Bool) (hs : a.eval s = u) (hown : w.ownsRow base 4 1 u n (l.map Value.bool))
    (g : Nat) (z : Bool) (hx : a.eval y = .slice (some ⟨g, 0, none⟩) 1 1) (hz : w.cell? ⟨g, 0, none⟩ = some (.bool z)) (hn : n ≤ 1048576) (hb : base ≤ w.heap.size)
    (h : ∀ u' w', w'.ownsRow base 4 1 u' (n + 1) ((l ++ [z]).map Value.bool) → w.grownBy w' u.ownBlock → (u'.ownBlock = u.ownBlock ∨ u'.ownBlock = some w.heap.size) → wpList Tryd.prog ops Q rest (a.put o.dst u') w') : wpList Tryd.prog ops Q (o :: rest) a w := by
  obtain ⟨i, y', hi, hzz, h1, h2, h3⟩ := bool_info5
  refine wpList_append_own_at (P := Tryd.prog) w hgd s y 41 ho base 4 i y' 1 1 Tryd.underlying41 hi hzz h1 h2 h3 (by decide) u n _ hs hown ⟨g, 0, none⟩ 1 1 [.bool z] hx rfl (fun j t hj => ?_) (fun t ht => ?_) (by unfold maxLen; omega) (by omega) hb (fun v' w' g1 g2 _ g4 => h v' w' (by rw [List.map_append]; exact g1) g2 g4)
  · match j, hj with
    | 0, hj => rw [Addr.add_lit, Nat.zero_add, hz]; exact hj
    | j + 1, hj => simp at hj
  · obtain rfl : t = .bool z := by simpa using ht
    rfl
/-- a row of bits, as a slice -/
theorem bits_slice (h : w.ownsRow (b + 1) 4 1 u cs.length (cs.map Value.bool)) : ∃ a c, u = .slice a cs.length c ∧ ∀ j (hj : j < cs.length), ∃ g, a = some ⟨g, 0, none⟩ ∧ g < w.heap.size ∧ w.cell? ⟨g, j, none⟩ = some (.bool cs[j]) := by
  rcases h.2 with ⟨rfl, e⟩ | ⟨g, cap, cur, rfl, hb, hg, hc, hm, hcs, ht⟩
  · exact ⟨none, 0, by rw [e], fun j hj => by omega⟩
  · have hH : Has w g cur 4 := hg
    refine ⟨_, cap, rfl, fun j hj => ⟨g, rfl, hH.lt, ?_⟩⟩
    have e : cur[j]? = (cs.map Value.bool)[j]? := by rw [← ht, List.getElem?_take_of_lt (by omega), Array.getElem?_toList]
    rw [hH.cell j, e]
    simp [hj]
/-! ### a call in its box -/
def clA (y : Cl) : Array Value := (clC y).toArray
def ClAt (w : World) (g : Nat) (y : Cl) : Prop := Has w g (clA y) 40
theorem ClAt.kind {y : Cl} {g : Nat} (h : ClAt w g y) : w.cell? ⟨g, 0, none⟩ = some (.int .i64 y.kind) := Has.cell h 0
theorem ClAt.ht {y : Cl} {g : Nat} (h : ClAt w g y) : w.cell? ⟨g, 1, none⟩ = some (.int .i64 y.ht) := Has.cell h 1
theorem ClAt.names {y : Cl} {g : Nat} (h : ClAt w g y) : w.cell? ⟨g, 2, none⟩ = some (.slice y.na y.nn y.nc) := Has.cell h 2
theorem clinfo : (Tryd.prog.info? 40).map (·.size) = some 3 := by kernel_rfl
theorem cl_one (y : Cl) : (clA y).all (·.oneCell') = true := by
  rw [Array.all_eq_true_iff_forall_mem]
  intro v hv
  simp only [clA, clC, List.mem_toArray, List.mem_cons, List.not_mem_nil, or_false] at hv
  rcases hv with rfl | rfl | rfl <;> rfl
section
variable {ops : Array Oper} {rest : List Oper} {o : Oper} {a : Act} {Q : Exit → Act → World → Prop}
theorem cl_load_mid (hgd : o.guard = none) (s : Operand) (ho : o.op = .load 40 s) (g off : Nat) (hx : a.eval s = .pointer (some ⟨g, off, none⟩)) (y : Cl) (hg : w.rangeAt g off (clC y))
    (h : wpList Tryd.prog ops Q rest (a.put o.dst (.agg (clA y))) w) : wpList Tryd.prog ops Q (o :: rest) a w :=
  wpList_load_mid hgd 40 s ho g off hx (clC y) _ hg Tryd.underlying40 rfl clinfo h
theorem cl_store (hgd : o.guard = none) (s t : Operand) (ho : o.op = .store 40 s t) (g : Nat) (y : Cl) (hx : a.eval s = .pointer (some ⟨g, 0, none⟩)) (hy : a.eval t = .agg (clA y)) (cs : Array Value) (hg : Has w g cs 40) (hs : cs.size = 3)
    (h : wpList Tryd.prog ops Q rest (a.put o.dst undef) (w.setRow g (clA y))) : wpList Tryd.prog ops Q (o :: rest) a w :=
  wpList_store_row hgd 40 s t ho g (clA y) hx hy 40 cs hg.out clinfo hs (cl_one y) h
end
end Go.Proofs.YtomegahohiijcaaDoor.An
/-
  PledgeDoes: the walk.
-/
namespace Go.Proofs.YtomegahohiijcaaDoor.An
open Go.RowKit Mem Sc NN.Rg2
open Pg (Pl pbit gv Ws)
set_option maxRecDepth 100000
theorem cl_new (w : World) (y : Cl) : ClAt ((w.alloc (.cells #[.int .i64 0, .int .i64 0, .slice none 0 0] 40)).setRow w.heap.size (clA y)) w.heap.size y := (Has.new (w := w) #[.int .i64 0, .int .i64 0, .slice none 0 0] 40).row _
/-- a call that isn't too large -/
def okC (y : Cl) : Prop := y.nn ≤ 10 ∧ y.ht ≤ 1099511627776 ∧ -1099511627776 ≤ y.ht
set_option maxHeartbeats 16000000 in
theorem pdoes_long (x : Pl) (a : Option Addr) (n c : Nat) (h1 : 30 < n) (w : World) (hT : Tab w) :
    Calls Tryd.prog 4 #[.agg (plA x), .slice a n c] w fun e w' => e = .returned (.bool true) ∧ Below w.heap.size w w' := by
  have KA := Lib.hid (fun w' hT => alive18 w' hT)
  have HT : Hid (∀ w', Below w.heap.size w w' → Tab w') := Lib.hid fun w' hb => hT.below hb
  clear hT
  have t1 : decide ((30 : Int) < (n : Int)) = true := decide_eq_true (by omega)
  go_enter Tryd.func4, Tryd.ntmps4
  go_upto_region 1 with fail
  generalize hw0 : World.alloc _ _ = v0
  have hB : Below w.heap.size w v0 := by rw [← hw0]; exact (Below.refl _ _).alloc (Nat.le_refl _) _
  have hP : PlAt v0 w.heap.size x := by rw [← hw0]; exact Has.new _ _
  have hlt := Has.lt hP
  clear hw0
  obtain ⟨bP, hbP⟩ : ∃ b, b = w.heap.size := ⟨_, rfl⟩
  rw [← hbP] at hP hlt ⊢
  have HBP := Lib.hid hbP
  clear hbP
  go_wp2_with fail
  refine (KA.out _ (HT.out _ hB)).mono ?_
  rintro r v1 ⟨rfl, hb⟩
  have hP1 := hP.on hb (by omega)
  replace hB := hB.trans (hb.mono hB.size)
  clear hb hP KA hlt
  clear hP1
  go_wp2_with fail
  go_ret
  exact ⟨rfl, hB⟩
set_option maxHeartbeats 16000000 in
theorem pdoes_main (x : Pl) (a : Option Addr) (l : List Cl) (n c : Nat) (hn : n = l.length) (h1 : n ≤ 30) (w : World) (hT : Tab w) (hA : CallsAt w a l) :
    Calls Tryd.prog 4 #[.agg (plA x), .slice a n c] w fun e w' => e = .returned (.bool true) ∧ Below w.heap.size w w' := by
  have KA := Lib.hid (fun w' hT => alive18 w' hT)
  have HT : Hid (∀ w', Below w.heap.size w w' → Tab w') := Lib.hid fun w' hb => hT.below hb
  clear hT
  have t1 : decide ((30 : Int) < (n : Int)) = false := decide_eq_false (by omega)
  have HN := Lib.hid hn
  have HA := Lib.hid hA
  clear hn hA
  go_enter Tryd.func4, Tryd.ntmps4
  go_upto_region 1 with fail
  generalize hw0 : World.alloc _ _ = v0
  have hB : Below w.heap.size w v0 := by rw [← hw0]; exact (Below.refl _ _).alloc (Nat.le_refl _) _
  have hP : PlAt v0 w.heap.size x := by rw [← hw0]; exact Has.new _ _
  have hlt := Has.lt hP
  clear hw0
  obtain ⟨bP, hbP⟩ : ∃ b, b = w.heap.size := ⟨_, rfl⟩
  rw [← hbP] at hP hlt ⊢
  have HBP := Lib.hid hbP
  clear hbP
  go_wp2_with fail
  refine (KA.out _ (HT.out _ hB)).mono ?_
  rintro r v1 ⟨rfl, hb⟩
  have hP1 := hP.on hb (by omega)
  replace hB := hB.trans (hb.mono hB.size)
  clear hb hP KA hlt
  have HB1 := Lib.hid hB
  have HP1 := Lib.hid hP1
  clear hB hP1
  go_wp2_with fail
  clear t1
  go_loopw [29] (fun i wr => ∃ k : Nat, k ≤ n ∧ i = .int .i64 (k : Int) ∧ Below v1.heap.size v1 wr ∧ Hid (∀ j (hj : j < l.length), j < k → okC l[j])) (fun i _ => n - (intOf i).toNat)
  case atStart => exact ⟨0, Nat.zero_le _, rfl, Below.refl _ _, Lib.hid fun j hj h => by omega⟩
  case round =>
    obtain ⟨k, hk, rfl, hb1, HOK⟩ := hrel
    have hB := HB1.out.trans (hb1.mono HB1.out.size)
    by_cases hlt : k < n
    · have hkl : k < l.length := by rw [← HN.out]; exact hlt
      obtain ⟨ab, ao, rfl, habl, hcc⟩ := HA.out.below hB (by omega)
      obtain ⟨hok, hr⟩ := hcc k hkl
      have HOK2 : okC l[k] → Hid (∀ j (hj : j < l.length), j < k + 1 → okC l[j]) := fun ho => Lib.hid fun j hj h => by
        by_cases e : j < k
        · exact HOK.out j hj e
        · obtain rfl : j = k := by omega
          exact ho
      generalize l[k] = y at *
      have hnew : Has (wr.alloc (.cells #[.int .i64 0, .int .i64 0, .slice none 0 0] 40)) wr.heap.size #[.int .i64 0, .int .i64 0, .slice none 0 0] 40 := Has.new _ _
      go_upto_region 8 with (first
        | (with_reducible refine cl_load_mid rfl _ rfl ab (ao + k * 3) rfl y hr ?_)
        | (with_reducible refine cl_store rfl _ _ rfl _ y rfl rfl _ hnew rfl ?_))
      have hC3 := cl_new wr y
      have hB3 : Below wr.heap.size wr ((wr.alloc (.cells #[.int .i64 0, .int .i64 0, .slice none 0 0] 40)).setRow wr.heap.size (clA y)) := below_setRow ((Below.refl _ _).alloc (Nat.le_refl _) _) (Nat.le_refl _) _
      generalize World.setRow _ _ _ = w3 at *
      clear hnew hr hcc
      obtain ⟨bC, hbC⟩ : ∃ bC, bC = wr.heap.size := ⟨_, rfl⟩
      rw [← hbC] at hC3 ⊢
      have c1 := hC3.ht
      have c2 := hC3.names
      replace hB := hB.trans (hB3.mono hB.size)
      have hb3 := hb1.trans (hB3.mono hb1.size)
      clear hB3 hb1 hbC hC3
      obtain ⟨g1, hg1⟩ : ∃ g, decide ((10 : Int) < (y.nn : Int)) = g := ⟨_, rfl⟩
      obtain ⟨g2, hg2⟩ : ∃ g, decide ((1099511627776 : Int) < y.ht) = g := ⟨_, rfl⟩
      obtain ⟨g3, hg3⟩ : ∃ g, decide (y.ht < (-1099511627776 : Int)) = g := ⟨_, rfl⟩
      cases g1
      · cases g2
        · cases g3
          · have HO := HOK2 (by simp only [decide_eq_false_iff_not] at hg1 hg2 hg3; exact ⟨by omega, by omega, by omega⟩)
            clear HOK2
            go_wp2_with fail
            go_roundw
            case rel => exact ⟨k + 1, by omega, by go_num, hb3, HO⟩
            case measure => simp [intOf]; omega
          · clear HOK2
            go_wp2_with fail
            go_ret
            exact ⟨rfl, hB⟩
        · clear HOK2
          go_wp2_with fail
          go_ret
          exact ⟨rfl, hB⟩
      · clear HOK2
        go_wp2_with fail
        go_ret
        exact ⟨rfl, hB⟩
    · obtain rfl : k = n := by omega
      have HOK2 : Hid (∀ j (hj : j < l.length), okC l[j]) := Lib.hid fun j hj => HOK.out j hj (by rw [HN.out]; exact hj)
      have hP2 := HP1.out.on hb1 (Has.lt HP1.out)
      have hR := hP2.range
      clear HOK hb1 HP1 HB1
      cases hg : x.good with
      | false =>
        have KN := Lib.hid (new_no x hg wr)
        clear hg
        go_wp2_with (with_reducible refine pl_load_mid rfl _ rfl bP rfl x hR ?_)
        refine (KN.out).mono ?_
        rintro r v2 ⟨rfl, hb⟩
        replace hB := hB.trans (hb.mono hB.size)
        clear hb hP2 hR KN
        go_wp2_with fail
        go_ret
        exact ⟨rfl, hB⟩
      | true =>
        have KN := Lib.hid (new_yes x hg wr)
        clear hg
        go_wp2_with (with_reducible refine pl_load_mid rfl _ rfl bP rfl x hR ?_)
        refine (KN.out).mono ?_
        rintro r v2 ⟨b, rfl, hbb, hK, hb⟩
        have hP3 := hP2.on hb (Has.lt hP2)
        have hbP : bP < b := Nat.lt_of_lt_of_le (Has.lt hP2) hbb
        have hwb : w.heap.size ≤ b := Nat.le_trans hB.size hbb
        replace hB := hB.trans (hb.mono hB.size)
        have HD0 : Hid (DS v2 b (.slice none 0 0) (.slice none 0 0) x [] 0 []) := Lib.hid ⟨hK, World.ownsRow_nil _ _ _ _, by simp [Value.ownBlock]⟩
        obtain ⟨px, hpx⟩ : ∃ px, x.p = px := ⟨_, rfl⟩
        obtain ⟨ox, hox⟩ : ∃ px, x.o = px := ⟨_, rfl⟩
        obtain ⟨sx, hsx⟩ : ∃ px, x.s = px := ⟨_, rfl⟩
        have HPX := Lib.hid hpx
        have HOX := Lib.hid hox
        have HSX := Lib.hid hsx
        have HB2 := Lib.hid hB
        have HP3 := Lib.hid hP3
        clear hb hP2 hR KN hbb hK hB hP3 hpx hox hsx
        go_wp2_with fail
        go_loopw [9, 10, 57] (fun s9 s10 i w5 => ∃ (k2 N m : Nat) (bs : List Bool) (v : Value) (au : Option Addr) (cu : Nat), k2 ≤ k ∧ i = .int .i64 (k2 : Int) ∧ s9 = .slice au N cu ∧ s10 = .int .i64 (m : Int) ∧ Hid (bs.length = N ∧ N ≤ 10 * k2) ∧ DS w5 b v (.slice au N cu) x bs m bs ∧ DStep v2 w5 b (.slice none 0 0) v (.slice none 0 0) (.slice au N cu)) (fun _ _ i _ => k - (intOf i).toNat)
        case atStart => exact ⟨0, 0, 0, [], _, none, 0, Nat.zero_le _, rfl, rfl, rfl, Lib.hid ⟨rfl, by omega⟩, HD0.out, DStep.mem (Below.refl _ _) _ _ _⟩
        case round =>
          obtain ⟨k2, N, m, bs, v, au, cu, hk2, rfl, rfl, rfl, HNN, hD, hS⟩ := hrel
          rename World => w5
          have hbel := hS.toBelow HD0.out
          have hB := HB2.out.trans (hbel.mono hwb)
          have hP := HP3.out.on hbel hbP
          by_cases hlt2 : k2 < k
          · have hkl : k2 < l.length := by rw [← HN.out]; exact hlt2
            obtain ⟨ab, ao, rfl, habl, hcc⟩ := HA.out (by omega)
            obtain ⟨hok, hr0⟩ := hcc k2 hkl
            have hr := range_below hr0 hB (by show 0 < 3; decide)
            have HOK := Lib.hid (HOK2.out k2 hkl)
            clear hr0
            generalize l[k2] = y at *
            have hnew : Has (w5.alloc (.cells #[.int .i64 0, .int .i64 0, .slice none 0 0] 40)) w5.heap.size #[.int .i64 0, .int .i64 0, .slice none 0 0] 40 := Has.new _ _
            have HY := Lib.hid hok
            have HD5 := Lib.hid hD
            have HS5 := Lib.hid hS
            have HP5 := Lib.hid hP
            have HB5 := Lib.hid hB
            clear hok hD hS hP hB hbel hcc
            go_upto_region 19 with (first
              | (with_reducible refine cl_load_mid rfl _ rfl ab (ao + k2 * 3) rfl y hr ?_)
              | (with_reducible refine cl_store rfl _ _ rfl _ y rfl rfl _ hnew rfl ?_))
            have hC3 := cl_new w5 y
            have hB3 : Below w5.heap.size w5 ((w5.alloc (.cells #[.int .i64 0, .int .i64 0, .slice none 0 0] 40)).setRow w5.heap.size (clA y)) := below_setRow ((Below.refl _ _).alloc (Nat.le_refl _) _) (Nat.le_refl _) _
            generalize World.setRow _ _ _ = w6 at *
            clear hnew hr
            obtain ⟨bC, hbC⟩ : ∃ bC, bC = w5.heap.size := ⟨_, rfl⟩
            rw [← hbC] at hC3 ⊢
            have HC6 := Lib.hid hC3
            have HD6 := Lib.hid (HD5.out.below hB3)
            have HS6 := Lib.hid (HS5.out.trans (DStep.mem hB3 b v (.slice au N cu)))
            have HP6 := Lib.hid (HP5.out.on hB3 (Has.lt HP5.out))
            have HB6 := Lib.hid (HB5.out.trans (hB3.mono HB5.out.size))
            have HNC : Hid (bC ≠ b ∧ v.ownBlock ≠ some bC ∧ (Value.slice au N cu).ownBlock ≠ some bC) := Lib.hid ⟨by have := HD5.out.book.lt; omega, fun e => by have := (HD5.out.book.ownLt e).2; omega, fun e => by have := (HD5.out.uLt e).2; omega⟩
            have HY6 := HY
            have c2 := HC6.out.names
            obtain ⟨na, nn, nc, hna, hnn, hnc⟩ : ∃ na nn nc, y.na = na ∧ y.nn = nn ∧ y.nc = nc := ⟨_, _, _, rfl, rfl, rfl⟩
            rw [hna, hnn, hnc] at c2
            have HNA : Hid (y.na = na ∧ y.nn = nn ∧ y.nc = nc) := Lib.hid ⟨hna, hnn, hnc⟩
            have h10 : nn ≤ 10 := by rw [← hnn]; exact HOK.out.1
            have hnl : nn = y.ls.length := by rw [← hnn]; exact HY.out.n
            have HNL := Lib.hid hnl
            obtain ⟨ht, hht⟩ : ∃ ht, y.ht = ht := ⟨_, rfl⟩
            have hht1 : ht ≤ 1099511627776 := by rw [← hht]; exact HOK.out.2.1
            have hht2 : -1099511627776 ≤ ht := by rw [← hht]; exact HOK.out.2.2
            have HHT := Lib.hid hht
            clear hbC hC3 hB3 hna hnn hnc hnl hht HD5 HS5 HP5 HB5 HY
            obtain ⟨e0, he0⟩ : ∃ e, (y.kind == (0 : Int)) = e := ⟨_, rfl⟩
            have he1 : (y.kind != (0 : Int)) = !e0 := by rw [← he0]; rfl
            have HE0 := Lib.hid he0
            have HE1 := Lib.hid he1
            clear he0 he1
            cases e0
            · go_wp2_with fail
              go_loopw [9, 10, 13, 64] (fun s9 s10 s13 i w7 => ∃ (j m2 : Nat), j ≤ nn ∧ i = .int .i64 (j : Int) ∧ s9 = .slice au N cu ∧ s10 = .int .i64 (m2 : Int) ∧ s13 = .int .i64 0 ∧ DS w7 b v (.slice au N cu) x bs m2 bs ∧ DStep w6 w7 b v v (.slice au N cu) (.slice au N cu)) (fun _ _ _ i _ => nn - (intOf i).toNat)
              case atStart => exact ⟨0, m, Nat.zero_le _, rfl, rfl, rfl, rfl, HD6.out, DStep.mem (Below.refl _ _) _ _ _⟩
              case round =>
                obtain ⟨j, m2, hj, rfl, rfl, rfl, rfl, hD, hS⟩ := hrel
                rename World => w7
                by_cases hlt3 : j < nn
                · have hjl : j < y.ls.length := by rw [← HNL.out]; exact hlt3
                  have hB7 := HB6.out.trans ((hS.toBelow HD6.out).mono hwb)
                  obtain ⟨nb, no, hnab, hnlt, hnc2⟩ := (HY6.out.below hB7).at_ (by omega)
                  rw [HNA.out.1] at hnab
                  obtain rfl := hnab
                  obtain ⟨hx32, hr⟩ := hnc2 j hjl
                  have hgt := Pg.gv_take x ht y.ls j hjl
                  generalize y.ls[j] = id at *
                  have hsxx : (Lib.byteCells id).length = 32 := by rw [Lib.byteCells_length, hx32]
                  have HX := Lib.hid hsxx
                  have hone := bytesV_one id
                  have HS32 := Lib.hid (hv_size hx32)
                  have h0s : h0.size = 32 := rfl
                  have H0 := Lib.hid h0s
                  have HX32 := Lib.hid hx32
                  obtain ⟨hj1, hhj⟩ : ∃ hj1, ht + (j : Int) = hj1 := ⟨_, rfl⟩
                  rw [hhj] at hgt
                  have hwr : IntKind.i64.wrap (ht + (j : Int)) = hj1 := by rw [IntKind.wrap_i64]; omega
                  have HD7 := Lib.hid hD
                  have HS7 := Lib.hid hS
                  have HGT := Lib.hid hgt
                  clear hsxx hnc2 hx32 h0s hhj hgt hD hS hB7
                  go_upto_region 23 with (first
                    | (with_reducible refine hl_load_mid rfl _ rfl nb (no + j * 32) rfl id hr HX.out ?_)
                    | (with_reducible refine hl_store rfl _ _ rfl _ _ (bytesV id) rfl rfl rfl HS32.out hone h0 (h0_new _ _) H0.out ?_))
                  generalize hw8 : World.setRow _ _ _ = w8
                  have hX8 : Has w8 w7.heap.size (bytesV id) 25 := by rw [← hw8]; exact (h0_new _ _).row _
                  have hB8 : Below w7.heap.size w7 w8 := by rw [← hw8]; exact below_setRow ((Below.refl _ _).alloc (Nat.le_refl _) _) (Nat.le_refl _) _
                  clear hw8 hr
                  obtain ⟨bX, hbX⟩ : ∃ bX, bX = w7.heap.size := ⟨_, rfl⟩
                  rw [← hbX] at hX8 ⊢
                  have HXN : Hid (bX ≠ b ∧ v.ownBlock ≠ some bX ∧ (Value.slice au N cu).ownBlock ≠ some bX) := Lib.hid ⟨by have := HD7.out.book.lt; omega, fun e => by have := (HD7.out.book.ownLt e).2; omega, fun e => by have := (HD7.out.uLt e).2; omega⟩
                  have HD8 := Lib.hid (HD7.out.below hB8)
                  have HS8 := Lib.hid (HS7.out.trans (DStep.mem hB8 b v (Value.slice au N cu)))
                  have hbel := HS8.out.toBelow HD6.out
                  have hP8 := HP6.out.on hbel hbP
                  have hC8 := HS8.out.has HC6.out HNC.out.1 HNC.out.2.1 HNC.out.2.2
                  have HT8 := Lib.hid (HT.out _ (HB6.out.trans (hbel.mono hwb)))
                  have p0 : w8.cell? ⟨bP, 0, none⟩ = some (.int .i64 sx) := HSX.out ▸ hP8.c0
                  have p1 : w8.cell? ⟨bP, 1, none⟩ = some (.int .i64 px) := HPX.out ▸ hP8.c1
                  have p2 : w8.cell? ⟨bP, 2, none⟩ = some (.int .i64 ox) := HOX.out ▸ hP8.c2
                  have ch : w8.cell? ⟨bC, 1, none⟩ = some (.int .i64 ht) := HHT.out ▸ ClAt.ht hC8
                  have ck := ClAt.kind hC8
                  obtain ⟨d, hd⟩ : ∃ d, x.due hj1 = d := ⟨_, rfl⟩
                  obtain ⟨z, hz⟩ : ∃ z, pbit x.s id = z := ⟨_, rfl⟩
                  have KD := Lib.hid (rdue_at x px ox HPX.out HOX.out hj1 w8)
                  rw [hd] at KD
                  have HDU := Lib.hid hd
                  have HZ := Lib.hid hz
                  clear hbel hP8 hC8 hB8 hbX HD7 HS7 hd hz
                  go_wp2_with fail
                  refine (KD.out).mono ?_
                  rintro r w9 ⟨rfl, rfl⟩
                  have KB := Lib.hid (rbit_at sx id HX32.out w8)
                  rw [show pbit sx id = z from HSX.out ▸ HZ.out] at KB
                  clear KD
                  go_wp2_with (with_reducible refine hl_load rfl _ rfl _ rfl _ hX8 HS32.out ?_)
                  refine (KB.out).mono ?_
                  rintro r w9 ⟨rfl, hb9⟩
                  have HD9 := Lib.hid (HD8.out.below hb9)
                  have HS9 := Lib.hid (HS8.out.trans (DStep.mem hb9 b v (Value.slice au N cu)))
                  have hX9 := below_has hb9 hX8 hX8.lt
                  have HX9 := Lib.hid hX9
                  have HT9 := Lib.hid (HT8.out.below hb9)
                  have hbel := HS9.out.toBelow HD6.out
                  have hC9 := HS9.out.has HC6.out HNC.out.1 HNC.out.2.1 HNC.out.2.2
                  have ck := ClAt.kind hC9
                  have ch : w9.cell? ⟨bC, 1, none⟩ = some (.int .i64 ht) := HHT.out ▸ ClAt.ht hC9
                  clear hb9 hX8 hX9 hC9 hbel KB p0 p1 p2 HD8 HS8 HT8
                  have KM := meet_at HD9.out.book hj1 id HX32.out HT9.out
                  have hmt : mt x bs m2 hj1 id = (!d || (bs[m2]? == some z)) := by rw [← HDU.out, ← HZ.out]; rfl
                  have hX10 := HX9.out
                  have ke := HE0.out
                  have kn := HE1.out
                  cases d
                  · have e1 : mt x bs m2 hj1 id = true := by rw [hmt]; rfl
                    rw [HDU.out, e1] at KM
                    have HKM := Lib.hid KM
                    clear KM hmt e1
                    go_wp2_with (with_reducible refine hl_load rfl _ rfl _ rfl _ hX10 HS32.out ?_)
                    refine (HKM.out).mono ?_
                    rintro r w10 ⟨rfl, hK10, hS10⟩
                    have hD10 := HD9.out.pen hS10 hK10
                    have hSS := HS9.out.trans (DStep.pen hS10 (.slice au N cu))
                    have HD10 := Lib.hid hD10
                    have HS10 := Lib.hid hSS
                    clear hD10 hSS hK10 hS10 HKM HD9 HS9 HX9
                    go_wp2_with fail
                    go_roundw
                    case rel => exact ⟨j + 1, m2, by omega, by go_num, rfl, by go_num, rfl, HD10.out, HS10.out⟩
                    case measure => simp [intOf]; omega
                  · by_cases hm2 : m2 < N
                    · have hm3 : m2 < bs.length := by rw [HNN.out.1]; exact hm2
                      obtain ⟨a3, c3, hu3, hcell⟩ := bits_slice HD9.out.row
                      simp only [Value.slice.injEq] at hu3
                      obtain ⟨g, hga, hgl, hcg⟩ := hcell m2 hm3
                      obtain rfl : au = some ⟨g, 0, none⟩ := hu3.1.trans hga
                      have hget : bs[m2]? = some bs[m2] := List.getElem?_eq_getElem hm3
                      obtain ⟨yb, hyb⟩ : ∃ yb, bs[m2] = yb := ⟨_, rfl⟩
                      rw [hyb] at hcg hget
                      obtain ⟨e, he⟩ : ∃ e, (yb == z) = e := ⟨_, rfl⟩
                      have e1 : mt x bs m2 hj1 id = e := by rw [hmt, hget, ← he]; rfl
                      rw [HDU.out, e1] at KM
                      have HKM := Lib.hid KM
                      have tl : decide (m2 < N) = true := decide_eq_true hm2
                      have ene : (e != e) = false := by cases e <;> rfl
                      have hwm : IntKind.i64.wrap ((m2 : Int) + 1) = ((m2 + 1 : Nat) : Int) := by rw [IntKind.wrap_i64]; have := HNN.out; omega
                      obtain ⟨m3, hm3'⟩ : ∃ m3, m2 + 1 = m3 := ⟨_, rfl⟩
                      rw [hm3'] at hwm
                      have HM3 := Lib.hid hm3'
                      clear KM hmt e1 hu3 hcell hget hyb hga hm3'
                      cases e
                      · go_wp2_with (with_reducible refine hl_load rfl _ rfl _ rfl _ hX10 HS32.out ?_)
                        refine (HKM.out).mono ?_
                        rintro r w10 ⟨rfl, hK10, hS10⟩
                        have hD10 := HD9.out.pen hS10 hK10
                        have hSS := HS9.out.trans (DStep.pen hS10 (.slice (some ⟨g, 0, none⟩) N cu))
                        have HD10 := Lib.hid hD10
                        have HS10 := Lib.hid hSS
                        clear hD10 hSS hK10 hS10 HKM HD9 HS9 HX9
                        go_wp2_with fail
                        go_roundw
                        case rel => exact ⟨j + 1, m2, by omega, by go_num, rfl, by go_num, rfl, HD10.out, HS10.out⟩
                        case measure => simp [intOf]; omega
                      · go_wp2_with (with_reducible refine hl_load rfl _ rfl _ rfl _ hX10 HS32.out ?_)
                        refine (HKM.out).mono ?_
                        rintro r w10 ⟨rfl, hK10, hS10⟩
                        have hD10 := HD9.out.pen hS10 hK10
                        have hSS := HS9.out.trans (DStep.pen hS10 (.slice (some ⟨g, 0, none⟩) N cu))
                        have HD10 : Hid (DS w10 b v (.slice (some ⟨g, 0, none⟩) N cu) x bs m3 bs) := Lib.hid (HM3.out ▸ hD10)
                        have HS10 := Lib.hid hSS
                        clear hD10 hSS hK10 hS10 HKM HD9 HS9 HX9
                        go_wp2_with fail
                        go_roundw
                        case rel => exact ⟨j + 1, m3, by omega, by go_num, rfl, by go_num, rfl, HD10.out, HS10.out⟩
                        case measure => simp [intOf]; omega
                    · have hm3 : bs.length ≤ m2 := by rw [HNN.out.1]; omega
                      have e1 : mt x bs m2 hj1 id = false := by rw [hmt, List.getElem?_eq_none hm3]; rfl
                      rw [HDU.out, e1] at KM
                      have HKM := Lib.hid KM
                      have tl : decide (m2 < N) = false := decide_eq_false hm2
                      clear KM hmt e1
                      go_wp2_with (with_reducible refine hl_load rfl _ rfl _ rfl _ hX10 HS32.out ?_)
                      refine (HKM.out).mono ?_
                      rintro r w10 ⟨rfl, hK10, hS10⟩
                      have hD10 := HD9.out.pen hS10 hK10
                      have hSS := HS9.out.trans (DStep.pen hS10 (.slice au N cu))
                      have HD10 := Lib.hid hD10
                      have HS10 := Lib.hid hSS
                      clear hD10 hSS hK10 hS10 HKM HD9 HS9 HX9
                      go_wp2_with fail
                      go_roundw
                      case rel => exact ⟨j + 1, m2, by omega, by go_num, rfl, by go_num, rfl, HD10.out, HS10.out⟩
                      case measure => simp [intOf]; omega
                · obtain rfl : j = nn := by omega
                  have hbl : bs.length = N := HNN.out.1
                  have KI := given_at hD.book
                  have KL := left_at hD.book
                  obtain ⟨lf, hlf⟩ : ∃ lf : Int, ((N - m2 : Nat) : Int) = lf := ⟨_, rfl⟩
                  rw [hbl] at KI
                  rw [hbl, hlf] at KL
                  have hmet := hD.book.met
                  rw [hbl] at hmet
                  have hws : IntKind.i64.wrap ((N : Int) - (m2 : Int)) = lf := by rw [IntKind.wrap_i64]; have := HNN.out; omega
                  have hC7 := hS.has HC6.out HNC.out.1 HNC.out.2.1 HNC.out.2.2
                  have ck := ClAt.kind hC7
                  have ke := HE0.out
                  have HKI := Lib.hid KI
                  have HKL := Lib.hid KL
                  have HD7 := Lib.hid hD
                  have HS7 := Lib.hid (HS6.out.trans hS)
                  clear KI KL hmet hC7 hD hS hbl
                  go_wp2_with fail
                  refine (HKI.out).mono ?_
                  rintro r w8 ⟨rfl, rfl⟩
                  go_wp2_with fail
                  refine (HKL.out).mono ?_
                  rintro r w8 ⟨rfl, hb8⟩
                  have HD8 := Lib.hid (HD7.out.below hb8)
                  have HS8 := Lib.hid (HS7.out.trans (DStep.mem hb8 b v (.slice au N cu)))
                  have HN3 : Hid (bs.length = N ∧ N ≤ 10 * (k2 + 1)) := Lib.hid ⟨HNN.out.1, by have := HNN.out.2; omega⟩
                  clear hb8 HD7 HS7 HKI HKL hlf
                  go_wp2_with fail
                  go_roundw
                  case rel => exact ⟨k2 + 1, N, m2, bs, v, au, cu, by omega, by go_num, rfl, rfl, HN3, HD8.out, HS8.out⟩
                  case measure => simp [intOf]; omega
            · go_wp2_with fail
              go_loopw [9, 10, 13, 64] (fun s9 s10 s13 i w7 => ∃ (j q : Nat) (u2 : Value), j ≤ nn ∧ i = .int .i64 (j : Int) ∧ u2 = s9 ∧ s10 = .int .i64 (m : Int) ∧ s13 = .int .i64 (q : Int) ∧ Hid ((gv x ht (y.ls.take j)).length = q) ∧ DS w7 b v u2 x bs m (bs ++ gv x ht (y.ls.take j)) ∧ DStep w6 w7 b v v (.slice au N cu) u2) (fun _ _ _ i _ => nn - (intOf i).toNat)
              case atStart => exact ⟨0, 0, .slice au N cu, Nat.zero_le _, rfl, rfl, rfl, rfl, Lib.hid (by simp [gv]), by simpa [gv] using HD6.out, DStep.mem (Below.refl _ _) _ _ _⟩
              case round =>
                obtain ⟨j, q, u2, hj, rfl, rfl, rfl, rfl, HQ, hD, hS⟩ := hrel
                rename World => w7
                by_cases hlt3 : j < nn
                · have hjl : j < y.ls.length := by rw [← HNL.out]; exact hlt3
                  have hB7 := HB6.out.trans ((hS.toBelow HD6.out).mono hwb)
                  obtain ⟨nb, no, hnab, hnlt, hnc2⟩ := (HY6.out.below hB7).at_ (by omega)
                  rw [HNA.out.1] at hnab
                  obtain rfl := hnab
                  obtain ⟨hx32, hr⟩ := hnc2 j hjl
                  have hgt := Pg.gv_take x ht y.ls j hjl
                  generalize y.ls[j] = id at *
                  have hsxx : (Lib.byteCells id).length = 32 := by rw [Lib.byteCells_length, hx32]
                  have HX := Lib.hid hsxx
                  have hone := bytesV_one id
                  have HS32 := Lib.hid (hv_size hx32)
                  have h0s : h0.size = 32 := rfl
                  have H0 := Lib.hid h0s
                  have HX32 := Lib.hid hx32
                  obtain ⟨hj1, hhj⟩ : ∃ hj1, ht + (j : Int) = hj1 := ⟨_, rfl⟩
                  rw [hhj] at hgt
                  have hwr : IntKind.i64.wrap (ht + (j : Int)) = hj1 := by rw [IntKind.wrap_i64]; omega
                  have HD7 := Lib.hid hD
                  have HS7 := Lib.hid hS
                  have HGT := Lib.hid hgt
                  clear hsxx hnc2 hx32 h0s hhj hgt hD hS hB7
                  go_upto_region 23 with (first
                    | (with_reducible refine hl_load_mid rfl _ rfl nb (no + j * 32) rfl id hr HX.out ?_)
                    | (with_reducible refine hl_store rfl _ _ rfl _ _ (bytesV id) rfl rfl rfl HS32.out hone h0 (h0_new _ _) H0.out ?_))
                  generalize hw8 : World.setRow _ _ _ = w8
                  have hX8 : Has w8 w7.heap.size (bytesV id) 25 := by rw [← hw8]; exact (h0_new _ _).row _
                  have hB8 : Below w7.heap.size w7 w8 := by rw [← hw8]; exact below_setRow ((Below.refl _ _).alloc (Nat.le_refl _) _) (Nat.le_refl _) _
                  clear hw8 hr
                  obtain ⟨bX, hbX⟩ : ∃ bX, bX = w7.heap.size := ⟨_, rfl⟩
                  rw [← hbX] at hX8 ⊢
                  have HXN : Hid (bX ≠ b ∧ v.ownBlock ≠ some bX ∧ (u2).ownBlock ≠ some bX) := Lib.hid ⟨by have := HD7.out.book.lt; omega, fun e => by have := (HD7.out.book.ownLt e).2; omega, fun e => by have := (HD7.out.uLt e).2; omega⟩
                  have HD8 := Lib.hid (HD7.out.below hB8)
                  have HS8 := Lib.hid (HS7.out.trans (DStep.mem hB8 b v (u2)))
                  have hbel := HS8.out.toBelow HD6.out
                  have hP8 := HP6.out.on hbel hbP
                  have hC8 := HS8.out.has HC6.out HNC.out.1 HNC.out.2.1 HNC.out.2.2
                  have HT8 := Lib.hid (HT.out _ (HB6.out.trans (hbel.mono hwb)))
                  have p0 : w8.cell? ⟨bP, 0, none⟩ = some (.int .i64 sx) := HSX.out ▸ hP8.c0
                  have p1 : w8.cell? ⟨bP, 1, none⟩ = some (.int .i64 px) := HPX.out ▸ hP8.c1
                  have p2 : w8.cell? ⟨bP, 2, none⟩ = some (.int .i64 ox) := HOX.out ▸ hP8.c2
                  have ch : w8.cell? ⟨bC, 1, none⟩ = some (.int .i64 ht) := HHT.out ▸ ClAt.ht hC8
                  have ck := ClAt.kind hC8
                  obtain ⟨d, hd⟩ : ∃ d, x.due hj1 = d := ⟨_, rfl⟩
                  obtain ⟨z, hz⟩ : ∃ z, pbit x.s id = z := ⟨_, rfl⟩
                  have KD := Lib.hid (rdue_at x px ox HPX.out HOX.out hj1 w8)
                  rw [hd] at KD
                  have HDU := Lib.hid hd
                  have HZ := Lib.hid hz
                  clear hbel hP8 hC8 hB8 hbX HD7 HS7 hd hz
                  go_wp2_with fail
                  refine (KD.out).mono ?_
                  rintro r w9 ⟨rfl, rfl⟩
                  have KB := Lib.hid (rbit_at sx id HX32.out w8)
                  rw [show pbit sx id = z from HSX.out ▸ HZ.out] at KB
                  clear KD
                  go_wp2_with (with_reducible refine hl_load rfl _ rfl _ rfl _ hX8 HS32.out ?_)
                  refine (KB.out).mono ?_
                  rintro r w9 ⟨rfl, hb9⟩
                  have HD9 := Lib.hid (HD8.out.below hb9)
                  have HS9 := Lib.hid (HS8.out.trans (DStep.mem hb9 b v (u2)))
                  have hX9 := below_has hb9 hX8 hX8.lt
                  have HX9 := Lib.hid hX9
                  have HT9 := Lib.hid (HT8.out.below hb9)
                  have hbel := HS9.out.toBelow HD6.out
                  have hC9 := HS9.out.has HC6.out HNC.out.1 HNC.out.2.1 HNC.out.2.2
                  have ck := ClAt.kind hC9
                  have ch : w9.cell? ⟨bC, 1, none⟩ = some (.int .i64 ht) := HHT.out ▸ ClAt.ht hC9
                  clear hb9 hX8 hX9 hC9 hbel KB p0 p1 p2 HD8 HS8 HT8
                  cases d
                  · have HG2 : Hid (gv x ht (y.ls.take (j + 1)) = gv x ht (y.ls.take j)) := Lib.hid (by rw [HGT.out, HDU.out]; simp)
                    have ke := HE0.out
                    have kn := HE1.out
                    go_wp2_with fail
                    go_roundw
                    case rel => exact ⟨j + 1, q, u2, by omega, by go_num, rfl, rfl, rfl, Lib.hid (by rw [HG2.out]; exact HQ.out), by rw [HG2.out]; exact HD9.out, HS9.out⟩
                    case measure => simp [intOf]; omega
                  · have HG2 : Hid (gv x ht (y.ls.take (j + 1)) = gv x ht (y.ls.take j) ++ [z]) := Lib.hid (by rw [HGT.out, HDU.out, HZ.out]; simp)
                    have ke := HE0.out
                    have kn := HE1.out
                    have hq1 : IntKind.i64.wrap ((q : Int) + 1) = ((q + 1 : Nat) : Int) := by rw [IntKind.wrap_i64]; have := HQ.out; have := Pg.gv_le x (y.ls.take j) ht; rw [List.length_take] at this; omega
                    obtain ⟨q1, hqq⟩ : ∃ q1, q + 1 = q1 := ⟨_, rfl⟩
                    rw [hqq] at hq1
                    have HQQ := Lib.hid hqq
                    have hlen : (bs ++ gv x ht (y.ls.take j)).length ≤ 1048576 := by
                      have := Pg.gv_le x (y.ls.take j) ht
                      have := HNN.out
                      rw [List.length_take] at *
                      rw [List.length_append]; omega
                    have HLEN := Lib.hid hlen
                    obtain ⟨cs2, hcs2⟩ : ∃ cs2, cs2 = bs ++ gv x ht (y.ls.take j) := ⟨_, rfl⟩
                    have HCS := Lib.hid hcs2
                    have hrow : (w9.alloc (.cells #[.bool z] 4)).ownsRow (b + 1) 4 1 u2 cs2.length (cs2.map Value.bool) := by
                      rw [hcs2]
                      exact (HD9.out.below ((Below.refl _ _).alloc (Nat.le_refl _) _)).row
                    have hcz : (w9.alloc (.cells #[.bool z] 4)).cell? ⟨w9.heap.size, 0, none⟩ = some (.bool z) := (Has.new (w := w9) #[.bool z] 4).cell 0
                    have hln2 : cs2.length ≤ 1048576 := by rw [hcs2]; exact hlen
                    have hbl : b + 1 ≤ (w9.alloc (.cells #[.bool z] 4)).heap.size := by rw [World.size_alloc]; have := HD9.out.book.lt; omega
                    have HRW := Lib.hid hrow
                    have HCZ := Lib.hid hcz
                    have HL2 := Lib.hid hln2
                    have HBL := Lib.hid hbl
                    clear hrow hcz hln2 hbl hqq hcs2 hlen
                    go_upto_region 27 with (with_reducible refine append_bool rfl _ _ rfl (b + 1) u2 cs2.length cs2 rfl HRW.out w9.heap.size z rfl HCZ.out HL2.out HBL.out ?_; intro u3 w10 g1 g2 g3)
                    have hb10 : Below w9.heap.size w9 (w9.alloc (.cells #[.bool z] 4)) := (Below.refl _ _).alloc (Nat.le_refl _) _
                    have hDa := HD9.out.below hb10
                    have hSr := DStep.row (b := b) (v := v) g2 g3
                    have hD10 : DS w10 b v u3 x bs m (bs ++ gv x ht (y.ls.take (j + 1))) := by
                      refine ⟨?_, ?_, ?_⟩
                      · exact hDa.book.row_kept g2 (fun e => by have := (hDa.uLt e).1; omega) (fun i hi e => hDa.apart i hi e)
                      · rw [HG2.out, ← List.append_assoc, ← HCS.out, List.length_append]
                        exact g1
                      · intro i hi e
                        rcases hSr.lu i e with e2 | e2
                        · exact hDa.apart i hi e2
                        · have := (hDa.book.ownLt hi).2; omega
                    have hS10 := HS9.out.trans ((DStep.mem hb10 b v u2).trans hSr)
                    have HD10 := Lib.hid hD10
                    have HS10 := Lib.hid hS10
                    have hC10 := hS10.has HC6.out HNC.out.1 HNC.out.2.1 HNC.out.2.2
                    have ck := ClAt.kind hC10
                    clear hb10 hDa hSr hD10 hS10 hC10 g1 g2 g3 HRW HCZ HL2 HBL HD9 HS9 HX9
                    go_wp2_with fail
                    go_roundw
                    case rel => exact ⟨j + 1, q1, u3, by omega, by go_num, rfl, rfl, by go_num, Lib.hid (by rw [HG2.out, List.length_append, HQ.out, ← HQQ.out]; rfl), HD10.out, HS10.out⟩
                    case measure => simp [intOf]; omega
                · obtain rfl : j = nn := by omega
                  have htk : y.ls.take j = y.ls := by rw [HNL.out, List.take_length]
                  rw [htk] at hD
                  have hq : (gv x ht y.ls).length = q := by rw [← htk]; exact HQ.out
                  obtain ⟨a2, c2', hu2, -⟩ := bits_slice hD.row
                  obtain ⟨N2, hN2⟩ : ∃ N2, (bs ++ gv x ht y.ls).length = N2 := ⟨_, rfl⟩
                  rw [hN2] at hu2
                  subst hu2
                  have hbel := hS.toBelow HD6.out
                  have hB7 := HB6.out.trans (hbel.mono hwb)
                  have hqn : q ≤ j := by rw [← hq, HNL.out]; exact Pg.gv_le x y.ls ht
                  have HN2 : Hid (N2 = N + q) := Lib.hid (by rw [← hN2, List.length_append, HNN.out.1, hq])
                  have hap : 0 < y.ls.length → Apart b v na := HNA.out.1 ▸ names_apart HY6.out.at_ hwb (fun i hi => by have := (hD.book.ownLt hi).1; omega)
                  have hNA : NamesAt w7 na y.ls := HNA.out.1 ▸ (HY6.out.below hB7).at_
                  have KG := give_at hD.book ht na y.ls j nc HNL.out HY6.out.l32 hNA hap (fun w' hb => HT.out _ (hB7.trans (hb.mono hwb))) (by omega) (by omega) (by omega) (by have := HNN.out; omega)
                  rw [hq] at KG
                  have HKG := Lib.hid KG
                  have hC7 := hS.has HC6.out HNC.out.1 HNC.out.2.1 HNC.out.2.2
                  have ck := ClAt.kind hC7
                  have ch : w7.cell? ⟨bC, 1, none⟩ = some (.int .i64 ht) := HHT.out ▸ ClAt.ht hC7
                  have cn : w7.cell? ⟨bC, 2, none⟩ = some (.slice na j nc) := by have := ClAt.names hC7; rwa [HNA.out.1, HNA.out.2.1, HNA.out.2.2] at this
                  have HD7 := Lib.hid hD
                  have HS7 := Lib.hid hS
                  have ke := HE0.out
                  clear KG hC7 hap hNA hbel hB7 htk hD hS
                  go_wp2_with fail
                  refine (HKG.out).mono ?_
                  rintro r w8 ⟨rfl, v3, hK8, hS8⟩
                  have hD8 := HD7.out.pen hS8 hK8
                  have hDS8 := (HS6.out.trans HS7.out).trans (DStep.pen hS8 (.slice a2 N2 c2'))
                  have KI := given_at hK8
                  rw [hN2] at KI
                  have HKI := Lib.hid KI
                  have HD8 := Lib.hid hD8
                  have HS8 := Lib.hid hDS8
                  clear KI hD8 hDS8 hK8 hS8 HKG
                  go_wp2_with fail
                  refine (HKI.out).mono ?_
                  rintro r w9 ⟨rfl, rfl⟩
                  have KL := left_at HD8.out.book
                  obtain ⟨lf, hlf⟩ : ∃ lf : Int, ((N2 - m : Nat) : Int) = lf := ⟨_, rfl⟩
                  rw [hN2, hlf] at KL
                  have hmet := HD8.out.book.met
                  rw [hN2] at hmet
                  have hws : IntKind.i64.wrap ((N2 : Int) - (m : Int)) = lf := by rw [IntKind.wrap_i64]; have := HNN.out; have := HN2.out; omega
                  have HKL := Lib.hid KL
                  clear KL HKI hmet
                  go_wp2_with fail
                  refine (HKL.out).mono ?_
                  rintro r w9 ⟨rfl, hb9⟩
                  have HD9 := Lib.hid (HD8.out.below hb9)
                  have HS9 := Lib.hid (HS8.out.trans (DStep.mem hb9 b v3 (.slice a2 N2 c2')))
                  have hN3 : N2 ≤ 10 * (k2 + 1) := by have := HNN.out; have := HN2.out; omega
                  clear hb9 HD8 HS8 HKL hlf
                  go_wp2_with fail
                  go_roundw
                  case rel => exact ⟨k2 + 1, N2, m, bs ++ gv x ht y.ls, v3, a2, c2', by omega, by go_num, rfl, rfl, Lib.hid ⟨hN2, hN3⟩, HD9.out, HS9.out⟩
                  case measure => simp [intOf]; omega
          · obtain rfl : k2 = k := by omega
            have KB := bits_at hD.book
            rw [HNN.out.1] at KB
            obtain ⟨a3, c3, hu3, hcell⟩ := bits_slice hD.row
            simp only [Value.slice.injEq] at hu3
            have HCL := Lib.hid (fun j hj => hcell j hj)
            have HU := Lib.hid hu3
            have HKB := Lib.hid KB
            have HB5 := Lib.hid hB
            clear KB hu3 hcell hB hP hbel hD hS
            go_wp2_with fail
            refine (HKB.out).mono ?_
            rintro r w6 ⟨g, rfl, hg, hgs, hb6⟩
            obtain ⟨cs, hcs⟩ : ∃ cs, cs = (bs.map Value.bool).toArray := ⟨_, rfl⟩
            rw [← hcs] at hg
            have HCS := Lib.hid hcs
            have HG := Lib.hid hg
            have HB6 := Lib.hid (HB5.out.trans (hb6.mono HB5.out.size))
            have HC6 : Hid (∀ j (hj : j < bs.length), ∃ g, au = some ⟨g, 0, none⟩ ∧ g < w6.heap.size ∧ w6.cell? ⟨g, j, none⟩ = some (.bool bs[j])) := Lib.hid fun j hj => by
              obtain ⟨g, h1, h2, h3⟩ := HCL.out j hj
              exact ⟨g, HU.out.1.trans h1, by have := hb6.size; omega, (hb6.cell (p := ⟨g, j, none⟩) h2).trans h3⟩
            have hN9 : N ≤ 300 := by have := HNN.out; omega
            clear hg hgs hb6 hcs HKB HCL
            go_wp2_with fail
            go_loopw [163] (fun i wr => ∃ j : Nat, j ≤ N ∧ i = .int .i64 (j : Int) ∧ Below w6.heap.size w6 wr) (fun i _ => N - (intOf i).toNat)
            case atStart => exact ⟨0, Nat.zero_le _, rfl, Below.refl _ _⟩
            case round =>
              obtain ⟨j, hj, rfl, hB⟩ := hrel
              by_cases hlt : j < N
              · have hjl : j < bs.length := by rw [HNN.out.1]; exact hlt
                obtain ⟨gu, hau, hgul, hcu⟩ := HC6.out j hjl
                subst hau
                obtain ⟨y, hy⟩ : ∃ y, bs[j] = y := ⟨_, rfl⟩
                have hcy : cs[j]? = some (.bool y) := by rw [HCS.out, ← hy]; simp [hjl]
                rw [hy] at hcu
                have HK1 : Hid (∀ w', Below wr.heap.size wr w' → w'.cell? ⟨g, j, none⟩ = some (.bool y)) := Lib.hid fun w' hb => (below_has (hB.trans (hb.mono hB.size)) HG.out HG.out.lt).cell j |>.trans hcy
                have HK2 : Hid (∀ w', Below wr.heap.size wr w' → w'.cell? ⟨gu, j, none⟩ = some (.bool y)) := Lib.hid fun w' hb => ((hB.trans (hb.mono hB.size)).cell (p := ⟨gu, j, none⟩) hgul).trans hcu
                have tg : decide ((N : Int) ≤ (j : Int)) = false := decide_eq_false (by omega)
                clear hcy hy hjl hcu
                go_upto_region 42 with fail
                refine wp_tab (fun _ _ w' => Below wr.heap.size wr w') 99 98 [3, 7, 8, 11, 12, 13] [.int .i64 (j : Int), .slice (some ⟨gu, 0, none⟩) N cu, .int .i64 (N : Int), .bool false, .bool false, .slice (some ⟨g, 0, none⟩) N N, .int .i64 (j : Int), .pointer (some ⟨g, j, none⟩), .bool y, .slice (some ⟨gu, 0, none⟩) N cu, .int .i64 (j : Int), .pointer (some ⟨gu, j, none⟩), .bool y, .bool false, .bool false] (Below.refl _ _).drew
                  ⟨fun _ _ w' _ _ hC => .val (ex_geqi rfl rfl rfl tg) hC, fun _ _ w' _ _ hC => .val (ex_idx rfl rfl rfl (idx_bools _ _ _ _ _ hlt)) hC, fun _ _ w' _ _ hC => .val (ex_load_of rfl rfl (ld_b (HK1.out _ hC))) hC, fun _ _ w' _ _ hC => .val (ex_idx rfl rfl rfl (idx_bools _ _ _ _ _ hlt)) hC, fun _ _ w' _ _ hC => .val (ex_load_of rfl rfl (ld_b (HK2.out _ hC))) hC, fun _ _ w' _ _ hC => .val (ex_neqb rfl rfl rfl (by cases y <;> rfl)) hC, trivial⟩ ?_
                intro w9 hC
                have hB9 := hB.trans (hC.mono hB.size)
                clear hC hB HK1 HK2 tg
                simp only [finT, List.set_cons_zero, List.set_cons_succ, List.tail_cons, List.headD_cons]
                go_wp2_with fail
                go_roundw
                case rel => exact ⟨j + 1, by omega, by go_num, hB9⟩
                case measure => simp [intOf]; omega
              · obtain rfl : j = N := by omega
                have HB9 := Lib.hid (HB6.out.trans (hB.mono HB6.out.size))
                clear hB HG HC6 HB6
                go_wp2_with fail
                refine (give_nil _ _ _ _ _).mono ?_
                rintro r w7 ⟨rfl, rfl⟩
                have hb7 : Below wr.heap.size wr (wr.alloc (.cells (bytesV z32) 25)) := (Below.refl _ _).alloc (Nat.le_refl _) _
                have hB7 := HB9.out.trans (hb7.mono HB9.out.size)
                generalize hw7 : World.alloc _ _ = w7
                have hB7' : Below w.heap.size w w7 := by rw [← hw7]; exact hB7
                clear hw7 hb7 hB7
                go_wp2_with fail
                refine (meet_nil 0 z32 w7).mono ?_
                rintro r w8 ⟨rfl, hb8⟩
                have hB8 := hB7'.trans (hb8.mono hB7'.size)
                clear hb8 hB7'
                go_wp2_with fail
                refine (left_nil w8).mono ?_
                rintro r w9 ⟨rfl, rfl⟩
                go_wp2_with fail
                refine (given_nil w8).mono ?_
                rintro r w9 ⟨rfl, rfl⟩
                go_wp2_with fail
                refine (bits_nil w8).mono ?_
                rintro r w9 ⟨g9, rfl, hb9⟩
                have hB9 := hB8.trans (hb9.mono hB8.size)
                clear hb9 hB8
                go_wp2_with fail
                go_ret
                exact ⟨rfl, hB9⟩
theorem pdoes_walk (x : Pl) (a : Option Addr) (l : List Cl) (n c : Nat) (hn : n = l.length) (_hl : n ≤ 4611686018427387904) (w : World) (hT : Tab w) (hA : CallsAt w a l) :
    Calls Tryd.prog 4 #[.agg (plA x), .slice a n c] w fun e w' => e = .returned (.bool true) ∧ Below w.heap.size w w' := by
  by_cases h1 : 30 < n
  · exact pdoes_long x a n c h1 w hT
  · exact pdoes_main x a l n c hn (by omega) w hT hA
end Go.Proofs.YtomegahohiijcaaDoor.An
