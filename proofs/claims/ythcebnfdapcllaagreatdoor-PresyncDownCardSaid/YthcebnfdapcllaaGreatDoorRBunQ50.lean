import Derived.Test.YthcebnfdapcllaaGreatDoorRPgOpen
import Derived.Test.YthcebnfdapcllaaGreatDoorRRlOpen
import Derived.Test.YthcebnfdapcllaaGreatDoorRHdOpenL
import Derived.Test.YthcebnfdapcllaaGreatDoorROpenArr
import Derived.Test.YthcebnfdapcllaaGreatDoorRBunQ49
import Derived.Test.YthcebnfdapcllaaGreatDoorRBunQ52
import Derived.Test.YthcebnfdapcllaaGreatDoorRBunQ36
import Derived.Test.YthcebnfdapcllaaGreatDoorRBunQ39
namespace Go.Proofs.YthcebnfdapcllaaGreatDoor.An
open Go.ChangeShapes Go.WideShapes Go.RowKit Go.Deep Mem Sc
open Pg (Pl pbit gv Ws)
theorem cellsHds : Tryz.prog.cellsOf 33 = 1 := by kernel_rfl
theorem cellsNumA : Tryz.prog.cellsOf 26 = 4 := by kernel_rfl
theorem cellsU64A : Tryz.prog.cellsOf 24 = 1 := by kernel_rfl
theorem cellsCase : Tryz.prog.cellsOf 37 = 89 := by kernel_rfl
theorem cellsMsg : Tryz.prog.cellsOf 46 = 3 := by kernel_rfl
theorem bytesMsg : Tryz.prog.bytesOf 46 = 40 := by kernel_rfl
structure Ca where
  p : NN.Pr
  t : Tl
  gs : List Gt
  ks : List Ck
  c : Nat
  ba : Option Addr
  bn : Nat
  bc : Nat
  hs : List Hd
  x : Pl
  z : Int
  now : Int
def caT (y : Ca) : List Value := [.slice y.ba y.bn y.bc, .int .i64 y.x.s, .int .i64 y.x.p, .int .i64 y.x.o, .int .i64 y.z, .int .i64 y.now]
def caC (y : Ca) : List Value := NN.prC y.p ++ caT y
def caA (y : Ca) : Array Value := (caC y).toArray
structure CaOk (w : World) (y : Ca) : Prop where
  p : y.p.ok
  one : y.p.one
  tt : y.p.tl = y.t.C
  tok : y.t.ok
  gn : y.t.gn = y.gs.length
  cn : y.t.cn = y.ks.length
  gates : GatesAt w y.t.ga y.gs
  checks : ChecksAt w y.t.ca y.ks
  mw : ∃ r, y.t.nn = nmC y.c ++ r
  cb : y.c < NN.Nm.big
  bn : y.bn = y.hs.length
  few : y.bn ≤ 4611686018427387904
  hok : ∀ h ∈ y.hs, h.ok
  base : HeadersAt w y.ba y.hs
theorem CaOk.below {w w' : World} {y : Ca} (h : CaOk w y) (hb : Below w.heap.size w w') : CaOk w' y :=
  ⟨h.p, h.one, h.tt, h.tok, h.gn, h.cn, h.gates.below hb, h.checks.below hb, h.mw, h.cb, h.bn, h.few, h.hok, h.base.below hb⟩
structure Me where
  a : Option Addr
  n : Nat
  c : Nat
  hs : List Hd
  now : Int
  more : Bool
instance : Inhabited Me := ⟨⟨none, 0, 0, [], 0, false⟩⟩
def meC (y : Me) : List Value := [.slice y.a y.n y.c, .int .i64 y.now, .bool y.more]
structure MeOk (w : World) (y : Me) : Prop where
  n : y.n = y.hs.length
  few : y.n ≤ 4611686018427387904
  at_ : HeadersAt w y.a y.hs
theorem MeOk.below {w w' : World} {y : Me} (h : MeOk w y) (hb : Below w.heap.size w w') : MeOk w' y := ⟨h.n, h.few, h.at_.below hb⟩
def MsAt (w : World) (a : Option Addr) (ms : List Me) : Prop :=
  0 < ms.length → ∃ ab ao, a = some ⟨ab, ao, none⟩ ∧ ab < w.heap.size ∧ ∀ i (hi : i < ms.length), MeOk w ms[i] ∧ w.rangeAt ab (ao + i * 3) (meC ms[i])
theorem MsAt.below {w w' : World} {a : Option Addr} {ms : List Me} (h : MsAt w a ms) (hb : Below w.heap.size w w') : MsAt w' a ms := fun h0 => by
  obtain ⟨ab, ao, ha, hl, hc⟩ := h h0
  exact ⟨ab, ao, ha, by have := hb.size; omega, fun i hi => ⟨(hc i hi).1.below hb, range_below (hc i hi).2 hb (by show 0 < 3; decide)⟩⟩
section
variable {H : Type} {enc : TypeId × Value → H} {W : World} {base : Nat} {sp : Nat → Bool} {held : Bool} {fuel : Nat} {cs : List Value}
theorem cells_num_one {x : DataW H × List MemPlace} (hf : DataW.trod enc Tryz.prog W base sp held fuel 26 cs = some x) (hcs : cs.length = 4) : ∀ v ∈ cs, v.oneCell' = true := by
  obtain ⟨xs, m, _, hx, _, hl, hel⟩ := DataW.trod_array Tryz.underlying26 hf
  intro v hv
  obtain ⟨i, hi, rfl⟩ := List.mem_iff_getElem.1 hv
  have hE := hel i (by omega)
  rw [cellsU64A, Nat.mul_one, List.getElem?_eq_getElem (by omega)] at hE
  obtain ⟨z, e1, e2, e3⟩ := DataW.trod_int Tryz.underlying24 hE
  have h0 : ((cs.drop i).take 1)[0]? = some (.int .u64 z) := by rw [e1]; rfl
  have h1 : cs[i]? = some (.int .u64 z) := by simpa using h0
  rw [List.getElem?_eq_getElem hi] at h1
  rw [Option.some.inj h1]
  rfl
set_option maxRecDepth 100000 in
theorem rules_one {d : DataW H} {p : List MemPlace} (hf : DataW.trod enc Tryz.prog W 0 (fun _ => true) true fuel 32 cs = some (d, p)) : ∀ v ∈ (cs.drop 7).take 8, v.oneCell' = true := by
  obtain ⟨xs, m, _, _, hl, hxl, hel⟩ := DataW.trod_struct Tryz.underlying32 hf
  rw [cellsPrR] at hl
  have hx10 : xs.length = 10 := hxl
  have f7 : DataW.trod enc Tryz.prog W 0 (fun _ => true) true m 26 ((cs.drop 7).take (Tryz.prog.cellsOf 26)) = xs[7]? := hel 7 _ rfl
  have f8 : DataW.trod enc Tryz.prog W 0 (fun _ => true) true m 26 ((cs.drop 11).take (Tryz.prog.cellsOf 26)) = xs[8]? := hel 8 _ rfl
  rw [cellsNumA, List.getElem?_eq_getElem (by omega)] at f7 f8
  have g7 := cells_num_one f7 (by simp; omega)
  have g8 := cells_num_one f8 (by simp; omega)
  intro v hv
  have e : (cs.drop 7).take 8 = (cs.drop 7).take 4 ++ (cs.drop 11).take 4 := by
    rw [show cs.drop 11 = (cs.drop 7).drop 4 by rw [List.drop_drop], show (8 : Nat) = 4 + 4 from rfl, List.take_add]
  rw [e] at hv
  exact (List.mem_append.1 hv).elim (g7 v) (g8 v)
set_option maxRecDepth 100000 in
theorem cells_num {x : DataW H × List MemPlace} (hf : DataW.trod enc Tryz.prog W base sp held fuel 26 cs = some x) (hcs : cs.length = 4) : ∃ c : Nat, c < NN.Nm.big ∧ cs = nmC c := by
  obtain ⟨xs, m, _, hx, _, hl, hel⟩ := DataW.trod_array Tryz.underlying26 hf
  have hE : ∀ i, i < 4 → ∃ z : Int, cs[i]? = some (.int .u64 z) ∧ 0 ≤ z ∧ z ≤ 18446744073709551615 := fun i hi => by
    have hE := hel i (by omega)
    rw [cellsU64A, Nat.mul_one, List.getElem?_eq_getElem (by omega)] at hE
    obtain ⟨z, e1, e2, e3⟩ := DataW.trod_int Tryz.underlying24 hE
    have h0 : ((cs.drop i).take 1)[0]? = some (.int .u64 z) := by rw [e1]; rfl
    have h1 : cs[i]? = some (.int .u64 z) := by simpa using h0
    have hb := bounds_u64 e3
    exact ⟨z, h1, hb.1, hb.2⟩
  obtain ⟨z0, h0, p0, q0⟩ := hE 0 (by omega)
  obtain ⟨z1, h1, p1, q1⟩ := hE 1 (by omega)
  obtain ⟨z2, h2, p2, q2⟩ := hE 2 (by omega)
  obtain ⟨z3, h3, p3, q3⟩ := hE 3 (by omega)
  let f : Nat → Nat := fun i => if i = 0 then z0.toNat else if i = 1 then z1.toNat else if i = 2 then z2.toNat else z3.toNat
  have hfm : ∀ i, i < 4 → f i < 18446744073709551616 := fun i _ => by
    show (if i = 0 then z0.toNat else if i = 1 then z1.toNat else if i = 2 then z2.toNat else z3.toNat) < _
    split
    · omega
    · split
      · omega
      · split <;> omega
  refine ⟨NN.Nm.mk f, NN.Nm.mk_lt hfm, ?_⟩
  obtain ⟨a, b, c, d, rfl⟩ : ∃ a b c d, cs = [a, b, c, d] := by
    match cs, hcs with
    | [a, b, c, d], _ => exact ⟨a, b, c, d, rfl⟩
  simp only [List.getElem?_cons_zero, List.getElem?_cons_succ, Option.some.injEq] at h0 h1 h2 h3
  subst h0 h1 h2 h3
  show _ = [Value.int .u64 (NN.Nm.wd (NN.Nm.mk f) 0 : Nat), Value.int .u64 (NN.Nm.wd (NN.Nm.mk f) 1 : Nat), Value.int .u64 (NN.Nm.wd (NN.Nm.mk f) 2 : Nat), Value.int .u64 (NN.Nm.wd (NN.Nm.mk f) 3 : Nat)]
  rw [NN.Nm.wd_mk hfm (by omega), NN.Nm.wd_mk hfm (by omega), NN.Nm.wd_mk hfm (by omega), NN.Nm.wd_mk hfm (by omega)]
  have e0 : ((f 0 : Nat) : Int) = z0 := Int.toNat_of_nonneg p0
  have e1 : ((f 1 : Nat) : Int) = z1 := Int.toNat_of_nonneg p1
  have e2 : ((f 2 : Nat) : Int) = z2 := Int.toNat_of_nonneg p2
  have e3 : ((f 3 : Nat) : Int) = z3 := Int.toNat_of_nonneg p3
  rw [e0, e1, e2, e3]
set_option maxRecDepth 100000 in
theorem cells_headers {d : DataW H} {p : List MemPlace} (hf : DataW.trod enc Tryz.prog W 0 (fun _ => true) true fuel 33 cs = some (d, p))
    (hw : ∀ n ∈ d.weights Tryz.prog 33, n ≤ reachBytes) :
    ∃ (a : Option Addr) (hs : List Hd) (n c : Nat), cs = [.slice a n c] ∧ n = hs.length ∧ n ≤ 4611686018427387904 ∧ (∀ x ∈ hs, x.ok) ∧ HeadersAt W a hs := by
  have h47 := reachBytes_lt
  rcases open_slice Tryz.underlying33 hf with ⟨hcs, hx⟩ | ⟨a, len', cap', m, q, D, Pl, hcs, _, hl, _, hm, hx, hel⟩
  · exact ⟨none, [], 0, 0, hcs, rfl, by omega, fun s h => by simp at h, fun h => absurd h (by simp)⟩
  · simp only [if_true] at hm
    subst hm
    simp only [Prod.mk.injEq] at hx
    obtain ⟨rfl, rfl⟩ := hx
    have h1 := hw _ (by
      simp only [DataW.weights, Tryz.underlying33, List.mem_cons]
      exact .inl rfl)
    rw [bytesHd] at h1
    simp only [List.length_map, List.length_range] at h1
    rw [cellsHd] at hel
    obtain ⟨f, hfn⟩ := choose_lt (n := len') (α := Hd) (p := fun i h => h.ok ∧ W.cells? 0 (a.add (i * 68)) 68 = some (hdC h)) (fun i hi => by
      obtain ⟨cs', h2, h3⟩ := hel i (by omega)
      obtain ⟨h, hfit, rfl⟩ := cells_header h3
      exact ⟨h, hfit.1, h2⟩)
    refine ⟨some a, (List.range len').map f, len', _, hcs, by simp, by omega, fun y hy => ?_, fun h0 => ?_⟩
    · obtain ⟨i, hi, rfl⟩ := List.mem_map.1 hy
      exact (hfn i (List.mem_range.1 hi)).1
    · have hlen : 0 < len' := by simpa using h0
      obtain ⟨b, off, spot⟩ := a
      have hspot : spot = none := by simpa [Addr.add] using spot_of_cells (hfn 0 hlen).2 (by decide)
      subst hspot
      refine ⟨b, off, rfl, block_lt_of_cell (range_of_cells (hfn 0 hlen).2 0 _ (List.getElem?_eq_getElem (hdC_pos _))), fun i hi => ?_⟩
      have hi' : i < len' := by simpa using hi
      rw [List.getElem_map, List.getElem_range]
      exact ⟨(hfn i hi').1, range_of_cells (by have := (hfn i hi').2; rw [add_plain] at this; exact this)⟩
set_option maxRecDepth 100000 in
theorem cells_rules2 {d : DataW H} {p : List MemPlace} (hf : DataW.trod enc Tryz.prog W 0 (fun _ => true) true fuel 32 cs = some (d, p)) :
    ∃ (p : NN.Pr) (t : Tl) (gs : List Gt) (ks : List Ck) (c : Nat), cs = NN.prC p ∧ p.ok ∧ p.one ∧ p.tl = t.C ∧ t.ok ∧ t.gn = gs.length ∧ t.cn = ks.length ∧ GatesAt W t.ga gs ∧ ChecksAt W t.ca ks ∧ (∃ r, t.nn = nmC c ++ r) ∧ c < NN.Nm.big := by
  obtain ⟨p, t, gs, ks, hcs, h1, h2, h3, h4, h5, h6, h7⟩ := cells_rules hf
  have ho := rules_one hf
  obtain ⟨xs, m, _, _, hl, hxl, hel⟩ := DataW.trod_struct Tryz.underlying32 hf
  rw [cellsPrR] at hl
  have hx10 : xs.length = 10 := hxl
  have f7 : DataW.trod enc Tryz.prog W 0 (fun _ => true) true m 26 ((cs.drop 7).take (Tryz.prog.cellsOf 26)) = xs[7]? := hel 7 _ rfl
  rw [cellsNumA, List.getElem?_eq_getElem (by omega)] at f7
  obtain ⟨c, hc, g7⟩ := cells_num f7 (by simp; omega)
  have e : cs.drop 7 = t.nn ++ hdC t.g := by
    have : NN.prC p = .int .i64 p.lim :: .int .i64 p.ivl :: .int .i64 p.spc :: .int .i64 p.fut :: .bool p.easy :: t.C := by unfold NN.prC; rw [h2]
    rw [hcs, this]
    rfl
  refine ⟨p, t, gs, ks, c, hcs, h1, ?_, h2, h3, h4, h5, h6, h7, ⟨t.nn.drop 4, ?_⟩, hc⟩
  · intro v hv
    rw [h2] at hv
    unfold Tl.C at hv
    simp only [List.mem_cons, List.mem_append] at hv
    rcases hv with rfl | rfl | hv | hv
    · rfl
    · rfl
    · refine ho v ?_
      rw [e, List.take_append_of_le_length (by rw [h3.1]; exact Nat.le_refl _), ← h3.1, List.take_length]
      exact hv
    · exact hdC_one _ v hv
  · rw [← g7, e, List.take_append_of_le_length (by rw [h3.1]; omega), List.take_append_drop]
set_option maxRecDepth 100000 in
theorem cells_case {d : DataW H} {p : List MemPlace} (hf : DataW.trod enc Tryz.prog W 0 (fun _ => true) true fuel 37 cs = some (d, p))
    (hw : ∀ n ∈ d.weights Tryz.prog 37, n ≤ reachBytes) : ∃ y : Ca, cs = caC y ∧ CaOk W y := by
  obtain ⟨xs, m, _, hd, hl, hxl, hel⟩ := DataW.trod_struct Tryz.underlying37 hf
  simp only [Prod.mk.injEq] at hd
  obtain ⟨rfl, rfl⟩ := hd
  rw [cellsCase] at hl
  have hx5 : xs.length = 5 := hxl
  have f0 : DataW.trod enc Tryz.prog W 0 (fun _ => true) true m 32 ((cs.drop 0).take (Tryz.prog.cellsOf 32)) = xs[0]? := hel 0 _ rfl
  have f1 : DataW.trod enc Tryz.prog W 0 (fun _ => true) true m 33 ((cs.drop 83).take (Tryz.prog.cellsOf 33)) = xs[1]? := hel 1 _ rfl
  have f2 : DataW.trod enc Tryz.prog W 0 (fun _ => true) true m 35 ((cs.drop 84).take (Tryz.prog.cellsOf 35)) = xs[2]? := hel 2 _ rfl
  have f3 : DataW.trod enc Tryz.prog W 0 (fun _ => true) true m 3 ((cs.drop 87).take (Tryz.prog.cellsOf 3)) = xs[3]? := hel 3 _ rfl
  have f4 : DataW.trod enc Tryz.prog W 0 (fun _ => true) true m 3 ((cs.drop 88).take (Tryz.prog.cellsOf 3)) = xs[4]? := hel 4 _ rfl
  simp only [cellsInt, cellsHds, cellsPrR, cellsPlan] at f0 f1 f2 f3 f4
  rw [List.getElem?_eq_getElem (by omega)] at f0 f1 f2 f3 f4
  obtain ⟨p, t, gs, ks, c, e0, h1, h2, h3, h4, h5, h6, h7, h8, h9, h10⟩ := cells_rules2 (d := (xs[0]'(by omega)).1) (p := (xs[0]'(by omega)).2) f0
  obtain ⟨ba, hs, bn, bc, e1, hn, hfew, hok, hat⟩ := cells_headers (d := (xs[1]'(by omega)).1) (p := (xs[1]'(by omega)).2) f1 (fun n hn => hw n (by
    simp only [DataW.weights, Tryz.underlying37]
    refine DataW.weights_mem_each (j := 1) (t := 33) (d := (xs[1]'(by omega)).1) rfl ?_ _ hn
    rw [List.getElem?_map, List.getElem?_eq_getElem (by omega)]
    rfl))
  obtain ⟨s0, q0, o0, e2⟩ : ∃ s q o : Int, (cs.drop 84).take 3 = [.int .i64 s, .int .i64 q, .int .i64 o] := by
    obtain ⟨ys, m2, _, _, hl2, hyl, hel2⟩ := DataW.trod_struct Tryz.underlying35 f2
    rw [cellsPlan] at hl2
    have hy3 : ys.length = 3 := hyl
    generalize (cs.drop 84).take 3 = cs2 at *
    have k0 : DataW.trod enc Tryz.prog W 0 (fun _ => true) true m2 3 ((cs2.drop 0).take (Tryz.prog.cellsOf 3)) = ys[0]? := hel2 0 _ rfl
    have k1 : DataW.trod enc Tryz.prog W 0 (fun _ => true) true m2 3 ((cs2.drop 1).take (Tryz.prog.cellsOf 3)) = ys[1]? := hel2 1 _ rfl
    have k2 : DataW.trod enc Tryz.prog W 0 (fun _ => true) true m2 3 ((cs2.drop 2).take (Tryz.prog.cellsOf 3)) = ys[2]? := hel2 2 _ rfl
    simp only [cellsInt] at k0 k1 k2
    rw [List.getElem?_eq_getElem (by omega)] at k0 k1 k2
    obtain ⟨s, e0, _, _⟩ := DataW.trod_int Tryz.underlying3 k0
    obtain ⟨q, e1, _, _⟩ := DataW.trod_int Tryz.underlying3 k1
    obtain ⟨o, e2, _, _⟩ := DataW.trod_int Tryz.underlying3 k2
    refine ⟨s, q, o, ?_⟩
    have c0 := drop_cut cs2 0 1
    have c1 := drop_cut cs2 1 1
    have c2 := drop_cut cs2 2 1
    have c3 : cs2.drop 3 = [] := List.drop_eq_nil_of_le (by omega)
    rw [e2, c3] at c2
    rw [e1, c2] at c1
    rw [e0, c1, List.drop_zero] at c0
    rw [c0]
    rfl
  obtain ⟨z, e3, _, _⟩ := DataW.trod_int Tryz.underlying3 f3
  obtain ⟨now, e4, _, _⟩ := DataW.trod_int Tryz.underlying3 f4
  refine ⟨⟨p, t, gs, ks, c, ba, bn, bc, hs, ⟨s0, q0, o0⟩, z, now⟩, ?_, ⟨h1, h2, h3, h4, h5, h6, h7, h8, h9, h10, hn, hfew, hok, hat⟩⟩
  have c0 := drop_cut cs 0 83
  have c1 := drop_cut cs 83 1
  have c2 := drop_cut cs 84 3
  have c3 := drop_cut cs 87 1
  have c4 := drop_cut cs 88 1
  have c5 : cs.drop 89 = [] := List.drop_eq_nil_of_le (by omega)
  rw [e4, c5] at c4
  rw [e3, c4] at c3
  rw [e2, c3] at c2
  rw [e1, c2] at c1
  rw [e0, c1, List.drop_zero] at c0
  rw [c0]
  rfl
set_option maxRecDepth 100000 in
theorem open_case {r : Reach} {b0 : Nat} {v : Value} {d : DataW H} {p : List MemPlace} (hv : Value.okWide Tryz.prog W r b0 37 v) (hd : DataW.Trod enc Tryz.prog W 0 (fun _ => true) true 37 v d p)
    (hw : ∀ n ∈ d.weights Tryz.prog 37, n ≤ reachBytes) : ∃ y : Ca, v = .agg (caA y) ∧ CaOk W y := by
  obtain ⟨cs0, rfl, _⟩ := okWide_struct Tryz.underlying37 hv
  obtain ⟨fuel, hf⟩ := hd
  have hf' : DataW.trod enc Tryz.prog W 0 (fun _ => true) true fuel 37 cs0.toList = some (d, p) := hf
  obtain ⟨y, e, hok⟩ := cells_case hf' hw
  refine ⟨y, ?_, hok⟩
  unfold caA
  rw [← e, Array.toArray_toList]
set_option maxRecDepth 100000 in
theorem cells_me {d : DataW H} {p : List MemPlace} (hf : DataW.trod enc Tryz.prog W 0 (fun _ => true) true fuel 46 cs = some (d, p))
    (hw : ∀ n ∈ d.weights Tryz.prog 46, n ≤ reachBytes) : ∃ y : Me, cs = meC y ∧ MeOk W y := by
  obtain ⟨xs, m, _, hd, hl, hxl, hel⟩ := DataW.trod_struct Tryz.underlying46 hf
  simp only [Prod.mk.injEq] at hd
  obtain ⟨rfl, rfl⟩ := hd
  rw [cellsMsg] at hl
  have hx3 : xs.length = 3 := hxl
  have f0 : DataW.trod enc Tryz.prog W 0 (fun _ => true) true m 33 ((cs.drop 0).take (Tryz.prog.cellsOf 33)) = xs[0]? := hel 0 _ rfl
  have f1 : DataW.trod enc Tryz.prog W 0 (fun _ => true) true m 3 ((cs.drop 1).take (Tryz.prog.cellsOf 3)) = xs[1]? := hel 1 _ rfl
  have f2 : DataW.trod enc Tryz.prog W 0 (fun _ => true) true m 4 ((cs.drop 2).take (Tryz.prog.cellsOf 4)) = xs[2]? := hel 2 _ rfl
  simp only [cellsInt, cellsHds, cellsBoolR] at f0 f1 f2
  rw [List.getElem?_eq_getElem (by omega)] at f0 f1 f2
  obtain ⟨ba, hs, bn, bc, e0, hn, hfew, hok, hat⟩ := cells_headers (d := (xs[0]'(by omega)).1) (p := (xs[0]'(by omega)).2) f0 (fun n hn => hw n (by
    simp only [DataW.weights, Tryz.underlying46]
    refine DataW.weights_mem_each (j := 0) (t := 33) (d := (xs[0]'(by omega)).1) rfl ?_ _ hn
    rw [List.getElem?_map, List.getElem?_eq_getElem (by omega)]
    rfl))
  obtain ⟨now, e1, _, _⟩ := DataW.trod_int Tryz.underlying3 f1
  obtain ⟨g, e2, _⟩ := DataW.trod_bool Tryz.underlying4 f2
  refine ⟨⟨ba, bn, bc, hs, now, g⟩, ?_, ⟨hn, hfew, hat⟩⟩
  have c0 := drop_cut cs 0 1
  have c1 := drop_cut cs 1 1
  have c2 := drop_cut cs 2 1
  have c3 : cs.drop 3 = [] := List.drop_eq_nil_of_le (by omega)
  rw [e2, c3] at c2
  rw [e1, c2] at c1
  rw [e0, c1, List.drop_zero] at c0
  rw [c0]
  rfl
set_option maxRecDepth 100000 in
theorem open_msgs {r : Reach} {b0 : Nat} {v : Value} {d : DataW H} {p : List MemPlace} (hv : Value.okWide Tryz.prog W r b0 38 v) (hd : DataW.Trod enc Tryz.prog W 0 (fun _ => true) true 38 v d p)
    (hw : ∀ n ∈ d.weights Tryz.prog 38, n ≤ reachBytes) :
    ∃ (a : Option Addr) (cs : List Me) (n c : Nat), v = .slice a n c ∧ n = cs.length ∧ n ≤ 4611686018427387904 ∧ MsAt W a cs := by
  obtain ⟨a0, len, cap, rfl⟩ := okWide_slice Tryz.underlying38 hv
  obtain ⟨fuel, hf⟩ := hd
  have h47 := reachBytes_lt
  rcases open_slice Tryz.underlying38 hf with ⟨hcs, hx⟩ | ⟨a, len', cap', m, q, D, Pl, hcs, _, hl, _, hm, hx, hel⟩
  · simp [Value.cells] at hcs
    obtain ⟨rfl, rfl, rfl⟩ := hcs
    exact ⟨none, [], 0, 0, rfl, rfl, by omega, fun h => absurd h (by simp)⟩
  · simp [Value.cells] at hcs
    obtain ⟨rfl, rfl, rfl⟩ := hcs
    simp only [if_true] at hm
    subst hm
    simp only [Prod.mk.injEq] at hx
    obtain ⟨rfl, rfl⟩ := hx
    have h1 := hw _ (by
      simp only [DataW.weights, Tryz.underlying38, List.mem_cons]
      exact .inl rfl)
    rw [bytesMsg] at h1
    simp only [List.length_map, List.length_range] at h1
    rw [cellsMsg] at hel
    obtain ⟨f, hfn⟩ := choose_lt (n := len) (α := Me) (p := fun i x => MeOk W x ∧ W.cells? 0 (a.add (i * 3)) 3 = some (meC x)) (fun i hi => by
      obtain ⟨cs', h2, h3⟩ := hel i (by omega)
      obtain ⟨x, rfl, hok⟩ := cells_me h3 (fun n hn => hw n (by
        simp only [DataW.weights, Tryz.underlying38, List.mem_cons, List.mem_append]
        exact .inr (.inl (mem_all _ (List.mem_map.2 ⟨i, List.mem_range.2 hi, rfl⟩) hn))))
      exact ⟨x, hok, h2⟩)
    refine ⟨some a, (List.range len).map f, len, _, rfl, by simp, by omega, fun h0 => ?_⟩
    have hlen : 0 < len := by simpa using h0
    obtain ⟨b, off, spot⟩ := a
    have hspot : spot = none := by simpa [Addr.add] using spot_of_cells (hfn 0 hlen).2 (by decide)
    subst hspot
    refine ⟨b, off, rfl, block_lt_of_cell (range_of_cells (hfn 0 hlen).2 0 _ (List.getElem?_eq_getElem (by show 0 < 3; decide))), fun i hi => ?_⟩
    have hi' : i < len := by simpa using hi
    rw [List.getElem_map, List.getElem_range]
    exact ⟨(hfn i hi').1, range_of_cells (by have := (hfn i hi').2; rw [add_plain] at this; exact this)⟩
end
end Go.Proofs.YthcebnfdapcllaaGreatDoor.An
namespace Go.Proofs.YthcebnfdapcllaaGreatDoor.An
open Go.RowKit Mem Sc NN.Rg2
open Pg (Pl pbit gv Ws)
set_option maxRecDepth 100000
def CaAt (w : World) (b : Nat) (y : Ca) : Prop := Has w b (caA y) 37
theorem caL {y : Ca} (h : y.p.ok) : (caC y).length = 89 := by simp [caC, caT, prL h]
theorem caA_size {y : Ca} (h : y.p.ok) : (caA y).size = 89 := by simp [caA, caL h]
theorem caA_one {y : Ca} (h : y.p.one) : (caA y).all (·.oneCell') = true := all_oneCell_toArray fun v hv => by
  rcases List.mem_append.1 hv with h1 | h1
  · exact NN.prC_one h v h1
  · simp only [caT, List.mem_cons, List.not_mem_nil, or_false] at h1
    rcases h1 with rfl | rfl | rfl | rfl | rfl | rfl <;> rfl
theorem cainfo : (Tryz.prog.info? 37).map (·.size) = some 89 := by kernel_rfl
section
variable {w w' : World} {b : Nat} {y : Ca}
theorem CaAt.on (h : CaAt w b y) (hb : Below w.heap.size w w') : CaAt w' b y := below_has hb h (Has.lt h)
theorem CaAt.rules (h : CaAt w b y) : w.rangeAt b 0 (NN.prC y.p) := range_of (A := []) (C := caT y) h rfl
theorem CaAt.tail (h : CaAt w b y) (hp : y.p.ok) : w.rangeAt b 83 (caT y) := by
  have := range_of (A := NN.prC y.p) (cs := caT y) (C := []) (o := 83) (w := w) (b := b) (t := 37) (by rw [List.append_nil]; exact h) (prL hp)
  exact this
theorem CaAt.base (h : CaAt w b y) (hp : y.p.ok) : w.cell? ⟨b, 83, none⟩ = some (.slice y.ba y.bn y.bc) := h.tail hp 0 _ rfl
theorem CaAt.salt (h : CaAt w b y) (hp : y.p.ok) : w.cell? ⟨b, 84, none⟩ = some (.int .i64 y.x.s) := h.tail hp 1 _ rfl
theorem CaAt.per (h : CaAt w b y) (hp : y.p.ok) : w.cell? ⟨b, 85, none⟩ = some (.int .i64 y.x.p) := h.tail hp 2 _ rfl
theorem CaAt.off (h : CaAt w b y) (hp : y.p.ok) : w.cell? ⟨b, 86, none⟩ = some (.int .i64 y.x.o) := h.tail hp 3 _ rfl
theorem CaAt.z (h : CaAt w b y) (hp : y.p.ok) : w.cell? ⟨b, 87, none⟩ = some (.int .i64 y.z) := h.tail hp 4 _ rfl
theorem CaAt.now (h : CaAt w b y) (hp : y.p.ok) : w.cell? ⟨b, 88, none⟩ = some (.int .i64 y.now) := h.tail hp 5 _ rfl
theorem CaAt.plan (h : CaAt w b y) (hp : y.p.ok) : w.rangeAt b 84 (plA y.x).toList := fun j u hu => by
  have hj : j < 3 := (List.getElem?_eq_some_iff.1 hu).1
  obtain rfl | rfl | rfl : j = 0 ∨ j = 1 ∨ j = 2 := by omega
  · exact (h.salt hp).trans hu
  · exact (h.per hp).trans hu
  · exact (h.off hp).trans hu
theorem CaAt.fut (h : CaAt w b y) : w.cell? ⟨b, 3, none⟩ = some (.int .i64 y.p.fut) := h.rules 3 _ rfl
theorem CaAt.tl (h : CaAt w b y) (tt : y.p.tl = y.t.C) (j : Nat) (u : Value) (hu : y.t.C[j]? = some u) : w.cell? ⟨b, 5 + j, none⟩ = some u := by
  have := h.rules (5 + j) u (by
    unfold NN.prC
    rw [tt, show 5 + j = j + 1 + 1 + 1 + 1 + 1 by omega]
    exact hu)
  rwa [Nat.zero_add] at this
theorem CaAt.gates (h : CaAt w b y) (tt : y.p.tl = y.t.C) : w.cell? ⟨b, 5, none⟩ = some (.slice y.t.ga y.t.gn y.t.gc) := h.tl tt 0 _ rfl
theorem CaAt.checks (h : CaAt w b y) (tt : y.p.tl = y.t.C) : w.cell? ⟨b, 6, none⟩ = some (.slice y.t.ca y.t.cn y.t.cc) := h.tl tt 1 _ rfl
theorem CaAt.gen (h : CaAt w b y) (tt : y.p.tl = y.t.C) (tok : y.t.ok) : w.rangeAt b 15 (hdC y.t.g) := fun j u hu => by
  have := h.tl tt (10 + j) u (by
    unfold Tl.C
    rw [show 10 + j = (8 + j) + 1 + 1 by omega]
    show (y.t.nn ++ hdC y.t.g)[8 + j]? = some u
    rw [List.getElem?_append_right (by rw [tok.1]; omega), tok.1, Nat.add_sub_cancel_left]
    exact hu)
  rwa [show 5 + (10 + j) = 15 + j by omega] at this
theorem CaAt.gbits (h : CaAt w b y) (tt : y.p.tl = y.t.C) (tok : y.t.ok) : w.cell? ⟨b, 81, none⟩ = some (.int .i64 y.t.g.bits) := h.gen tt tok 66 _ (hdC_tail tok.2 1)
end
def rsA (p : NN.Pr) (v : Value) (x : Pl) (z M : Int) : Array Value := (NN.prC p ++ [v, Value.slice none 0 0, Value.slice none 0 0, Value.int .i64 0, Value.int .i64 x.s, Value.int .i64 x.p, Value.int .i64 x.o, Value.int .i64 z, Value.int .i64 M, Value.int .i64 1]).toArray
def rsZ : Array Value := (NN.prC prZ0 ++ [Value.slice none 0 0, Value.slice none 0 0, Value.slice none 0 0, Value.int .i64 0, Value.int .i64 0, Value.int .i64 0, Value.int .i64 0, Value.int .i64 0, Value.int .i64 0, Value.int .i64 0]).toArray
theorem built_rs0 (parts : List (Nat × Value)) : Tryz.prog.built 52 parts = Instr.fill ((#[(0, 83), (83, 1), (84, 1), (85, 1), (86, 1), (87, 1), (88, 1), (89, 1), (90, 1), (91, 1), (92, 1)] : Array (Nat × Nat))[·]?) rsZ parts := by kernel_rfl
theorem built_rs (p : NN.Pr) (hp : p.ok) (a : Option Addr) (n c : Nat) (x : Pl) (z M : Int) : Tryz.prog.built 52 [(0, .agg (NN.prA p)), (1, .slice a n c), (5, .int .i64 x.s), (6, .int .i64 x.p), (7, .int .i64 x.o), (8, .int .i64 z), (9, .int .i64 M), (10, .int .i64 1)] = some (rsA p (.slice a n c) x z M) := by
  rw [built_rs0]
  have h1 := prL hp
  obtain ⟨X, hX⟩ : ∃ X, X = NN.prC p := ⟨_, rfl⟩
  have e : rsA p (.slice a n c) x z M = (X ++ ([Value.slice a n c] ++ ([Value.slice none 0 0] ++ ([Value.slice none 0 0] ++ ([Value.int .i64 0] ++ ([Value.int .i64 x.s] ++ ([Value.int .i64 x.p] ++ ([Value.int .i64 x.o] ++ ([Value.int .i64 z] ++ ([Value.int .i64 M] ++ ([Value.int .i64 1] ++ []))))))))))).toArray := by
    subst hX
    simp [rsA]
  rw [e, show (NN.prA p) = X.toArray by subst hX; rfl]
  rw [← hX] at h1
  rw [show rsZ = ([] ++ (NN.prC prZ0 ++ ([Value.slice none 0 0] ++ ([Value.slice none 0 0] ++ ([Value.slice none 0 0] ++ ([Value.int .i64 0] ++ ([Value.int .i64 0] ++ ([Value.int .i64 0] ++ ([Value.int .i64 0] ++ ([Value.int .i64 0] ++ ([Value.int .i64 0] ++ ([Value.int .i64 0] ++ [])))))))))))).toArray from rfl,
    fill_step (off := 0) (n := 83) [] (NN.prC prZ0) _ X rfl rfl (prL prZ0_ok) rfl h1, List.nil_append,
    fill_step (off := 83) (n := 1) X [Value.slice none 0 0] _ [Value.slice a n c] rfl h1 rfl rfl rfl, ← List.append_assoc X, ← List.append_assoc (X ++ _), ← List.append_assoc (X ++ _ ++ _), ← List.append_assoc (X ++ _ ++ _ ++ _),
    fill_step (off := 87) (n := 1) (X ++ [Value.slice a n c] ++ [Value.slice none 0 0] ++ [Value.slice none 0 0] ++ [Value.int .i64 0]) [Value.int .i64 0] _ [Value.int .i64 x.s] rfl (by simp [h1]) rfl rfl rfl, ← List.append_assoc (X ++ _ ++ _ ++ _ ++ _),
    fill_step (off := 88) (n := 1) (X ++ [Value.slice a n c] ++ [Value.slice none 0 0] ++ [Value.slice none 0 0] ++ [Value.int .i64 0] ++ [Value.int .i64 x.s]) [Value.int .i64 0] _ [Value.int .i64 x.p] rfl (by simp [h1]) rfl rfl rfl, ← List.append_assoc (X ++ _ ++ _ ++ _ ++ _ ++ _),
    fill_step (off := 89) (n := 1) (X ++ [Value.slice a n c] ++ [Value.slice none 0 0] ++ [Value.slice none 0 0] ++ [Value.int .i64 0] ++ [Value.int .i64 x.s] ++ [Value.int .i64 x.p]) [Value.int .i64 0] _ [Value.int .i64 x.o] rfl (by simp [h1]) rfl rfl rfl, ← List.append_assoc (X ++ _ ++ _ ++ _ ++ _ ++ _ ++ _),
    fill_step (off := 90) (n := 1) (X ++ [Value.slice a n c] ++ [Value.slice none 0 0] ++ [Value.slice none 0 0] ++ [Value.int .i64 0] ++ [Value.int .i64 x.s] ++ [Value.int .i64 x.p] ++ [Value.int .i64 x.o]) [Value.int .i64 0] _ [Value.int .i64 z] rfl (by simp [h1]) rfl rfl rfl, ← List.append_assoc (X ++ _ ++ _ ++ _ ++ _ ++ _ ++ _ ++ _),
    fill_step (off := 91) (n := 1) (X ++ [Value.slice a n c] ++ [Value.slice none 0 0] ++ [Value.slice none 0 0] ++ [Value.int .i64 0] ++ [Value.int .i64 x.s] ++ [Value.int .i64 x.p] ++ [Value.int .i64 x.o] ++ [Value.int .i64 z]) [Value.int .i64 0] _ [Value.int .i64 M] rfl (by simp [h1]) rfl rfl rfl, ← List.append_assoc (X ++ _ ++ _ ++ _ ++ _ ++ _ ++ _ ++ _ ++ _),
    fill_step (off := 92) (n := 1) (X ++ [Value.slice a n c] ++ [Value.slice none 0 0] ++ [Value.slice none 0 0] ++ [Value.int .i64 0] ++ [Value.int .i64 x.s] ++ [Value.int .i64 x.p] ++ [Value.int .i64 x.o] ++ [Value.int .i64 z] ++ [Value.int .i64 M]) [Value.int .i64 0] _ [Value.int .i64 1] rfl (by simp [h1]) rfl rfl rfl, fill_nil]
  simp
theorem ex_build_rs {ρ : Operand → Value} {o : Oper} {w : World} {x0 x1 x5 x6 x7 x8 x9 : Operand} {p : NN.Pr} (hp : p.ok) {a : Option Addr} {n c : Nat} {x : Pl} {z M : Int} (ho : o.op = .build 52 #[(0, x0), (1, x1), (5, x5), (6, x6), (7, x7), (8, x8), (9, x9), (10, .const (.int .i64 1))]) (h0 : ρ x0 = .agg (NN.prA p)) (h1 : ρ x1 = .slice a n c) (h5 : ρ x5 = .int .i64 x.s) (h6 : ρ x6 = .int .i64 x.p) (h7 : ρ x7 = .int .i64 x.o) (h8 : ρ x8 = .int .i64 z) (h9 : ρ x9 = .int .i64 M) (hc : ρ (.const (.int .i64 1)) = .int .i64 1) : (execOp ρ o).run Tryz.prog w = .ok (.value (.agg (rsA p (.slice a n c) x z M))) w := by
  unfold execOp
  simp only [ho, Sem.run_bind]
  rw [show (#[(0, x0), (1, x1), (5, x5), (6, x6), (7, x7), (8, x8), (9, x9), (10, .const (.int .i64 1))] : Array (Nat × Operand)).map (fun (i, x) => (i, ρ x)) = #[(0, .agg (NN.prA p)), (1, .slice a n c), (5, .int .i64 x.s), (6, .int .i64 x.p), (7, .int .i64 x.o), (8, .int .i64 z), (9, .int .i64 M), (10, .int .i64 1)] by simp [hc, h0, h1, h5, h6, h7, h8, h9], run_build w 52 _ _ (built_rs p hp a n c x z M)]
  rfl
theorem ex_box_rs {ρ : Operand → Value} {o : Oper} {w : World} {x : Operand} {cs : Array Value} (ho : o.op = .box 52 x) (hx : ρ x = .agg cs) : (execOp ρ o).run Tryz.prog w = .ok (.value (.pointer (some ⟨w.heap.size, 0, none⟩))) (w.alloc (.cells cs 52)) := by
  unfold execOp
  simp only [ho, hx, Sem.run_bind, Instr.box, newVar, newRow, run_newObj_alloc, Sem.run_pure, Result.andThen_ok]
  rfl
theorem rs91 {w : World} {b : Nat} {p : NN.Pr} {v : Value} {x : Pl} {z M : Int} (h : Has w b (rsA p v x z M) 52) (hp : p.ok) : w.cell? ⟨b, 91, none⟩ = some (.int .i64 M) := by
  have := range_of (A := NN.prC p) (cs := [v, Value.slice none 0 0, Value.slice none 0 0, Value.int .i64 0, Value.int .i64 x.s, Value.int .i64 x.p, Value.int .i64 x.o, Value.int .i64 z, Value.int .i64 M, Value.int .i64 1]) (C := []) (o := 83) (w := w) (b := b) (t := 52) (by rw [List.append_nil]; exact h) (prL hp)
  exact this 8 _ rfl
theorem sup_one {w : World} {s : Sp} {q : Ps} {lo b0 : Nat} (h : SpIs w lo s q) (e : s.a = some ⟨b0, 0, none⟩) : Sup (fun i => i = b0) (fun w => SpIs w 0 s q) w := fun w' k => by
  obtain ⟨h1, h2, h3, h4, h5, h6⟩ := h
  refine ⟨h1, h2, h3, h4, h5, fun h0 => ?_⟩
  obtain ⟨b, off, e2, g1, g2, hc⟩ := h6 h0
  have eb : b = b0 := by rw [e] at e2; cases e2; rfl
  exact ⟨b, off, e2, Nat.zero_le _, Nat.lt_of_lt_of_le g2 k.size, fun j hj => (World.cell?_of_block (w := w) (a := ⟨b, off + j, none⟩) (k.block b g2 (fun hn => hn eb))).trans (hc j hj)⟩
end Go.Proofs.YthcebnfdapcllaaGreatDoor.An
namespace Go.Proofs.YthcebnfdapcllaaGreatDoor.An
open Go.RowKit Mem Sc NN.Rg2
open Pg (Pl pbit gv Ws)
set_option maxRecDepth 100000
theorem kp_rowB (w : World) (b : Nat) (cs : Array Value) : Kp (fun i => i = b) w (w.setRow b cs) := ⟨rfl, rfl, rfl, by rw [setRow_size]; exact Nat.le_refl _, fun k _ hn => setRow_other w b k _ hn⟩
structure BgS (w wr : World) (y : Ca) (b1 bA bN q r : Nat) (v : Value) : Prop where
  sp : ∃ s x b0, SpAt wr bA s ∧ s.ok ∧ s.a = some ⟨b0, 0, none⟩ ∧ Sup (fun i => i = b0) (fun w => SpIs w 0 s x) wr ∧ b0 < wr.heap.size ∧ b0 ≠ bA ∧ b0 ≠ bN ∧ v.ownBlock ≠ some b0 ∧ (0 < x.ts.length ∧ x.ts.length ≤ 11) ∧ x.x.h = (q : Int) + 1
  nm : ∃ c, Has wr bN (NN.numC c) 26 ∧ c < NN.Nm.big
  row : ∃ xs, wr.ownsRow 0 30 68 v (r + 1) xs
  ca : CaAt wr b1 y
  vb : v.ownBlock ≠ some bA ∧ v.ownBlock ≠ some bN ∧ v.ownBlock ≠ some b1 ∧ ∀ i, v.ownBlock = some i → w.heap.size ≤ i
  ab : bA ≠ bN ∧ b1 ≠ bA ∧ b1 ≠ bN ∧ w.heap.size ≤ bA ∧ w.heap.size ≤ bN
  below : Below w.heap.size w wr
section
variable {w wr w' : World} {y : Ca} {b1 bA bN q r : Nat} {v v' : Value}
theorem BgS.on (h : BgS w wr y b1 bA bN q r v) (hb : Below wr.heap.size wr w') : BgS w w' y b1 bA bN q r v := by
  obtain ⟨s, x, b0, h1, h2, h3, h4, h5, h6, h7, h8, h9, h10⟩ := h.sp
  obtain ⟨c, n1, n2⟩ := h.nm
  obtain ⟨xs, hr⟩ := h.row
  have K := Kp.of (F := fun _ => False) hb
  exact ⟨⟨s, x, b0, h1.on hb, h2, h3, h4.on K (fun _ _ h => h), Nat.lt_of_lt_of_le h5 hb.size, h6, h7, h8, h9, h10⟩, ⟨c, below_has hb n1 n1.lt, n2⟩, ⟨xs, kp_row hr K (fun _ _ h => h)⟩, h.ca.on hb, h.vb, h.ab, h.below.trans (hb.mono h.below.size)⟩
theorem BgS.spot (h : BgS w wr y b1 bA bN q r v) {s : Sp} {x : Ps} {b0 lo : Nat} (so : s.ok) (hs : SpIs wr lo s x) (e : s.a = some ⟨b0, 0, none⟩) (h5 : b0 < wr.heap.size) (h6 : b0 ≠ bA) (h7 : b0 ≠ bN) (h8 : v.ownBlock ≠ some b0) (h9 : 0 < x.ts.length ∧ x.ts.length ≤ 11) (h10 : x.x.h = ((q + 1 : Nat) : Int) + 1) : BgS w (wr.setRow bA (spA s)) y b1 bA bN (q + 1) r v := by
  obtain ⟨s0, x0, b00, g1, -⟩ := h.sp
  obtain ⟨c, n1, n2⟩ := h.nm
  obtain ⟨xs, hr⟩ := h.row
  have K := kp_rowB wr bA (spA s)
  obtain ⟨a1, a2, a3, a4, a5⟩ := h.ab
  exact ⟨⟨s, x, b0, Has.row g1 _, so, e, (sup_one hs e).on K (fun i hi hu => h6 (hi.symm.trans hu)), by rw [setRow_size]; exact h5, h6, h7, h8, h9, h10⟩, ⟨c, K.nhas n1 (Ne.symm a1), n2⟩, ⟨xs, kp_row hr K (fun i hi hu => h.vb.1 (hu ▸ hi))⟩, K.has h.ca a2, h.vb, ⟨a1, a2, a3, a4, a5⟩, h.below.trans (K.below (B := w.heap.size) (fun i hi => by rw [hi]; exact a4) h.below.size)⟩
theorem BgS.num (h : BgS w wr y b1 bA bN q r v) {c : Nat} (hc : c < NN.Nm.big) : BgS w (wr.setRow bN (NN.numC c)) y b1 bA bN q r v := by
  obtain ⟨s, x, b0, h1, h2, h3, h4, h5, h6, h7, h8, h9, h10⟩ := h.sp
  obtain ⟨c0, n1, n2⟩ := h.nm
  obtain ⟨xs, hr⟩ := h.row
  have K := kp_rowB wr bN (NN.numC c)
  obtain ⟨a1, a2, a3, a4, a5⟩ := h.ab
  exact ⟨⟨s, x, b0, K.has h1 a1, h2, h3, h4.on K (fun i hi hu => h7 (hi.symm.trans hu)), by rw [setRow_size]; exact h5, h6, h7, h8, h9, h10⟩, ⟨c, NN.Has.row n1 _, hc⟩, ⟨xs, kp_row hr K (fun i hi hu => h.vb.2.1 (hu ▸ hi))⟩, K.has h.ca a3, h.vb, ⟨a1, a2, a3, a4, a5⟩, h.below.trans (K.below (B := w.heap.size) (fun i hi => by rw [hi]; exact a5) h.below.size)⟩
theorem BgS.more (h : BgS w wr y b1 bA bN q r v) {xs : List Value} (hg : wr.grownBy w' v.ownBlock) (hr : w'.ownsRow 0 30 68 v' (r + 1 + 1) xs) (hv : v'.ownBlock = v.ownBlock ∨ ∃ z, wr.heap.size ≤ z ∧ v'.ownBlock = some z) (hbA : bA < wr.heap.size) (hbN : bN < wr.heap.size) (hb1 : b1 < wr.heap.size) : BgS w w' y b1 bA bN q (r + 1) v' := by
  obtain ⟨s, x, b0, h1, h2, h3, h4, h5, h6, h7, h8, h9, h10⟩ := h.sp
  obtain ⟨c, n1, n2⟩ := h.nm
  obtain ⟨v1, v2, v3, v4⟩ := h.vb
  have K : Kp (fun i => v.ownBlock = some i) wr w' := Kp.gb hg (fun k hk => hk)
  have hz := h.below.size
  have hne : ∀ i, i < wr.heap.size → v.ownBlock ≠ some i → v'.ownBlock ≠ some i := fun i hi hn => by
    rcases hv with e | ⟨z, hz, e⟩
    · rw [e]; exact hn
    · rw [e]; intro hh; cases hh; omega
  exact ⟨⟨s, x, b0, K.has h1 v1, h2, h3, h4.on K (fun i hi hu => h8 (hi ▸ hu)), Nat.lt_of_lt_of_le h5 K.size, h6, h7, hne _ h5 h8, h9, h10⟩, ⟨c, K.nhas n1 v2, n2⟩, ⟨xs, hr⟩, K.has h.ca v3, ⟨hne _ hbA v1, hne _ hbN v2, hne _ hb1 v3, fun i hi => by
    rcases hv with e | ⟨z, hz, e⟩
    · exact v4 i (e ▸ hi)
    · rw [e] at hi; cases hi; omega⟩, h.ab, h.below.trans (K.below (B := w.heap.size) (fun i hi => v4 i hi) h.below.size)⟩
end
theorem num_range {w : World} {g c : Nat} (h : Has w g (NN.numC c) 26) : w.rangeAt g 0 (nmC c) := fun j u hu => by
  rw [Nat.zero_add]
  exact (Has.cell h j).trans (by rw [← Array.getElem?_toList]; exact hu)
theorem ex_build_start {ρ : Operand → Value} {o : Oper} {w : World} {x0 x1 : Operand} {s : Sp} (hs : s.ok) {c : Nat} (ho : o.op = .build 63 #[(0, x0), (1, x1)]) (h0 : ρ x0 = .agg (spA s)) (h1 : ρ x1 = .agg (NN.numC c)) : (execOp ρ o).run Tryz.prog w = .ok (.value (.agg (stA s c))) w := by
  unfold execOp
  simp only [ho, Sem.run_bind]
  rw [show (#[(0, x0), (1, x1)] : Array (Nat × Operand)).map (fun (i, x) => (i, ρ x)) = #[(0, .agg (spA s)), (1, .agg (NN.numC c))] by simp [h0, h1], run_build w 63 _ _ (built_start s hs c)]
  rfl
theorem ex_load_plm {ρ : Operand → Value} {o : Oper} {w : World} {x : Operand} {g off : Nat} {y : Pl} (ho : o.op = .load 35 x) (hx : ρ x = .pointer (some ⟨g, off, none⟩)) (hg : w.rangeAt g off (plA y).toList) : (execOp ρ o).run Tryz.prog w = .ok (.value (.agg (plA y))) w :=
  pex_mid ho hx Tryz.underlying35 rfl plinfo hg
theorem behind_is {w : World} (p : NN.Pr) (hp : p.ok) (s : Sp) (so : s.ok) (q : Ps) {lo : Nat} (h : SpIs w lo s q) (hl : 0 < q.ts.length ∧ q.ts.length ≤ 11) (hx : 0 ≤ q.x.h) (hx2 : q.x.h ≤ 1000000) (x : Hd) (ho : x.ok) (hT : Tab w) :
    Calls Tryz.prog 18 #[.agg (NN.prA p), .agg (spA s), .agg (hdA x)] w fun r w' => ∃ s' b', r = .returned (.agg (spA s')) ∧ s'.ok ∧ SpIs w' w.heap.size s' (bh p q x) ∧ s'.a = some ⟨b', 0, none⟩ ∧ w.heap.size ≤ b' ∧ b' < w'.heap.size ∧ Below w.heap.size w w' := by
  obtain ⟨e1, e2, e3, e4, ⟨ab, e5⟩, e6⟩ := h
  refine (behind_at p hp s so q.ts e3 e4 (by omega) (fun e => by rw [e5] at e; cases e) (by rw [e1]; exact hx) (by rw [e1]; exact hx2) x ho w hT (fun h0 => by
    obtain ⟨b, off, g1, g2, g3, g4⟩ := e6 h0
    exact ⟨b, off, g1, Nat.zero_le _, g3, g4⟩)).mono ?_
  rintro r w2 ⟨b', c', rfl, h1, h2, h3⟩
  obtain ⟨b, off, g1, g2, g3, _⟩ := h2 (Nat.succ_pos _)
  have : b' = b := by cases g1; rfl
  exact ⟨_, b', rfl, id_length x, ⟨by show bhx p s.x x = bhx p q.x x; rw [e1], rfl, rfl, h1, ⟨b', rfl⟩, h2⟩, rfl, by omega, by omega, h3⟩
set_option maxHeartbeats 16000000 in
theorem begin_law (y : Ca) (w : World) (hT : Tab w) (ok : CaOk w y) (hgl : y.gs.length ≤ 20) (hcl : y.ks.length ≤ 20) (hbl : y.hs.length ≤ 20) :
    Calls Tryz.prog 7 #[.agg (caA y)] w fun r w' => Below w.heap.size w w' ∧ ((r = .returned (.tuple #[.pointer none, .pointer none])) ∨ ∃ b mB F M, r = .returned (.tuple #[.pointer (some ⟨b, 0, none⟩), .pointer (some ⟨mB, 0, none⟩)]) ∧ SyW w' F b 1 M y.z.toNat 21 ∧ (1 ≤ y.z ∧ y.z ≤ 64) ∧ (∀ i, F i → w.heap.size ≤ i) ∧ w'.cell? ⟨mB, 91, none⟩ = some (.int .i64 M) ∧ mB < w'.heap.size ∧ ¬ F mB) := by
  have zc := caA_size ok.p
  have zo := caA_one ok.one
  have z0 := spA_size spZ_ok
  have OK := Lib.hid ok
  have HT := Lib.hid hT
  have hp := ok.p
  have HL := Lib.hid (And.intro hgl (And.intro hcl hbl))
  have s1 := hdC_length ok.tok.2
  have hgk := ok.tok.2
  clear hT ok hgl hcl hbl
  go_enter Tryz.func7, Tryz.ntmps7
  go_upto_region 1 with fail
  generalize hw0 : World.alloc _ _ = v0
  have hB0 : Below w.heap.size w v0 := by rw [← hw0]; exact (Below.refl _ _).alloc (Nat.le_refl _) _
  have hCA : CaAt v0 w.heap.size y := by rw [← hw0]; exact Has.new _ _
  clear hw0
  obtain ⟨b1, hb1⟩ : ∃ b1, b1 = w.heap.size := ⟨_, rfl⟩
  rw [← hb1] at hCA ⊢
  have HB1 := Lib.hid hb1
  have B0 := Lib.hid hB0
  have C0 := Lib.hid hCA
  have hrul := hCA.rules
  have KB := Lib.hid (begin_at y.p OK.out.p y.t OK.out.tt OK.out.tok v0 (HT.out.below hB0))
  clear hb1 hB0 hCA
  go_wp2_with (with_reducible refine st_val rfl (ex_load_pr rfl rfl hrul hp) ?_)
  refine KB.out.mono ?_
  rintro r v1 ⟨s, rfl, zs, hS, hb⟩
  have B1 := Lib.hid (B0.out.trans (hb.mono B0.out.size))
  have C1 := Lib.hid (C0.out.on hb)
  have HS1 := Lib.hid hS
  have HE1 := Lib.hid (show b1 < v0.heap.size from Has.lt C0.out)
  have HV01 := Lib.hid hb.size
  clear hb hS hrul KB B0 C0
  have hZ := sp_newz v1
  go_upto_region 2 with (with_reducible refine sp_store rfl _ _ rfl _ _ s rfl rfl rfl zs hZ z0 ?_)
  generalize hw2 : World.setRow _ _ _ = v2
  have hA : SpAt v2 v1.heap.size s := by rw [← hw2]; exact Has.row hZ _
  have hb2 : Below v1.heap.size v1 v2 := by rw [← hw2]; exact below_setRow ((Below.refl _ _).alloc (Nat.le_refl _) _) (Nat.le_refl _) _
  clear hZ hw2
  obtain ⟨bA, hbA⟩ : ∃ bA, bA = v1.heap.size := ⟨_, rfl⟩
  rw [← hbA] at hA ⊢
  have HBA := Lib.hid hbA
  have B2 := Lib.hid (B1.out.trans (hb2.mono B1.out.size))
  have C2 := Lib.hid (C1.out.on hb2)
  have HS2 := Lib.hid (HS1.out.on hb2)
  have HA2 := Lib.hid hA
  have HB0 : Hid (∃ b0, s.a = some ⟨b0, 0, none⟩ ∧ b0 < bA) := Lib.hid (by
    obtain ⟨q1, q2, q3, q4, ⟨b0, q5⟩, q6⟩ := HS1.out
    obtain ⟨b, off, e2, g1, g2, _⟩ := q6 (Nat.succ_pos _)
    have : b = b0 := by rw [q5] at e2; cases e2; rfl
    exact ⟨b0, q5, by rw [hbA]; omega⟩)
  have HSO : Hid s.ok := Lib.hid (by have : s.prev = (bgn y.p y.t.g).prev := HS1.out.2.1; show s.prev.length = 32; rw [this]; exact id_length _)
  clear hA hbA hb2 HS1 B1 C1
  have hgen := C2.out.gen OK.out.tt OK.out.tok
  go_upto_region 3 with (first
    | (with_reducible refine st_val rfl (ex_load_hdr rfl rfl hgen hgk) ?_)
    | (with_reducible refine st_val rfl (ex_build_hd rfl rfl hgk) ?_))
  generalize hw3 : World.alloc _ _ = v3
  have hG3 : Has v3 v2.heap.size (hdA y.t.g) 30 := by rw [← hw3]; exact Has.new _ _
  have hb3 : Below v2.heap.size v2 v3 := by rw [← hw3]; exact (Below.refl _ _).alloc (Nat.le_refl _) _
  clear hw3
  obtain ⟨bG, hbG⟩ : ∃ bG, bG = v2.heap.size := ⟨_, rfl⟩
  rw [← hbG] at hG3 ⊢
  have HBG := Lib.hid hbG
  have B3 := Lib.hid (B2.out.trans (hb3.mono B2.out.size))
  have C3 := Lib.hid (C2.out.on hb3)
  have HS3 := Lib.hid (HS2.out.on hb3)
  have HA3 := Lib.hid (show SpAt v3 bA s from HA2.out.on hb3)
  have HAB := Lib.hid (show bA < bG from by have := HA2.out.lt; omega)
  have HG3 := Lib.hid hG3
  clear hgen hbG hb3 hG3 HS2 HA2 B2 C2
  have c81 := C3.out.gbits OK.out.tt OK.out.tok
  have KO := Lib.hid (NN.robits_any y.t.g.bits)
  go_wp2_with fail
  refine (KO.out _).mono ?_
  rintro r v4 ⟨z, ⟨hz, -⟩, rfl, hb⟩
  have B4 := Lib.hid (B3.out.trans (hb.mono B3.out.size))
  have C4 := Lib.hid (C3.out.on hb)
  have HS4 := Lib.hid (HS3.out.on hb)
  have HA4 := Lib.hid (show SpAt v4 bA s from HA3.out.on hb)
  have HG4 := Lib.hid (below_has hb HG3.out HG3.out.lt)
  have HZ := Lib.hid hz
  clear c81 hb hz HS3 HA3 HG3 B3 C3 KO
  have hN := NN.Has.newz (w := v4) 26
  go_upto_region 4 with (with_reducible refine NN.num_store rfl _ _ rfl _ z rfl rfl _ hN rfl ?_)
  generalize hw5 : World.setRow _ _ _ = v5
  have hN5 : Has v5 v4.heap.size (NN.numC z) 26 := by rw [← hw5]; exact Has.row hN _
  have hb5 : Below v4.heap.size v4 v5 := by rw [← hw5]; exact below_setRow ((Below.refl _ _).alloc (Nat.le_refl _) _) (Nat.le_refl _) _
  clear hN hw5
  obtain ⟨bN, hbN⟩ : ∃ bN, bN = v4.heap.size := ⟨_, rfl⟩
  rw [← hbN] at hN5 ⊢
  have C5 := Lib.hid (C4.out.on hb5)
  have hS5 : BgS w v5 y b1 bA bN 0 0 (.slice (some ⟨bG, 0, none⟩) 1 1) := by
    obtain ⟨b0, q1, q2⟩ := HB0.out
    have e1 := HAB.out
    have e2 := HG4.out.lt
    have e3 := B4.out.size
    have e4 := HE1.out
    have e5 := HBA.out
    have e6 := HB1.out
    have e7 := HBG.out
    have hs5 := hb5.size
    have e8 := HV01.out
    exact ⟨⟨s, bgn y.p y.t.g, b0, HA4.out.on hb5, HSO.out, q1, sup_one (HS4.out.on hb5) q1, (by omega : b0 < v5.heap.size), (by omega : b0 ≠ bA), (by omega : b0 ≠ bN), fun h => by have h : bG = _ := Option.some.inj h; omega, ⟨Nat.succ_pos _, by show (_ :: _).length ≤ 11; simp⟩, rfl⟩, ⟨z, hN5, HZ.out⟩, ⟨_, row_one hgk (below_has hb5 HG4.out HG4.out.lt)⟩, C5.out, ⟨fun h => by have h : bG = _ := Option.some.inj h; omega, fun h => by have h : bG = _ := Option.some.inj h; omega, fun h => by have h : bG = _ := Option.some.inj h; omega, fun i hi => by have h : bG = i := Option.some.inj hi; omega⟩, ⟨by omega, by omega, by omega, by omega, by omega⟩, B4.out.trans (hb5.mono B4.out.size)⟩
  have HS5 := Lib.hid hS5
  clear hN5 hb5 hbN hS5 HS4 HA4 HG4 B4 C4 HSO HB0 HZ
  have c83 := C5.out.base hp
  obtain ⟨n, hn⟩ : ∃ n, y.bn = n := ⟨_, rfl⟩
  rw [hn] at c83
  have HN := Lib.hid (show n = y.hs.length by rw [← hn]; exact OK.out.bn)
  have C5B := Lib.hid (show Below w.heap.size w v5 from HS5.out.below)
  obtain ⟨ba, hba0⟩ : ∃ ba, y.ba = ba := ⟨_, rfl⟩
  rw [hba0] at c83
  have HBS := Lib.hid (show HeadersAt w ba y.hs by rw [← hba0]; exact OK.out.base)
  have hn20 : n ≤ 20 := by have := HL.out.2.2; have := HN.out; omega
  clear hn hba0
  go_wp2_with fail
  go_loopw [5, 27] (fun v i wr => ∃ k : Nat, k ≤ n ∧ i = .int .i64 (k : Int) ∧ BgS w wr y b1 bA bN k k v) (fun _ i _ => n - (intOf i).toNat)
  case atStart => exact ⟨0, Nat.zero_le _, rfl, HS5.out⟩
  case round =>
    obtain ⟨k, hk, rfl, hQ⟩ := hrel
    obtain ⟨s0, q0, b00, hA, hso, hsa, hsup, hb0, h0A, h0N, h0v, hts, hqh⟩ := hQ.sp
    obtain ⟨cn, hnm, hnb⟩ := hQ.nm
    obtain ⟨xs, hrow⟩ := hQ.row
    obtain ⟨gv0, cv0, rfl⟩ := row_one_own hrow (Nat.succ_pos _)
    have HQ := Lib.hid hQ
    by_cases hlt : k < n
    · have hkl : k < y.hs.length := by rw [← HN.out]; exact hlt
      obtain ⟨ab, ao, rfl, habl, hcc⟩ := (HBS.out.below (hQ.below.mono (Nat.le_refl _))) (by omega)
      have f1 : (k : Int) < (n : Int) := by omega
      obtain ⟨ho, rx⟩ := hcc k hkl
      obtain ⟨x, hx⟩ : ∃ x, x = y.hs[k] := ⟨_, rfl⟩
      rw [← hx] at ho rx
      have zx := hdC_length ho
      have za := hdA_size ho
      have hz0 := hdA_size hdZ_ok
      have hZ := hd_newz wr
      have OX := Lib.hid ho
      have HS0 := Lib.hid hsup
      have HQH := Lib.hid hqh
      have HTS := Lib.hid hts
      have HSA := Lib.hid hsa
      have HB00 := Lib.hid (And.intro hb0 (And.intro h0A h0N))
      clear hx hcc ho hQ hrow hnm hsup hqh hts hsa hb0 h0A h0N h0v
      go_upto_region 7 with (first
        | (with_reducible refine hd_load_mid rfl _ rfl ab (ao + k * 68) rfl x rx zx ?_)
        | (with_reducible refine hd_store rfl _ _ rfl _ _ x rfl rfl rfl za hZ hz0 ?_))
      generalize hw6 : World.setRow _ _ _ = v6
      have hX : HdAt v6 wr.heap.size x := by rw [← hw6]; exact Has.row hZ _
      have hb6 : Below wr.heap.size wr v6 := by rw [← hw6]; exact below_setRow ((Below.refl _ _).alloc (Nat.le_refl _) _) (Nat.le_refl _) _
      clear hw6 hZ rx
      obtain ⟨bx, hbx⟩ : ∃ bx, bx = wr.heap.size := ⟨_, rfl⟩
      rw [← hbx] at hX ⊢
      have hA6 : SpAt v6 bA s0 := hA.on hb6
      have HQ6 := Lib.hid (HQ.out.on hb6)
      have hrul := HQ6.out.ca.rules
      have hz6 : (spA s0).size = 38 := spA_size hso
      have HX6 := Lib.hid hX
      have HBX := Lib.hid (show bA < bx ∧ bN < bx ∧ b1 < bx ∧ gv0 < bx from by
        obtain ⟨_, hr⟩ := HQ.out.row
        obtain ⟨_, hN, _⟩ := HQ.out.nm
        exact ⟨by rw [hbx]; exact hA.lt, by rw [hbx]; exact hN.lt, by rw [hbx]; exact Has.lt HQ.out.ca, by rw [hbx]; exact (row_lt hr rfl).1⟩)
      have KB := Lib.hid (behind_is y.p hp s0 hso q0 (HS0.out.on (Kp.of (F := fun _ => False) hb6) (fun _ _ h => h)).now HTS.out (by have := HQH.out; omega) (by have := HQH.out; have := HL.out.2.2; omega) x OX.out (HT.out.below (HQ6.out.below)))
      clear hA hb6 hbx
      go_wp2_with (first | (with_reducible refine st_val rfl (ex_load_pr rfl rfl hrul hp) ?_) | (with_reducible refine sp_load rfl _ rfl _ rfl hA6 hz6 ?_) | (with_reducible refine hd_load rfl _ rfl _ rfl hX za ?_))
      refine KB.out.mono ?_
      rintro r v7 ⟨s', b', rfl, so', hS', e', hlo, hlt', hb⟩
      have HQ7 := Lib.hid ((HQ6.out.on hb).spot (s := s') (x := bh y.p q0 x) so' hS' e' hlt' (by have := HBX.out; have := HX6.out.lt; omega) (by have := HBX.out; have := HX6.out.lt; omega) (fun h => by have h : gv0 = b' := Option.some.inj h; have := HBX.out; have := HX6.out.lt; omega) ⟨Nat.succ_pos _, by show (_ :: q0.ts.take 10).length ≤ 11; rw [List.length_cons, List.length_take]; omega⟩ (by have := HQH.out; show q0.x.h + 1 = _; push_cast; omega))
      have hA7 := hA6.on hb
      have hX7 : HdAt v7 bx x := HX6.out.on hb
      have HX7 := Lib.hid hX7
      have zs' : (spA s').size = 38 := spA_size so'
      clear hA6 hX hrul KB hb hS' e' hlo hlt' HQ6 HX6 so'
      go_upto_region 8 with (with_reducible refine sp_store rfl _ _ rfl _ _ s' rfl rfl rfl zs' hA7 hz6 ?_)
      have hX8 : HdAt (v7.setRow bA (spA s')) bx x := (kp_rowB v7 bA (spA s')).has hX7 (by have := HBX.out; omega)
      generalize World.setRow _ _ _ = v8 at *
      have HX8 := Lib.hid hX8
      obtain ⟨xs8, hr8⟩ := HQ7.out.row
      have bA8 : Below v8.heap.size v8 (v8.alloc (.cells (hdA x) 30)) := (Below.refl _ _).alloc (Nat.le_refl _) _
      obtain ⟨u', v9, r1, r2, r3, r4⟩ := append_hds (w := v8.alloc (.cells (hdA x) 30)) (kp_row hr8 (kp_keep0 bA8) (fun _ _ h => h)) (row_one OX.out (Has.new _ _)) (hdC_one x) (by have := HL.out.2.2; omega) 33
      have HQ9 := Lib.hid ((HQ7.out.on bA8).more r3 r2 (r4.imp id (fun h => ⟨_, Nat.le_refl _, h⟩)) (by have := HBX.out; have := hX8.lt; have := bA8.size; omega) (by have := HBX.out; have := hX8.lt; have := bA8.size; omega) (by have := HBX.out; have := hX8.lt; have := bA8.size; omega))
      have hX9 : HdAt v9 bx x := (Kp.gb r3 (fun k hk => hk)).has (hX8.on bA8) (fun h => by have h : gv0 = bx := Option.some.inj h; have := HBX.out; omega)
      obtain ⟨gv1, cv1, rfl⟩ := row_one_own r2 (Nat.succ_pos _)
      clear hA7 hX7 HQ7 HX7 hr8 bA8 r2 r3 r4
      go_upto_region 9 with (first
        | (with_reducible refine hd_load rfl _ rfl _ rfl hX8 za ?_)
        | (with_reducible refine st_val rfl (ex_build_hd rfl rfl OX.out) ?_)
        | (at_builtin; refine st_val rfl (ex_append_hds rfl rfl rfl r1) ?_))
      have HX9 := Lib.hid hX9
      obtain ⟨c9, hn9, hc9⟩ := HQ9.out.nm
      obtain ⟨cb, hcb⟩ : ∃ cb, NN.ofBits x.bits = cb := ⟨_, rfl⟩
      have hcbb : cb < NN.Nm.big := by rw [← hcb]; exact NN.ofBits_lt _
      have HCB := Lib.hid hcb
      have HN9 := Lib.hid hn9
      obtain ⟨z2, hz2⟩ : ∃ z2, NN.Nm.cap (c9 + cb) = z2 := ⟨_, rfl⟩
      have hzb : z2 < NN.Nm.big := by rw [← hz2]; exact NN.Nm.cap_lt _
      have HZ2 := Lib.hid hz2
      have KR := Lib.hid (fun w => NN.rsum_at c9 cb hc9 hcbb w)
      clear r1 hX8 HX8 hX9 hn9 hcb hz2
      refine wp_tab (fun b1 _ w' => ∃ u1, Below v9.heap.size v9 u1 ∧ w' = bif b1 then u1.setRow bN (NN.numC z2) else u1) 5 99 [0, 2, 3, 4, 5] [.agg (NN.numC c9), .pointer (some ⟨bx, 66, none⟩), .int .i64 x.bits, .agg (NN.numC cb), .agg (NN.numC z2), undef] ⟨_, (Below.refl _ _).drew, rfl⟩
        ⟨fun f1 _ w' h1 _ hC => ?_, fun f1 _ w' h1 _ hC => ?_, fun f1 _ w' h1 _ hC => ?_, fun f1 _ w' h1 _ hC => ?_, fun f1 _ w' h1 _ hC => ?_, trivial⟩ ?_
      · obtain rfl := h1.no (by kernel_rfl)
        obtain ⟨u1, q1, rfl⟩ := hC
        exact .val (ex_load_nm rfl rfl (num_range (below_has q1 HN9.out HN9.out.lt))) ⟨_, q1, rfl⟩
      · obtain rfl := h1.no (by kernel_rfl)
        obtain ⟨u1, q1, rfl⟩ := hC
        exact .val (ex_load_bits rfl rfl ((HX9.out.on q1).bits OX.out)) ⟨_, q1, rfl⟩
      · obtain rfl := h1.no (by kernel_rfl)
        obtain ⟨u1, q1, rfl⟩ := hC
        refine .call ((NN.robits_any x.bits _).mono fun e w'' h => ?_)
        obtain ⟨zz, ⟨-, hz⟩, he, hb⟩ := h
        exact ⟨by rw [he, hz, HCB.out]; rfl, w'', q1.trans (hb.mono q1.size), rfl⟩
      · obtain rfl := h1.no (by kernel_rfl)
        obtain ⟨u1, q1, rfl⟩ := hC
        exact .call ((KR.out _).mono fun e w'' h => ⟨by rw [h.1, HZ2.out]; rfl, w'', q1.trans (h.2.mono q1.size), rfl⟩)
      · obtain rfl := h1.no (by kernel_rfl)
        obtain ⟨u1, q1, rfl⟩ := hC
        exact .store rfl (NN.ex_store_num rfl rfl rfl (below_has q1 HN9.out HN9.out.lt) rfl) ⟨_, q1, rfl⟩
      rintro v10 ⟨u1, q1, hv⟩
      obtain rfl : v10 = u1.setRow bN (NN.numC z2) := hv
      simp only [finT, List.set_cons_zero, List.set_cons_succ, List.tail_cons, List.headD_cons]
      have hQ10 := (HQ9.out.on q1).num hzb
      generalize World.setRow _ _ _ = v10 at *
      have HQ10 := Lib.hid hQ10
      clear hQ10
      clear q1 HQ9 HN9 HX9 KR
      go_wp2_with fail
      go_roundw
      case rel => exact ⟨k + 1, by omega, by go_num, HQ10.out⟩
      case measure => simp [intOf]; omega
    · obtain rfl : k = n := by omega
      have f1 : ¬ (k : Int) < (k : Int) := by omega
      obtain ⟨c0, hc0, hcb⟩ : ∃ c0, Has wr bN (NN.numC c0) 26 ∧ c0 < NN.Nm.big := ⟨cn, hnm, hnb⟩
      have HSI := Lib.hid hsup.now
      have hsa := Lib.hid hsa
      have HTS := Lib.hid hts
      have hrul := HQ.out.ca.rules
      have hpl := HQ.out.ca.plan hp
      have c87 := HQ.out.ca.z hp
      have c88 := HQ.out.ca.now hp
      have hz6 : (spA s0).size = 38 := spA_size hso
      have hSO := hso
      have hnr := num_range hc0
      have KN := Lib.hid (new_at19 y.p hp OK.out.one y.t OK.out.tt OK.out.tok y.gs y.ks OK.out.gn OK.out.cn (by have := HL.out; have := OK.out.gn; omega) (by have := HL.out; have := OK.out.cn; omega) y.c OK.out.mw OK.out.cb s0 hso q0 ⟨hts.1, hts.2, by omega⟩ c0 hcb y.x y.z y.now 21 (by have := HL.out; have := HN.out; push_cast; omega) wr (HT.out.below HQ.out.below) (OK.out.gates.below (HQ.out.below.mono (Nat.le_refl _))) (OK.out.checks.below (HQ.out.below.mono (Nat.le_refl _))) hsup.now)
      obtain ⟨yz, hyz⟩ : ∃ yz, y.z = yz := ⟨_, rfl⟩
      obtain ⟨yn, hyn⟩ : ∃ yn, y.now = yn := ⟨_, rfl⟩
      have HA := Lib.hid hA
      have HNM := Lib.hid hc0
      rw [hyz] at c87 KN
      rw [hyn] at c88 KN
      have HYZ := Lib.hid hyz
      have HYN := Lib.hid hyn
      clear hyz hyn hsup hts hqh hQ hrow h0A h0N h0v hb0 hnm hnb
      go_wp2_with (first
        | (with_reducible refine st_val rfl (ex_load_pr rfl rfl hrul hp) ?_)
        | (with_reducible refine sp_load rfl _ rfl _ rfl hA hz6 ?_)
        | (with_reducible refine st_val rfl (ex_load_nm rfl rfl hnr) ?_)
        | (with_reducible refine st_val rfl (ex_build_start hSO rfl rfl rfl) ?_)
        | (with_reducible refine st_val rfl (ex_load_plm rfl rfl hpl) ?_))
      refine KN.out.mono ?_
      rintro r v6 ⟨hb, hR⟩
      rcases hR with ⟨rfl, hno⟩ | ⟨hok, b, F, rfl, W6, hF⟩
      · have B6 := Lib.hid (HQ.out.below.trans (hb.mono HQ.out.below.size))
        clear hA hc0 hrul hpl c87 c88 KN hb hno
        go_wp2_with fail
        go_ret2
        exact ⟨B6.out, .inl rfl⟩
      · have B6 := Lib.hid (HQ.out.below.trans (hb.mono HQ.out.below.size))
        have C6 := Lib.hid (HQ.out.ca.on hb)
        have HA6 := Lib.hid (HA.out.on hb)
        have HSI6 := Lib.hid ((sup_one HSI.out hsa.out).on (Kp.of (F := fun _ => False) hb) (fun _ _ h => h))
        have HW6 := Lib.hid W6
        have HF6 := Lib.hid (And.intro hok hF)
        clear hA hc0 hrul hpl c87 c88 KN hb hok W6 hF
        go_wp2_with fail
        obtain ⟨md, hmd⟩ : ∃ md, Md.mid q0.ts = md := ⟨_, rfl⟩
        obtain ⟨fut, hfut⟩ : ∃ fut, y.p.fut = fut := ⟨_, rfl⟩
        obtain ⟨d1, hd1⟩ : ∃ d1, IntKind.i64.wrap (yn + fut) = d1 := ⟨_, rfl⟩
        obtain ⟨d2, hd2⟩ : ∃ d2, IntKind.i64.wrap (d1 - md) = d2 := ⟨_, rfl⟩
        obtain ⟨sec, hsec⟩ : ∃ sec, sec = max d2 0 := ⟨_, rfl⟩
        obtain ⟨M, hM⟩ : ∃ M, mostV y.x sec = M := ⟨_, rfl⟩
        have HMD := Lib.hid hmd
        have HFU := Lib.hid hfut
        have HMM := Lib.hid hM
        have HSEC := Lib.hid (show sec = secs yn y.p.fut (Md.mid q0.ts) by
          unfold secs
          rw [hfut, hmd, hsec, ← hd2, ← hd1, IntKind.wrap_i64, IntKind.wrap_i64, IntKind.wrap_i64, IntKind.wrap_i64]
          have : ((yn + fut + 9223372036854775808) % 18446744073709551616 - 9223372036854775808 - md + 9223372036854775808) % 18446744073709551616 - 9223372036854775808 = ((yn - md + 9223372036854775808) % 18446744073709551616 - 9223372036854775808 + fut + 9223372036854775808) % 18446744073709551616 - 9223372036854775808 := by omega
          omega)
        clear hmd hfut hM
        refine wp_tab (fun _ _ w' => Below v6.heap.size v6 w') 99 99 [1, 3, 6, 7, 9, 10, 11, 12, 13] [.pointer (some ⟨b1, 84, none⟩), .agg (plA y.x), .pointer (some ⟨b1, 88, none⟩), .int .i64 yn, .pointer (some ⟨b1, 0, none⟩), .pointer (some ⟨b1, 3, none⟩), .int .i64 fut, .int .i64 d1, .pointer (some ⟨bA, 37, none⟩), .slice s0.a s0.n s0.c, .int .i64 md, .int .i64 d2, .int .i64 sec, .int .i64 M, .int .i64 M] (Below.refl _ _).drew
          ⟨fun _ _ w' _ _ hC => .val (ex_load_plm rfl rfl ((C6.out.on hC).plan hp)) hC, fun _ _ w' _ _ hC => .val (ex_load_of rfl rfl (ld_i (HYN.out ▸ (C6.out.on hC).now hp))) hC, fun _ _ w' _ _ hC => .val (ex_load_of rfl rfl (ld_i (HFU.out ▸ (C6.out.on hC).fut))) hC, fun _ _ w' _ _ hC => .val (ex_addi rfl rfl rfl hd1) hC, fun _ _ w' _ _ hC => .val (ex_load_of rfl rfl (ld_ints (SpAt.sl (HA6.out.on hC) hso))) hC, fun _ _ w' _ _ hC => ?_, fun _ _ w' _ _ hC => .val (ex_subi rfl rfl rfl hd2) hC, fun _ _ w' _ _ hC => .val (ex_max rfl rfl rfl hsec) hC, fun _ _ w' _ _ hC => .call ((most_at y.x sec w').mono fun e w'' h => ⟨by rw [h.1, HMM.out]; rfl, hC.trans (h.2.mono hC.size)⟩), trivial⟩ ?_
        · have hI := (HSI6.out.on (Kp.of (F := fun _ => False) hC) (fun _ _ h => h)).now
          exact .call ((MM.ref_of s0.a s0.n s0.c q0.ts hI.2.2.1 hI.2.2.2.1 (by have := hI.2.2.1; have := HTS.out.2; omega) w' hI.2.2.2.2.2 (Nat.le_refl _)).mono fun e w'' h => ⟨by rw [h.1, HMD.out]; rfl, hC.trans (h.2.mono hC.size)⟩)
        intro v7 hb7
        simp only [finT, List.set_cons_zero, List.set_cons_succ, List.tail_cons, List.headD_cons]
        have C7 := Lib.hid (C6.out.on hb7)
        have B7 := Lib.hid (B6.out.trans (hb7.mono B6.out.size))
        have HW7 := Lib.hid (HW6.out.below hb7)
        have HZ6 := Lib.hid (show ∀ i, F i → i < v7.heap.size from fun i hi => Nat.lt_of_lt_of_le (HW6.out.lt i hi) hb7.size)
        clear hb7 hd1 hd2 hsec C6 B6 HW6 HA6 HSI6
        go_wp2_with fail
        refine wp_tabG (fun b1 _ g w' => Below v7.heap.size v7 w' ∧ (b1 = true → v7.heap.size ≤ g ∧ Has w' g (rsA y.p (.slice (some ⟨gv0, 0, none⟩) (k + 1) cv0) y.x yz M) 52)) 17 99 [2, 6, 9, 12, 14, 16, 17] (fun g => [.pointer (some ⟨b, 0, none⟩), .pointer (some ⟨b1, 0, none⟩), .agg (NN.prA y.p), .slice (some ⟨gv0, 0, none⟩) (k + 1) cv0, .pointer (some ⟨b1, 84, none⟩), .pointer (some ⟨b1, 84, none⟩), .int .i64 y.x.s, .pointer (some ⟨b1, 84, none⟩), .pointer (some ⟨b1, 85, none⟩), .int .i64 y.x.p, .pointer (some ⟨b1, 84, none⟩), .pointer (some ⟨b1, 86, none⟩), .int .i64 y.x.o, .pointer (some ⟨b1, 87, none⟩), .int .i64 yz, .int .i64 M, .agg (rsA y.p (.slice (some ⟨gv0, 0, none⟩) (k + 1) cv0) y.x yz M), .pointer (some ⟨g, 0, none⟩), .pointer (some ⟨b, 0, none⟩), .pointer (some ⟨g, 0, none⟩)]) 0 ⟨(Below.refl _ _).drew, fun h => by cases h⟩
          ⟨fun f1 _ g w' h1 _ hC => .val (ex_load_pr rfl rfl (C7.out.on hC.1).rules hp) hC, fun f1 _ g w' h1 _ hC => .val (ex_load_of rfl rfl (ld_i ((C7.out.on hC.1).salt hp))) hC, fun f1 _ g w' h1 _ hC => .val (ex_load_of rfl rfl (ld_i ((C7.out.on hC.1).per hp))) hC, fun f1 _ g w' h1 _ hC => .val (ex_load_of rfl rfl (ld_i ((C7.out.on hC.1).off hp))) hC, fun f1 _ g w' h1 _ hC => .val (ex_load_of rfl rfl (ld_i (HYZ.out ▸ (C7.out.on hC.1).z hp))) hC, fun f1 _ g w' h1 _ hC => .val (ex_build_rs hp rfl rfl rfl rfl rfl rfl rfl rfl rfl) hC, fun f1 _ g w' h1 _ hC => ?_, trivial⟩ ?_
        · exact .new w'.heap.size [17, 19] rfl (ex_box_rs rfl rfl) ⟨hC.1.alloc hC.1.size _, fun _ => ⟨hC.1.size, Has.new _ _⟩⟩
        rintro mB v8 ⟨hb8, hA⟩
        obtain ⟨hg8, hA8⟩ := hA rfl
        simp only [finT, List.set_cons_zero, List.set_cons_succ, List.tail_cons, List.headD_cons]
        have HR := Lib.hid (show Below w.heap.size w v8 ∧ SyW v8 F b 1 M y.z.toNat 21 ∧ (1 ≤ y.z ∧ y.z ≤ 64) ∧ (∀ i, F i → w.heap.size ≤ i) ∧ v8.cell? ⟨mB, 91, none⟩ = some (.int .i64 M) ∧ mB < v8.heap.size ∧ ¬ F mB from by
          obtain ⟨hok, hF⟩ := HF6.out
          unfold newOk at hok
          simp only [Bool.and_eq_true, decide_eq_true_eq] at hok
          refine ⟨B7.out.trans (hb8.mono B7.out.size), ?_, by rw [HYZ.out]; exact ⟨hok.2.2.1, hok.2.2.2.1⟩, fun i hi => Nat.le_trans HQ.out.below.size (hF i hi), rs91 hA8 hp, Has.lt hA8, fun h => by have := HZ6.out _ h; omega⟩
          have := HW7.out.below hb8
          rw [← HSEC.out, HMM.out] at this
          rw [HYZ.out]
          exact this)
        clear hb8 hA hg8 hA8
        go_wp2_with fail
        go_ret2
        exact ⟨HR.out.1, .inr ⟨b, mB, F, M, rfl, HR.out.2⟩⟩
end Go.Proofs.YthcebnfdapcllaaGreatDoor.An
namespace Go.Proofs.YthcebnfdapcllaaGreatDoor.An
open Go.RowKit Mem Sc NN.Rg2
open Pg (Pl pbit gv Ws)
set_option maxRecDepth 100000
def meA (y : Me) : Array Value := (meC y).toArray
def MeAt (w : World) (b : Nat) (y : Me) : Prop := Has w b (meA y) 46
theorem meinfo : (Tryz.prog.info? 46).map (·.size) = some 3 := by kernel_rfl
theorem meA_one (y : Me) : (meA y).all (·.oneCell') = true := all_oneCell_toArray fun v hv => by
  simp only [meC, List.mem_cons, List.not_mem_nil, or_false] at hv
  rcases hv with rfl | rfl | rfl <;> rfl
section
variable {w w' : World} {b : Nat} {y : Me}
theorem MeAt.on (h : MeAt w b y) (hb : Below w.heap.size w w') : MeAt w' b y := below_has hb h (Has.lt h)
theorem MeAt.list (h : MeAt w b y) : w.cell? ⟨b, 0, none⟩ = some (.slice y.a y.n y.c) := Has.cell h 0
theorem MeAt.now (h : MeAt w b y) : w.cell? ⟨b, 1, none⟩ = some (.int .i64 y.now) := Has.cell h 1
theorem MeAt.more (h : MeAt w b y) : w.cell? ⟨b, 2, none⟩ = some (.bool y.more) := Has.cell h 2
end
section
variable {ρ : Operand → Value} {o : Oper} {w : World} {x : Operand} {g off : Nat} {ops : Array Oper} {rest : List Oper} {a : Act} {Q : Exit → Act → World → Prop} {v : Value} {w' : World}
theorem ex_load_me {y : Me} (ho : o.op = .load 46 x) (hx : ρ x = .pointer (some ⟨g, off, none⟩)) (hg : w.rangeAt g off (meC y)) : (execOp ρ o).run Tryz.prog w = .ok (.value (.agg (meA y))) w :=
  pex_mid ho hx Tryz.underlying46 rfl meinfo hg
theorem st_val_g (hw : Region.wanted o (yielded ops a.tmps) = true) (h : (execOp a.eval o).run Tryz.prog w = .ok (.value v) w') (hk : wpList Tryz.prog ops Q rest (a.put o.dst v) w') : wpList Tryz.prog ops Q (o :: rest) a w :=
  BigFrame.wpList_want hw fun _ hK => by
    unfold Oper.wp
    rw [h]
    exact hK _ _ hk
end
def GrQ (w : World) (y : Ca) (ms : List Me) (r : Ending) (w' : World) : Prop := ∃ g, r = .returned (.bool g) ∧ Below w.heap.size w w' ∧ (g = false → ms.length ≤ 12 ∧ y.gs.length ≤ 20 ∧ y.ks.length ≤ 20 ∧ y.hs.length ≤ 20)
set_option maxHeartbeats 16000000 in
theorem great19 (y : Ca) (w : World) (ok : CaOk w y) (a : Option Addr) (ms : List Me) (n c : Nat) (hn : n = ms.length) (hl : n ≤ 4611686018427387904) (hM : MsAt w a ms) :
    Calls Tryz.prog 6 #[.agg (caA y), .slice a n c] w fun r w' => GrQ w y ms r w' := by
  have zc := caA_size ok.p
  have zo := caA_one ok.one
  have OK := Lib.hid ok
  have hp := ok.p
  have HN := Lib.hid hn
  have HM := Lib.hid hM
  clear ok hn hM
  go_enter Tryz.func6, Tryz.ntmps6
  go_upto_region 1 with fail
  generalize hw0 : World.alloc _ _ = v0
  have hB0 : Below w.heap.size w v0 := by rw [← hw0]; exact (Below.refl _ _).alloc (Nat.le_refl _) _
  have hCA : CaAt v0 w.heap.size y := by rw [← hw0]; exact Has.new _ _
  clear hw0
  obtain ⟨b1, hb1⟩ : ∃ b1, b1 = w.heap.size := ⟨_, rfl⟩
  rw [← hb1] at hCA ⊢
  have B0 := Lib.hid hB0
  have C0 := Lib.hid hCA
  clear hb1 hB0 hCA
  go_wp2_with fail
  go_loopw [5, 12] (fun s i wr => ∃ (k : Nat) (z : Int), k ≤ n ∧ i = .int .i64 (k : Int) ∧ s = .int .i64 z ∧ Hid (Below w.heap.size w wr) ∧ Hid (CaAt wr b1 y)) (fun _ i _ => n - (intOf i).toNat)
  case atStart => exact ⟨0, 0, Nat.zero_le _, rfl, rfl, B0, C0⟩
  case round =>
    obtain ⟨k, z, hk, rfl, rfl, HB, HC⟩ := hrel
    by_cases hlt : k < n
    · obtain ⟨ab, ao, rfl, habl, hcc⟩ := (HM.out.below (HB.out.mono (Nat.le_refl _))) (by rw [← HN.out]; omega)
      have hk2 : k < ms.length := by rw [← HN.out]; exact hlt
      have f1 : (k : Int) < (n : Int) := by omega
      obtain ⟨mok, rx⟩ := hcc k hk2
      obtain ⟨x, hx⟩ : ∃ x, x = ms[k] := ⟨_, rfl⟩
      rw [← hx] at mok rx
      clear hx hcc
      have hZ : Has (wr.alloc (.cells #[.slice none 0 0, .int .i64 0, .bool false] 46)) wr.heap.size #[.slice none 0 0, .int .i64 0, .bool false] 46 := Has.new _ _
      have zm : (meA x).size = 3 := rfl
      have hI : (Tryz.prog.info? 46).map (·.size) = some (meA x).size := meinfo
      have hs3 : (#[.slice none 0 0, .int .i64 0, .bool false] : Array Value).size = (meA x).size := rfl
      have ho3 : (meA x).all (·.oneCell') = true := meA_one x
      go_upto_region 5 with (first
        | (with_reducible refine st_val rfl (ex_load_me rfl rfl rx) ?_)
        | (with_reducible refine wpList_store_row rfl 46 _ _ rfl _ (meA x) rfl rfl 46 _ (Has.out hZ) hI hs3 ho3 ?_))
      generalize hw6 : World.setRow _ _ _ = v1
      have hX : MeAt v1 wr.heap.size x := by rw [← hw6]; exact Has.row hZ _
      have hb6 : Below wr.heap.size wr v1 := by rw [← hw6]; exact below_setRow ((Below.refl _ _).alloc (Nat.le_refl _) _) (Nat.le_refl _) _
      clear hw6 hZ rx zm hI hs3 ho3
      have c0 := hX.list
      have B1 := Lib.hid (HB.out.trans (hb6.mono HB.out.size))
      have C1 := Lib.hid (HC.out.on hb6)
      have mn := mok.few
      obtain ⟨xa, xn, xc, xh, xt, xm⟩ := x
      dsimp only at c0 mn
      clear hX hb6 mok
      by_cases h70 : 70 < xn
      · have h70' : decide ((70 : Int) < (xn : Int)) = true := decide_eq_true (by omega)
        go_wp2_with fail
        go_ret
        exact ⟨true, rfl, B1.out, fun h => by cases h⟩
      · have h70' : decide ((70 : Int) < (xn : Int)) = false := decide_eq_false (by omega)
        go_wp2_with fail
        go_roundw
        case rel => exact ⟨k + 1, _, by omega, by go_num, rfl, B1, C1⟩
        case measure => simp [intOf]; omega
    · obtain rfl : k = n := by omega
      have f1 : ¬ (k : Int) < (k : Int) := by omega
      have c83 := HC.out.base hp
      obtain ⟨bn, hbn⟩ : ∃ n, y.bn = n := ⟨_, rfl⟩
      obtain ⟨ba, hba0⟩ : ∃ ba, y.ba = ba := ⟨_, rfl⟩
      rw [hbn, hba0] at c83
      have HBN := Lib.hid (show bn = y.hs.length by rw [← hbn]; exact OK.out.bn)
      have HBS := Lib.hid (show HeadersAt w ba y.hs by rw [← hba0]; exact OK.out.base)
      have hfew : bn ≤ 4611686018427387904 := by rw [← hbn]; exact OK.out.few
      go_wp2_with fail
      go_loopw [29] (fun i wr => ∃ k : Nat, k ≤ bn ∧ i = .int .i64 (k : Int) ∧ Hid (Below w.heap.size w wr) ∧ Hid (CaAt wr b1 y)) (fun i _ => bn - (intOf i).toNat)
      case atStart => exact ⟨0, Nat.zero_le _, rfl, HB, HC⟩
      case round =>
        clear HB HC c83
        obtain ⟨j, hj, rfl, HB, HC⟩ := hrel
        by_cases hjt : j < bn
        · obtain ⟨ab, ao, rfl, habl, hcc⟩ := (HBS.out.below (HB.out.mono (Nat.le_refl _))) (by rw [← HBN.out]; omega)
          have hk2 : j < y.hs.length := by rw [← HBN.out]; exact hjt
          have f2 : (j : Int) < (bn : Int) := by omega
          obtain ⟨ho, rx⟩ := hcc j hk2
          obtain ⟨x, hx⟩ : ∃ x, x = y.hs[j] := ⟨_, rfl⟩
          rw [← hx] at ho rx
          clear hx hcc
          have zx := hdC_length ho
          have za := hdA_size ho
          have hz0 := hdA_size hdZ_ok
          have hZ := hd_newz wr
          go_upto_region 12 with (first
            | (with_reducible refine hd_load_mid rfl _ rfl ab (ao + j * 68) rfl x rx zx ?_)
            | (with_reducible refine hd_store rfl _ _ rfl _ _ x rfl rfl rfl za hZ hz0 ?_))
          generalize hw6 : World.setRow _ _ _ = v1
          have hX : HdAt v1 wr.heap.size x := by rw [← hw6]; exact Has.row hZ _
          have hb6 : Below wr.heap.size wr v1 := by rw [← hw6]; exact below_setRow ((Below.refl _ _).alloc (Nat.le_refl _) _) (Nat.le_refl _) _
          clear hw6 hZ rx
          obtain ⟨bx, hbx⟩ : ∃ bx, bx = wr.heap.size := ⟨_, rfl⟩
          rw [← hbx] at hX ⊢
          have B1 := Lib.hid (HB.out.trans (hb6.mono HB.out.size))
          have C1 := Lib.hid (HC.out.on hb6)
          obtain ⟨g, hg⟩ : ∃ g, decide x.P = g := ⟨_, rfl⟩
          have KG := Lib.hid (hg ▸ rgood_at x ho v1)
          clear hbx hb6 hg
          go_wp2_with (with_reducible refine hd_load rfl _ rfl _ rfl hX za ?_)
          refine KG.out.mono ?_
          rintro r v2 ⟨rfl, hb⟩
          have B2 := Lib.hid (B1.out.trans (hb.mono B1.out.size))
          have C2 := Lib.hid (C1.out.on hb)
          clear hb KG hX
          cases g
          · go_wp2_with fail
            go_ret
            exact ⟨true, rfl, B2.out, fun h => by cases h⟩
          · go_wp2_with fail
            go_roundw
            case rel => exact ⟨j + 1, by omega, by go_num, B2, C2⟩
            case measure => simp [intOf]; omega
        · obtain rfl : j = bn := by omega
          have f2 : ¬ (j : Int) < (j : Int) := by omega
          have hgt := HC.out.gates OK.out.tt
          have hck := HC.out.checks OK.out.tt
          have hbs := HC.out.base hp
          have hrul := HC.out.rules
          rw [hbn, hba0] at hbs
          obtain ⟨gn, hgn⟩ : ∃ gn, y.t.gn = gn := ⟨_, rfl⟩
          obtain ⟨cn, hcn⟩ : ∃ cn, y.t.cn = cn := ⟨_, rfl⟩
          have EG := Lib.hid hgn
          have EC := Lib.hid hcn
          rw [hgn] at hgt
          rw [hcn] at hck
          obtain ⟨g1, h1⟩ : ∃ g1, decide ((20 : Int) < (gn : Int)) = g1 := ⟨_, rfl⟩
          obtain ⟨g2, h2⟩ : ∃ g2, decide ((20 : Int) < (cn : Int)) = g2 := ⟨_, rfl⟩
          obtain ⟨g3, h3⟩ : ∃ g3, decide ((20 : Int) < (j : Int)) = g3 := ⟨_, rfl⟩
          obtain ⟨g4, h4⟩ : ∃ g4, decide ((12 : Int) < (k : Int)) = g4 := ⟨_, rfl⟩
          obtain ⟨g5, h5⟩ : ∃ g5, decide ((200 : Int) < z) = g5 := ⟨_, rfl⟩
          have H1 := Lib.hid h1
          have H2 := Lib.hid h2
          have H3 := Lib.hid h3
          have H4 := Lib.hid h4
          clear hgn hcn hbn hba0
          cases g1
          · cases g2
            · cases g3
              · cases g4
                · cases g5
                  · obtain ⟨gr, hgr⟩ : ∃ gr, ruleP y.p y.t.g y.gs y.ks = gr := ⟨_, rfl⟩
                    have KR := Lib.hid (rgood11_at y.p hp y.t OK.out.tt OK.out.tok y.gs y.ks OK.out.gn OK.out.cn (by have := of_decide_eq_false h1; have := EG.out; omega) (by have := of_decide_eq_false h2; have := EC.out; omega) wr (OK.out.gates.below (HB.out.mono (Nat.le_refl _))) (OK.out.checks.below (HB.out.mono (Nat.le_refl _))))
                    rw [hgr] at KR
                    clear hgr
                    go_wp2_with (first | fail | (with_reducible refine st_val rfl (ex_load_pr rfl rfl hrul hp) ?_) | (with_reducible refine st_val_g (by with_unfolding_all rfl) (ex_load_pr rfl rfl hrul hp) ?_))
                    refine KR.out.mono ?_
                    rintro e v9 ⟨rfl, hb⟩
                    have B2 := Lib.hid (HB.out.trans (hb.mono HB.out.size))
                    clear hb KR
                    cases gr
                    all_goals
                      go_wp2_with fail
                      go_ret
                      exact ⟨_, rfl, B2.out, fun _ => by
                        have := of_decide_eq_false H1.out
                        have := of_decide_eq_false H2.out
                        have := of_decide_eq_false H3.out
                        have := of_decide_eq_false H4.out
                        have := EG.out
                        have := EC.out
                        have := OK.out.gn
                        have := OK.out.cn
                        have := HN.out
                        have := HBN.out
                        omega⟩
                  · go_wp2_with fail
                    go_ret
                    exact ⟨true, rfl, HB.out, fun h => by cases h⟩
                · go_wp2_with fail
                  go_ret
                  exact ⟨true, rfl, HB.out, fun h => by cases h⟩
              · go_wp2_with fail
                go_ret
                exact ⟨true, rfl, HB.out, fun h => by cases h⟩
            · go_wp2_with fail
              go_ret
              exact ⟨true, rfl, HB.out, fun h => by cases h⟩
          · go_wp2_with fail
            go_ret
            exact ⟨true, rfl, HB.out, fun h => by cases h⟩
end Go.Proofs.YthcebnfdapcllaaGreatDoor.An
namespace Go.Proofs.YthcebnfdapcllaaGreatDoor.An
open Go.RowKit Mem Sc NN.Rg2
open Pg (Pl pbit gv Ws)
set_option maxRecDepth 100000
def pL : NN.Pr := ⟨545259519, 4, 10, 0, false, Value.slice none 0 0 :: Value.slice none 0 0 :: (nmC 100 ++ (nmC 0 ++ hdC hdZ))⟩
def tL : Tl := ⟨none, 0, 0, none, 0, 0, nmC 100 ++ nmC 0, hdZ⟩
theorem pL_ok : pL.ok := rfl
theorem pL_one : pL.one := fun v hv => by
  have h : pL.tl.all (·.oneCell') = true := by kernel_rfl
  rw [List.all_eq_true] at h
  exact h v hv
theorem pL_tl : pL.tl = tL.C := by unfold pL tL Tl.C; simp only [List.append_assoc]
theorem tL_ok : tL.ok := ⟨rfl, hdZ_ok⟩
theorem pL_new : newOk pL tL.g [] [] ⟨0, 2, 0⟩ 4 100 = true := by kernel_rfl
theorem built_n100 : Tryz.prog.built 26 [(0, .int .u64 100)] = some (NN.numC 100) := by kernel_rfl
theorem built_n2 : Tryz.prog.built 26 [(0, .int .u64 2)] = some (NN.numC 2) := by kernel_rfl
theorem built_pL : Tryz.prog.built 32 [(0, .int .i64 545259519), (1, .int .i64 4), (2, .int .i64 10), (7, .agg (NN.numC 100))] = some (NN.prA pL) := by kernel_rfl
theorem built_x2 : Tryz.prog.built 35 [(1, .int .i64 2)] = some (plA ⟨0, 2, 0⟩) := by kernel_rfl
theorem most_31 : mostV ⟨0, 2, 0⟩ 10 = 31 := by kernel_rfl
section
variable {ρ : Operand → Value} {o : Oper} {w : World} {x : Operand}
theorem ex_n100 (ho : o.op = .build 26 #[(0, .const (.int .u64 100))]) (h0 : ρ (.const (.int .u64 100)) = .int .u64 100) : (execOp ρ o).run Tryz.prog w = .ok (.value (.agg (NN.numC 100))) w := by
  unfold execOp
  simp only [ho, Sem.run_bind]
  rw [show (#[(0, Operand.const (.int .u64 100))] : Array (Nat × Operand)).map (fun (i, x) => (i, ρ x)) = #[(0, .int .u64 100)] by simp [h0], run_build w 26 _ _ built_n100]
  rfl
theorem ex_n2 (ho : o.op = .build 26 #[(0, .const (.int .u64 2))]) (h0 : ρ (.const (.int .u64 2)) = .int .u64 2) : (execOp ρ o).run Tryz.prog w = .ok (.value (.agg (NN.numC 2))) w := by
  unfold execOp
  simp only [ho, Sem.run_bind]
  rw [show (#[(0, Operand.const (.int .u64 2))] : Array (Nat × Operand)).map (fun (i, x) => (i, ρ x)) = #[(0, .int .u64 2)] by simp [h0], run_build w 26 _ _ built_n2]
  rfl
theorem ex_x2 (ho : o.op = .build 35 #[(1, .const (.int .i64 2))]) (h0 : ρ (.const (.int .i64 2)) = .int .i64 2) : (execOp ρ o).run Tryz.prog w = .ok (.value (.agg (plA ⟨0, 2, 0⟩))) w := by
  unfold execOp
  simp only [ho, Sem.run_bind]
  rw [show (#[(1, Operand.const (.int .i64 2))] : Array (Nat × Operand)).map (fun (i, x) => (i, ρ x)) = #[(1, .int .i64 2)] by simp [h0], run_build w 35 _ _ built_x2]
  rfl
theorem ex_pL (ho : o.op = .build 32 #[(0, .const (.int .i64 545259519)), (1, .const (.int .i64 4)), (2, .const (.int .i64 10)), (7, x)]) (h0 : ρ (.const (.int .i64 545259519)) = .int .i64 545259519) (h1 : ρ (.const (.int .i64 4)) = .int .i64 4) (h2 : ρ (.const (.int .i64 10)) = .int .i64 10) (h7 : ρ x = .agg (NN.numC 100)) : (execOp ρ o).run Tryz.prog w = .ok (.value (.agg (NN.prA pL))) w := by
  unfold execOp
  simp only [ho, Sem.run_bind]
  rw [show (#[(0, Operand.const (.int .i64 545259519)), (1, .const (.int .i64 4)), (2, .const (.int .i64 10)), (7, x)] : Array (Nat × Operand)).map (fun (i, x) => (i, ρ x)) = #[(0, .int .i64 545259519), (1, .int .i64 4), (2, .int .i64 10), (7, .agg (NN.numC 100))] by simp [h0, h1, h2, h7], run_build w 32 _ _ built_pL]
  rfl
theorem ex_build_st {x0 x1 : Operand} {s : Sp} (hs : s.ok) {c : Nat} (ho : o.op = .build 63 #[(0, x0), (1, x1)]) (h0 : ρ x0 = .agg (spA s)) (h1 : ρ x1 = .agg (NN.numC c)) : (execOp ρ o).run Tryz.prog w = .ok (.value (.agg (stA s c))) w := by
  unfold execOp
  simp only [ho, Sem.run_bind]
  rw [show (#[(0, x0), (1, x1)] : Array (Nat × Operand)).map (fun (i, x) => (i, ρ x)) = #[(0, .agg (spA s)), (1, .agg (NN.numC c))] by simp [h0, h1], run_build w 63 _ _ (built_start s hs c)]
  rfl
end
theorem no_gates (w : World) : GatesAt w none [] := fun h => absurd h (by simp)
theorem no_checks (w : World) : ChecksAt w none [] := fun h => absurd h (by simp)
def AlQ (v : World) (M : Int) (fl : Nat → Bool) (g : Sp × Nat) (w' : World) : Prop := Below v.heap.size v w' ∧ (fl 2 = true → g.1.ok ∧ SpIs w' 0 g.1 (bgn pL tL.g)) ∧ (fl 6 = true → ∃ F, SyW w' F g.2 1 M 4 1 ∧ ∀ i, F i → v.heap.size ≤ i)
set_option maxHeartbeats 16000000 in
theorem alive_law (w : World) (hT : Tab w) : Calls Tryz.prog 5 #[] w fun r w' => r = .returned (.bool true) ∧ Below w.heap.size w w' := by
  have HT := Lib.hid hT
  clear hT
  go_enter Tryz.func5, Tryz.ntmps5
  have hZ : Has (w.alloc (.cells Tryz.zeroCells32 32)) w.heap.size Tryz.zeroCells32 32 := Has.new _ _
  have hI : (Tryz.prog.info? 32).map (·.size) = some (NN.prA pL).size := NN.prinfo.trans (by rw [NN.prA_size pL_ok])
  have hz : Tryz.zeroCells32.size = (NN.prA pL).size := by kernel_rfl
  have h1 : (NN.prA pL).all (·.oneCell') = true := by kernel_rfl
  go_upto_region 2 with (first
    | (with_reducible refine st_val rfl (ex_n100 rfl rfl) ?_)
    | (with_reducible refine st_val rfl (ex_pL rfl rfl rfl rfl rfl) ?_)
    | (with_reducible refine wpList_store_row rfl 32 _ _ rfl _ (NN.prA pL) rfl rfl 32 _ (Has.out hZ) hI hz h1 ?_))
  generalize hw1 : World.setRow _ _ _ = v1
  have hP : Has v1 w.heap.size (NN.prA pL) 32 := by rw [← hw1]; exact Has.row hZ _
  have hb1 : Below w.heap.size w v1 := by rw [← hw1]; exact below_setRow ((Below.refl _ _).alloc (Nat.le_refl _) _) (Nat.le_refl _) _
  clear hw1 hZ hI hz h1
  obtain ⟨bP, hbP⟩ : ∃ bP, bP = w.heap.size := ⟨_, rfl⟩
  rw [← hbP] at hP ⊢
  have HP := Lib.hid hP
  have B1 := Lib.hid hb1
  have HT1 := Lib.hid (HT.out.below hb1)
  obtain ⟨M, hM⟩ : ∃ M, mostV ⟨0, 2, 0⟩ (secs 100 pL.fut (Md.mid (bgn pL tL.g).ts)) = M := ⟨_, rfl⟩
  have HM := Lib.hid hM
  clear hbP hP hb1 hM
  refine wp_tabF (AlQ v1 M) [2, 6] [0, 1, 2, 3, 4, 5, 6] (fun g => [.agg (NN.prA pL), .agg (NN.prA pL), .agg (spA g.1), .agg (NN.numC 2), .agg (stA g.1 2), .agg (plA ⟨0, 2, 0⟩), .tuple #[.pointer (some ⟨g.2, 0, none⟩), .int .i64 0], .tuple #[.pointer (some ⟨g.2, 0, none⟩), .int .i64 0], .pointer (some ⟨g.2, 0, none⟩), .int .i64 0, .pointer (some ⟨g.2, 0, none⟩), .int .i64 0]) (spZ, 0) ⟨(Below.refl _ _).drew, fun h => (by cases h), fun h => (by cases h)⟩
    ⟨fun fl g w' f hC => ?_, fun fl g w' f hC => ?_, fun fl g w' f hC => ?_, fun fl g w' f hC => ?_, fun fl g w' f hC => ?_, fun fl g w' f hC => ?_, fun fl g w' f hC => ?_, trivial⟩ ?_
  · exact .val (ex_load_pr rfl rfl (has_range0 (A := NN.prC pL) (below_has hC.1 HP.out (Has.lt HP.out))) pL_ok) hC
  · exact .val (ex_load_pr rfl rfl (has_range0 (A := NN.prC pL) (below_has hC.1 HP.out (Has.lt HP.out))) pL_ok) hC
  · have h6 := f.no 6 (by kernel_rfl)
    refine .callN [2, 4, 6, 7, 8, 9, 10, 11] ((begin_at pL pL_ok tL pL_tl tL_ok w' (HT1.out.below hC.1)).mono fun e w'' h => ?_)
    obtain ⟨s, rfl, _, hS, hb⟩ := h
    exact ⟨(s, g.2), rfl, rfl, hC.1.trans (hb.mono hC.1.size), fun _ => ⟨by have : s.prev = (bgn pL tL.g).prev := hS.2.1; show s.prev.length = 32; rw [this]; exact id_length tL.g, hS.wide (Nat.zero_le _)⟩, fun h => ff h6 h⟩
  · exact .val (ex_n2 rfl rfl) hC
  · have h2 := f.yes 2 (by kernel_rfl)
    exact .val (ex_build_st (hC.2.1 h2).1 rfl rfl rfl) hC
  · exact .val (ex_x2 rfl rfl) hC
  · have h2 := f.yes 2 (by kernel_rfl)
    obtain ⟨so, hS⟩ := hC.2.1 h2
    refine .callN [6, 7, 8, 9, 10, 11] ((new_at19 pL pL_ok pL_one tL pL_tl tL_ok [] [] rfl rfl (by decide) (by decide) 100 ⟨nmC 0, rfl⟩ (by decide) g.1 so (bgn pL tL.g) ⟨Nat.succ_pos _, by show (_ :: _).length ≤ 11; simp, by decide⟩ 2 (by decide) ⟨0, 2, 0⟩ 4 100 1 (by decide) w' (HT1.out.below hC.1) (no_gates _) (no_checks _) hS).mono fun e w'' h => ?_)
    obtain ⟨hb, ⟨_, hn⟩ | ⟨_, b, F, he, W, hF⟩⟩ := h
    · rw [pL_new] at hn
      cases hn
    · exact ⟨(g.1, b), rfl, he, hC.1.trans (hb.mono hC.1.size), fun _ => ⟨so, hS.on hb⟩, fun _ => ⟨F, by rw [HM.out] at W; exact W, fun i hi => Nat.le_trans hC.1.size (hF i hi)⟩⟩
  rintro g v2 ⟨hb2, -, hW⟩
  obtain ⟨F, W, hF⟩ := hW rfl
  have HF2 := Lib.hid (fun i hi => Nat.le_trans B1.out.size (hF i hi))
  clear hF
  obtain ⟨s, b⟩ := g
  simp only [finT]
  have B2 := Lib.hid (B1.out.trans (hb2.mono B1.out.size))
  have HW2 := Lib.hid W
  clear hb2 hW W HP HM
  have KF := Lib.hid (feed_run HW2 (.inl rfl) 100 false none [] 0 0 rfl (by decide) (Lib.hid fun w' _ => fun h => absurd h (by simp)) (by decide) (by decide))
  go_wp2_with fail
  refine KF.out.mono ?_
  rintro r v3 ⟨v, e, rfl, hX, he⟩
  obtain ⟨rfl, k, q, hA⟩ := he (by trivial) (by trivial)
  obtain ⟨F', hXX, hK, hN⟩ := hX
  have B3 := Lib.hid (show Below w.heap.size w v3 from B2.out.trans (hK.below (B := w.heap.size) (fun i hi => HF2.out i hi) B2.out.size))
  have KH := Lib.hid (phase_at hA)
  clear hA hXX hK hN KF he
  go_wp2_with fail
  refine KH.out.mono ?_
  rintro r v4 ⟨rfl, hb4⟩
  have B4 := Lib.hid (B3.out.trans (hb4.mono B3.out.size))
  have KM := Lib.hid (most_at ⟨0, 2, 0⟩ 10 v4)
  rw [most_31] at KM
  dsimp only [dead]
  clear hb4 KH
  go_wp2_with (with_reducible refine st_val rfl (ex_x2 rfl rfl) ?_)
  refine KM.out.mono ?_
  rintro r v5 ⟨rfl, hb5⟩
  have B5 := Lib.hid (B4.out.trans (hb5.mono B4.out.size))
  clear hb5 KM
  go_wp2_with fail
  go_ret
  exact ⟨rfl, B5.out⟩
end Go.Proofs.YthcebnfdapcllaaGreatDoor.An
namespace Go.Proofs.YthcebnfdapcllaaGreatDoor.An
open Go.RowKit Mem Sc NN.Rg2
open Pg (Pl pbit gv Ws)
set_option maxRecDepth 100000
theorem row_is {w : World} {v : Value} {n : Nat} {xs : List Value} (h : w.ownsRow 0 30 68 v n xs) : ∃ a c, v = .slice a n c := by
  rcases h.2 with ⟨rfl, rfl⟩ | ⟨g, c, cur, rfl, _⟩
  · exact ⟨none, 0, rfl⟩
  · exact ⟨_, c, rfl⟩
section
variable {w w' : World} {F : Nat → Prop} {b : Nat} {ph m : Int} {z H H' : Nat}
theorem SyD.below (h : SyD w F b ph m) (hb : Below w.heap.size w w') : SyD w' F b ph m := by
  obtain ⟨n, q, hA, h1, h2⟩ := h.ex
  exact ⟨⟨n, q, below_has hb hA (Has.lt hA), h1, h2⟩, h.fb, fun i hi => Nat.lt_of_lt_of_le (h.lt i hi) hb.size⟩
theorem SyX.below (h : SyX w F b m z H) (hb : Below w.heap.size w w') : SyX w' F b m z H := by
  rcases h with ⟨ph, h1, W⟩ | ⟨ph, h1, X⟩
  · exact .inl ⟨ph, h1, W.below hb⟩
  · exact .inr ⟨ph, h1, X.below hb⟩
theorem SyX.more (h : SyX w F b m z H) (hH : H ≤ H') : SyX w F b m z H' := by
  rcases h with ⟨ph, h1, W⟩ | ⟨ph, h1, X⟩
  · exact .inl ⟨ph, h1, W.more hH⟩
  · exact .inr ⟨ph, h1, X⟩
theorem SyX.lt (h : SyX w F b m z H) : ∀ i, F i → i < w.heap.size := by
  rcases h with ⟨ph, h1, W⟩ | ⟨ph, h1, X⟩
  · exact W.lt
  · exact X.lt
def Shows (w : World) (b : Nat) (ph m : Int) (z : Nat) : Prop := ∃ y a n c, SyAt w b y ∧ y.Ok ∧ y.v = .slice a n c ∧ y.n ≤ m + 1 ∧ n ≤ z ∧ y.ph = ph
theorem SyW.shows (h : SyW w F b ph m z H) : Shows w b ph m z := by
  obtain ⟨I, y, d, S, hM, e1, e2, e3, e4, e5, e6, e7, e8⟩ := h.ex
  obtain ⟨a, c, hv⟩ := row_is S.row
  exact ⟨y, a, _, c, S.has, S.ok, hv, by omega, e6, e1⟩
theorem SyD.shows (h : SyD w F b ph m) : Shows w b ph m z := by
  obtain ⟨n, q, hA, h1, h2⟩ := h.ex
  exact ⟨_, none, 0, 0, hA, dead_ok h1, rfl, h2, Nat.zero_le _, rfl⟩
theorem SyX.shows (h : SyX w F b m z H) : ∃ ph, Shows w b ph m z := by
  rcases h with ⟨ph, h1, W⟩ | ⟨ph, h1, X⟩
  · exact ⟨ph, W.shows⟩
  · exact ⟨ph, X.shows⟩
theorem feed_any (X : SyX w F b m z H) (now : Int) (more : Bool) (a : Option Addr) (ls : List Hd) (n c : Nat) (hn : n = ls.length) (hA : ∀ w', Kp F w w' → HeadersAt w' a ls) (hH : H + 64 ≤ 1000000) :
    Calls Tryz.prog 8 #[.pointer (some ⟨b, 0, none⟩), .int .i64 now, .bool more, .slice a n c] w fun r w' => ∃ v e, r = .returned (.tuple #[v, .int .i64 e]) ∧ SyXP w F b m z (H + 64) w' := by
  have hself : ∀ w', Below w.heap.size w w' → SyXP w F b m z (H + 64) w' := fun w' hb => ⟨F, (X.below hb).more (by omega), Kp.of hb, fun _ hi => .inl hi⟩
  rcases X with ⟨ph, hph, W⟩ | ⟨ph, hph, X⟩
  · obtain ⟨g1, h1⟩ : ∃ g1, (decide (0 ≤ now) && decide (now ≤ 4294967296)) = g1 := ⟨_, rfl⟩
    obtain ⟨g2, h2⟩ : ∃ g2, decide ((64 : Int) < (n : Int)) = g2 := ⟨_, rfl⟩
    by_cases hb : g1 = false ∨ g2 = true
    · refine (feed_arg W hph now more a n c g1 g2 h1 h2 hb).mono ?_
      rintro r w' ⟨rfl, hb⟩
      exact ⟨_, _, rfl, hself w' hb⟩
    · have e1 : g1 = true := by cases g1 <;> simp_all
      have e2 : g2 = false := by cases g2 <;> simp_all
      subst e1 e2
      simp only [Bool.and_eq_true, decide_eq_true_eq] at h1
      have h2 := of_decide_eq_false h2
      refine (feed_run (Lib.hid W) hph now more a ls n c hn (by omega) (Lib.hid hA) hH h1).mono ?_
      rintro r w' ⟨v, e, rfl, ⟨F', X', k, nn⟩, _⟩
      exact ⟨v, e, rfl, F', X'.more (by omega), k, nn⟩
  · refine (feed_dead X hph now more a n c).mono ?_
    rintro r w' ⟨rfl, hb⟩
    exact ⟨_, _, rfl, hself w' hb⟩
end
structure RmS (v0 wr : World) (y : Ca) (b1 b mB : Nat) (M : Int) (z k : Nat) : Prop where
  live : ∃ F, SyX wr F b M z (21 + 64 * k) ∧ (∀ i, F i → v0.heap.size ≤ i) ∧ ¬ F mB
  ca : CaAt wr b1 y
  m91 : wr.cell? ⟨mB, 91, none⟩ = some (.int .i64 M)
  mb : mB < wr.heap.size
  below : Below v0.heap.size v0 wr
section
variable {v0 wr w' : World} {y : Ca} {b1 b mB z k : Nat} {M : Int}
theorem RmS.on (h : RmS v0 wr y b1 b mB M z k) (hb : Below wr.heap.size wr w') : RmS v0 w' y b1 b mB M z k := by
  obtain ⟨F, X, h1, h2⟩ := h.live
  exact ⟨⟨F, X.below hb, h1, h2⟩, h.ca.on hb, (World.cell?_of_block (hb.block _ h.mb)).trans h.m91, Nat.lt_of_lt_of_le h.mb hb.size, h.below.trans (hb.mono h.below.size)⟩
theorem RmS.feed (h : RmS v0 wr y b1 b mB M z k) (hb1 : b1 < v0.heap.size) (hk : k ≤ 12) (now : Int) (more : Bool) (a : Option Addr) (ls : List Hd) (n c : Nat) (hn : n = ls.length) (hA : HeadersAt v0 a ls) :
    Calls Tryz.prog 8 #[.pointer (some ⟨b, 0, none⟩), .int .i64 now, .bool more, .slice a n c] wr fun r w' => ∃ v e, r = .returned (.tuple #[v, .int .i64 e]) ∧ RmS v0 w' y b1 b mB M z (k + 1) := by
  obtain ⟨F, X, h1, h2⟩ := h.live
  refine (feed_any X now more a ls n c hn (fun w' K => hA.below (h.below.trans (K.below (B := v0.heap.size) (fun i hi => h1 i hi) h.below.size))) (by omega)).mono ?_
  rintro r w' ⟨v, e, rfl, F', X', K, nn⟩
  have hs := h.below.size
  exact ⟨v, e, rfl, ⟨F', X'.more (by omega), fun i hi => (nn i hi).elim (h1 i) (fun h => by omega), fun hi => (nn _ hi).elim h2 (fun hh => by have := h.mb; omega)⟩, K.has h.ca (fun hf => by have := h1 _ hf; omega), (World.cell?_of_block (K.block mB h.mb h2)).trans h.m91, Nat.lt_of_lt_of_le h.mb K.size, h.below.trans (K.below (B := v0.heap.size) (fun i hi => h1 i hi) h.below.size)⟩
end
section
variable {w : World} {y : Ca} {ops : Array Oper} {rest : List Oper} {o : Oper} {a : Act} {Q : Exit → Act → World → Prop}
theorem ca_load (hgd : o.guard = none) (x : Operand) (ho : o.op = .load 37 x) (g : Nat) (hx : a.eval x = .pointer (some ⟨g, 0, none⟩)) (hg : CaAt w g y) (hs : (caA y).size = 89)
    (hk : wpList Tryz.prog ops Q rest (a.put o.dst (.agg (caA y))) w) : wpList Tryz.prog ops Q (o :: rest) a w :=
  wpList_load_row hgd 37 x ho g hx 37 (caA y) (0, 0) _ (Has.out hg) Tryz.underlying37 rfl (cainfo.trans (by rw [hs])) hk
end
end Go.Proofs.YthcebnfdapcllaaGreatDoor.An
namespace Go.Proofs.YthcebnfdapcllaaGreatDoor.An
open Go.RowKit Mem Sc NN.Rg2
open Pg (Pl pbit gv Ws)
set_option maxRecDepth 100000
set_option maxHeartbeats 16000000 in
theorem room_law (y : Ca) (w : World) (hT : Tab w) (ok : CaOk w y) (a : Option Addr) (ms : List Me) (n c : Nat) (hn : n = ms.length) (hl : n ≤ 4611686018427387904) (hM : MsAt w a ms) :
    Calls Tryz.prog 3 #[.agg (caA y), .slice a n c] w fun r w' => r = .returned (.bool true) ∧ Below w.heap.size w w' := by
  have zc := caA_size ok.p
  have zo := caA_one ok.one
  have OK := Lib.hid ok
  have HT := Lib.hid hT
  have HN := Lib.hid hn
  have HM := Lib.hid hM
  clear ok hT hn hM
  go_enter Tryz.func3, Tryz.ntmps3
  go_upto_region 1 with fail
  generalize hw0 : World.alloc _ _ = v0
  have hB0 : Below w.heap.size w v0 := by rw [← hw0]; exact (Below.refl _ _).alloc (Nat.le_refl _) _
  have hCA : CaAt v0 w.heap.size y := by rw [← hw0]; exact Has.new _ _
  clear hw0
  obtain ⟨b1, hb1⟩ : ∃ b1, b1 = w.heap.size := ⟨_, rfl⟩
  rw [← hb1] at hCA ⊢
  have B0 := Lib.hid hB0
  have C0 := Lib.hid hCA
  have HB1 := Lib.hid (show b1 < v0.heap.size from Has.lt hCA)
  have KA := Lib.hid (alive_law v0 (HT.out.below hB0))
  clear hb1 hB0 hCA
  go_wp2_with fail
  refine KA.out.mono ?_
  rintro r v1 ⟨rfl, hb⟩
  have B1 := Lib.hid (B0.out.trans (hb.mono B0.out.size))
  have hC1 := C0.out.on hb
  have C1 := Lib.hid hC1
  have HV1 := Lib.hid hb.size
  have KG := Lib.hid (great19 y v1 (OK.out.below (B1.out.mono (Nat.le_refl _))) a ms n c HN.out hl (HM.out.below (B1.out.mono (Nat.le_refl _))))
  clear hb KA
  go_wp2_with (with_reducible refine ca_load rfl _ rfl _ rfl hC1 zc ?_)
  refine KG.out.mono ?_
  rintro r v2 ⟨g, rfl, hb, hbd⟩
  have B2 := Lib.hid (B1.out.trans (hb.mono B1.out.size))
  have hC2 := C1.out.on hb
  have C2 := Lib.hid hC2
  have HV2 := Lib.hid (Nat.le_trans HV1.out hb.size)
  clear hb KG hC1 C0 C1
  cases g
  case true =>
    go_wp2_with fail
    go_ret
    exact ⟨rfl, B2.out⟩
  have HBD := Lib.hid (hbd rfl)
  have KB := Lib.hid (begin_law y v2 (HT.out.below B2.out) (OK.out.below (B2.out.mono (Nat.le_refl _))) HBD.out.2.1 HBD.out.2.2.1 HBD.out.2.2.2)
  clear hbd
  go_wp2_with (with_reducible refine ca_load rfl _ rfl _ rfl hC2 zc ?_)
  refine KB.out.mono ?_
  rintro r v3 ⟨hb, rfl | ⟨b, mB, F, M, rfl, W, hz, hF, h91, hmB, hnm⟩⟩
  · have B3 := Lib.hid (B2.out.trans (hb.mono B2.out.size))
    clear hb KB hC2
    go_wp2_with fail
    go_ret
    exact ⟨rfl, B3.out⟩
  have HMB := Lib.hid W.mb
  have HZ := Lib.hid hz
  have HS := Lib.hid (show RmS v2 v3 y b1 b mB M y.z.toNat 0 from ⟨⟨F, .inl ⟨1, .inl rfl, W⟩, hF, hnm⟩, C2.out.on hb, h91, hmB, hb⟩)
  have HB12 := Lib.hid (show b1 < v2.heap.size from Has.lt C2.out)
  clear hb KB hC2 W hz hF h91 hmB hnm C2
  go_wp2_with fail
  go_loopw [23] (fun i wr => ∃ k : Nat, k ≤ n ∧ i = .int .i64 (k : Int) ∧ Hid (RmS v2 wr y b1 b mB M y.z.toNat k)) (fun i _ => n - (intOf i).toNat)
  case atStart => exact ⟨0, Nat.zero_le _, rfl, HS⟩
  case round =>
    clear HS
    obtain ⟨k, hk, rfl, HS⟩ := hrel
    have hn12 : n ≤ 12 := by have := HBD.out.1; have := HN.out; omega
    by_cases hlt : k < n
    · have hk2 : k < ms.length := by rw [← HN.out]; exact hlt
      have f1 : (k : Int) < (n : Int) := by omega
      obtain ⟨ab, ao, rfl, habl, hcc⟩ := (HM.out.below (B2.out.mono (Nat.le_refl _))) (by omega)
      obtain ⟨mok, rx0⟩ := hcc k hk2
      obtain ⟨x, hx⟩ : ∃ x, x = ms[k] := ⟨_, rfl⟩
      rw [← hx] at mok rx0
      have rx := range_below rx0 HS.out.below (show 0 < 3 by decide)
      have hZ : Has (wr.alloc (.cells #[.slice none 0 0, .int .i64 0, .bool false] 46)) wr.heap.size #[.slice none 0 0, .int .i64 0, .bool false] 46 := Has.new _ _
      have hI : (Tryz.prog.info? 46).map (·.size) = some (meA x).size := meinfo
      have hs3 : (#[.slice none 0 0, .int .i64 0, .bool false] : Array Value).size = (meA x).size := rfl
      have ho3 : (meA x).all (·.oneCell') = true := meA_one x
      clear hx hcc rx0
      go_upto_region 11 with (first
        | (with_reducible refine st_val rfl (ex_load_me rfl rfl rx) ?_)
        | (with_reducible refine wpList_store_row rfl 46 _ _ rfl _ (meA x) rfl rfl 46 _ (Has.out hZ) hI hs3 ho3 ?_))
      generalize hw6 : World.setRow _ _ _ = v4
      have hX : MeAt v4 wr.heap.size x := by rw [← hw6]; exact Has.row hZ _
      have hb6 : Below wr.heap.size wr v4 := by rw [← hw6]; exact below_setRow ((Below.refl _ _).alloc (Nat.le_refl _) _) (Nat.le_refl _) _
      clear hw6 hZ rx hI hs3 ho3
      have c0 := hX.list
      have c1 := hX.now
      have c2 := hX.more
      have MOK := Lib.hid mok
      have HS4 := Lib.hid (HS.out.on hb6)
      obtain ⟨xa, xn, xc, xh, xt, xm⟩ := x
      dsimp only at c0 c1 c2
      have KF := Lib.hid (HS4.out.feed HB12.out (by omega) xt xm xa xh xn xc MOK.out.n MOK.out.at_)
      clear hX hb6 mok HS
      go_wp2_with fail
      refine KF.out.mono ?_
      rintro r v5 ⟨v, e, rfl, hS5⟩
      have HS5 := Lib.hid hS5
      clear hS5 KF HS4 c0 c1 c2 MOK
      go_wp2_with fail
      obtain ⟨F5, X5, -, -⟩ := HS5.out.live
      obtain ⟨ph, y5, va, vn, vc, hA, hO, hv, hn5, hz5, -⟩ := X5.shows
      have HA := Lib.hid hA
      have HO := Lib.hid hO
      have HV := Lib.hid hv
      obtain ⟨bits, hbits⟩ : ∃ bits, y5.n = bits := ⟨_, rfl⟩
      rw [hbits] at hn5
      have HBT := Lib.hid hbits
      obtain ⟨yz, hyz⟩ : ∃ yz, y.z = yz := ⟨_, rfl⟩
      have HYZ := Lib.hid hyz
      have hadd : IntKind.i64.wrap (M + 1) = M + 1 := by
        rw [IntKind.wrap_i64]
        have := HMB.out
        omega
      have hg1 : decide (M + 1 < bits) = false := decide_eq_false (by omega)
      have hg2 : decide (yz < (vn : Int)) = false := decide_eq_false (by have := HZ.out; omega)
      clear X5 hA hO hv hbits hyz hn5 hz5
      refine wp_tab (fun _ _ w' => Below v5.heap.size v5 w') 99 99 [1, 5, 6, 7, 10, 12, 13] [.pointer (some ⟨b, 0, none⟩), .int .i64 bits, .pointer (some ⟨mB, 0, none⟩), .pointer (some ⟨mB, 0, none⟩), .pointer (some ⟨mB, 91, none⟩), .int .i64 M, .int .i64 (M + 1), .bool false, .bool false, .pointer (some ⟨b, 0, none⟩), .int .i64 (vn : Int), .pointer (some ⟨b1, 87, none⟩), .int .i64 yz, .bool false, .bool false] (Below.refl _ _).drew
        ⟨fun _ _ w' _ _ hC => .call ((bits_at19 (below_has hC HA.out (Has.lt HA.out)) HO.out).mono fun e w'' h => ⟨by rw [h.1, HBT.out]; rfl, hC.trans (h.2.mono hC.size)⟩), fun _ _ w' _ _ hC => .val (ex_load_of rfl rfl (ld_i (HS5.out.on hC).m91)) hC, fun _ _ w' _ _ hC => .val (ex_addi rfl rfl rfl hadd) hC, fun _ _ w' _ _ hC => .val (ex_gtri rfl rfl rfl hg1) hC, fun _ _ w' _ _ hC => .call ((held_at (below_has hC HA.out (Has.lt HA.out)) HO.out HV.out).mono fun e w'' h => ⟨by rw [h.1]; rfl, hC.trans (h.2.mono hC.size)⟩), fun _ _ w' _ _ hC => .val (ex_load_of rfl rfl (ld_i (HYZ.out ▸ (HS5.out.on hC).ca.z OK.out.p))) hC, fun _ _ w' _ _ hC => .val (ex_gtri rfl rfl rfl hg2) hC, trivial⟩ ?_
      intro v6 hb6
      simp only [finT, List.set_cons_zero, List.set_cons_succ, List.tail_cons, List.headD_cons]
      have HS6 := Lib.hid (HS5.out.on hb6)
      clear hb6 HA HO HV HS5 hg1 hg2 hadd
      go_wp2_with fail
      go_roundw
      case rel => exact ⟨k + 1, by omega, by go_num, HS6⟩
      case measure => simp [intOf]; omega
    · obtain rfl : k = n := by omega
      have f1 : ¬ (k : Int) < (k : Int) := by omega
      have hmb := HMB.out
      have h91 := HS.out.m91
      have hM2 : decide (M ≤ 51539607553) = true := decide_eq_true hmb.2
      have B4 := Lib.hid (B2.out.trans (HS.out.below.mono B2.out.size))
      clear hmb
      go_wp2_with fail
      go_ret
      exact ⟨rfl, B4.out⟩
end Go.Proofs.YthcebnfdapcllaaGreatDoor.An
namespace Go.Proofs.YthcebnfdapcllaaGreatDoor.An
open Go.RowKit Mem Sc NN.Rg2
open Pg (Pl pbit gv Ws)
set_option maxRecDepth 100000
set_option maxHeartbeats 16000000 in
theorem down_law (y : Ca) (w : World) (hT : Tab w) (ok : CaOk w y) (a : Option Addr) (ms : List Me) (n c : Nat) (hn : n = ms.length) (hl : n ≤ 4611686018427387904) (hM : MsAt w a ms) (a2 : Option Addr) (ls : List Hd) (n2 c2 : Nat) (hn2 : n2 = ls.length) (hl2 : n2 ≤ 4611686018427387904) (hL : HeadersAt w a2 ls) :
    Calls Tryz.prog 4 #[.agg (caA y), .slice a n c, .slice a2 n2 c2] w fun r w' => r = .returned (.bool true) ∧ Below w.heap.size w w' := by
  have zc := caA_size ok.p
  have zo := caA_one ok.one
  have OK := Lib.hid ok
  have HT := Lib.hid hT
  have HN := Lib.hid hn
  have HM := Lib.hid hM
  have HN2 := Lib.hid hn2
  have HL := Lib.hid hL
  clear ok hT hn hM hn2 hL
  go_enter Tryz.func4, Tryz.ntmps4
  go_upto_region 1 with fail
  generalize hw0 : World.alloc _ _ = v0
  have hB0 : Below w.heap.size w v0 := by rw [← hw0]; exact (Below.refl _ _).alloc (Nat.le_refl _) _
  have hCA : CaAt v0 w.heap.size y := by rw [← hw0]; exact Has.new _ _
  clear hw0
  obtain ⟨b1, hb1⟩ : ∃ b1, b1 = w.heap.size := ⟨_, rfl⟩
  rw [← hb1] at hCA ⊢
  have B0 := Lib.hid hB0
  have C0 := Lib.hid hCA
  have HB1 := Lib.hid (show b1 < v0.heap.size from Has.lt hCA)
  have KA := Lib.hid (alive_law v0 (HT.out.below hB0))
  clear hb1 hB0 hCA
  go_wp2_with fail
  refine KA.out.mono ?_
  rintro r v1 ⟨rfl, hb⟩
  have B1 := Lib.hid (B0.out.trans (hb.mono B0.out.size))
  have hC1 := C0.out.on hb
  have C1 := Lib.hid hC1
  have HV1 := Lib.hid hb.size
  have KG := Lib.hid (great19 y v1 (OK.out.below (B1.out.mono (Nat.le_refl _))) a ms n c HN.out hl (HM.out.below (B1.out.mono (Nat.le_refl _))))
  clear hb KA
  go_wp2_with (with_reducible refine ca_load rfl _ rfl _ rfl hC1 zc ?_)
  refine KG.out.mono ?_
  rintro r v2 ⟨g, rfl, hb, hbd⟩
  have B2 := Lib.hid (B1.out.trans (hb.mono B1.out.size))
  have hC2 := C1.out.on hb
  have C2 := Lib.hid hC2
  have HV2 := Lib.hid (Nat.le_trans HV1.out hb.size)
  clear hb KG hC1 C0 C1
  cases g
  case true =>
    go_wp2_with fail
    go_ret
    exact ⟨rfl, B2.out⟩
  by_cases h64 : 64 < n2
  · have h64' : decide ((64 : Int) < (n2 : Int)) = true := decide_eq_true (by omega)
    go_wp2_with fail
    go_ret
    exact ⟨rfl, B2.out⟩
  have h64' : decide ((64 : Int) < (n2 : Int)) = false := decide_eq_false (by omega)
  have HBD := Lib.hid (hbd rfl)
  have KB := Lib.hid (begin_law y v2 (HT.out.below B2.out) (OK.out.below (B2.out.mono (Nat.le_refl _))) HBD.out.2.1 HBD.out.2.2.1 HBD.out.2.2.2)
  clear hbd
  go_wp2_with (with_reducible refine ca_load rfl _ rfl _ rfl hC2 zc ?_)
  refine KB.out.mono ?_
  rintro r v3 ⟨hb, rfl | ⟨b, mB, F, M, rfl, W, hz, hF, h91, hmB, hnm⟩⟩
  · have B3 := Lib.hid (B2.out.trans (hb.mono B2.out.size))
    clear hb KB hC2
    go_wp2_with fail
    go_ret
    exact ⟨rfl, B3.out⟩
  have HMB := Lib.hid W.mb
  have HZ := Lib.hid hz
  have HS := Lib.hid (show RmS v2 v3 y b1 b mB M y.z.toNat 0 from ⟨⟨F, .inl ⟨1, .inl rfl, W⟩, hF, hnm⟩, C2.out.on hb, h91, hmB, hb⟩)
  have HB12 := Lib.hid (show b1 < v2.heap.size from Has.lt C2.out)
  clear hb KB hC2 W hz hF h91 hmB hnm C2
  go_wp2_with fail
  go_loopw [37] (fun i wr => ∃ k : Nat, k ≤ n ∧ i = .int .i64 (k : Int) ∧ Hid (RmS v2 wr y b1 b mB M y.z.toNat k)) (fun i _ => n - (intOf i).toNat)
  case atStart => exact ⟨0, Nat.zero_le _, rfl, HS⟩
  case round =>
    clear HS
    obtain ⟨k, hk, rfl, HS⟩ := hrel
    have hn12 : n ≤ 12 := by have := HBD.out.1; have := HN.out; omega
    by_cases hlt : k < n
    · have hk2 : k < ms.length := by rw [← HN.out]; exact hlt
      have f1 : (k : Int) < (n : Int) := by omega
      obtain ⟨ab, ao, rfl, habl, hcc⟩ := (HM.out.below (B2.out.mono (Nat.le_refl _))) (by omega)
      obtain ⟨mok, rx0⟩ := hcc k hk2
      obtain ⟨x, hx⟩ : ∃ x, x = ms[k] := ⟨_, rfl⟩
      rw [← hx] at mok rx0
      have rx := range_below rx0 HS.out.below (show 0 < 3 by decide)
      have hZ : Has (wr.alloc (.cells #[.slice none 0 0, .int .i64 0, .bool false] 46)) wr.heap.size #[.slice none 0 0, .int .i64 0, .bool false] 46 := Has.new _ _
      have hI : (Tryz.prog.info? 46).map (·.size) = some (meA x).size := meinfo
      have hs3 : (#[.slice none 0 0, .int .i64 0, .bool false] : Array Value).size = (meA x).size := rfl
      have ho3 : (meA x).all (·.oneCell') = true := meA_one x
      clear hx hcc rx0
      go_upto_region 11 with (first
        | (with_reducible refine st_val rfl (ex_load_me rfl rfl rx) ?_)
        | (with_reducible refine wpList_store_row rfl 46 _ _ rfl _ (meA x) rfl rfl 46 _ (Has.out hZ) hI hs3 ho3 ?_))
      generalize hw6 : World.setRow _ _ _ = v4
      have hX : MeAt v4 wr.heap.size x := by rw [← hw6]; exact Has.row hZ _
      have hb6 : Below wr.heap.size wr v4 := by rw [← hw6]; exact below_setRow ((Below.refl _ _).alloc (Nat.le_refl _) _) (Nat.le_refl _) _
      clear hw6 hZ rx hI hs3 ho3
      have c0 := hX.list
      have c1 := hX.now
      have c2 := hX.more
      have MOK := Lib.hid mok
      have HS4 := Lib.hid (HS.out.on hb6)
      obtain ⟨xa, xn, xc, xh, xt, xm⟩ := x
      dsimp only at c0 c1 c2
      have KF := Lib.hid (HS4.out.feed HB12.out (by omega) xt xm xa xh xn xc MOK.out.n MOK.out.at_)
      clear hX hb6 mok HS
      go_wp2_with fail
      refine KF.out.mono ?_
      rintro r v5 ⟨v, e, rfl, hS5⟩
      have HS5 := Lib.hid hS5
      clear hS5 KF HS4 c0 c1 c2 MOK
      go_wp2_with fail
      go_roundw
      case rel => exact ⟨k + 1, by omega, by go_num, HS5⟩
      case measure => simp [intOf]; omega
    · obtain rfl : k = n := by omega
      have f1 : ¬ (k : Int) < (k : Int) := by omega
      have B4 := Lib.hid (B2.out.trans (HS.out.below.mono B2.out.size))
      obtain ⟨F5, X5, -, -⟩ := HS.out.live
      rcases X5 with ⟨ph, hph, W⟩ | ⟨ph, hph, X⟩
      · obtain ⟨y5, va, vn, vc, hA, hO, hv, -, -, hp5⟩ := W.shows
        obtain ⟨bits, hbits⟩ : ∃ bits, y5.n = bits := ⟨_, rfl⟩
        have KP : Hid (∀ w', Below wr.heap.size wr w' → Calls Tryz.prog 11 #[.pointer (some ⟨b, 0, none⟩)] w' fun r w'' => r = .returned (.int .i64 ph) ∧ Below w'.heap.size w' w'') := Lib.hid fun w' hb => by rw [← hp5]; exact phase_at (below_has hb hA (Has.lt hA))
        have KB : Hid (∀ w', Below wr.heap.size wr w' → Calls Tryz.prog 9 #[.pointer (some ⟨b, 0, none⟩)] w' fun r w'' => r = .returned (.int .i64 bits) ∧ Below w'.heap.size w' w'') := Lib.hid fun w' hb => by rw [← hbits]; exact bits_at19 (below_has hb hA (Has.lt hA)) hO
        have KH : Hid (∀ w', Below wr.heap.size wr w' → Calls Tryz.prog 10 #[.pointer (some ⟨b, 0, none⟩)] w' fun r w'' => r = .returned (.int .i64 (vn : Int)) ∧ Below w'.heap.size w' w'') := Lib.hid fun w' hb => held_at (below_has hb hA (Has.lt hA)) hO hv
        have KF := Lib.hid fun w' (hb : Below wr.heap.size wr w') => feed_arg (W.below hb) hph (-1) true a2 n2 c2 false false rfl h64' (.inl rfl)
        have D0 := Lib.hid (Below.refl wr.heap.size wr)
        clear hA hO hv hp5 hbits W
        rcases hph with rfl | rfl
        all_goals
          go_wp2_with fail
          refine (KP.out _ D0.out).mono ?_
          rintro r v5 ⟨rfl, hb⟩
          have D1 := Lib.hid (D0.out.trans (hb.mono D0.out.size))
          clear hb D0
          go_wp2_with fail
          refine (KB.out _ D1.out).mono ?_
          rintro r v6 ⟨rfl, hb⟩
          have D2 := Lib.hid (D1.out.trans (hb.mono D1.out.size))
          clear hb D1
          go_wp2_with fail
          refine (KH.out _ D2.out).mono ?_
          rintro r v7 ⟨rfl, hb⟩
          have D3 := Lib.hid (D2.out.trans (hb.mono D2.out.size))
          clear hb D2
          go_wp2_with fail
          refine (KF.out _ D3.out).mono ?_
          rintro r v8 ⟨rfl, hb⟩
          have D4 := Lib.hid (D3.out.trans (hb.mono D3.out.size))
          clear hb D3
          go_wp2_with fail
          refine (KP.out _ D4.out).mono ?_
          rintro r v9 ⟨rfl, hb⟩
          have D5 := Lib.hid (D4.out.trans (hb.mono D4.out.size))
          clear hb D4
          go_wp2_with fail
          refine (KB.out _ D5.out).mono ?_
          rintro r v10 ⟨rfl, hb⟩
          have D6 := Lib.hid (D5.out.trans (hb.mono D5.out.size))
          clear hb D5
          go_wp2_with fail
          refine (KH.out _ D6.out).mono ?_
          rintro r v11 ⟨rfl, hb⟩
          have D7 := Lib.hid (D6.out.trans (hb.mono D6.out.size))
          clear hb D6
          go_wp2_with fail
          go_ret
          exact ⟨rfl, B4.out.trans (D7.out.mono B4.out.size)⟩
      · obtain ⟨y5, va, vn, vc, hA, hO, hv, -, -, hp5⟩ := X.shows (z := 0)
        obtain ⟨bits, hbits⟩ : ∃ bits, y5.n = bits := ⟨_, rfl⟩
        have KP : Hid (∀ w', Below wr.heap.size wr w' → Calls Tryz.prog 11 #[.pointer (some ⟨b, 0, none⟩)] w' fun r w'' => r = .returned (.int .i64 ph) ∧ Below w'.heap.size w' w'') := Lib.hid fun w' hb => by rw [← hp5]; exact phase_at (below_has hb hA (Has.lt hA))
        have KB : Hid (∀ w', Below wr.heap.size wr w' → Calls Tryz.prog 9 #[.pointer (some ⟨b, 0, none⟩)] w' fun r w'' => r = .returned (.int .i64 bits) ∧ Below w'.heap.size w' w'') := Lib.hid fun w' hb => by rw [← hbits]; exact bits_at19 (below_has hb hA (Has.lt hA)) hO
        have KH : Hid (∀ w', Below wr.heap.size wr w' → Calls Tryz.prog 10 #[.pointer (some ⟨b, 0, none⟩)] w' fun r w'' => r = .returned (.int .i64 (vn : Int)) ∧ Below w'.heap.size w' w'') := Lib.hid fun w' hb => held_at (below_has hb hA (Has.lt hA)) hO hv
        have KF := Lib.hid fun w' (hb : Below wr.heap.size wr w') now => feed_dead (X.below hb) hph now true a2 n2 c2
        have D0 := Lib.hid (Below.refl wr.heap.size wr)
        clear hA hO hv hp5 hbits X
        rcases hph with rfl | rfl
        all_goals
          go_wp2_with fail
          refine (KP.out _ D0.out).mono ?_
          rintro r v5 ⟨rfl, hb⟩
          have D1 := Lib.hid (D0.out.trans (hb.mono D0.out.size))
          clear hb D0
          go_wp2_with fail
          refine (KB.out _ D1.out).mono ?_
          rintro r v6 ⟨rfl, hb⟩
          have D2 := Lib.hid (D1.out.trans (hb.mono D1.out.size))
          clear hb D1
          go_wp2_with fail
          refine (KH.out _ D2.out).mono ?_
          rintro r v7 ⟨rfl, hb⟩
          have D3 := Lib.hid (D2.out.trans (hb.mono D2.out.size))
          clear hb D2
          go_wp2_with fail
          refine (KF.out _ D3.out (-1)).mono ?_
          rintro r v8 ⟨rfl, hb⟩
          have D4 := Lib.hid (D3.out.trans (hb.mono D3.out.size))
          clear hb D3
          go_wp2_with fail
          refine (KP.out _ D4.out).mono ?_
          rintro r v9 ⟨rfl, hb⟩
          have D5 := Lib.hid (D4.out.trans (hb.mono D4.out.size))
          clear hb D4
          go_wp2_with fail
          refine (KB.out _ D5.out).mono ?_
          rintro r v10 ⟨rfl, hb⟩
          have D6 := Lib.hid (D5.out.trans (hb.mono D5.out.size))
          clear hb D5
          go_wp2_with fail
          refine (KH.out _ D6.out).mono ?_
          rintro r v11 ⟨rfl, hb⟩
          have D7 := Lib.hid (D6.out.trans (hb.mono D6.out.size))
          clear hb D6
          have c88 := (HS.out.ca.on D7.out).now OK.out.p
          go_wp2_with fail
          refine (KF.out _ D7.out _).mono ?_
          rintro r v12 ⟨rfl, hb⟩
          have D8 := Lib.hid (D7.out.trans (hb.mono D7.out.size))
          clear hb D7
          clear c88
          go_wp2_with fail
          refine (KP.out _ D8.out).mono ?_
          rintro r v13 ⟨rfl, hb⟩
          have D9 := Lib.hid (D8.out.trans (hb.mono D8.out.size))
          clear hb D8
          go_wp2_with fail
          go_ret
          exact ⟨rfl, B4.out.trans (D9.out.mono B4.out.size)⟩
end Go.Proofs.YthcebnfdapcllaaGreatDoor.An
