import Derived.Test.YthcebnfdapcllaaGreatDoorRBunQ11
import Derived.Deep.DeepCutAuto
import Derived.Test.YthcebnfdapcllaaGreatDoorRBunQ2
import Derived.Test.YthcebnfdapcllaaGreatDoorRScEye
import Derived.IntWalk
import Derived.Test.YthcebnfdapcllaaGreatDoorRHashMem
namespace Go.Proofs.YthcebnfdapcllaaGreatDoor
open Go.RowKit Mem Sc
structure It where
  kind : Int
  size : Int
  n : Int
  name : List UInt8
  text : ByteArray
def It.ok (x : It) : Prop := x.name.length = 32 ∧ x.text.size ≤ 4611686018427387904
def itemC (x : It) : List Value := .int .i64 x.kind :: .int .i64 x.size :: .int .i64 x.n :: (Lib.byteCells x.name ++ [.string x.text])
def itemA (x : It) : Array Value := (itemC x).toArray
def i0 : Array Value := itemA ⟨0, 0, 0, List.replicate 32 0, ⟨#[]⟩⟩
section
variable {w : World} {ops : Array Oper} {rest : List Oper} {o : Oper} {a : Act} {Q : Exit → Act → World → Prop}
end
theorem range_block {w : World} {b o : Nat} {cs : List Value} (h : w.rangeAt b o cs) (h0 : 0 < cs.length) : b < w.heap.size := block_lt_of_cell (h 0 (cs[0]'h0) (List.getElem?_eq_getElem h0))
theorem range_below {w w' : World} {b o : Nat} {cs : List Value} (h : w.rangeAt b o cs) (hb : Below w.heap.size w w') (h0 : 0 < cs.length) : w'.rangeAt b o cs := fun j u hu => by
  have hlt := range_block h h0
  exact (hb.cell (p := ⟨b, o + j, none⟩) hlt).trans (h j u hu)
end Go.Proofs.YthcebnfdapcllaaGreatDoor
namespace Go.Proofs.YthcebnfdapcllaaGreatDoor
open Go.RowKit Mem Sc
end Go.Proofs.YthcebnfdapcllaaGreatDoor
namespace Go.Proofs.YthcebnfdapcllaaGreatDoor
open Go.RowKit Mem Sc
end Go.Proofs.YthcebnfdapcllaaGreatDoor
namespace Go.Proofs.YthcebnfdapcllaaGreatDoor
open Go.RowKit Mem Sc
structure Hd where
  v : Int
  prev : List UInt8
  root : List UInt8
  time : Int
  bits : Int
  nonce : Int
def Hd.ok (h : Hd) : Prop := h.prev.length = 32 ∧ h.root.length = 32
def Hd.P (h : Hd) : Prop := -2147483648 ≤ h.v ∧ h.v ≤ 2147483647 ∧ 0 ≤ h.time ∧ h.time ≤ 4294967295 ∧ 0 ≤ h.bits ∧ h.bits ≤ 4294967295 ∧ 0 ≤ h.nonce ∧ h.nonce ≤ 4294967295
instance (h : Hd) : Decidable h.P := by unfold Hd.P; exact inferInstance
def z32 : List UInt8 := List.replicate 32 0
def hdZ : Hd := ⟨0, z32, z32, 0, 0, 0⟩
def Hd.enc (h : Hd) : List UInt8 := num 4 h.v ++ (h.prev ++ (h.root ++ (num 4 h.time ++ (num 4 h.bits ++ num 4 h.nonce))))
def Hd.wr (h : Hd) : List UInt8 := if h.P then h.enc else hdZ.enc
def Hd.id (h : Hd) : List UInt8 := if h.P then Sha.sha (Sha.sha h.enc) else z32
def i32 (n : Nat) : Int := if n < 2147483648 then (n : Int) else (n : Int) - 4294967296
theorem hdZ_ok : hdZ.ok := ⟨rfl, rfl⟩
theorem Hd.enc_length {h : Hd} (ho : h.ok) : h.enc.length = 80 := by
  simp only [Hd.enc, List.length_append, num_length, ho.1, ho.2]
theorem Hd.wr_yes {h : Hd} (hp : h.P) : h.wr = h.enc := if_pos hp
theorem Hd.wr_no {h : Hd} (hp : ¬ h.P) : h.wr = hdZ.enc := if_neg hp
theorem Hd.id_yes {h : Hd} (hp : h.P) : h.id = Sha.sha (Sha.sha h.enc) := if_pos hp
theorem Hd.id_no {h : Hd} (hp : ¬ h.P) : h.id = z32 := if_neg hp
end Go.Proofs.YthcebnfdapcllaaGreatDoor
namespace Go.Proofs.YthcebnfdapcllaaGreatDoor
open Go.RowKit Mem Sc
theorem range_cls {w : World} {g off : Nat} {cs : List Value} (h : w.rangeAt g off cs) (h0 : 0 < cs.length) : ∀ w', (∃ p : Regrown, w' = Sort.grow (redrawn w p.d) p.os) → w'.rangeAt g off cs := by
  rintro w' ⟨p, rfl⟩
  exact range_below h (below_regrown _ _ _) h0
theorem hsize1 : ∀ w, (sizeOf 5).run Tryz.prog w = .ok 1 w := fun _ => by kernel_rfl
theorem hplain : Tryz.prog.eqGuardType Tryz.prog.depth 28 = false := by kernel_rfl
theorem NamesAt.below {w w' : World} {a : Option Addr} {ls : List (List UInt8)} (h : NamesAt w a ls) (hb : Below w.heap.size w w') : NamesAt w' a ls := fun h0 => by
  obtain ⟨ab, ao, ha, hl, hc⟩ := h h0
  exact ⟨ab, ao, ha, by have := hb.size; omega, fun i hi => ⟨(hc i hi).1, range_below (hc i hi).2 hb (by rw [Lib.byteCells_length, (hc i hi).1]; omega)⟩⟩
end Go.Proofs.YthcebnfdapcllaaGreatDoor
namespace Go.Proofs.YthcebnfdapcllaaGreatDoor
open Go.RowKit Mem Sc
def hdC (h : Hd) : List Value := .int .i64 h.v :: (Lib.byteCells h.prev ++ (Lib.byteCells h.root ++ [.int .i64 h.time, .int .i64 h.bits, .int .i64 h.nonce]))
def hdA (h : Hd) : Array Value := (hdC h).toArray
theorem hdC_length {h : Hd} (ho : h.ok) : (hdC h).length = 68 := by simp [hdC, Lib.byteCells_length, ho.1, ho.2]
theorem hdA_size {h : Hd} (ho : h.ok) : (hdA h).size = 68 := by show (hdC h).toArray.size = 68; rw [List.size_toArray]; exact hdC_length ho
theorem hdC_one (h : Hd) : ∀ v ∈ hdC h, v.oneCell' = true := by
  intro v hv
  simp only [hdC, List.mem_cons, List.mem_append] at hv
  rcases hv with rfl | hv | hv | hv
  · rfl
  · exact Lib.byteCells_one _ v hv
  · exact Lib.byteCells_one _ v hv
  · simp at hv
    rcases hv with rfl | rfl | rfl <;> rfl
theorem hdA_one (h : Hd) : (hdA h).all (·.oneCell') = true := all_oneCell_toArray (hdC_one h)
theorem hdinfo : (Tryz.prog.info? 30).map (·.size) = some 68 := by kernel_rfl
def HdAt (w : World) (k : Nat) (h : Hd) : Prop := Has w k (hdA h) 30
variable {w w' : World} {k : Nat} {h : Hd}
theorem HdAt.lt (hh : HdAt w k h) : k < w.heap.size := Has.lt hh
theorem HdAt.on (hh : HdAt w k h) (hb : Below w.heap.size w w') : HdAt w' k h := below_has hb hh hh.lt
theorem HdAt.grown {r : Option Nat} (hh : HdAt w k h) (hg : w.grownBy w' r) (hn : some k ≠ r) : HdAt w' k h := gb_has hg hh hn
theorem HdAt.pen {b : Nat} {v v' : Value} (hh : HdAt w k h) (hs : PenStep w w' b v v') (hb : k ≠ b) (hv : v.ownBlock ≠ some k) : HdAt w' k h := hs.has hh hb hv
theorem HdAt.free (hh : HdAt w k h) (j : Nat) : w.frozen? ⟨k, j, none⟩ = false := Has.free hh j
theorem HdAt.v (hh : HdAt w k h) : w.cell? ⟨k, 0, none⟩ = some (.int .i64 h.v) := Has.cell hh 0
theorem byteCells_32 {l : List UInt8} (hl : l.length = 32) : (Lib.byteCells l).length = 32 := by rw [Lib.byteCells_length, hl]
theorem hdC_prev (j : Nat) (u : Value) (hu : (Lib.byteCells h.prev)[j]? = some u) : (hdC h)[1 + j]? = some u := by
  rw [Nat.add_comm]
  show (Lib.byteCells h.prev ++ _)[j]? = some u
  rw [List.getElem?_append_left (List.getElem?_eq_some_iff.1 hu).1]
  exact hu
theorem hdC_root (ho : h.ok) (j : Nat) (u : Value) (hu : (Lib.byteCells h.root)[j]? = some u) : (hdC h)[33 + j]? = some u := by
  rw [show 33 + j = (32 + j) + 1 by omega]
  show (Lib.byteCells h.prev ++ _)[32 + j]? = some u
  rw [List.getElem?_append_right (by rw [byteCells_32 ho.1]; omega), byteCells_32 ho.1, Nat.add_sub_cancel_left, List.getElem?_append_left (List.getElem?_eq_some_iff.1 hu).1]
  exact hu
theorem hdC_tail (ho : h.ok) (j : Nat) : (hdC h)[65 + j]? = [Value.int .i64 h.time, .int .i64 h.bits, .int .i64 h.nonce][j]? := by
  rw [show 65 + j = (64 + j) + 1 by omega]
  show (Lib.byteCells h.prev ++ _)[64 + j]? = _
  rw [List.getElem?_append_right (by rw [byteCells_32 ho.1]; omega), byteCells_32 ho.1, List.getElem?_append_right (by rw [byteCells_32 ho.2]; omega), byteCells_32 ho.2, show 64 + j - 32 - 32 = j by omega]
theorem HdAt.prev (hh : HdAt w k h) : w.rangeAt k 1 (Lib.byteCells h.prev) := fun j u hu => by
  rw [Has.cell hh (1 + j)]
  show (hdC h).toArray[1 + j]? = some u
  rw [List.getElem?_toArray]
  exact hdC_prev j u hu
theorem HdAt.root (hh : HdAt w k h) (ho : h.ok) : w.rangeAt k 33 (Lib.byteCells h.root) := fun j u hu => by
  rw [Has.cell hh (33 + j)]
  show (hdC h).toArray[33 + j]? = some u
  rw [List.getElem?_toArray]
  exact hdC_root ho j u hu
theorem HdAt.time (hh : HdAt w k h) (ho : h.ok) : w.cell? ⟨k, 65, none⟩ = some (.int .i64 h.time) := by
  rw [Has.cell hh 65]
  show (hdC h).toArray[65]? = _
  rw [List.getElem?_toArray]
  exact hdC_tail ho 0
theorem HdAt.bits (hh : HdAt w k h) (ho : h.ok) : w.cell? ⟨k, 66, none⟩ = some (.int .i64 h.bits) := by
  rw [Has.cell hh 66]
  show (hdC h).toArray[66]? = _
  rw [List.getElem?_toArray]
  exact hdC_tail ho 1
theorem HdAt.nonce (hh : HdAt w k h) (ho : h.ok) : w.cell? ⟨k, 67, none⟩ = some (.int .i64 h.nonce) := by
  rw [Has.cell hh 67]
  show (hdC h).toArray[67]? = _
  rw [List.getElem?_toArray]
  exact hdC_tail ho 2
theorem hdA_setV (x : Int) : (hdA h).setIfInBounds 0 (.int .i64 x) = hdA { h with v := x } := by simp [hdA, hdC]
theorem HdAt.setV (hh : HdAt w k h) (x : Int) : HdAt (w.setCell ⟨k, 0, none⟩ (.int .i64 x)) k { h with v := x } := by
  unfold HdAt; rw [← hdA_setV]; exact Has.set hh _
theorem has_setCells (b : Nat) (t : TypeId) : ∀ (vs : List Value) (o : Nat) (w : World) (A B C : List Value), Has w b (A ++ (B ++ C)).toArray t → A.length = o → B.length = vs.length → Has (w.setCells b o vs) b (A ++ (vs ++ C)).toArray t
  | [], o, w, A, B, C, hh, ha, hb => by
    obtain rfl : B = [] := List.eq_nil_of_length_eq_zero hb
    exact hh
  | v :: r, o, w, A, B, C, hh, ha, hb => by
    obtain ⟨x, B', rfl⟩ : ∃ x B', B = x :: B' := by
      cases B with
      | nil => simp at hb
      | cons x B' => exact ⟨x, B', rfl⟩
    have h1 := Has.set (i := o) hh v
    have e : (A ++ (x :: B' ++ C)).toArray.setIfInBounds o v = (A ++ [v] ++ (B' ++ C)).toArray := by
      rw [List.setIfInBounds_toArray, List.set_append_right _ _ (by omega), show o - A.length = 0 by omega]
      simp
    rw [e] at h1
    have := has_setCells b t r (o + 1) _ (A ++ [v]) B' C h1 (by simp [ha]) (by simpa using hb)
    show Has ((w.setCell ⟨b, o, none⟩ v).setCells b (o + 1) r) b _ t
    simpa using this
theorem setCells_other (b c : Nat) (hc : c ≠ b) : ∀ (vs : List Value) (o : Nat) (w : World), (w.setCells b o vs).heap[c]? = w.heap[c]?
  | [], _, _ => rfl
  | v :: r, o, w => by
    show ((w.setCell ⟨b, o, none⟩ v).setCells b (o + 1) r).heap[c]? = _
    rw [setCells_other b c hc r]
    exact Below.heap_setCell _ _ _ _ hc
theorem setCells_rest (b : Nat) : ∀ (vs : List Value) (o : Nat) (w : World), (w.setCells b o vs).os = w.os ∧ (w.setCells b o vs).tape = w.tape ∧ (w.setCells b o vs).output = w.output ∧ (w.setCells b o vs).heap.size = w.heap.size
  | [], _, _ => ⟨rfl, rfl, rfl, rfl⟩
  | v :: r, o, w => by
    obtain ⟨h1, h2, h3, h4⟩ := setCells_rest b r (o + 1) (w.setCell ⟨b, o, none⟩ v)
    exact ⟨h1, h2, h3, h4.trans (by simp [World.setCell])⟩
theorem HdAt.setPrev (hh : HdAt w k h) (ho : h.ok) {p : List UInt8} (hp : p.length = 32) : HdAt (w.setCells k 1 (Lib.byteCells p)) k { h with prev := p } := by
  have hh' : Has w k ([Value.int .i64 h.v] ++ (Lib.byteCells h.prev ++ (Lib.byteCells h.root ++ [Value.int .i64 h.time, Value.int .i64 h.bits, Value.int .i64 h.nonce]))).toArray 30 := hh
  exact has_setCells k 30 (Lib.byteCells p) 1 w _ _ _ hh' rfl (by rw [byteCells_32 ho.1, byteCells_32 hp])
theorem HdAt.there (hh : HdAt w k h) (ho : h.ok) (o n : Nat) (hn : o + n ≤ 68) : w.there k o n := fun j hj => ⟨by
  rw [Has.cell hh (o + j)]
  have hz := hdA_size ho
  rw [Array.getElem?_eq_getElem (by omega)]
  rfl, hh.free _⟩
section
variable {ops : Array Oper} {rest : List Oper} {o : Oper} {a : Act} {Q : Exit → Act → World → Prop}
theorem hd_load (hgd : o.guard = none) (x : Operand) (ho : o.op = .load 30 x) (g : Nat) (hx : a.eval x = .pointer (some ⟨g, 0, none⟩)) (hg : HdAt w g h) (hs : (hdA h).size = 68)
    (hk : wpList Tryz.prog ops Q rest (a.put o.dst (.agg (hdA h))) w) : wpList Tryz.prog ops Q (o :: rest) a w :=
  wpList_load_row hgd 30 x ho g hx 30 (hdA h) (0, 0) _ (Has.out hg) Tryz.underlying30 rfl (hdinfo.trans (by rw [hs])) hk
theorem hd_load_mid (hgd : o.guard = none) (x : Operand) (ho : o.op = .load 30 x) (g off : Nat) (hx : a.eval x = .pointer (some ⟨g, off, none⟩)) (h : Hd) (hg : w.rangeAt g off (hdC h)) (hs : (hdC h).length = 68)
    (hk : wpList Tryz.prog ops Q rest (a.put o.dst (.agg (hdA h))) w) : wpList Tryz.prog ops Q (o :: rest) a w :=
  wpList_load_mid hgd 30 x ho g off hx (hdC h) _ hg Tryz.underlying30 rfl (hdinfo.trans (by rw [hs])) hk
theorem hd_store (hgd : o.guard = none) (x y : Operand) (ho : o.op = .store 30 x y) (g : Nat) (cz : Array Value) (h' : Hd) (hx : a.eval x = .pointer (some ⟨g, 0, none⟩)) (hy : a.eval y = .agg cz) (e : cz = hdA h') (hs' : (hdA h').size = 68) (hg : HdAt w g h) (hs : (hdA h).size = 68)
    (hk : wpList Tryz.prog ops Q rest (a.put o.dst undef) (w.setRow g (hdA h'))) : wpList Tryz.prog ops Q (o :: rest) a w := by
  subst e
  exact wpList_store_row hgd 30 x y ho g (hdA h') hx hy 30 (hdA h) (Has.out hg) (hdinfo.trans (by rw [hs'])) (by rw [hs, hs']) (hdA_one h') hk
theorem hl_store_mid (hgd : o.guard = none) (x y : Operand) (ho : o.op = .store 28 x y) (g off : Nat) (l : List UInt8) (hx : a.eval x = .pointer (some ⟨g, off, none⟩)) (hy : a.eval y = .agg (bytesV l)) (hl : l.length = 32) (ht : w.there g off 32)
    (hk : wpList Tryz.prog ops Q rest (a.put o.dst undef) (w.setCells g off (Lib.byteCells l))) : wpList Tryz.prog ops Q (o :: rest) a w := by
  refine wpList_store_mid hgd 28 x y ho g off (bytesV l) hx hy (by rw [hv_size hl]; exact ht) (hinfo.trans (by rw [hv_size hl])) (bytesV_one l) ?_
  rw [bytesV_list]
  exact hk
end
theorem hd_new (w : World) (h : Hd) : HdAt (w.alloc (.cells (hdA h) 30)) w.heap.size h := Has.new _ _
theorem hd_new1 (w : World) (ob : Obj) (h : Hd) : HdAt ((w.alloc ob).alloc (.cells (hdA h) 30)) (w.heap.size + 1) h := Has.new1 ob _ _
theorem quiet_hd_mid {C : World → Prop} {a : Act} {o : Oper} {K : Act → Prop} (x : Operand) (ho : o.op = .load 30 x) (g off : Nat) (hx : a.eval x = .pointer (some ⟨g, off, none⟩)) (h : Hd) (hs : (hdC h).length = 68) (hC : ∀ w', C w' → w'.rangeAt g off (hdC h))
    (hk : K (a.put o.dst (.agg (hdA h)))) : o.quiet Tryz.prog a C K :=
  ⟨_, fun w' hw' => by
    unfold Oper.quietAt
    have this : (execOp a.eval o).run Tryz.prog w' = .ok (.value (.agg (hdA h))) w' := by
      unfold execOp
      simp only [ho, hx, Sem.run_bind, run_loadAt_mid w' g off 30 (hdC h) _ (hC w' hw') Tryz.underlying30 rfl (hdinfo.trans (by rw [hs])), Result.andThen_ok]
      rfl
    rw [this]
    exact ⟨rfl, rfl⟩, hk⟩
theorem HdAt.range (hh : HdAt w k h) : w.rangeAt k 0 (hdC h) := fun j u hu => by
  rw [Nat.zero_add, Has.cell hh j]
  show (hdC h).toArray[j]? = some u
  rw [List.getElem?_toArray]
  exact hu
end Go.Proofs.YthcebnfdapcllaaGreatDoor
namespace Go.Proofs.YthcebnfdapcllaaGreatDoor
open Go.RowKit Mem Sc
theorem room_is (n : Int) (w : World) : Calls Tryz.prog 61 #[.int .i64 n] w fun e w' => e = .returned (.bool (decide (0 ≤ n) && decide (n ≤ 4294967295))) ∧ w = w' := by
  generalize t0 : decide (0 ≤ n) = a
  generalize t1 : decide (n ≤ 4294967295) = b
  go_enter Tryz.func61, Tryz.ntmps61
  cases a
  case' true =>
    cases b
  all_goals
    go_wp2_with fail
    go_ret
    exact ⟨rfl, rfl⟩
set_option maxHeartbeats 2000000 in
theorem good_w (h : Hd) (ho : h.ok) (g0 g1 g2 g3 g4 : Bool) (t0 : decide ((-2147483648 : Int) ≤ h.v) = g0) (t1 : decide (h.v ≤ 2147483647) = g1) (C0 : Hid (∀ w, Calls Tryz.prog 61 #[.int .i64 h.time] w fun e w' => e = .returned (.bool g2) ∧ w = w')) (C1 : Hid (∀ w, Calls Tryz.prog 61 #[.int .i64 h.bits] w fun e w' => e = .returned (.bool g3) ∧ w = w')) (C2 : Hid (∀ w, Calls Tryz.prog 61 #[.int .i64 h.nonce] w fun e w' => e = .returned (.bool g4) ∧ w = w')) (w : World) :
    Calls Tryz.prog 41 #[.agg (hdA h)] w fun e w' => e = .returned (.bool (g0 && g1 && g2 && g3 && g4)) ∧ Below w.heap.size w w' := by
  have hH := hd_new w h
  have hB : Below w.heap.size w (w.alloc (.cells (hdA h) 30)) := (Below.refl _ _).alloc (Nat.le_refl _) _
  have c0 := hH.v
  have c1 := hH.time ho
  have c2 := hH.bits ho
  have c3 := hH.nonce ho
  obtain ⟨v, p, q, t, b, n⟩ := h
  simp only at *
  clear hH ho
  go_enter Tryz.func41, Tryz.ntmps41
  cases g0
  case' true =>
    cases g1
    case' true =>
      go_wp2_with fail
      refine (C0.out _).mono ?_
      rintro e w2 ⟨rfl, rfl⟩
      cases g2
      case' true =>
        go_wp2_with fail
        refine (C1.out _).mono ?_
        rintro e w3 ⟨rfl, rfl⟩
        cases g3
        case' true =>
          go_wp2_with fail
          refine (C2.out _).mono ?_
          rintro e w4 ⟨rfl, rfl⟩
          cases g4
  all_goals
    go_wp2_with fail
    go_ret
    exact ⟨rfl, hB⟩
theorem good_at (h : Hd) (ho : h.ok) (w : World) : Calls Tryz.prog 41 #[.agg (hdA h)] w fun e w' => e = .returned (.bool (decide h.P)) ∧ Below w.heap.size w w' := by
  have e : decide h.P = (decide ((-2147483648 : Int) ≤ h.v) && decide (h.v ≤ 2147483647) && (decide (0 ≤ h.time) && decide (h.time ≤ 4294967295)) && (decide (0 ≤ h.bits) && decide (h.bits ≤ 4294967295)) && (decide (0 ≤ h.nonce) && decide (h.nonce ≤ 4294967295))) := by
    rw [Bool.eq_iff_iff]
    simp only [decide_eq_true_eq, Bool.and_eq_true]
    unfold Hd.P
    omega
  rw [e]
  exact good_w h ho _ _ _ _ _ rfl rfl (Lib.hid (room_is h.time)) (Lib.hid (room_is h.bits)) (Lib.hid (room_is h.nonce)) w
set_option maxHeartbeats 2000000 in
theorem rgood_w (h : Hd) (ho : h.ok) (g0 g1 g2 g3 g4 g5 g6 g7 : Bool) (t0 : decide ((-2147483648 : Int) ≤ h.v) = g0) (t1 : decide (h.v ≤ 2147483647) = g1) (t2 : decide (0 ≤ h.time) = g2) (t3 : decide (h.time < 4294967296) = g3) (t4 : decide (0 ≤ h.bits) = g4) (t5 : decide (h.bits < 4294967296) = g5) (t6 : decide (0 ≤ h.nonce) = g6) (t7 : decide (h.nonce < 4294967296) = g7) (w : World) :
    Calls Tryz.prog 15 #[.agg (hdA h)] w fun e w' => e = .returned (.bool (g0 && g1 && g2 && g3 && g4 && g5 && g6 && g7)) ∧ Below w.heap.size w w' := by
  have hH := hd_new w h
  have hB : Below w.heap.size w (w.alloc (.cells (hdA h) 30)) := (Below.refl _ _).alloc (Nat.le_refl _) _
  have c0 := hH.v
  have c1 := hH.time ho
  have c2 := hH.bits ho
  have c3 := hH.nonce ho
  obtain ⟨v, p, q, t, b, n⟩ := h
  simp only at *
  clear hH ho
  go_enter Tryz.func15, Tryz.ntmps15
  cases g0
  case' true =>
    cases g1
    case' true =>
      cases g2
      case' true =>
        cases g3
        case' true =>
          cases g4
          case' true =>
            cases g5
            case' true =>
              cases g6
              case' true =>
                cases g7
  all_goals
    go_wp2_with fail
    go_ret
    exact ⟨rfl, hB⟩
theorem rgood_at (h : Hd) (ho : h.ok) (w : World) : Calls Tryz.prog 15 #[.agg (hdA h)] w fun e w' => e = .returned (.bool (decide h.P)) ∧ Below w.heap.size w w' := by
  have e : decide h.P = (decide ((-2147483648 : Int) ≤ h.v) && decide (h.v ≤ 2147483647) && decide (0 ≤ h.time) && decide (h.time < 4294967296) && decide (0 ≤ h.bits) && decide (h.bits < 4294967296) && decide (0 ≤ h.nonce) && decide (h.nonce < 4294967296)) := by
    rw [Bool.eq_iff_iff]
    simp only [decide_eq_true_eq, Bool.and_eq_true]
    unfold Hd.P
    omega
  rw [e]
  exact rgood_w h ho _ _ _ _ _ _ _ _ rfl rfl rfl rfl rfl rfl rfl rfl w
end Go.Proofs.YthcebnfdapcllaaGreatDoor
namespace Go.Proofs.YthcebnfdapcllaaGreatDoor
open Go.RowKit Mem Sc
theorem foldl_size (o : Nat) : ∀ (l : List (Value × Nat)) (b : Array Value), (l.foldl (fun (cs : Array Value) (x : Value × Nat) => match x with | (c, j) => cs.setIfInBounds (o + j) c) b).size = b.size
  | [], _ => rfl
  | x :: l, b => by rw [List.foldl_cons, foldl_size o l]; simp
theorem fill_two (n : Nat) (z xs ys : Array Value) (hz : z.size = 2 * n) (hx : xs.size = n) (hy : ys.size = n) : Instr.fill (fun i => some (i * n, n)) z [(0, .agg xs), (1, .agg ys)] = some (xs ++ ys) := by
  have hsx : (Value.agg xs).cells.size = n := hx
  have hsy : (Value.agg ys).cells.size = n := hy
  unfold Instr.fill
  simp only [hsx, Nat.zero_mul, Nat.zero_add, hz]
  rw [if_neg (by simp; omega)]
  obtain ⟨f1, hf1⟩ : ∃ f1, f1 = (List.foldl (fun (cs : Array Value) (x : Value × Nat) => match x with | (c, j) => cs.setIfInBounds (0 + j) c) z (xs.toList.zipIdx 0)) := ⟨_, rfl⟩
  have e1 : ∀ j, f1[j]? = if j < n then xs[j]? else z[j]? := fun j => by
    have h := foldl_set 0 xs.toList 0 z j
    rw [hf1, h, Array.length_toList, hx, hz]
    by_cases hj : j < n
    · rw [if_pos ⟨by omega, by omega, by omega⟩, if_pos hj]; simp
    · rw [if_neg (by omega), if_neg hj]
  have s1 : f1.size = 2 * n := by rw [hf1, foldl_size, hz]
  have g1 : Array.foldl (fun cs x => cs.setIfInBounds x.snd x.fst) z (Value.agg xs).cells.zipIdx = f1 := by
    rw [hf1, ← Array.foldl_toList, Array.toList_zipIdx]
    simp only [Nat.zero_add]
    rfl
  rw [g1]
  unfold Instr.fill
  simp only [hsy, Nat.one_mul, s1]
  rw [if_neg (by simp; omega)]
  unfold Instr.fill
  congr 1
  apply Array.ext_getElem?
  intro j
  rw [← Array.foldl_toList, Array.toList_zipIdx]
  have h := foldl_set n ys.toList 0 f1 j
  show (List.foldl _ f1 (ys.toList.zipIdx 0))[j]? = _
  refine h.trans ?_
  rw [Array.length_toList, hy, s1, e1, Array.getElem?_append, hx]
  by_cases hj : j < n
  · rw [if_neg (by omega), if_pos hj, if_pos hj]
  · by_cases hj2 : j < 2 * n
    · rw [if_pos (by omega), if_neg hj]; simp
    · rw [if_neg (by omega), if_neg hj, if_neg hj, Array.getElem?_eq_none (by omega), Array.getElem?_eq_none (by omega)]
theorem bytesV_append (x y : List UInt8) : bytesV (x ++ y) = bytesV x ++ bytesV y := by simp [bytesV]
theorem build_name2 (x y : List UInt8) (hx : x.length = 32) (hy : y.length = 32) (w : World) : (Instr.buildSlice 127 2 #[(0, .agg (bytesV x)), (1, .agg (bytesV y))]).run Tryz.prog w = .ok (.slice (some ⟨w.heap.size, 0, none⟩) 2 2) (w.alloc (.cells (bytesV (x ++ y)) 28)) := by
  obtain ⟨i, z, hi, hz, h1, h2, h3⟩ := hash_info
  refine run_buildSlice w 127 28 2 _ (bytesV (x ++ y)) i z Tryz.underlying127 hi hz (by rw [h1]; decide) (by rw [h1]; decide) ?_
  rw [h1, bytesV_append]
  exact fill_two 32 _ _ _ (by simp) (hv_size hx) (hv_size hy)
theorem build_hl2 {ops : Array Oper} {rest : List Oper} {o : Oper} {a : Act} {w : World} {Q : Exit → Act → World → Prop} (hgd : o.guard = none) (p q : Operand) (ho : o.op = .buildSlice 127 2 #[(0, p), (1, q)]) (x y : List UInt8) (hp : a.eval p = .agg (bytesV x)) (hq : a.eval q = .agg (bytesV y)) (hx : x.length = 32) (hy : y.length = 32)
    (h : wpList Tryz.prog ops Q rest (a.put o.dst (.slice (some ⟨w.heap.size, 0, none⟩) 2 2)) (w.alloc (.cells (bytesV (x ++ y)) 28))) : wpList Tryz.prog ops Q (o :: rest) a w :=
  wpList_plain hgd fun _ hK => by
    unfold Oper.wp execOp
    simp only [ho, Sem.run_bind]
    rw [show (#[(0, p), (1, q)] : Array (Nat × Operand)).map (fun (i, x) => (i, a.eval x)) = #[(0, .agg (bytesV x)), (1, .agg (bytesV y))] by simp [hp, hq]]
    rw [build_name2 x y hx hy w]
    exact hK _ _ h
theorem PenAt.row_other {w : World} {b k : Nat} {v : Value} {l : List UInt8} (h : PenAt w b v l) (hk : k ≠ b) (hv : v.ownBlock ≠ some k) (cs : Array Value) : PenAt (w.setRow k cs) b v l :=
  ⟨Has.otherRow h.cell k cs (Ne.symm hk), h.own.kept (row := some k) ⟨rfl, rfl, rfl, by simp [World.setRow], fun j _ hn => setRow_other w k j cs (fun e => hn (by rw [e]))⟩ (.inr hv)⟩
theorem put3_at (b : Nat) (v : Value) (l : List UInt8) (x y z : Int) (w : World) (H : Nat) (hH : w.heap.size = H) (h : PenAt w b v l) (hsz : l.length ≤ 70368744177600) :
    Calls Tryz.prog 89 #[.pointer (some ⟨b, 0, none⟩), .int .i64 4, .slice (some ⟨H, 0, none⟩) 3 3] (w.alloc (.cells #[.int .i64 x, .int .i64 y, .int .i64 z] 3)) fun r w' => PenPost w b v (l ++ (num 4 x ++ (num 4 y ++ num 4 z))) r w' := by
  subst hH
  have hb : Below w.heap.size w (w.alloc (.cells #[.int .i64 x, .int .i64 y, .int .i64 z] 3)) := (Below.refl _ _).alloc (Nat.le_refl _) _
  refine (put_at b v l 4 _ [x, y, z] 3 3 rfl _ (h.below hb) (IntsAt.new w h _ [x, y, z] _ rfl) (by omega)).mono ?_
  rintro r w' ⟨v', rfl, hP, hS⟩
  have e : nums (near 4 8) [x, y, z] = num 4 x ++ (num 4 y ++ num 4 z) := by simp [nums]; rfl
  rw [e] at hP
  exact ⟨v', rfl, hP, hS.below hb⟩
theorem pname2_at (b : Nat) (v : Value) (l : List UInt8) (x y : List UInt8) (hx : x.length = 32) (hy : y.length = 32) (w : World) (H : Nat) (hH : w.heap.size = H) (h : PenAt w b v l) (hsz : l.length ≤ 70368744177600) :
    Calls Tryz.prog 90 #[.pointer (some ⟨b, 0, none⟩), .slice (some ⟨H, 0, none⟩) 2 2] (w.alloc (.cells (bytesV (x ++ y)) 28)) fun r w' => PenPost w b v (l ++ (x ++ y)) r w' := by
  subst hH
  have hlt := h.lt
  have hb : Below w.heap.size w (w.alloc (.cells (bytesV (x ++ y)) 28)) := (Below.refl _ _).alloc (Nat.le_refl _) _
  have hN : Has (w.alloc (.cells (bytesV (x ++ y)) 28)) w.heap.size (bytesV (x ++ y)) 28 := Has.new _ _
  refine (pnames_at b v l _ [x, y] 2 2 rfl _ (h.below hb) (fun _ => ⟨w.heap.size, 0, rfl, by rw [World.size_alloc]; omega, fun i hi => ?_⟩) (fun _ p hp => ?_) (fun z hz => by simp at hz; rcases hz with rfl | rfl; exact hx; exact hy) (by omega)).mono ?_
  · have h2 : i < 2 := hi
    obtain rfl | rfl : i = 0 ∨ i = 1 := by omega
    · refine ⟨hx, fun j u hu => ?_⟩
      rw [hN.cell]
      change (Lib.byteCells x)[j]? = some u at hu
      rw [show bytesV (x ++ y) = (Lib.byteCells (x ++ y)).toArray from Array.toList_inj.1 (by rw [bytesV_list]), Lib.byteCells_append, List.getElem?_toArray, show 0 + 0 * 32 + j = j by omega,
        List.getElem?_append_left (List.getElem?_eq_some_iff.1 hu).1]
      exact hu
    · refine ⟨hy, fun j u hu => ?_⟩
      rw [hN.cell]
      change (Lib.byteCells y)[j]? = some u at hu
      rw [show bytesV (x ++ y) = (Lib.byteCells (x ++ y)).toArray from Array.toList_inj.1 (by rw [bytesV_list]), Lib.byteCells_append, List.getElem?_toArray, show 0 + 1 * 32 + j = 32 + j by omega,
        List.getElem?_append_right (by rw [Lib.byteCells_length, hx]; omega), Lib.byteCells_length, hx, Nat.add_sub_cancel_left]
      exact hu
  · obtain rfl := Option.some.inj hp
    exact ⟨by show w.heap.size ≠ b; omega, fun e => absurd (h.ownLt (k := w.heap.size) e).2 (by omega)⟩
  · rintro r w' ⟨v', rfl, hP, hS⟩
    have e : [x, y].flatten = x ++ y := by simp
    rw [e] at hP
    exact ⟨v', rfl, hP, hS.below hb⟩
theorem own_apart {w w1 : World} {b k : Nat} {v v1 : Value} (hS : PenStep w w1 b v v1) (hk : k < w.heap.size) (hv : v.ownBlock ≠ some k) : v1.ownBlock ≠ some k := fun e => by
  rcases hS.lies k e with h | h
  · exact hv h
  · omega
theorem enc_put (l : List UInt8) (h : Hd) : l ++ num 4 h.v ++ (h.prev ++ h.root) ++ (num 4 h.time ++ (num 4 h.bits ++ num 4 h.nonce)) = l ++ h.enc := by
  simp only [Hd.enc, List.append_assoc]
set_option maxRecDepth 100000 in
set_option maxHeartbeats 1000000 in
theorem write_yes (b : Nat) (v : Value) (l : List UInt8) (h : Hd) (ho : h.ok) (hp : h.P) (w : World) (hP : PenAt w b v l) (hsz : l.length ≤ 70368744177000) :
    Calls Tryz.prog 64 #[.pointer (some ⟨b, 0, none⟩), .agg (hdA h)] w fun r w' => PenPost w b v (l ++ h.enc) r w' := by
  have CG := good_at h ho
  rw [decide_eq_true hp] at CG
  have KG := Lib.hid CG
  clear CG hp
  have hH := hd_new w h
  have hB : Below w.heap.size w (w.alloc (.cells (hdA h) 30)) := (Below.refl _ _).alloc (Nat.le_refl _) _
  have hP1 := hP.below hB
  have hbk : w.heap.size ≠ b := by have := hP.lt; omega
  have hvk : v.ownBlock ≠ some w.heap.size := fun e => by have := (hP.ownLt e).2; omega
  have hz := hdA_size ho
  clear hP
  go_enter Tryz.func64, Tryz.ntmps64
  go_upto_region 1 with fail
  generalize hk : w.heap.size = k at hH hbk hvk ⊢
  generalize World.alloc _ _ = w1 at *
  go_wp2_with (with_reducible refine hd_load rfl _ rfl _ rfl hH hz ?_)
  refine (KG.out _).mono ?_
  rintro r w2 ⟨rfl, hb2⟩
  have hP2 := hP1.below hb2
  replace hB := hB.trans (hb2.mono hB.size)
  replace hH := hH.on hb2
  clear hb2 hP1 KG
  have hH3 := hH
  have hP3 := hP2
  obtain ⟨w3, hw3⟩ : ∃ w3, w3 = w2 := ⟨_, rfl⟩
  obtain ⟨h', hh'⟩ : ∃ h', h' = h := ⟨_, rfl⟩
  have HE : Hid (h'.enc = h.enc) := Lib.hid (by rw [hh'])
  rw [← hh'] at hH3 ho ⊢
  rw [← hw3] at hB hH3 hP3 ⊢
  have ho' := ho
  clear hH hP2 ho hz hh' hw3
  have hk3 : k < w3.heap.size := hH3.lt
  have c0 := hH3.v
  have C1 := Lib.hid (put1_at b v l 4 4 rfl h'.v w3 w3.heap.size rfl hP3 (by omega))
  go_wp2_with fail
  refine C1.out.mono ?_
  rintro r w4 ⟨v4, rfl, hP4, hS4⟩
  have hH4 := hH3.pen hS4 (Ne.symm hbk).symm hvk
  have hv4 := own_apart hS4 hk3 hvk
  have hk4 : k < w4.heap.size := hH4.lt
  clear C1 c0 hH3 hP3
  have e4 : (l ++ num 4 h'.v).length ≤ 70368744177100 := by rw [List.length_append, num_length]; omega
  have r1 := hH4.prev
  have r2 := hH4.root ho'
  have s1 := byteCells_32 ho'.1
  have s2 := byteCells_32 ho'.2
  have C2 := Lib.hid (pname2_at b v4 _ h'.prev h'.root ho'.1 ho'.2 w4 w4.heap.size rfl hP4 (by omega))
  have H1 := Lib.hid ho'.1
  have H2 := Lib.hid ho'.2
  go_wp2_with (first
    | (with_reducible refine hl_load_mid rfl _ rfl k 1 rfl h'.prev r1 s1 ?_)
    | (with_reducible refine hl_load_mid rfl _ rfl k 33 rfl h'.root r2 s2 ?_)
    | (with_reducible refine build_hl2 rfl _ _ rfl _ _ rfl rfl H1.out H2.out ?_))
  refine C2.out.mono ?_
  rintro r w5 ⟨v5, rfl, hP5, hS5⟩
  have hH5 := hH4.pen hS5 hbk hv4
  clear C2 r1 r2 s1 s2 hH4 hP4
  have e5 : (l ++ num 4 h'.v ++ (h'.prev ++ h'.root)).length ≤ 70368744177500 := by
    simp only [List.length_append, H1.out, H2.out] at e4 ⊢; omega
  have c1 := hH5.time ho'
  have c2 := hH5.bits ho'
  have c3 := hH5.nonce ho'
  have C3 := Lib.hid (put3_at b v5 _ h'.time h'.bits h'.nonce w5 w5.heap.size rfl hP5 (by omega))
  rw [enc_put] at C3
  go_wp2_with fail
  refine C3.out.mono ?_
  rintro r w6 ⟨v6, rfl, hP6, hS6⟩
  go_wp2_with fail
  go_end0
  exact ⟨v6, rfl, by rw [← HE.out]; exact hP6, ((hS4.trans hS5).trans hS6).below hB⟩
set_option maxRecDepth 100000 in
set_option maxHeartbeats 1000000 in
theorem write_no (b : Nat) (v : Value) (l : List UInt8) (h : Hd) (ho : h.ok) (hp : ¬ h.P) (w : World) (hP : PenAt w b v l) (hsz : l.length ≤ 70368744177000) :
    Calls Tryz.prog 64 #[.pointer (some ⟨b, 0, none⟩), .agg (hdA h)] w fun r w' => PenPost w b v (l ++ hdZ.enc) r w' := by
  have CG := good_at h ho
  rw [decide_eq_false hp] at CG
  have KG := Lib.hid CG
  clear CG hp
  have hH := hd_new w h
  have hB : Below w.heap.size w (w.alloc (.cells (hdA h) 30)) := (Below.refl _ _).alloc (Nat.le_refl _) _
  have hP1 := hP.below hB
  have hbk : w.heap.size ≠ b := by have := hP.lt; omega
  have hvk : v.ownBlock ≠ some w.heap.size := fun e => by have := (hP.ownLt e).2; omega
  have hz := hdA_size ho
  clear hP
  go_enter Tryz.func64, Tryz.ntmps64
  go_upto_region 1 with fail
  generalize hk : w.heap.size = k at hH hbk hvk ⊢
  generalize World.alloc _ _ = w1 at *
  go_wp2_with (with_reducible refine hd_load rfl _ rfl _ rfl hH hz ?_)
  refine (KG.out _).mono ?_
  rintro r w2 ⟨rfl, hb2⟩
  have hP2 := hP1.below hb2
  replace hB := hB.trans (hb2.mono hB.size)
  replace hH := hH.on hb2
  clear hb2 hP1 KG
  obtain ⟨h', hh'⟩ : ∃ h', h' = hdZ := ⟨_, rfl⟩
  have ho' : h'.ok := by rw [hh']; exact hdZ_ok
  have hz' := hdA_size ho'
  have hlit : hdA hdZ = hdA h' := by rw [hh']
  have HLIT := Lib.hid hlit
  have HE : Hid (h'.enc = hdZ.enc) := Lib.hid (by rw [hh'])
  clear hlit hh'
  go_upto_region 3 with (with_reducible refine hd_store rfl _ _ rfl _ _ h' rfl rfl HLIT.out hz' hH hz ?_)
  have hH3 : HdAt (w2.setRow k (hdA h')) k h' := Has.row hH _
  have hb3 : Below w.heap.size w2 (w2.setRow k (hdA h')) := below_setRow (Below.refl _ _) (by omega) _
  have hP3 : PenAt (w2.setRow k (hdA h')) b v l := PenAt.row_other hP2 hbk hvk _
  replace hB := below_setRow hB (show w.heap.size ≤ k by omega) (hdA h')
  generalize w2.setRow k (hdA h') = w3 at *
  clear hH hP2 ho hz HLIT hb3
  have hk3 : k < w3.heap.size := hH3.lt
  have c0 := hH3.v
  have C1 := Lib.hid (put1_at b v l 4 4 rfl h'.v w3 w3.heap.size rfl hP3 (by omega))
  go_wp2_with fail
  refine C1.out.mono ?_
  rintro r w4 ⟨v4, rfl, hP4, hS4⟩
  have hH4 := hH3.pen hS4 (Ne.symm hbk).symm hvk
  have hv4 := own_apart hS4 hk3 hvk
  have hk4 : k < w4.heap.size := hH4.lt
  clear C1 c0 hH3 hP3
  have e4 : (l ++ num 4 h'.v).length ≤ 70368744177100 := by rw [List.length_append, num_length]; omega
  have r1 := hH4.prev
  have r2 := hH4.root ho'
  have s1 := byteCells_32 ho'.1
  have s2 := byteCells_32 ho'.2
  have C2 := Lib.hid (pname2_at b v4 _ h'.prev h'.root ho'.1 ho'.2 w4 w4.heap.size rfl hP4 (by omega))
  have H1 := Lib.hid ho'.1
  have H2 := Lib.hid ho'.2
  go_wp2_with (first
    | (with_reducible refine hl_load_mid rfl _ rfl k 1 rfl h'.prev r1 s1 ?_)
    | (with_reducible refine hl_load_mid rfl _ rfl k 33 rfl h'.root r2 s2 ?_)
    | (with_reducible refine build_hl2 rfl _ _ rfl _ _ rfl rfl H1.out H2.out ?_))
  refine C2.out.mono ?_
  rintro r w5 ⟨v5, rfl, hP5, hS5⟩
  have hH5 := hH4.pen hS5 hbk hv4
  clear C2 r1 r2 s1 s2 hH4 hP4
  have e5 : (l ++ num 4 h'.v ++ (h'.prev ++ h'.root)).length ≤ 70368744177500 := by
    simp only [List.length_append, H1.out, H2.out] at e4 ⊢; omega
  have c1 := hH5.time ho'
  have c2 := hH5.bits ho'
  have c3 := hH5.nonce ho'
  have C3 := Lib.hid (put3_at b v5 _ h'.time h'.bits h'.nonce w5 w5.heap.size rfl hP5 (by omega))
  rw [enc_put] at C3
  go_wp2_with fail
  refine C3.out.mono ?_
  rintro r w6 ⟨v6, rfl, hP6, hS6⟩
  go_wp2_with fail
  go_end0
  exact ⟨v6, rfl, by rw [← HE.out]; exact hP6, ((hS4.trans hS5).trans hS6).below hB⟩
theorem write_at (b : Nat) (v : Value) (l : List UInt8) (h : Hd) (ho : h.ok) (w : World) (hP : PenAt w b v l) (hsz : l.length ≤ 70368744177000) :
    Calls Tryz.prog 64 #[.pointer (some ⟨b, 0, none⟩), .agg (hdA h)] w fun r w' => PenPost w b v (l ++ h.wr) r w' := by
  by_cases hp : h.P
  · rw [Hd.wr_yes hp]; exact write_yes b v l h ho hp w hP hsz
  · rw [Hd.wr_no hp]; exact write_no b v l h ho hp w hP hsz
end Go.Proofs.YthcebnfdapcllaaGreatDoor
namespace Go.Proofs.YthcebnfdapcllaaGreatDoor
open Go.RowKit Mem Sc
end Go.Proofs.YthcebnfdapcllaaGreatDoor
namespace Go.Proofs.YthcebnfdapcllaaGreatDoor
open Go.RowKit Mem Sc
theorem hd_newz (w : World) : HdAt (w.alloc (.cells Tryz.zeroCells30 30)) w.heap.size hdZ := hd_new w hdZ
end Go.Proofs.YthcebnfdapcllaaGreatDoor
