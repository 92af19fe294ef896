/-
  Headers in memory: blocks that hold one, loads and stores, parts of it.
-/
import Derived.Test.YtmpllagaeoolaaaDoorZHdMath
import Derived.Test.YtmpllagaeoolaaaDoorZHashMem2
namespace Go.Proofs.YtmpllagaeoolaaaDoor
open Go.RowKit Mem Sc
def hdC (h : Hd) : List Value := .int .i64 h.v :: (Lib.byteCells h.prev ++ (Lib.byteCells h.root ++ [.int .i64 h.time, .int .i64 h.bits, .int .i64 h.nonce]))
def hdA (h : Hd) : Array Value := (hdC h).toArray
theorem hdC_length {h : Hd} (ho : h.ok) : (hdC h).length = 68 := by simp [hdC, Lib.byteCells_length, ho.1, ho.2]
theorem hdA_size {h : Hd} (ho : h.ok) : (hdA h).size = 68 := by show (hdC h).toArray.size = 68; rw [List.size_toArray]; exact hdC_length ho
theorem hdC_one (h : Hd) : ∀ v ∈ hdC h, v.oneCell' = true := by
  intro v hv
  simp only [hdC, List.mem_cons, List.mem_append] at hv
  rcases hv with rfl | hv | hv | hv
  · rfl
  · exact Lib.byteCells_one _ v hv
  · exact Lib.byteCells_one _ v hv
  · simp at hv
    rcases hv with rfl | rfl | rfl <;> rfl
theorem hdA_one (h : Hd) : (hdA h).all (·.oneCell') = true := all_oneCell_toArray (hdC_one h)
theorem hdinfo : (Tryd.prog.info? 48).map (·.size) = some 68 := by kernel_rfl
theorem hdA_lit : hdA hdZ = #[.int .i64 0, .int .u8 0, .int .u8 0, .int .u8 0, .int .u8 0, .int .u8 0, .int .u8 0, .int .u8 0, .int .u8 0, .int .u8 0, .int .u8 0, .int .u8 0, .int .u8 0, .int .u8 0, .int .u8 0, .int .u8 0, .int .u8 0, .int .u8 0, .int .u8 0, .int .u8 0, .int .u8 0, .int .u8 0, .int .u8 0, .int .u8 0, .int .u8 0, .int .u8 0, .int .u8 0, .int .u8 0, .int .u8 0, .int .u8 0, .int .u8 0, .int .u8 0, .int .u8 0, .int .u8 0, .int .u8 0, .int .u8 0, .int .u8 0, .int .u8 0, .int .u8 0, .int .u8 0, .int .u8 0, .int .u8 0, .int .u8 0, .int .u8 0, .int .u8 0, .int .u8 0, .int .u8 0, .int .u8 0, .int .u8 0, .int .u8 0, .int .u8 0, .int .u8 0, .int .u8 0, .int .u8 0, .int .u8 0, .int .u8 0, .int .u8 0, .int .u8 0, .int .u8 0, .int .u8 0, .int .u8 0, .int .u8 0, .int .u8 0, .int .u8 0, .int .u8 0, .int .i64 0, .int .i64 0, .int .i64 0] := rfl
/-- a block that holds a header -/
def HdAt (w : World) (k : Nat) (h : Hd) : Prop := Has w k (hdA h) 48
variable {w w' : World} {k : Nat} {h : Hd}
theorem HdAt.lt (hh : HdAt w k h) : k < w.heap.size := Has.lt hh
theorem HdAt.on (hh : HdAt w k h) (hb : Below w.heap.size w w') : HdAt w' k h := below_has hb hh hh.lt
theorem HdAt.grown {r : Option Nat} (hh : HdAt w k h) (hg : w.grownBy w' r) (hn : some k ≠ r) : HdAt w' k h := gb_has hg hh hn
theorem HdAt.pen {b : Nat} {v v' : Value} (hh : HdAt w k h) (hs : PenStep w w' b v v') (hb : k ≠ b) (hv : v.ownBlock ≠ some k) : HdAt w' k h := hs.has hh hb hv
theorem HdAt.free (hh : HdAt w k h) (j : Nat) : w.frozen? ⟨k, j, none⟩ = false := Has.free hh j
theorem HdAt.v (hh : HdAt w k h) : w.cell? ⟨k, 0, none⟩ = some (.int .i64 h.v) := Has.cell hh 0
theorem byteCells_32 {l : List UInt8} (hl : l.length = 32) : (Lib.byteCells l).length = 32 := by rw [Lib.byteCells_length, hl]
theorem hdC_prev (j : Nat) (u : Value) (hu : (Lib.byteCells h.prev)[j]? = some u) : (hdC h)[1 + j]? = some u := by
  rw [Nat.add_comm]
  show (Lib.byteCells h.prev ++ _)[j]? = some u
  rw [List.getElem?_append_left (List.getElem?_eq_some_iff.1 hu).1]
  exact hu
theorem hdC_root (ho : h.ok) (j : Nat) (u : Value) (hu : (Lib.byteCells h.root)[j]? = some u) : (hdC h)[33 + j]? = some u := by
  rw [show 33 + j = (32 + j) + 1 by omega]
  show (Lib.byteCells h.prev ++ _)[32 + j]? = some u
  rw [List.getElem?_append_right (by rw [byteCells_32 ho.1]; omega), byteCells_32 ho.1, Nat.add_sub_cancel_left, List.getElem?_append_left (List.getElem?_eq_some_iff.1 hu).1]
  exact hu
theorem hdC_tail (ho : h.ok) (j : Nat) : (hdC h)[65 + j]? = [Value.int .i64 h.time, .int .i64 h.bits, .int .i64 h.nonce][j]? := by
  rw [show 65 + j = (64 + j) + 1 by omega]
  show (Lib.byteCells h.prev ++ _)[64 + j]? = _
  rw [List.getElem?_append_right (by rw [byteCells_32 ho.1]; omega), byteCells_32 ho.1, List.getElem?_append_right (by rw [byteCells_32 ho.2]; omega), byteCells_32 ho.2, show 64 + j - 32 - 32 = j by omega]
theorem HdAt.prev (hh : HdAt w k h) : w.rangeAt k 1 (Lib.byteCells h.prev) := fun j u hu => by
  rw [Has.cell hh (1 + j)]
  show (hdC h).toArray[1 + j]? = some u
  rw [List.getElem?_toArray]
  exact hdC_prev j u hu
theorem HdAt.root (hh : HdAt w k h) (ho : h.ok) : w.rangeAt k 33 (Lib.byteCells h.root) := fun j u hu => by
  rw [Has.cell hh (33 + j)]
  show (hdC h).toArray[33 + j]? = some u
  rw [List.getElem?_toArray]
  exact hdC_root ho j u hu
theorem HdAt.time (hh : HdAt w k h) (ho : h.ok) : w.cell? ⟨k, 65, none⟩ = some (.int .i64 h.time) := by
  rw [Has.cell hh 65]
  show (hdC h).toArray[65]? = _
  rw [List.getElem?_toArray]
  exact hdC_tail ho 0
theorem HdAt.bits (hh : HdAt w k h) (ho : h.ok) : w.cell? ⟨k, 66, none⟩ = some (.int .i64 h.bits) := by
  rw [Has.cell hh 66]
  show (hdC h).toArray[66]? = _
  rw [List.getElem?_toArray]
  exact hdC_tail ho 1
theorem HdAt.nonce (hh : HdAt w k h) (ho : h.ok) : w.cell? ⟨k, 67, none⟩ = some (.int .i64 h.nonce) := by
  rw [Has.cell hh 67]
  show (hdC h).toArray[67]? = _
  rw [List.getElem?_toArray]
  exact hdC_tail ho 2
/-! ### one part is stored -/
theorem hdA_setV (x : Int) : (hdA h).setIfInBounds 0 (.int .i64 x) = hdA { h with v := x } := by simp [hdA, hdC]
theorem hdC_setTail (ho : h.ok) (j : Nat) (u : Value) : (hdC h).set (65 + j) u = .int .i64 h.v :: (Lib.byteCells h.prev ++ (Lib.byteCells h.root ++ [Value.int .i64 h.time, .int .i64 h.bits, .int .i64 h.nonce].set j u)) := by
  rw [show 65 + j = (64 + j) + 1 by omega]
  show Value.int .i64 h.v :: (Lib.byteCells h.prev ++ _).set (64 + j) u = _
  rw [List.set_append_right _ _ (by rw [byteCells_32 ho.1]; omega), byteCells_32 ho.1, List.set_append_right _ _ (by rw [byteCells_32 ho.2]; omega), byteCells_32 ho.2, show 64 + j - 32 - 32 = j by omega]
theorem hdA_setTime (ho : h.ok) (x : Int) : (hdA h).setIfInBounds 65 (.int .i64 x) = hdA { h with time := x } := by
  unfold hdA
  rw [List.setIfInBounds_toArray, hdC_setTail ho 0]; rfl
theorem hdA_setBits (ho : h.ok) (x : Int) : (hdA h).setIfInBounds 66 (.int .i64 x) = hdA { h with bits := x } := by
  unfold hdA
  rw [List.setIfInBounds_toArray, hdC_setTail ho 1]; rfl
theorem hdA_setNonce (ho : h.ok) (x : Int) : (hdA h).setIfInBounds 67 (.int .i64 x) = hdA { h with nonce := x } := by
  unfold hdA
  rw [List.setIfInBounds_toArray, hdC_setTail ho 2]; rfl
theorem HdAt.setV (hh : HdAt w k h) (x : Int) : HdAt (w.setCell ⟨k, 0, none⟩ (.int .i64 x)) k { h with v := x } := by
  unfold HdAt; rw [← hdA_setV]; exact Has.set hh _
theorem HdAt.setTime (hh : HdAt w k h) (ho : h.ok) (x : Int) : HdAt (w.setCell ⟨k, 65, none⟩ (.int .i64 x)) k { h with time := x } := by
  unfold HdAt; rw [← hdA_setTime ho]; exact Has.set hh _
theorem HdAt.setBits (hh : HdAt w k h) (ho : h.ok) (x : Int) : HdAt (w.setCell ⟨k, 66, none⟩ (.int .i64 x)) k { h with bits := x } := by
  unfold HdAt; rw [← hdA_setBits ho]; exact Has.set hh _
theorem HdAt.setNonce (hh : HdAt w k h) (ho : h.ok) (x : Int) : HdAt (w.setCell ⟨k, 67, none⟩ (.int .i64 x)) k { h with nonce := x } := by
  unfold HdAt; rw [← hdA_setNonce ho]; exact Has.set hh _
/-- cells of a block are stored, one behind the other -/
theorem has_setCells (b : Nat) (t : TypeId) : ∀ (vs : List Value) (o : Nat) (w : World) (A B C : List Value), Has w b (A ++ (B ++ C)).toArray t → A.length = o → B.length = vs.length → Has (w.setCells b o vs) b (A ++ (vs ++ C)).toArray t
  | [], o, w, A, B, C, hh, ha, hb => by
    obtain rfl : B = [] := List.eq_nil_of_length_eq_zero hb
    exact hh
  | v :: r, o, w, A, B, C, hh, ha, hb => by
    obtain ⟨x, B', rfl⟩ : ∃ x B', B = x :: B' := by
      cases B with
      | nil => simp at hb
      | cons x B' => exact ⟨x, B', rfl⟩
    have h1 := Has.set (i := o) hh v
    have e : (A ++ (x :: B' ++ C)).toArray.setIfInBounds o v = (A ++ [v] ++ (B' ++ C)).toArray := by
      rw [List.setIfInBounds_toArray, List.set_append_right _ _ (by omega), show o - A.length = 0 by omega]
      simp
    rw [e] at h1
    have := has_setCells b t r (o + 1) _ (A ++ [v]) B' C h1 (by simp [ha]) (by simpa using hb)
    show Has ((w.setCell ⟨b, o, none⟩ v).setCells b (o + 1) r) b _ t
    simpa using this
theorem setCells_other (b c : Nat) (hc : c ≠ b) : ∀ (vs : List Value) (o : Nat) (w : World), (w.setCells b o vs).heap[c]? = w.heap[c]?
  | [], _, _ => rfl
  | v :: r, o, w => by
    show ((w.setCell ⟨b, o, none⟩ v).setCells b (o + 1) r).heap[c]? = _
    rw [setCells_other b c hc r]
    exact Below.heap_setCell _ _ _ _ hc
theorem setCells_rest (b : Nat) : ∀ (vs : List Value) (o : Nat) (w : World), (w.setCells b o vs).os = w.os ∧ (w.setCells b o vs).tape = w.tape ∧ (w.setCells b o vs).output = w.output ∧ (w.setCells b o vs).heap.size = w.heap.size
  | [], _, _ => ⟨rfl, rfl, rfl, rfl⟩
  | v :: r, o, w => by
    obtain ⟨h1, h2, h3, h4⟩ := setCells_rest b r (o + 1) (w.setCell ⟨b, o, none⟩ v)
    exact ⟨h1, h2, h3, h4.trans (by simp [World.setCell])⟩
theorem gb_setCells {a c : World} {r : Option Nat} (hg : a.grownBy c r) (b o : Nat) (vs : List Value) (hb : a.heap.size ≤ b) : a.grownBy (c.setCells b o vs) r := by
  obtain ⟨h1, h2, h3, h4⟩ := setCells_rest b vs o c
  exact ⟨h1.trans hg.os, h2.trans hg.tape, h3.trans hg.output, by rw [h4]; exact hg.size, fun k hk hn => (setCells_other b k (by omega) vs o c).trans (hg.block k hk hn)⟩
theorem HdAt.setPrev (hh : HdAt w k h) (ho : h.ok) {p : List UInt8} (hp : p.length = 32) : HdAt (w.setCells k 1 (Lib.byteCells p)) k { h with prev := p } := by
  have hh' : Has w k ([Value.int .i64 h.v] ++ (Lib.byteCells h.prev ++ (Lib.byteCells h.root ++ [Value.int .i64 h.time, Value.int .i64 h.bits, Value.int .i64 h.nonce]))).toArray 48 := hh
  exact has_setCells k 48 (Lib.byteCells p) 1 w _ _ _ hh' rfl (by rw [byteCells_32 ho.1, byteCells_32 hp])
theorem HdAt.setRoot (hh : HdAt w k h) (ho : h.ok) {p : List UInt8} (hp : p.length = 32) : HdAt (w.setCells k 33 (Lib.byteCells p)) k { h with root := p } := by
  have hh' : Has w k ((Value.int .i64 h.v :: Lib.byteCells h.prev) ++ (Lib.byteCells h.root ++ [Value.int .i64 h.time, Value.int .i64 h.bits, Value.int .i64 h.nonce])).toArray 48 := hh
  exact has_setCells k 48 (Lib.byteCells p) 33 w _ _ _ hh' (by rw [List.length_cons, byteCells_32 ho.1]) (by rw [byteCells_32 ho.2, byteCells_32 hp])
theorem HdAt.there (hh : HdAt w k h) (ho : h.ok) (o n : Nat) (hn : o + n ≤ 68) : w.there k o n := fun j hj => ⟨by
  rw [Has.cell hh (o + j)]
  have hz := hdA_size ho
  rw [Array.getElem?_eq_getElem (by omega)]
  rfl, hh.free _⟩
section
variable {ops : Array Oper} {rest : List Oper} {o : Oper} {a : Act} {Q : Exit → Act → World → Prop}
theorem hd_load (hgd : o.guard = none) (x : Operand) (ho : o.op = .load 48 x) (g : Nat) (hx : a.eval x = .pointer (some ⟨g, 0, none⟩)) (hg : HdAt w g h) (hs : (hdA h).size = 68)
    (hk : wpList Tryd.prog ops Q rest (a.put o.dst (.agg (hdA h))) w) : wpList Tryd.prog ops Q (o :: rest) a w :=
  wpList_load_row hgd 48 x ho g hx 48 (hdA h) (0, 0) _ (Has.out hg) Tryd.underlying48 rfl (hdinfo.trans (by rw [hs])) hk
theorem hd_load_g (hw : Region.wanted o (yielded ops a.tmps) = true) (x : Operand) (ho : o.op = .load 48 x) (g : Nat) (hx : a.eval x = .pointer (some ⟨g, 0, none⟩)) (hg : HdAt w g h) (hs : (hdA h).size = 68)
    (hk : wpList Tryd.prog ops Q rest (a.put o.dst (.agg (hdA h))) w) : wpList Tryd.prog ops Q (o :: rest) a w :=
  BigFrame.wpList_want hw fun _ hK => wp_load_row 48 x ho g hx 48 (hdA h) (0, 0) _ (Has.out hg) Tryd.underlying48 rfl (hdinfo.trans (by rw [hs])) (hK _ _ hk)
theorem hd_load_mid (hgd : o.guard = none) (x : Operand) (ho : o.op = .load 48 x) (g off : Nat) (hx : a.eval x = .pointer (some ⟨g, off, none⟩)) (h : Hd) (hg : w.rangeAt g off (hdC h)) (hs : (hdC h).length = 68)
    (hk : wpList Tryd.prog ops Q rest (a.put o.dst (.agg (hdA h))) w) : wpList Tryd.prog ops Q (o :: rest) a w :=
  wpList_load_mid hgd 48 x ho g off hx (hdC h) _ hg Tryd.underlying48 rfl (hdinfo.trans (by rw [hs])) hk
theorem hd_store (hgd : o.guard = none) (x y : Operand) (ho : o.op = .store 48 x y) (g : Nat) (cz : Array Value) (h' : Hd) (hx : a.eval x = .pointer (some ⟨g, 0, none⟩)) (hy : a.eval y = .agg cz) (e : cz = hdA h') (hs' : (hdA h').size = 68) (hg : HdAt w g h) (hs : (hdA h).size = 68)
    (hk : wpList Tryd.prog ops Q rest (a.put o.dst undef) (w.setRow g (hdA h'))) : wpList Tryd.prog ops Q (o :: rest) a w := by
  subst e
  exact wpList_store_row hgd 48 x y ho g (hdA h') hx hy 48 (hdA h) (Has.out hg) (hdinfo.trans (by rw [hs'])) (by rw [hs, hs']) (hdA_one h') hk
/-- a name is stored into a part of a header -/
theorem hl_store_mid (hgd : o.guard = none) (x y : Operand) (ho : o.op = .store 24 x y) (g off : Nat) (l : List UInt8) (hx : a.eval x = .pointer (some ⟨g, off, none⟩)) (hy : a.eval y = .agg (bytesV l)) (hl : l.length = 32) (ht : w.there g off 32)
    (hk : wpList Tryd.prog ops Q rest (a.put o.dst undef) (w.setCells g off (Lib.byteCells l))) : wpList Tryd.prog ops Q (o :: rest) a w := by
  refine wpList_store_mid hgd 24 x y ho g off (bytesV l) hx hy (by rw [hv_size hl]; exact ht) (hinfo.trans (by rw [hv_size hl])) (bytesV_one l) ?_
  rw [bytesV_list]
  exact hk
end
theorem hd_results {fn : Func} {p : Tmp} (hf : fn.results = #[.cell p 48]) (tmps : Array Value) (g : Nat) (hp : tmps.getD p undef = .pointer (some ⟨g, 0, none⟩)) (hg : HdAt w g h) (hs : (hdA h).size = 68) :
    (results fn tmps).run Tryd.prog w = .ok (.agg (hdA h)) w :=
  results_cell_row hf tmps w g 48 (hdA h) (0, 0) _ hp (Has.out hg) Tryd.underlying48 rfl (hdinfo.trans (by rw [hs]))
theorem hd_new (w : World) (h : Hd) : HdAt (w.alloc (.cells (hdA h) 48)) w.heap.size h := Has.new _ _
theorem hd_new1 (w : World) (ob : Obj) (h : Hd) : HdAt ((w.alloc ob).alloc (.cells (hdA h) 48)) (w.heap.size + 1) h := Has.new1 ob _ _
/-- a header is loaded whole in a region that draws its order -/
theorem quiet_hd_mid {C : World → Prop} {a : Act} {o : Oper} {K : Act → Prop} (x : Operand) (ho : o.op = .load 48 x) (g off : Nat) (hx : a.eval x = .pointer (some ⟨g, off, none⟩)) (h : Hd) (hs : (hdC h).length = 68) (hC : ∀ w', C w' → w'.rangeAt g off (hdC h))
    (hk : K (a.put o.dst (.agg (hdA h)))) : o.quiet Tryd.prog a C K :=
  ⟨_, fun w' hw' => by
    unfold Oper.quietAt
    have this : (execOp a.eval o).run Tryd.prog w' = .ok (.value (.agg (hdA h))) w' := by
      unfold execOp
      simp only [ho, hx, Sem.run_bind, run_loadAt_mid w' g off 48 (hdC h) _ (hC w' hw') Tryd.underlying48 rfl (hdinfo.trans (by rw [hs])), Result.andThen_ok]
      rfl
    rw [this]
    exact ⟨rfl, rfl⟩, hk⟩
theorem HdAt.range (hh : HdAt w k h) : w.rangeAt k 0 (hdC h) := fun j u hu => by
  rw [Nat.zero_add, Has.cell hh j]
  show (hdC h).toArray[j]? = some u
  rw [List.getElem?_toArray]
  exact hu
end Go.Proofs.YtmpllagaeoolaaaDoor
